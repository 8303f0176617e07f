/- Folders as plain mathematics: names in order, changes, what a crash leaves. -/
import Derived.Maps.Own
import Derived.Maps.Ext
import Derived.Maps.OwnSet
import Derived.Sort.KeysCollected
set_option maxRecDepth 20000
namespace Go.Proofs.YteijmjbiaffcmaaGreatDoor.Fi
open Go Go.Maps

abbrev Nm := List UInt8
/-- A folder: names in order, each with the block of its file. -/
abbrev FM := List (Nm × Nat)
theorem bb_irrefl : ∀ a : Nm, bytesBefore a a = false
  | [] => rfl
  | a :: t => by simp [bytesBefore, bb_irrefl t]
theorem bb_trans : ∀ {a b c : Nm}, bytesBefore a b = true → bytesBefore b c = true → bytesBefore a c = true
  | [], [], _, h, _ => by simp [bytesBefore] at h
  | [], _ :: _, [], _, h => by simp [bytesBefore] at h
  | [], _ :: _, _ :: _, _, _ => rfl
  | _ :: _, [], _, h, _ => by simp [bytesBefore] at h
  | _ :: _, _ :: _, [], _, h => by simp [bytesBefore] at h
  | x :: a, y :: b, z :: c, h1, h2 => by
    simp only [bytesBefore, Bool.or_eq_true, Bool.and_eq_true, decide_eq_true_eq, beq_iff_eq] at *
    rcases h1 with h1 | ⟨rfl, h1⟩
    · rcases h2 with h2 | ⟨rfl, h2⟩
      · exact Or.inl (UInt8.lt_trans h1 h2)
      · exact Or.inl h1
    · rcases h2 with h2 | ⟨rfl, h2⟩
      · exact Or.inl h2
      · exact Or.inr ⟨rfl, bb_trans h1 h2⟩
theorem bb_tri : ∀ {a b : Nm}, bytesBefore a b = false → a ≠ b → bytesBefore b a = true
  | [], [], _, h => absurd rfl h
  | [], _ :: _, h, _ => by simp [bytesBefore] at h
  | _ :: _, [], _, _ => rfl
  | x :: a, y :: b, h1, h2 => by
    simp only [bytesBefore, Bool.or_eq_false_iff, Bool.and_eq_false_iff, decide_eq_false_iff_not, Bool.or_eq_true, Bool.and_eq_true, decide_eq_true_eq, beq_iff_eq, beq_eq_false_iff_ne] at *
    by_cases e : x = y
    · subst e
      refine Or.inr ⟨rfl, bb_tri ?_ (fun e => h2 (by rw [e]))⟩
      rcases h1.2 with h | h
      · exact absurd rfl h
      · exact h
    · refine Or.inl ?_
      have := h1.1
      rw [UInt8.lt_iff_toNat_lt] at *
      have hne : x.toNat ≠ y.toNat := fun e' => e (UInt8.toNat_inj.1 e')
      omega
theorem bb_ne {a b : Nm} (h : bytesBefore a b = true) : a ≠ b := by rintro rfl; rw [bb_irrefl] at h; cases h

def ent (p : Nm × Nat) : Lit × DataW Unit := (.string p.1, .lit (.int .i64 (p.2 : Int)))
def dOf (M : FM) : DataW Unit := .map (M.map ent)
def look (M : FM) (n : Nm) : Option Nat := (M.find? fun p => p.1 == n).map (·.2)
def insM (x : Nm × Nat) : FM → FM
  | [] => [x]
  | y :: r => if bytesBefore x.1 y.1 then x :: y :: r else y :: insM x r
def delM (n : Nm) (M : FM) : FM := M.filter fun p => !(p.1 == n)
def putM (n : Nm) (q : Nat) (M : FM) : FM := insM (n, q) (delM n M)
def Srt (M : FM) : Prop := M.Pairwise fun p q => bytesBefore p.1 q.1 = true
theorem ent_same (p : Nm × Nat) (n : Nm) : (ent p).1.sameKey (.string n) = (p.1 == n) := rfl
theorem dOf_ins (x : Nm × Nat) : ∀ M : FM, DataW.insert (ent x) (M.map ent) = (insM x M).map ent
  | [] => rfl
  | y :: r => by
    show (if (ent x).1.before (ent y).1 then _ else _) = _
    rw [show (ent x).1.before (ent y).1 = bytesBefore x.1 y.1 from rfl]
    unfold insM
    split
    · rfl
    · rw [dOf_ins x r]; rfl
theorem dOf_filter (n : Nm) : ∀ M : FM, (M.map ent).filter (fun p => !p.1.sameKey (.string n)) = (delM n M).map ent
  | [] => rfl
  | y :: r => by
    have ih := dOf_filter n r
    unfold delM at ih ⊢
    rw [List.map_cons, List.filter_cons, List.filter_cons, ent_same, ih]
    split <;> rfl
theorem dOf_put (M : FM) (n : Nm) (q : Nat) : (dOf M).put (.string n) (.lit (.int .i64 (q : Int))) = dOf (putM n q M) := by
  show DataW.map (DataW.insert (ent (n, q)) ((M.map ent).filter fun p => !p.1.sameKey (.string n))) = _
  rw [dOf_filter, dOf_ins]; rfl
theorem dOf_del (M : FM) (n : Nm) : (dOf M).del (.string n) = dOf (delM n M) := by
  show DataW.map ((M.map ent).filter fun p => !p.1.sameKey (.string n)) = _
  rw [dOf_filter]; rfl
theorem dOf_at (M : FM) (n : Nm) (z : DataW Unit) : (dOf M).atKey (.string n) z = match look M n with | some q => .lit (.int .i64 (q : Int)) | none => z := by
  unfold look dOf DataW.atKey
  dsimp only
  rw [List.find?_map]
  rw [show ((fun p : Lit × DataW Unit => p.1.sameKey (.string n)) ∘ ent) = fun p : Nm × Nat => p.1 == n from rfl]
  cases M.find? fun p => p.1 == n <;> rfl
theorem dOf_size (M : FM) : Maps.size (dOf M) = M.length := by show (M.map ent).length = _; rw [List.length_map]
theorem dOf_keys (M : FM) : strKeys (dOf M) = M.map (·.1) := by show (M.map ent).map (fun p => strOf p.1) = _; rw [List.map_map]; rfl
theorem look_mem {M : FM} {n : Nm} {q : Nat} (h : look M n = some q) : (n, q) ∈ M := by
  unfold look at h
  cases e : M.find? fun p => p.1 == n with
  | none => rw [e] at h; cases h
  | some p =>
    rw [e] at h
    have h1 := List.find?_some e
    have h2 := List.mem_of_find?_eq_some e
    simp at h1 h
    obtain ⟨a, b⟩ := p
    simp at h1 h
    subst h1 h
    exact h2
theorem look_none {M : FM} {n : Nm} : look M n = none ↔ ∀ p ∈ M, p.1 ≠ n := by
  unfold look
  rw [Option.map_eq_none_iff, List.find?_eq_none]
  simp
theorem insM_mem {x y : Nm × Nat} : ∀ {M : FM}, y ∈ insM x M ↔ y = x ∨ y ∈ M
  | [] => by simp [insM]
  | z :: r => by
    unfold insM
    split
    · simp
    · rw [List.mem_cons, insM_mem, List.mem_cons]
      constructor
      · rintro (h | h | h)
        · exact Or.inr (Or.inl h)
        · exact Or.inl h
        · exact Or.inr (Or.inr h)
      · rintro (h | h | h)
        · exact Or.inr (Or.inl h)
        · exact Or.inl h
        · exact Or.inr (Or.inr h)
theorem insM_len (x : Nm × Nat) : ∀ M : FM, (insM x M).length = M.length + 1
  | [] => rfl
  | z :: r => by
    unfold insM
    split
    · rfl
    · rw [List.length_cons, insM_len x r]; rfl
theorem delM_mem {n : Nm} {M : FM} {p : Nm × Nat} : p ∈ delM n M ↔ p ∈ M ∧ p.1 ≠ n := by unfold delM; rw [List.mem_filter]; simp
theorem putM_mem {n : Nm} {q : Nat} {M : FM} {p : Nm × Nat} : p ∈ putM n q M ↔ p = (n, q) ∨ (p ∈ M ∧ p.1 ≠ n) := by unfold putM; rw [insM_mem, delM_mem]
theorem insM_srt {x : Nm × Nat} : ∀ {M : FM}, Srt M → (∀ p ∈ M, p.1 ≠ x.1) → Srt (insM x M)
  | [], _, _ => List.pairwise_singleton _ _
  | y :: r, h, hn => by
    obtain ⟨h1, h2⟩ := List.pairwise_cons.1 h
    unfold insM
    split
    · rename_i c
      refine List.pairwise_cons.2 ⟨fun p hp => ?_, h⟩
      rcases List.mem_cons.1 hp with rfl | hp
      · exact c
      · exact bb_trans c (h1 p hp)
    · rename_i c
      refine List.pairwise_cons.2 ⟨fun p hp => ?_, insM_srt h2 fun p hp => hn p (List.mem_cons_of_mem _ hp)⟩
      rcases insM_mem.1 hp with rfl | hp
      · exact bb_tri (by simpa using c) (fun e => hn y List.mem_cons_self e.symm)
      · exact h1 p hp
theorem delM_srt {n : Nm} {M : FM} (h : Srt M) : Srt (delM n M) := h.filter _
theorem putM_srt {n : Nm} {q : Nat} {M : FM} (h : Srt M) : Srt (putM n q M) := insM_srt (delM_srt h) fun _ hp => (delM_mem.1 hp).2
theorem srt_nd {M : FM} (h : Srt M) : (M.map (·.1)).Nodup := List.pairwise_map.2 (h.imp fun h => bb_ne h)
/-- In a folder in order each name stands once. -/
theorem look_iff {M : FM} (h : Srt M) {n : Nm} {q : Nat} : look M n = some q ↔ (n, q) ∈ M := by
  refine ⟨look_mem, fun hm => ?_⟩
  cases e : look M n with
  | none => exact absurd rfl (look_none.1 e (n, q) hm)
  | some r =>
    have h2 := look_mem e
    have : ∀ {M : FM}, Srt M → (n, q) ∈ M → (n, r) ∈ M → q = r := by
      intro M h
      induction M with
      | nil => intro h; simp at h
      | cons y t ih =>
        obtain ⟨h1, h3⟩ := List.pairwise_cons.1 h
        intro ha0 hb0
        rcases List.mem_cons.1 ha0 with rfl | ha
        · rcases List.mem_cons.1 hb0 with hb | hb
          · injection hb with _ e; exact e.symm
          · exact (bb_ne (h1 (n, r) hb) rfl).elim
        · rcases List.mem_cons.1 hb0 with rfl | hb
          · exact (bb_ne (h1 (n, q) ha) rfl).elim
          · exact ih h3 ha hb
    rw [this h hm h2]
theorem look_put {M : FM} (h : Srt M) (n m : Nm) (q : Nat) : look (putM n q M) m = if m = n then some q else look M m := by
  by_cases e : m = n
  · subst e
    rw [if_pos rfl]
    exact (look_iff (putM_srt h)).2 (putM_mem.2 (Or.inl rfl))
  · rw [if_neg e]
    cases e2 : look M m with
    | none =>
      refine look_none.2 fun p hp => ?_
      rcases putM_mem.1 hp with rfl | ⟨hp, _⟩
      · exact fun e' => e e'.symm
      · exact look_none.1 e2 p hp
    | some r => exact (look_iff (putM_srt h)).2 (putM_mem.2 (Or.inr ⟨look_mem e2, e⟩))
theorem look_del {M : FM} (h : Srt M) (n m : Nm) : look (delM n M) m = if m = n then none else look M m := by
  by_cases e : m = n
  · subst e
    rw [if_pos rfl]
    exact look_none.2 fun p hp => (delM_mem.1 hp).2
  · rw [if_neg e]
    cases e2 : look M m with
    | none => exact look_none.2 fun p hp => look_none.1 e2 p (delM_mem.1 hp).1
    | some r => exact (look_iff (delM_srt h)).2 (delM_mem.2 ⟨look_mem e2, e⟩)
theorem del_len {M : FM} (h : Srt M) {n : Nm} {q : Nat} (hl : look M n = some q) : (delM n M).length + 1 = M.length := by
  have hm := look_mem hl
  clear hl
  induction M with
  | nil => simp at hm
  | cons y t ih =>
    obtain ⟨h1, h3⟩ := List.pairwise_cons.1 h
    unfold delM at ih ⊢
    rw [List.filter_cons]
    rcases List.mem_cons.1 hm with rfl | hm
    · rw [if_neg (by simp), List.filter_eq_self.2 fun p hp => by simpa using fun e => (bb_ne (h1 p hp)) e.symm]; rfl
    · have hne : y.1 ≠ n := bb_ne (h1 _ hm)
      rw [if_pos (by simpa using hne), List.length_cons, ih h3 hm]; rfl
theorem del_same {M : FM} {n : Nm} (h : look M n = none) : delM n M = M := List.filter_eq_self.2 fun p hp => by simpa using look_none.1 h p hp
theorem put_len {M : FM} {n : Nm} (q : Nat) (h : look M n = none) : (putM n q M).length = M.length + 1 := by unfold putM; rw [insM_len, del_same h]
theorem del_len_le (n : Nm) (M : FM) : (delM n M).length ≤ M.length := List.length_filter_le _ _
theorem put_len_le (n : Nm) (q : Nat) (M : FM) : (putM n q M).length ≤ M.length + 1 := by unfold putM; rw [insM_len]; have := del_len_le n M; omega

/-- What happened to names. -/
inductive Chg
  | mk (n : Nm) (q : Nat)
  | del (n : Nm)
  | ren (n t : Nm)
def Chg.doM : Chg → FM → FM
  | .mk n q, M => putM n q M
  | .del n, M => delM n M
  | .ren n t, M => match look M n with | some q => putM t q (delM n M) | none => M
def Chg.okM : Chg → FM → Prop
  | .mk n _, M => look M n = none
  | .del n, M => look M n ≠ none
  | .ren n _, M => look M n ≠ none
def playM (cs : List Chg) (M : FM) : FM := cs.foldl (fun M c => c.doM M) M
def Hist : List Chg → FM → Prop
  | [], M => M.length ≤ 64
  | c :: cs, M => M.length ≤ 64 ∧ c.okM M ∧ Hist cs (c.doM M)
theorem Hist.len {cs : List Chg} {M : FM} (h : Hist cs M) : M.length ≤ 64 := by cases cs with | nil => exact h | cons c t => exact h.1
theorem Hist.take : ∀ {cs : List Chg} {M : FM}, Hist cs M → ∀ k, Hist (cs.take k) M
  | [], _, h, _ => by rw [List.take_nil]; exact h
  | _ :: _, _, h, 0 => h.1
  | _ :: _, _, h, k + 1 => ⟨h.1, h.2.1, Hist.take h.2.2 k⟩
theorem Hist.snoc : ∀ {cs : List Chg} {M : FM} {c : Chg}, Hist cs M → c.okM (playM cs M) → (c.doM (playM cs M)).length ≤ 64 → Hist (cs ++ [c]) M
  | [], _, _, h, h1, h2 => ⟨h, h1, h2⟩
  | _ :: _, _, _, h, h1, h2 => ⟨h.1, h.2.1, Hist.snoc h.2.2 h1 h2⟩
theorem play_snoc (cs : List Chg) (c : Chg) (M : FM) : playM (cs ++ [c]) M = c.doM (playM cs M) := by unfold playM; rw [List.foldl_append]; rfl
theorem doM_srt {c : Chg} {M : FM} (h : Srt M) : Srt (c.doM M) := by
  cases c with
  | mk n q => exact putM_srt h
  | del n => exact delM_srt h
  | ren n t =>
    unfold Chg.doM
    dsimp only
    split
    · exact putM_srt (delM_srt h)
    · exact h
theorem play_srt : ∀ {cs : List Chg} {M : FM}, Srt M → Srt (playM cs M)
  | [], _, h => h
  | c :: cs, _, h => play_srt (cs := cs) (doM_srt (c := c) h)
theorem Hist.end_len : ∀ {cs : List Chg} {M : FM}, Hist cs M → (playM cs M).length ≤ 64
  | [], _, h => h
  | _ :: cs, _, h => Hist.end_len (cs := cs) h.2.2
/-- The i-th of the changes may be done where it comes. -/
theorem Hist.at_ : ∀ {cs : List Chg} {M : FM} {i : Nat} (_ : Hist cs M) (hi : i < cs.length), (cs[i]).okM (playM (cs.take i) M)
  | [], _, _, _, hi => by simp at hi
  | _ :: _, _, 0, h, _ => h.2.1
  | _ :: cs, _, _ + 1, h, hi => Hist.at_ (cs := cs) h.2.2 (by simpa using hi)
/-- All files that a folder's names lead to lie in a list. -/
def In (ids : List Nat) (M : FM) : Prop := ∀ p ∈ M, p.2 ∈ ids
def Chg.inI (ids : List Nat) : Chg → Prop
  | .mk _ q => q ∈ ids
  | _ => True
theorem doM_in {ids : List Nat} {c : Chg} {M : FM} (h : In ids M) (hc : c.inI ids) : In ids (c.doM M) := by
  intro p hp
  cases c with
  | mk n q =>
    rcases putM_mem.1 hp with rfl | ⟨hp, _⟩
    · exact hc
    · exact h p hp
  | del n => exact h p (delM_mem.1 hp).1
  | ren n t =>
    unfold Chg.doM at hp
    dsimp only at hp
    split at hp
    · rename_i q e
      rcases putM_mem.1 hp with rfl | ⟨hp, _⟩
      · exact h (n, q) (look_mem e)
      · exact h p (delM_mem.1 hp).1
    · exact h p hp
theorem play_in {ids : List Nat} : ∀ {cs : List Chg} {M : FM}, In ids M → (∀ c ∈ cs, c.inI ids) → In ids (playM cs M)
  | [], _, h, _ => h
  | c :: cs, _, h, hc => play_in (cs := cs) (doM_in h (hc c List.mem_cons_self)) fun d hd => hc d (List.mem_cons_of_mem _ hd)
end Go.Proofs.YteijmjbiaffcmaaGreatDoor.Fi
