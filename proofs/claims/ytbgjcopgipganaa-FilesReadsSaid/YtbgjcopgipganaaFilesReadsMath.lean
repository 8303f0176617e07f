/- Three files by their names, as mathematics. -/
import Derived.Test.YtbgjcopgipganaaFilesSwapsMath
import Derived.Test.YtbgjcopgipganaaFilesFullMath
set_option maxRecDepth 20000
set_option linter.unusedSimpArgs false
namespace Go.Proofs.Ytbgjcopgipganaa
open Go.RowKit Go.Maps Go.Shelf

def key3 (i : Nat) : ByteArray := if i = 0 then ⟨#[97]⟩ else if i = 1 then ⟨#[98]⟩ else ⟨#[99]⟩
theorem key3_ok : ∀ i, i < 3 → okS (key3 i) = true := by decide
theorem key3_inj : ∀ i, i < 3 → ∀ j, j < 3 → nm (key3 i) = nm (key3 j) → i = j := by decide
def set3 (V : Nat → Option ByteArray) (i : Nat) (o : Option ByteArray) : Nat → Option ByteArray := fun j => if j = i then o else V j
/-- The directory has just these files among a, b, c, and no other; m calls have been made. -/
structure View (S : FS) (V : Nat → Option ByteArray) (m : Nat) : Prop where
  room : S.room = 1000000
  on : S.on = true
  arm : S.armed = false
  only : ∀ p ∈ S.now, ∃ i, i < 3 ∧ p.1 = nm (key3 i)
  val : ∀ i, i < 3 → (V i = none ∧ look S.now (nm (key3 i)) = none) ∨ ∃ q s k, V i = some s ∧ look S.now (nm (key3 i)) = some q ∧ filQ S.fil q = some ⟨q, s, k⟩ ∧ s.size ≤ 100 * m
  nd : (S.now.map (·.2)).Nodup
  chg : S.chg.length ≤ m
  cnt : S.now.length ≤ m
theorem nd_inj : ∀ {M : FM}, (M.map (·.2)).Nodup → ∀ {a b : Nm} {q : Nat}, (a, q) ∈ M → (b, q) ∈ M → a = b
  | [], _, _, _, _, h, _ => by simp at h
  | p :: t, hn, a, b, q, h1, h2 => by
    rw [List.map_cons, List.nodup_cons] at hn
    rcases List.mem_cons.1 h1 with e1 | e1
    · rcases List.mem_cons.1 h2 with e2 | e2
      · rw [← e1] at e2; injection e2 with e2 _; exact e2.symm
      · exact absurd (List.mem_map.2 ⟨_, e2, by rw [← e1]⟩) hn.1
    · rcases List.mem_cons.1 h2 with e2 | e2
      · exact absurd (List.mem_map.2 ⟨_, e1, by rw [← e2]⟩) hn.1
      · exact nd_inj hn.2 e1 e2
theorem sum_bound (f : Nm × Nat → Nat) (B : Nat) : ∀ M : FM, (∀ p ∈ M, f p ≤ B) → (M.map f).sum ≤ M.length * B
  | [], _ => by simp
  | p :: t, h => by
    rw [List.map_cons, List.sum_cons, List.length_cons, Nat.succ_mul]
    have h1 := h p List.mem_cons_self
    have h2 := sum_bound f B t fun x hx => h x (List.mem_cons_of_mem _ hx)
    omega
theorem View.used {S : FS} {V : Nat → Option ByteArray} {m : Nat} (h : View S V m) (hw : Whole S) (hm : m ≤ 40) : usedS S ≤ 256000 := by
  have h1 : usedS S ≤ S.now.length * (100 * m) := by
    refine sum_bound _ _ _ fun p hp => ?_
    obtain ⟨i, hi, e⟩ := h.only p hp
    have hl : look S.now p.1 = some p.2 := (look_iff hw.sane.srt).2 hp
    rcases h.val i hi with ⟨_, h0⟩ | ⟨q, s, k, _, h2, h3, h4⟩
    · rw [← e, hl] at h0; cases h0
    · rw [← e, hl] at h2
      injection h2 with h2
      unfold szQ
      rw [h2, h3]; exact h4
  have h2 := hw.sane.len
  have h3 : S.now.length * (100 * m) ≤ 64 * (100 * m) := Nat.mul_le_mul_right _ h2
  omega
theorem View.later {S : FS} {V : Nat → Option ByteArray} {m : Nat} (h : View S V m) : View S V (m + 1) :=
  ⟨h.room, h.on, h.arm, h.only, fun i hi => by
    rcases h.val i hi with h0 | ⟨q, s, k, h1, h2, h3, h4⟩
    · exact Or.inl h0
    · exact Or.inr ⟨q, s, k, h1, h2, h3, by omega⟩, h.nd, by have := h.chg; omega, by have := h.cnt; omega⟩
theorem View.check {S : FS} {V : Nat → Option ByteArray} {m i : Nat} (h : View S V m) (hi : i < 3) : checkS S [key3 i] = 0 := by
  unfold checkS
  rw [h.on, if_neg (by decide), if_pos]
  rw [List.all_cons, key3_ok i hi]; rfl
theorem View.find {S : FS} {V : Nat → Option ByteArray} {m i : Nat} (h : View S V m) (hi : i < 3) : findS S (key3 i) = match look S.now (nm (key3 i)) with | some q => (some q, 0) | none => (none, 12) := by
  unfold findS
  rw [if_neg (by rw [h.check hi]; decide)]
  cases look S.now (nm (key3 i)) <;> rfl
theorem step_free {S : FS} (h : S.armed = false) : stepD S = (0, S) := by
  unfold stepD stepS
  rw [if_pos h]; rfl
/-- Read. -/
theorem View.read {S : FS} {V : Nat → Option ByteArray} {m i : Nat} (h : View S V m) (hi : i < 3) : readS S (key3 i) = match V i with | some s => (s, 0) | none => (⟨#[]⟩, 12) := by
  unfold readS
  rw [h.find hi]
  rcases h.val i hi with ⟨h1, h2⟩ | ⟨q, s, k, h1, h2, h3, _⟩
  · rw [h1, h2]
  · rw [h1, h2]
    dsimp only
    unfold filS
    rw [h3]; rfl
theorem upd_other {F : List Fil} {q r j : Nat} {t : ByteArray} {g : Fil} (hne : q ≠ r) (h : filQ F q = some g) : filQ (updQ F r t j) q = some g := by
  induction F with
  | nil => cases h
  | cons f l ih =>
    unfold filQ at h ⊢
    unfold updQ
    unfold filQ updQ at ih
    rw [List.map_cons]
    by_cases e : f.q = q
    · rw [List.find?_cons_of_pos (by simpa using e)] at h
      rw [if_neg (fun e2 => hne (e.symm.trans e2)), List.find?_cons_of_pos (by simpa using e)]
      exact h
    · rw [List.find?_cons_of_neg (by simpa using e)] at h
      by_cases e2 : f.q = r
      · rw [if_pos e2, List.find?_cons_of_neg (by simpa using fun e3 => hne e3.symm)]
        exact ih h
      · rw [if_neg e2, List.find?_cons_of_neg (by simpa using e)]
        exact ih h
theorem nm3_ne {i j : Nat} (hi : i < 3) (hj : j < 3) (h : j ≠ i) : nm (key3 j) ≠ nm (key3 i) := fun e => h (key3_inj j hj i hi e)
theorem filQ_push {F : List Fil} {q r : Nat} {s : ByteArray} {k : Nat} {g : Fil} (h : filQ F q = some g) : filQ (F ++ [⟨r, s, k⟩]) q = some g := by
  unfold filQ at h ⊢
  rw [List.find?_append, h]; rfl
theorem filQ_new {F : List Fil} {r : Nat} {s : ByteArray} {k : Nat} (h : r ∉ F.map (·.q)) : filQ (F ++ [⟨r, s, k⟩]) r = some ⟨r, s, k⟩ := by
  unfold filQ
  rw [List.find?_append]
  have : F.find? (fun f => f.q == r) = none := List.find?_eq_none.2 fun f hf e => h (List.mem_map.2 ⟨f, hf, by simpa using e⟩)
  rw [this]
  simp
/-- Append. -/
theorem View.append {S : FS} {V : Nat → Option ByteArray} {m i : Nat} {t : ByteArray} (h : View S V m) (hw : Whole S) (hm : m ≤ 40) (hi : i < 3) (ht : t.size ≤ 100) :
    (∀ s, V i = some s → (appendS S (key3 i) t).1 = 0 ∧ View (appendS S (key3 i) t).2 (set3 V i (some (s ++ t))) (m + 1)) ∧ (V i = none → (appendS S (key3 i) t).1 = 12 ∧ View (appendS S (key3 i) t).2 V (m + 1)) := by
  have hu := h.used hw hm
  constructor
  · intro s0 hv
    rcases h.val i hi with ⟨h1, _⟩ | ⟨q, s, k, h1, h2, h3, h4⟩
    · rw [hv] at h1; cases h1
    · rw [hv] at h1; injection h1 with h1; subst h1
      have e : appendS S (key3 i) t = (0, updS S q (s0 ++ t) k) := by
        unfold appendS
        rw [h.find hi, h2]
        dsimp only
        rw [h.room, if_neg (by omega)]
        unfold filS
        rw [h3]
        exact step_free h.arm
      rw [e]
      refine ⟨rfl, ⟨h.room, h.on, h.arm, h.only, fun j hj => ?_, h.nd, by have := h.chg; show S.chg.length ≤ m + 1; omega, by have := h.cnt; show S.now.length ≤ m + 1; omega⟩⟩
      by_cases ej : j = i
      · subst ej
        right
        exact ⟨q, s0 ++ t, k, by unfold set3; rw [if_pos rfl], h2, upd_found h3, by rw [ByteArray.size_append]; omega⟩
      · rcases h.val j hj with ⟨g1, g2⟩ | ⟨q1, s1, k1, g1, g2, g3, g4⟩
        · left; exact ⟨by unfold set3; rw [if_neg ej]; exact g1, g2⟩
        · right
          have hne : q1 ≠ q := fun eq => by
            subst eq
            exact nm3_ne hi hj ej (nd_inj h.nd (look_mem g2) (look_mem h2))
          exact ⟨q1, s1, k1, by unfold set3; rw [if_neg ej]; exact g1, g2, upd_other hne g3, by omega⟩
  · intro hv
    have hl : look S.now (nm (key3 i)) = none := by
      rcases h.val i hi with ⟨_, h2⟩ | ⟨_, s, _, h1, _⟩
      · exact h2
      · rw [hv] at h1; cases h1
    have e : appendS S (key3 i) t = (12, S) := by
      unfold appendS
      rw [h.find hi, hl]
    rw [e]
    exact ⟨rfl, h.later⟩
/-- Create. -/
theorem View.create {S : FS} {V : Nat → Option ByteArray} {m i q : Nat} (h : View S V m) (hw : Whole S) (hm : m ≤ 40) (hi : i < 3) (hq : q ∉ ids S) :
    (V i = none → (createS S (key3 i) q).1 = 0 ∧ View (createS S (key3 i) q).2 (set3 V i (some ⟨#[]⟩)) (m + 1)) ∧ (V i ≠ none → (createS S (key3 i) q).1 = 13 ∧ View (createS S (key3 i) q).2 V (m + 1)) := by
  have h3 : S.now.length < 64 := by have := h.cnt; omega
  constructor
  · intro hv
    have hl : look S.now (nm (key3 i)) = none := by
      rcases h.val i hi with ⟨_, h2⟩ | ⟨_, s, _, h1, _⟩
      · exact h2
      · rw [hv] at h1; cases h1
    have e : createS S (key3 i) q = (0, doS (addS S q) (.mk (nm (key3 i)) q)) := by
      unfold createS
      rw [if_neg (by rw [h.check hi]; decide), hl, if_neg (by decide), if_neg (by omega)]
      exact step_free h.arm
    rw [e]
    refine ⟨rfl, ⟨h.room, h.on, h.arm, fun p hp => ?_, fun j hj => ?_, ?_, ?_, (by show (putM (nm (key3 i)) q S.now).length ≤ m + 1; rw [put_len q hl]; have := h.cnt; omega)⟩⟩
    · rcases putM_mem.1 (show p ∈ putM (nm (key3 i)) q S.now from hp) with rfl | ⟨hp, _⟩
      · exact ⟨i, hi, rfl⟩
      · exact h.only p hp
    · show (set3 V i (some ⟨#[]⟩) j = none ∧ look (putM (nm (key3 i)) q S.now) (nm (key3 j)) = none) ∨ _
      rw [look_put hw.sane.srt]
      by_cases ej : j = i
      · subst ej
        right
        exact ⟨q, ⟨#[]⟩, 0, by unfold set3; rw [if_pos rfl], by show look (putM (nm (key3 j)) q S.now) (nm (key3 j)) = _; rw [look_put hw.sane.srt, if_pos rfl], filQ_new hq, Nat.zero_le _⟩
      · rw [if_neg (nm3_ne hi hj ej)]
        rcases h.val j hj with ⟨h1, h2⟩ | ⟨q1, s, k, h1, h2, h3, h4⟩
        · left; exact ⟨by unfold set3; rw [if_neg ej]; exact h1, h2⟩
        · right
          exact ⟨q1, s, k, by unfold set3; rw [if_neg ej]; exact h1, by show look (putM (nm (key3 i)) q S.now) (nm (key3 j)) = _; rw [look_put hw.sane.srt, if_neg (nm3_ne hi hj ej)]; exact h2, filQ_push h3, by omega⟩
    · show ((putM (nm (key3 i)) q S.now).map (·.2)).Nodup
      rw [(put_ids hl).nodup_iff, List.nodup_cons]
      refine ⟨fun hm => ?_, h.nd⟩
      obtain ⟨p, hp, e⟩ := List.mem_map.1 hm
      exact hq (e ▸ hw.sane.ids p hp)
    · show (S.chg ++ [Chg.mk (nm (key3 i)) q]).length ≤ m + 1
      rw [List.length_append]
      have := h.chg
      simp; omega
  · intro hv
    have hl : ∃ q', look S.now (nm (key3 i)) = some q' := by
      rcases h.val i hi with ⟨h1, _⟩ | ⟨q', s, _, _, h2, _⟩
      · exact absurd h1 hv
      · exact ⟨q', h2⟩
    obtain ⟨q', hl⟩ := hl
    have e : createS S (key3 i) q = (13, S) := by
      unfold createS
      rw [if_neg (by rw [h.check hi]; decide), hl, if_pos (show (some q').isSome = true from rfl)]
    rw [e]
    exact ⟨rfl, h.later⟩
theorem nd_del {M : FM} {n : Nm} (h : (M.map (·.2)).Nodup) : ((delM n M).map (·.2)).Nodup := h.sublist (List.Sublist.map _ List.filter_sublist)
/-- Delete. -/
theorem View.delete {S : FS} {V : Nat → Option ByteArray} {m i : Nat} (h : View S V m) (hw : Whole S) (hi : i < 3) :
    (V i ≠ none → (deleteS S (key3 i)).1 = 0 ∧ View (deleteS S (key3 i)).2 (set3 V i none) (m + 1)) ∧ (V i = none → (deleteS S (key3 i)).1 = 12 ∧ View (deleteS S (key3 i)).2 V (m + 1)) := by
  constructor
  · intro hv
    have hl : ∃ q', look S.now (nm (key3 i)) = some q' := by
      rcases h.val i hi with ⟨h1, _⟩ | ⟨q', s, _, _, h2, _⟩
      · exact absurd h1 hv
      · exact ⟨q', h2⟩
    obtain ⟨q', hl⟩ := hl
    have e : deleteS S (key3 i) = (0, doS S (.del (nm (key3 i)))) := by
      unfold deleteS
      rw [h.find hi, hl]
      exact step_free h.arm
    rw [e]
    refine ⟨rfl, ⟨h.room, h.on, h.arm, fun p hp => h.only p (delM_mem.1 (show p ∈ delM (nm (key3 i)) S.now from hp)).1, fun j hj => ?_, nd_del h.nd, ?_, (by show (delM (nm (key3 i)) S.now).length ≤ m + 1; have := h.cnt; have := del_len_le (nm (key3 i)) S.now; omega)⟩⟩
    · by_cases ej : j = i
      · subst ej
        left
        exact ⟨by unfold set3; rw [if_pos rfl], by show look (delM (nm (key3 j)) S.now) (nm (key3 j)) = none; rw [look_del hw.sane.srt, if_pos rfl]⟩
      · have hd : look (delM (nm (key3 i)) S.now) (nm (key3 j)) = look S.now (nm (key3 j)) := by rw [look_del hw.sane.srt, if_neg (nm3_ne hi hj ej)]
        rcases h.val j hj with ⟨g1, g2⟩ | ⟨q1, s1, k1, g1, g2, g3, g4⟩
        · left; exact ⟨by unfold set3; rw [if_neg ej]; exact g1, hd.trans g2⟩
        · right; exact ⟨q1, s1, k1, by unfold set3; rw [if_neg ej]; exact g1, hd.trans g2, g3, by omega⟩
    · show (S.chg ++ [Chg.del (nm (key3 i))]).length ≤ m + 1
      rw [List.length_append]
      have := h.chg
      simp; omega
  · intro hv
    have hl : look S.now (nm (key3 i)) = none := by
      rcases h.val i hi with ⟨_, h2⟩ | ⟨_, s, _, h1, _⟩
      · exact h2
      · rw [hv] at h1; cases h1
    have e : deleteS S (key3 i) = (12, S) := by
      unfold deleteS
      rw [h.find hi, hl]
    rw [e]
    exact ⟨rfl, h.later⟩
def ren3 (V : Nat → Option ByteArray) (i j : Nat) : Nat → Option ByteArray := fun l => if l = j then V i else if l = i then none else V l
theorem View.check2 {S : FS} {V : Nat → Option ByteArray} {m i j : Nat} (h : View S V m) (hi : i < 3) (hj : j < 3) : checkS S [key3 j, key3 i] = 0 := by
  unfold checkS
  rw [h.on, if_neg (by decide), if_pos]
  rw [List.all_cons, List.all_cons, key3_ok i hi, key3_ok j hj]; rfl
theorem View.find2 {S : FS} {V : Nat → Option ByteArray} {m i j : Nat} (h : View S V m) (hi : i < 3) (hj : j < 3) : find2S S (key3 i) (key3 j) = match look S.now (nm (key3 i)) with | some q => (some q, 0) | none => (none, 12) := by
  unfold find2S
  rw [if_neg (by rw [h.check2 hi hj]; decide)]
  cases look S.now (nm (key3 i)) <;> rfl
/-- Rename. -/
theorem View.rename {S : FS} {V : Nat → Option ByteArray} {m i j : Nat} (h : View S V m) (hw : Whole S) (hi : i < 3) (hj : j < 3) :
    (V i ≠ none → (renameS S (key3 i) (key3 j)).1 = 0 ∧ View (renameS S (key3 i) (key3 j)).2 (ren3 V i j) (m + 1)) ∧ (V i = none → (renameS S (key3 i) (key3 j)).1 = 12 ∧ View (renameS S (key3 i) (key3 j)).2 V (m + 1)) := by
  constructor
  · intro hv
    obtain ⟨q, s, k, g1, hl, g3, g4⟩ : ∃ q s k, V i = some s ∧ look S.now (nm (key3 i)) = some q ∧ filQ S.fil q = some ⟨q, s, k⟩ ∧ s.size ≤ 100 * m := by
      rcases h.val i hi with ⟨h1, _⟩ | h1
      · exact absurd h1 hv
      · exact h1
    have hsd : Srt (delM (nm (key3 i)) S.now) := doM_srt (c := .del (nm (key3 i))) hw.sane.srt
    have hdo : (Chg.ren (nm (key3 i)) (nm (key3 j))).doM S.now = putM (nm (key3 j)) q (delM (nm (key3 i)) S.now) := by unfold Chg.doM; dsimp only; rw [hl]
    have e : renameS S (key3 i) (key3 j) = (0, doS S (.ren (nm (key3 i)) (nm (key3 j)))) := by
      unfold renameS
      rw [h.find2 hi hj, hl]
      exact step_free h.arm
    have hlk : ∀ x, look ((Chg.ren (nm (key3 i)) (nm (key3 j))).doM S.now) x = if x = nm (key3 j) then some q else if x = nm (key3 i) then none else look S.now x := fun x => by
      rw [hdo, look_put hsd, look_del hw.sane.srt]
    rw [e]
    refine ⟨rfl, ⟨h.room, h.on, h.arm, fun p hp => ?_, fun l hl3 => ?_, ?_, ?_, Nat.le_trans (ren_len hw.sane.srt hl) (by have := h.cnt; omega)⟩⟩
    · have hp' : p ∈ putM (nm (key3 j)) q (delM (nm (key3 i)) S.now) := hdo ▸ hp
      rcases putM_mem.1 hp' with rfl | ⟨hp', _⟩
      · exact ⟨j, hj, rfl⟩
      · exact h.only p (delM_mem.1 hp').1
    · show (ren3 V i j l = none ∧ look ((Chg.ren (nm (key3 i)) (nm (key3 j))).doM S.now) (nm (key3 l)) = none) ∨ ∃ q' s' k', ren3 V i j l = some s' ∧ look ((Chg.ren (nm (key3 i)) (nm (key3 j))).doM S.now) (nm (key3 l)) = some q' ∧ filQ S.fil q' = some ⟨q', s', k'⟩ ∧ s'.size ≤ 100 * (m + 1)
      rw [hlk]
      unfold ren3
      by_cases ej : l = j
      · subst ej
        rw [if_pos rfl, if_pos rfl]
        right; exact ⟨q, s, k, g1, rfl, g3, by omega⟩
      · rw [if_neg ej, if_neg (nm3_ne hj hl3 ej)]
        by_cases ei : l = i
        · subst ei
          rw [if_pos rfl, if_pos rfl]
          left; exact ⟨rfl, rfl⟩
        · rw [if_neg ei, if_neg (nm3_ne hi hl3 ei)]
          rcases h.val l hl3 with h0 | ⟨q1, s1, k1, f1, f2, f3, f4⟩
          · exact Or.inl h0
          · exact Or.inr ⟨q1, s1, k1, f1, f2, f3, by omega⟩
    · show (((Chg.ren (nm (key3 i)) (nm (key3 j))).doM S.now).map (·.2)).Nodup
      rw [hdo]
      unfold putM
      rw [((insM_perm _ _).map _).nodup_iff, List.map_cons, List.nodup_cons]
      refine ⟨fun hm => ?_, nd_del (nd_del h.nd)⟩
      obtain ⟨p, hp, ep⟩ := List.mem_map.1 hm
      have h1 := delM_mem.1 (delM_mem.1 hp).1
      obtain ⟨x, y⟩ := p
      dsimp only at ep
      subst ep
      exact h1.2 (nd_inj h.nd h1.1 (look_mem hl))
    · show (S.chg ++ [Chg.ren (nm (key3 i)) (nm (key3 j))]).length ≤ m + 1
      rw [List.length_append]
      have := h.chg
      simp; omega
  · intro hv
    have hl : look S.now (nm (key3 i)) = none := by
      rcases h.val i hi with ⟨_, h2⟩ | ⟨_, s, _, h1, _⟩
      · exact h2
      · rw [hv] at h1; cases h1
    have e : renameS S (key3 i) (key3 j) = (12, S) := by
      unfold renameS
      rw [h.find2 hi hj, hl]
    rw [e]
    exact ⟨rfl, h.later⟩
def one3 (o : Option ByteArray) : Nat := if o.isSome then 1 else 0
theorem del_one {M : FM} (h : Srt M) (n : Nm) : M.length = (delM n M).length + if (look M n).isSome then 1 else 0 := by
  cases e : look M n with
  | none => rw [del_same e]; rfl
  | some q => exact (del_len h e).symm
/-- How many files there are. -/
theorem View.names {S : FS} {V : Nat → Option ByteArray} {m : Nat} (h : View S V m) (hw : Whole S) : S.now.length = one3 (V 0) + one3 (V 1) + one3 (V 2) := by
  have hs := hw.sane.srt
  have hv : ∀ i, i < 3 → (if (look S.now (nm (key3 i))).isSome then 1 else 0) = one3 (V i) := fun i hi => by
    rcases h.val i hi with ⟨h1, h2⟩ | ⟨q, s, k, h1, h2, _⟩
    · rw [h1, h2]; rfl
    · rw [h1, h2]; rfl
  have h0 := hv 0 (by decide)
  have h1 := hv 1 (by decide)
  have h2 := hv 2 (by decide)
  have l0 := del_one hs (nm (key3 0))
  have s1 := delM_srt (n := nm (key3 0)) hs
  have l1 := del_one s1 (nm (key3 1))
  have s2 := delM_srt (n := nm (key3 1)) s1
  have l2 := del_one s2 (nm (key3 2))
  have n10 : nm (key3 1) ≠ nm (key3 0) := by decide
  have n21 : nm (key3 2) ≠ nm (key3 1) := by decide
  have n20 : nm (key3 2) ≠ nm (key3 0) := by decide
  rw [look_del hs, if_neg n10] at l1
  rw [look_del s1, if_neg n21, look_del hs, if_neg n20] at l2
  have l3 : delM (nm (key3 2)) (delM (nm (key3 1)) (delM (nm (key3 0)) S.now)) = [] := by
    refine List.eq_nil_iff_forall_not_mem.2 fun p hp => ?_
    obtain ⟨a1, a2⟩ := delM_mem.1 hp
    obtain ⟨b1, b2⟩ := delM_mem.1 a1
    obtain ⟨c1, c2⟩ := delM_mem.1 b1
    obtain ⟨i, hi, e⟩ := h.only p c1
    match i, hi with
    | 0, _ => exact c2 e
    | 1, _ => exact b2 e
    | 2, _ => exact a2 e
  rw [l3] at l2
  rw [h0] at l0
  rw [h1] at l1
  rw [h2] at l2
  simp at l2
  omega
theorem view_0 : View (emptyS 1000000) (fun _ => none) 0 := ⟨rfl, rfl, rfl, fun p hp => by simp [emptyS] at hp, fun i hi => Or.inl ⟨rfl, rfl⟩, List.nodup_nil, Nat.le_refl _, Nat.le_refl _⟩
end Go.Proofs.Ytbgjcopgipganaa
