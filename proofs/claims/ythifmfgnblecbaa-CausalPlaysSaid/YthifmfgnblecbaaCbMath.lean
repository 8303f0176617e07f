/- A buffer as mathematics: what it holds, what has come out, what each call makes of it. -/
import Derived.Test.YthifmfgnblecbaaOgMath
set_option maxRecDepth 20000
set_option linter.unusedSimpArgs false
set_option linter.unusedVariables false
namespace Go.Proofs.Ythifmfgnblecbaa.Og.Cb
open Go.RowKit Go.Proofs.Ythifmfgnblecbaa.Vi Go.Proofs.Ythifmfgnblecbaa.Mk

/-- A buffer: its room, what has come out, what is held in the order in which it came. -/
structure CS where
  room : Int
  out : List Int
  L : List Rec
def keyB (s q : Int) (r : Rec) : Bool := r.st.s == s && r.st.q == q
theorem keyB_iff {s q : Int} {r : Rec} : keyB s q r = true ↔ r.st.s = s ∧ r.st.q = q := by unfold keyB; simp
def sameKey (a b : Rec) : Prop := a.st.s = b.st.s ∧ a.st.q = b.st.q
/-- No two of them have one site and one number. -/
def Apart : List Rec → Prop
  | [] => True
  | r :: t => (∀ x ∈ t, ¬ sameKey r x) ∧ Apart t
theorem Apart.append {l : List Rec} {r : Rec} (h : Apart l) (k : ∀ x ∈ l, ¬ sameKey x r) : Apart (l ++ [r]) := by
  induction l with
  | nil => exact ⟨fun x hx => (by cases hx), trivial⟩
  | cons a t ih =>
    refine ⟨fun x hx => ?_, ih h.2 fun x hx => k x (List.mem_cons_of_mem _ hx)⟩
    rcases List.mem_append.1 hx with hx | hx
    · exact h.1 x hx
    · rw [List.mem_singleton] at hx
      subst hx
      exact k a (List.mem_cons_self ..)
theorem Apart.filter {l : List Rec} (h : Apart l) (p : Rec → Bool) : Apart (l.filter p) := by
  induction l with
  | nil => exact trivial
  | cons a t ih =>
    rw [List.filter_cons]
    split
    · exact ⟨fun x hx => h.1 x (List.mem_filter.1 hx).1, ih h.2⟩
    · exact ih h.2
theorem Apart.same {l : List Rec} (h : Apart l) {a b : Rec} (ha : a ∈ l) (hb : b ∈ l) (k : sameKey a b) : a = b := by
  induction l with
  | nil => cases ha
  | cons x t ih =>
    rcases List.mem_cons.1 ha with e1 | ha2
    · rcases List.mem_cons.1 hb with e2 | hb2
      · rw [e1, e2]
      · rw [e1] at k; exact absurd k (h.1 b hb2)
    · rcases List.mem_cons.1 hb with e2 | hb2
      · rw [e2] at k; exact absurd ⟨k.1.symm, k.2.symm⟩ (h.1 a ha2)
      · exact ih h.2 ha2 hb2
def hasB (l : List Rec) (s q : Int) : Bool := (getL l s q).isSome
theorem getL_mem {l : List Rec} {s q : Int} {r : Rec} (h : getL l s q = some r) : r ∈ l ∧ r.st.s = s ∧ r.st.q = q := by
  unfold getL at h
  have h1 := List.mem_of_find?_eq_some h
  have h2 := List.find?_some h
  simp only [Bool.and_eq_true, beq_iff_eq] at h2
  exact ⟨h1, h2⟩
theorem hasB_iff {l : List Rec} {s q : Int} : hasB l s q = true ↔ ∃ r ∈ l, r.st.s = s ∧ r.st.q = q := by
  unfold hasB
  constructor
  · intro h
    obtain ⟨r, hr⟩ := Option.isSome_iff_exists.1 h
    exact ⟨r, getL_mem hr⟩
  · rintro ⟨r, hr, rfl, rfl⟩
    unfold getL
    rw [List.find?_isSome]
    exact ⟨r, hr, by simp⟩
theorem hasB_no {l : List Rec} {s q : Int} : hasB l s q = false ↔ ∀ r ∈ l, ¬ (r.st.s = s ∧ r.st.q = q) := by
  rw [← Bool.not_eq_true, hasB_iff]
  constructor
  · intro h r hr k; exact h ⟨r, hr, k⟩
  · rintro h ⟨r, hr, k⟩; exact h r hr k
theorem getL_of {l : List Rec} (h : Apart l) {r : Rec} (hr : r ∈ l) : getL l r.st.s r.st.q = some r := by
  have : hasB l r.st.s r.st.q = true := hasB_iff.2 ⟨r, hr, rfl, rfl⟩
  obtain ⟨x, hx⟩ := Option.isSome_iff_exists.1 this
  obtain ⟨h1, h2, h3⟩ := getL_mem hx
  rw [hx, h.same h1 hr ⟨h2, h3⟩]
theorem getL_none_iff {l : List Rec} {s q : Int} : getL l s q = none ↔ hasB l s q = false := by
  unfold hasB; cases getL l s q <;> simp
/-- Without the record of that name. -/
def delL (l : List Rec) (s q : Int) : List Rec := l.filter fun r => !(keyB s q r)
theorem delL_mem {l : List Rec} {s q : Int} {r : Rec} : r ∈ delL l s q ↔ r ∈ l ∧ ¬ (r.st.s = s ∧ r.st.q = q) := by
  unfold delL
  rw [List.mem_filter]
  simp only [Bool.not_eq_true', ← Bool.not_eq_true, keyB_iff]
theorem filter_all {l : List Rec} {s q : Int} (k : ∀ x ∈ l, ¬ (x.st.s = s ∧ x.st.q = q)) : delL l s q = l := by
  unfold delL
  rw [List.filter_eq_self]
  intro x hx
  simp only [Bool.not_eq_true', ← Bool.not_eq_true, keyB_iff]
  exact k x hx
theorem delL_len {l : List Rec} (h : Apart l) {r : Rec} (hr : r ∈ l) : (delL l r.st.s r.st.q).length + 1 = l.length := by
  induction l with
  | nil => cases hr
  | cons a t ih =>
    unfold delL
    rw [List.filter_cons]
    rcases List.mem_cons.1 hr with rfl | hr
    · have e : keyB r.st.s r.st.q r = true := keyB_iff.2 ⟨rfl, rfl⟩
      rw [e]
      have := filter_all (l := t) (s := r.st.s) (q := r.st.q) fun x hx k => h.1 x hx ⟨k.1.symm, k.2.symm⟩
      unfold delL at this
      simp only [Bool.not_true, Bool.false_eq_true, if_false, this, List.length_cons]
    · have e : keyB r.st.s r.st.q a = false := by
        rw [← Bool.not_eq_true, keyB_iff]
        exact fun k => h.1 r hr k
      rw [e]
      have := ih h.2 hr
      unfold delL at this
      simp only [Bool.not_false, if_true, List.length_cons, this]
/-- It can come out at once. -/
def dueB (S : CS) (r : Rec) : Bool := (r.st.q == atL S.out r.st.s + 1) && covL S.out r.d
theorem dueB_iff {S : CS} {r : Rec} : dueB S r = true ↔ r.st.q = atL S.out r.st.s + 1 ∧ covL S.out r.d = true := by unfold dueB; simp
def knownB (S : CS) (r : Rec) : Bool := decide (r.st.q < atL S.out r.st.s + 1) || hasB S.L r.st.s r.st.q
def offE (S : CS) (r : Rec) : Int := if r.ok = false then 3 else if knownB S r = true then 1 else if S.room ≤ (S.L.length : Int) ∧ dueB S r = false then 2 else 0
def offS (S : CS) (r : Rec) : CS := if offE S r = 0 then ⟨S.room, S.out, S.L ++ [r]⟩ else S
theorem offE_zero {S : CS} {r : Rec} (h : offE S r = 0) : r.ok = true ∧ atL S.out r.st.s < r.st.q ∧ hasB S.L r.st.s r.st.q = false ∧ (¬ S.room ≤ (S.L.length : Int) ∨ dueB S r = true) := by
  unfold offE at h
  split at h
  · omega
  · rename_i h1
    split at h
    · omega
    · rename_i h2
      split at h
      · omega
      · rename_i h3
        unfold knownB at h2
        simp only [Bool.or_eq_true, decide_eq_true_eq, not_or, Bool.not_eq_true] at h2
        refine ⟨by simpa using h1, by omega, h2.2, ?_⟩
        by_cases g : S.room ≤ (S.L.length : Int)
        · right
          cases hd : dueB S r with
          | true => rfl
          | false => exact absurd ⟨g, hd⟩ h3
        · exact Or.inl g
theorem offE_cases (S : CS) (r : Rec) : offE S r = 0 ∨ offE S r = 1 ∨ offE S r = 2 ∨ offE S r = 3 := by
  unfold offE; split <;> (try split) <;> (try split) <;> simp
theorem offE_bad {S : CS} {r : Rec} (h : r.ok = false) : offE S r = 3 := if_pos h
theorem offE_known {S : CS} {r : Rec} (h : r.ok = true) (k : knownB S r = true) : offE S r = 1 := by unfold offE; rw [if_neg (by rw [h]; decide), if_pos k]
theorem offE_full {S : CS} {r : Rec} (h : r.ok = true) (k : knownB S r = false) (f : S.room ≤ (S.L.length : Int) ∧ dueB S r = false) : offE S r = 2 := by unfold offE; rw [if_neg (by rw [h]; decide), if_neg (by rw [k]; decide), if_pos f]
theorem offE_held {S : CS} {r : Rec} (h : r.ok = true) (k : knownB S r = false) (f : ¬ (S.room ≤ (S.L.length : Int) ∧ dueB S r = false)) : offE S r = 0 := by unfold offE; rw [if_neg (by rw [h]; decide), if_neg (by rw [k]; decide), if_neg f]
theorem offS_yes {S : CS} {r : Rec} (h : offE S r = 0) : offS S r = ⟨S.room, S.out, S.L ++ [r]⟩ := if_pos h
theorem offS_no {S : CS} {r : Rec} (h : offE S r ≠ 0) : offS S r = S := if_neg h
theorem offE_one {S : CS} {r : Rec} : offE S r = 1 ↔ r.ok = true ∧ knownB S r = true := by
  constructor
  · intro h
    cases e : r.ok with
    | false => rw [offE_bad e] at h; cases h
    | true =>
      refine ⟨rfl, ?_⟩
      cases e2 : knownB S r with
      | true => rfl
      | false =>
        by_cases f : S.room ≤ (S.L.length : Int) ∧ dueB S r = false
        · rw [offE_full e e2 f] at h; cases h
        · rw [offE_held e e2 f] at h; cases h
  · rintro ⟨h, k⟩; exact offE_known h k

/-- What comes out next: of the sites from k on the first one whose next record is held and due. -/
def candB (S : CS) (i : Int) : Option Rec := match getL S.L i (atL S.out i + 1) with
  | some r => if dueB S r = true then some r else none
  | none => none
theorem candB_some {S : CS} {i : Int} {r : Rec} (h : candB S i = some r) : r ∈ S.L ∧ r.st.s = i ∧ dueB S r = true := by
  unfold candB at h
  split at h
  · rename_i x hx
    split at h
    · injection h with h
      subst h
      rename_i hd
      exact ⟨(getL_mem hx).1, (getL_mem hx).2.1, hd⟩
    · cases h
  · cases h
theorem candB_of {S : CS} (ha : Apart S.L) {r : Rec} (hr : r ∈ S.L) (hd : dueB S r = true) : candB S r.st.s = some r := by
  have h1 := (dueB_iff.1 hd).1
  have h2 := getL_of ha hr
  unfold candB
  rw [← h1, h2]
  simp only [hd, if_true]
def firstC (S : CS) : Nat → Nat → Option Rec
  | _, 0 => none
  | i, n + 1 => match candB S (i : Int) with
    | some r => some r
    | none => firstC S (i + 1) n
def nextR (S : CS) : Option Rec := firstC S 0 8
theorem firstC_none {S : CS} {i n : Nat} (h : firstC S i n = none) : ∀ j, i ≤ j → j < i + n → candB S (j : Int) = none := by
  induction n generalizing i with
  | zero => intro j h1 h2; omega
  | succ n ih =>
    unfold firstC at h
    split at h
    · cases h
    · rename_i hc
      intro j h1 h2
      by_cases e : j = i
      · subst e; exact hc
      · exact ih h j (by omega) (by omega)
theorem firstC_some {S : CS} {i n : Nat} {r : Rec} (h : firstC S i n = some r) : r ∈ S.L ∧ dueB S r = true ∧ (i : Int) ≤ r.st.s ∧ r.st.s < (i : Int) + n := by
  induction n generalizing i with
  | zero => cases h
  | succ n ih =>
    unfold firstC at h
    split at h
    · rename_i x hc
      injection h with h
      subst h
      obtain ⟨h1, h2, h3⟩ := candB_some hc
      exact ⟨h1, h3, by omega, by omega⟩
    · obtain ⟨h1, h2, h3, h4⟩ := ih h
      exact ⟨h1, h2, by omega, by omega⟩
theorem nextR_some {S : CS} {r : Rec} (h : nextR S = some r) : r ∈ S.L ∧ dueB S r = true := ⟨(firstC_some h).1, (firstC_some h).2.1⟩
theorem nextR_none {S : CS} (ha : Apart S.L) (h : nextR S = none) {r : Rec} (hr : r ∈ S.L) (hs : 0 ≤ r.st.s ∧ r.st.s ≤ 7) : dueB S r = false := by
  cases hd : dueB S r with
  | false => rfl
  | true =>
    obtain ⟨k, hk⟩ := Int.eq_ofNat_of_zero_le hs.1
    have h1 := firstC_none h k (by omega) (by omega)
    rw [← hk, candB_of ha hr hd] at h1
    cases h1
def nextS (S : CS) : CS := match nextR S with
  | some r => ⟨S.room, withL S.out r.st.s r.st.q, delL S.L r.st.s r.st.q⟩
  | none => S
theorem nextS_some {S : CS} {r : Rec} (h : nextR S = some r) : nextS S = ⟨S.room, withL S.out r.st.s r.st.q, delL S.L r.st.s r.st.q⟩ := by unfold nextS; rw [h]
theorem nextS_none {S : CS} (h : nextR S = none) : nextS S = S := by unfold nextS; rw [h]

/-- What is always so of a buffer. -/
structure CGood (S : CS) : Prop where
  rm : 0 ≤ S.room ∧ S.room ≤ 400
  plain : plainL S.out = S.out
  apart : Apart S.L
  ok : ∀ r ∈ S.L, r.ok = true
  above : ∀ r ∈ S.L, atL S.out r.st.s < r.st.q
  few : (((S.L.filter fun r => !(dueB S r)).length : Nat) : Int) ≤ S.room
def newC (room : Int) (v : List Int) : CS := ⟨min (max room 0) 400, plainL v, []⟩
def zeroC : CS := ⟨0, [], []⟩
theorem newC_good (room : Int) (v : List Int) : CGood (newC room v) := ⟨by unfold newC; dsimp only; omega, plain_plain _, trivial, fun r hr => (by cases hr), fun r hr => (by cases hr), by unfold newC; dsimp only [List.filter_nil, List.length_nil]; omega⟩
theorem zeroC_good : CGood zeroC := ⟨by decide, rfl, trivial, fun r hr => (by cases hr), fun r hr => (by cases hr), by decide⟩
theorem CGood.off {S : CS} (h : CGood S) (r : Rec) : CGood (offS S r) := by
  by_cases e : offE S r = 0
  · obtain ⟨h1, h2, h3, h4⟩ := offE_zero e
    rw [offS_yes e]
    refine ⟨h.rm, h.plain, h.apart.append fun x hx k => ?_, fun x hx => ?_, fun x hx => ?_, ?_⟩
    · exact hasB_no.1 h3 x hx k
    · rcases List.mem_append.1 hx with hx | hx
      · exact h.ok x hx
      · rw [List.mem_singleton] at hx; subst hx; exact h1
    · rcases List.mem_append.1 hx with hx | hx
      · exact h.above x hx
      · rw [List.mem_singleton] at hx; subst hx; exact h2
    · show (((((S.L ++ [r]).filter fun x => !(dueB S x)).length : Nat) : Int)) ≤ S.room
      rw [List.filter_append, List.length_append]
      have hf := h.few
      rcases h4 with h4 | h4
      · have := List.length_filter_le (fun x => !(dueB S x)) S.L
        have := List.length_filter_le (fun x => !(dueB S x)) [r]
        simp only [List.length_singleton] at this
        omega
      · simp only [List.filter_cons, h4, Bool.not_true, Bool.false_eq_true, if_false, List.filter_nil, List.length_nil]
        omega
  · rw [offS_no e]; exact h
theorem out_up {S : CS} {r : Rec} (hr : r.ok = true) (hd : dueB S r = true) {x : Int} : atL S.out x ≤ atL (withL S.out r.st.s r.st.q) x := by
  have hp := Rec.ok_parts hr
  by_cases h : 0 ≤ x ∧ x ≤ 7
  · exact with_up (dueB_iff.1 hd).1 ⟨hp.2.2.2.2.1, hp.2.2.2.2.2⟩ h
  · rw [atL_out (by omega), atL_out (by omega)]; omega
theorem out_at {S : CS} {r : Rec} (hr : r.ok = true) {x : Int} (h : 0 ≤ x ∧ x ≤ 7) : atL (withL S.out r.st.s r.st.q) x = if x = r.st.s then r.st.q else atL S.out x := by
  have hp := Rec.ok_parts hr
  rw [atL_withI _ _ _ h, cl_in (by omega) (by omega)]
theorem cov_trans {a b c : List Int} (h : ∀ x : Int, atL b x ≤ atL a x) (k : covL b c = true) : covL a c = true := covL_iff.2 fun i hi => Int.le_trans (covL_iff.1 k i hi) (h _)
theorem CGood.next {S : CS} (h : CGood S) : CGood (nextS S) := by
  cases e : nextR S with
  | none => rw [nextS_none e]; exact h
  | some r =>
    obtain ⟨h1, h2⟩ := nextR_some e
    have hok := h.ok r h1
    have hp := Rec.ok_parts hok
    rw [nextS_some e]
    have hab : ∀ x ∈ delL S.L r.st.s r.st.q, atL (withL S.out r.st.s r.st.q) x.st.s < x.st.q := fun x hx => by
      obtain ⟨h3, h4⟩ := delL_mem.1 hx
      have hx5 := Rec.ok_parts (h.ok x h3)
      rw [out_at hok ⟨by omega, by omega⟩]
      have k1 := h.above x h3
      have k2 := (dueB_iff.1 h2).1
      split
      · rename_i e1
        have k3 : x.st.q ≠ r.st.q := fun e2 => h4 ⟨e1, e2⟩
        rw [e1] at k1
        omega
      · exact k1
    refine ⟨h.rm, plain_with _ _ _, h.apart.filter _, fun x hx => h.ok x (delL_mem.1 hx).1, hab, ?_⟩
    refine Int.le_trans ?_ h.few
    have hle : ((delL S.L r.st.s r.st.q).filter fun x => !(dueB ⟨S.room, withL S.out r.st.s r.st.q, delL S.L r.st.s r.st.q⟩ x)).length ≤ ((delL S.L r.st.s r.st.q).filter fun x => !(dueB S x)).length := by
      refine List.Sublist.length_le ?_
      have hs : ∀ l : List Rec, (∀ x ∈ l, x ∈ delL S.L r.st.s r.st.q) → (l.filter fun x => !(dueB ⟨S.room, withL S.out r.st.s r.st.q, delL S.L r.st.s r.st.q⟩ x)).Sublist (l.filter fun x => !(dueB S x)) := by
        intro l
        induction l with
        | nil => intro _; exact List.Sublist.slnil
        | cons a t ih =>
          intro hl
          have iht := ih fun x hx => hl x (List.mem_cons_of_mem _ hx)
          rw [List.filter_cons, List.filter_cons]
          by_cases d1 : dueB S a = true
          · have ha := hl a (List.mem_cons_self ..)
            obtain ⟨h3, h4⟩ := delL_mem.1 ha
            obtain ⟨g1, g2⟩ := dueB_iff.1 d1
            have hx5 := Rec.ok_parts (h.ok a h3)
            have hne : a.st.s ≠ r.st.s := fun e1 => h4 ⟨e1, by have := (dueB_iff.1 h2).1; rw [e1] at g1; omega⟩
            have d2 : dueB ⟨S.room, withL S.out r.st.s r.st.q, delL S.L r.st.s r.st.q⟩ a = true := dueB_iff.2 ⟨by
              show a.st.q = atL (withL S.out r.st.s r.st.q) a.st.s + 1
              rw [out_at hok ⟨by omega, by omega⟩, if_neg hne]; exact g1, cov_trans (fun x => out_up hok h2) g2⟩
            rw [d1, d2]
            simpa using iht
          · rw [Bool.not_eq_true] at d1
            rw [d1]
            simp only [Bool.not_false, if_true]
            split
            · exact iht.cons_cons _
            · exact iht.cons _
      exact hs _ fun x hx => hx
    have h2le : ((delL S.L r.st.s r.st.q).filter fun x => !(dueB S x)).length ≤ (S.L.filter fun x => !(dueB S x)).length := by
      unfold delL
      exact (List.Sublist.filter _ (List.filter_sublist ..)).length_le
    show (((((delL S.L r.st.s r.st.q).filter fun x => !(dueB ⟨S.room, withL S.out r.st.s r.st.q, delL S.L r.st.s r.st.q⟩ x)).length : Nat) : Int)) ≤ _
    omega
theorem CGood.off_len {S : CS} (h : CGood S) (r : Rec) : (offS S r).L.length = if offE S r = 0 then S.L.length + 1 else S.L.length := by
  by_cases e : offE S r = 0
  · rw [offS_yes e, if_pos e]; simp
  · rw [offS_no e, if_neg e]
/-- At most eight are due. -/
theorem due_few (S : CS) : ∀ (n : Nat) (l : List Rec), Apart l → (∀ r ∈ l, dueB S r = true ∧ 0 ≤ r.st.s ∧ r.st.s < (n : Int)) → l.length ≤ n := by
  intro n
  induction n with
  | zero =>
    intro l _ h
    cases l with
    | nil => exact Nat.le_refl _
    | cons a t => have := h a (List.mem_cons_self ..); omega
  | succ n ih =>
    intro l ha h
    by_cases hx : ∃ r ∈ l, r.st.s = (n : Int)
    · obtain ⟨r, hr, hs⟩ := hx
      have h1 := delL_len ha hr
      have h2 := ih (delL l r.st.s r.st.q) (ha.filter _) fun x hx => by
        obtain ⟨h3, h4⟩ := delL_mem.1 hx
        obtain ⟨g1, g2, g3⟩ := h x h3
        refine ⟨g1, g2, ?_⟩
        have hne : x.st.s ≠ (n : Int) := fun e => h4 ⟨by omega, by
          have e1 := (dueB_iff.1 g1).1
          have e2 := (dueB_iff.1 (h r hr).1).1
          rw [e] at e1
          rw [hs] at e2
          omega⟩
        omega
      omega
    · have := ih l ha fun x hx2 => by
        obtain ⟨g1, g2, g3⟩ := h x hx2
        refine ⟨g1, g2, ?_⟩
        have : x.st.s ≠ (n : Int) := fun e => hx ⟨x, hx2, e⟩
        omega
      omega
theorem split_len (p : Rec → Bool) (l : List Rec) : (l.filter p).length + (l.filter fun r => !(p r)).length = l.length := by
  induction l with
  | nil => rfl
  | cons a t ih =>
    rw [List.filter_cons, List.filter_cons]
    cases e : p a <;> simp [e] <;> omega
theorem CGood.len {S : CS} (h : CGood S) : (S.L.length : Int) ≤ S.room + 8 := by
  have h1 := split_len (dueB S) S.L
  have h2 := due_few S 8 (S.L.filter (dueB S)) (h.apart.filter _) fun r hr => by
    obtain ⟨h3, h4⟩ := List.mem_filter.1 hr
    have := Rec.ok_parts (h.ok r h3)
    exact ⟨h4, by omega, by omega⟩
  have := h.few
  omega
theorem CGood.l408 {S : CS} (h : CGood S) : S.L.length ≤ 408 := by have := h.len; have := h.rm; omega

/-- n is as far as records of site s are held behind a. -/
structure IsSure (l : List Rec) (s a n : Int) : Prop where
  lo : a ≤ n
  all : ∀ j, a < j → j ≤ n → hasB l s j = true
  no : hasB l s (n + 1) = false
theorem IsSure.uniq {l : List Rec} {s a n m : Int} (h : IsSure l s a n) (k : IsSure l s a m) : n = m := by
  by_cases h1 : n < m
  · have := k.all (n + 1) (by have := h.lo; omega) (by omega)
    rw [h.no] at this; cases this
  · by_cases h2 : m < n
    · have := h.all (m + 1) (by have := k.lo; omega) (by omega)
      rw [k.no] at this; cases this
    · omega
theorem CGood.hasq {S : CS} (h : CGood S) {s q : Int} (k : hasB S.L s q = true) : atL S.out s < q ∧ 1 ≤ q ∧ q ≤ 1099511627776 ∧ 0 ≤ s ∧ s ≤ 7 := by
  obtain ⟨r, hr, rfl, rfl⟩ := hasB_iff.1 k
  have := Rec.ok_parts (h.ok r hr)
  exact ⟨h.above r hr, by omega, by omega, by omega, by omega⟩
theorem IsSure.cl {S : CS} (h : CGood S) {s n : Int} (k : IsSure S.L s (atL S.out s) n) : 0 ≤ n ∧ n ≤ 1099511627776 := by
  have h1 := atL_bounds S.out s
  have h2 := k.lo
  by_cases e : n = atL S.out s
  · omega
  · have := h.hasq (k.all n (by omega) (Int.le_refl _))
    omega
/-- All sites' together. -/
def SureV (S : CS) (v : List Int) : Prop := ∃ f : Nat → Int, v = vec f ∧ ∀ i : Nat, i < 8 → IsSure S.L (i : Int) (atL S.out (i : Int)) (f i)
theorem SureV.uniq {S : CS} {v u : List Int} (h : SureV S v) (k : SureV S u) : v = u := by
  obtain ⟨f, rfl, hf⟩ := h
  obtain ⟨g, rfl, hg⟩ := k
  exact vec_congr fun i hi => (hf i hi).uniq (hg i hi)
theorem SureV.covers {S : CS} (hg : CGood S) {v : List Int} (h : SureV S v) : covL v S.out = true := by
  obtain ⟨f, rfl, hf⟩ := h
  refine covL_iff.2 fun i hi => ?_
  have hfit : Fit f := fun j hj => (hf j hj).cl hg
  rw [vec_at hfit hi]
  exact (hf i hi).lo
/-- The sites of which something is held, but not what is next. -/
def lackB (S : CS) (i : Int) : Bool := (S.L.any fun r => decide (r.st.s = i)) && !(hasB S.L i (atL S.out i + 1))
def lackTo (S : CS) (k : Nat) : List Int := ((List.range k).map fun i : Nat => (i : Int)).filter (lackB S)
def lackL (S : CS) : List Int := lackTo S 8
theorem lackTo_step (S : CS) (k : Nat) : lackTo S (k + 1) = if lackB S (k : Int) = true then lackTo S k ++ [(k : Int)] else lackTo S k := by
  unfold lackTo
  rw [List.range_succ, List.map_append, List.filter_append]
  cases e : lackB S (k : Int) <;> simp [e]
theorem lackTo_len (S : CS) (k : Nat) : (lackTo S k).length ≤ k := by
  unfold lackTo
  refine Nat.le_trans (List.length_filter_le _ _) ?_
  simp
theorem lack_nil {S : CS} (h : S.L = []) : lackL S = [] := by
  unfold lackL lackTo
  rw [List.filter_eq_nil_iff]
  intro a _
  unfold lackB
  rw [h]; simp
end Go.Proofs.Ythifmfgnblecbaa.Og.Cb
