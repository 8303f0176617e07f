/- A log as mathematics: what it knows, its base, what each call makes of it. -/
import Derived.Test.YthifmfgnblecbaaSampleG
import Derived.Test.YthifmfgnblecbaaMarkC
set_option maxRecDepth 20000
set_option linter.unusedSimpArgs false
set_option linter.unusedVariables false
namespace Go.Proofs.Ythifmfgnblecbaa.Og
open Go.RowKit Go.Proofs.Ythifmfgnblecbaa.Vi Go.Proofs.Ythifmfgnblecbaa.Mk

/-- What is known behind the records l, of what was known ahead of them. -/
def knowL : List Int → List Rec → List Int
  | v, [] => v
  | v, r :: t => knowL (withL v r.st.s r.st.q) t
theorem knowL_append (v : List Int) (l m : List Rec) : knowL v (l ++ m) = knowL (knowL v l) m := by
  induction l generalizing v with
  | nil => rfl
  | cons r t ih => exact ih _
/-- Each record comes behind what it depends on, and its site's number is the next one. -/
def chain : List Int → List Rec → Prop
  | _, [] => True
  | v, r :: t => r.ok = true ∧ r.st.q = atL v r.st.s + 1 ∧ covL v r.d = true ∧ chain (withL v r.st.s r.st.q) t
theorem chain_append (v : List Int) (l m : List Rec) : chain v (l ++ m) ↔ chain v l ∧ chain (knowL v l) m := by
  induction l generalizing v with
  | nil => simp [chain, knowL]
  | cons r t ih => simp only [List.cons_append, chain, knowL, ih]; constructor <;> simp_all
theorem chain_ok {v : List Int} {l : List Rec} (h : chain v l) : ∀ r ∈ l, r.ok = true := by
  induction l generalizing v with
  | nil => intro r hr; cases hr
  | cons a t ih =>
    intro r hr
    rcases List.mem_cons.1 hr with rfl | hr
    · exact h.1
    · exact ih h.2.2.2 r hr
theorem Rec.ok_st {r : Rec} (h : r.ok = true) : r.st.ok = true := by
  unfold Rec.ok at h
  have h := (Bool.and_eq_true _ _ ▸ h).1
  unfold Rec.head at h
  simp only [Bool.and_eq_true] at h
  exact h.1.2
theorem Rec.ok_at {r : Rec} (h : r.ok = true) : atL r.d r.st.s = r.st.q - 1 := by
  unfold Rec.ok at h
  have h := (Bool.and_eq_true _ _ ▸ h).1
  unfold Rec.head at h
  simp only [Bool.and_eq_true, decide_eq_true_eq] at h
  exact h.2
theorem St.ok_parts {a : St} (h : a.ok = true) : 1 ≤ a.c ∧ a.c ≤ 1099511627776 ∧ 0 ≤ a.s ∧ a.s ≤ 7 ∧ 1 ≤ a.q ∧ a.q ≤ 1099511627776 := by
  unfold St.ok at h; simpa using h
theorem Rec.ok_parts {r : Rec} (h : r.ok = true) : 1 ≤ r.st.c ∧ r.st.c ≤ 1099511627776 ∧ 0 ≤ r.st.s ∧ r.st.s ≤ 7 ∧ 1 ≤ r.st.q ∧ r.st.q ≤ 1099511627776 := St.ok_parts (Rec.ok_st h)
theorem Rec.err_ok {r : Rec} : r.err = 0 ↔ r.ok = true := by unfold Rec.err; split <;> simp_all
theorem nameL_size {s : List UInt8} (h : nameL s = true) : s.length ≤ 40 := by
  have : ¬ (s.length < 1 ∨ 40 < s.length) := fun k => by rw [nameL_short k] at h; cases h
  omega
theorem Rec.ok_name {r : Rec} (h : r.ok = true) : r.s.size ≤ 40 := by
  unfold Rec.ok at h
  simp only [Bool.and_eq_true, Bool.or_eq_true, decide_eq_true_eq] at h
  rcases h.2 with h | h
  · have := nameL_size h.1.2
    rw [← ByteArray.size_data]
    simpa using this
  · rw [h.1.1.2]; decide
theorem Rec.ok_plain {r : Rec} (h : r.ok = true) : sameL r.d (plainL r.d) = true := by
  unfold Rec.ok at h
  have h := (Bool.and_eq_true _ _ ▸ h).1
  unfold Rec.head at h
  simp only [Bool.and_eq_true] at h
  exact h.1.1.2
/-- The numbers of a site, whatever site it is. -/
theorem atL_withI (a : List Int) (s n : Int) {x : Int} (h : 0 ≤ x ∧ x ≤ 7) : atL (withL a s n) x = if x = s then cl n else atL a x := by
  obtain ⟨k, rfl⟩ := Int.eq_ofNat_of_zero_le h.1
  exact atL_with a s n (by omega)
theorem atL_plainI (a : List Int) (x : Int) : atL (plainL a) x = atL a x := by
  by_cases h : x < 0 ∨ 7 < x
  · rw [atL_out h, atL_out h]
  · obtain ⟨k, rfl⟩ := Int.eq_ofNat_of_zero_le (show 0 ≤ x by omega)
    exact atL_plain a (by omega)
theorem vec_of_plain {a b : List Int} (ha : plainL a = a) (hb : plainL b = b) (h : ∀ i : Nat, i < 8 → atL a (i : Int) = atL b (i : Int)) : a = b := by
  rw [← ha, ← hb]
  exact vec_congr fun i hi => h i hi
theorem plain_plain (a : List Int) : plainL (plainL a) = plainL a := plain_vec (atL_fit a)
theorem know_plain {v : List Int} (h : plainL v = v) (l : List Rec) : plainL (knowL v l) = knowL v l := by
  induction l generalizing v with
  | nil => exact h
  | cons r t ih => exact ih (plain_with _ _ _)
/-- A number that was known stays known. -/
theorem with_up {v : List Int} {r : Rec} (hq : r.st.q = atL v r.st.s + 1) (hr : 1 ≤ r.st.q ∧ r.st.q ≤ 1099511627776) {x : Int} (h : 0 ≤ x ∧ x ≤ 7) : atL v x ≤ atL (withL v r.st.s r.st.q) x := by
  rw [atL_withI _ _ _ h]
  split
  · rename_i e; rw [cl_in (by omega) (by omega), e]; omega
  · omega
theorem know_up {v : List Int} {l : List Rec} (hc : chain v l) {x : Int} (h : 0 ≤ x ∧ x ≤ 7) : atL v x ≤ atL (knowL v l) x := by
  induction l generalizing v with
  | nil => exact Int.le_refl _
  | cons r t ih =>
    have hp := Rec.ok_parts hc.1
    exact Int.le_trans (with_up hc.2.1 ⟨hp.2.2.2.2.1, hp.2.2.2.2.2⟩ h) (ih hc.2.2.2)
/-- What the first record of a site tells of the base. -/
def firstQ (l : List Rec) (i z : Int) : Int := match l with
  | [] => z
  | r :: t => if r.st.s = i then r.st.q - 1 else firstQ t i z
theorem firstQ_is {v : List Int} {l : List Rec} (hc : chain v l) {x : Int} (h : 0 ≤ x ∧ x ≤ 7) : firstQ l x (atL (knowL v l) x) = atL v x := by
  induction l generalizing v with
  | nil => rfl
  | cons r t ih =>
    unfold firstQ
    by_cases e : r.st.s = x
    · rw [if_pos e, ← e]; have := hc.2.1; omega
    · rw [if_neg e]
      show firstQ t x (atL (knowL (withL v r.st.s r.st.q) t) x) = _
      rw [ih hc.2.2.2, atL_withI _ _ _ h, if_neg (fun k => e k.symm)]
theorem firstQ_bounds {v : List Int} {l : List Rec} (hc : chain v l) {x : Int} (h : 0 ≤ x ∧ x ≤ 7) : 0 ≤ firstQ l x (atL (knowL v l) x) ∧ firstQ l x (atL (knowL v l) x) ≤ 1099511627776 := by
  rw [firstQ_is hc h]; exact atL_bounds _ _
def baseV (l : List Rec) (k : List Int) : List Int := vec fun i => cl (firstQ l (i : Int) (atL k (i : Int)))
theorem baseV_is {v : List Int} {l : List Rec} (hv : plainL v = v) (hc : chain v l) : baseV l (knowL v l) = v := by
  refine Eq.trans (vec_congr fun i hi => ?_) hv
  rw [firstQ_is hc (by omega)]
  exact cl_in (atL_bounds _ _).1 (atL_bounds _ _).2
/-- v does not cover r. -/
def beyB (v : List Int) (r : Rec) : Bool := decide (atL v r.st.s < r.st.q)
def trimN (v : List Int) : List Rec → Nat
  | [] => 0
  | r :: t => if beyB v r then 0 else trimN v t + 1
theorem trimN_le (v : List Int) (l : List Rec) : trimN v l ≤ l.length := by
  induction l with
  | nil => exact Nat.le_refl _
  | cons r t ih => unfold trimN; rw [List.length_cons]; split <;> omega
theorem trimN_before {v : List Int} {l : List Rec} : ∀ {k : Nat} (h : k < l.length), k < trimN v l → beyB v l[k] = false := by
  induction l with
  | nil => intro k h; simp at h
  | cons r t ih =>
    intro k h hk
    unfold trimN at hk
    by_cases e : beyB v r = true
    · rw [if_pos e] at hk; omega
    · rw [if_neg e] at hk
      cases k with
      | zero => simpa using e
      | succ k => exact ih (by simpa using h) (by omega)
theorem trimN_at {v : List Int} {l : List Rec} (h : trimN v l < l.length) : beyB v l[trimN v l] = true := by
  induction l with
  | nil => simp at h
  | cons r t ih =>
    by_cases e : beyB v r = true
    · have : trimN v (r :: t) = 0 := if_pos e
      simp only [this, List.getElem_cons_zero]; exact e
    · have e2 : trimN v (r :: t) = trimN v t + 1 := if_neg e
      simp only [e2, List.getElem_cons_succ]
      exact ih (by rw [e2, List.length_cons] at h; omega)
theorem trimN_eq {v : List Int} {l : List Rec} {k : Nat} (hk : k ≤ l.length) (hb : ∀ j (h : j < l.length), j < k → beyB v l[j] = false) (he : k = l.length ∨ ∃ h : k < l.length, beyB v l[k] = true) : trimN v l = k := by
  have hle := trimN_le v l
  by_cases c1 : trimN v l < k
  · have := hb (trimN v l) (by omega) c1
    rw [trimN_at (by omega)] at this
    cases this
  · by_cases c2 : k < trimN v l
    · rcases he with he | ⟨h, he⟩
      · omega
      · rw [trimN_before h c2] at he; cases he
    · omega
/-- The first records that v does not cover. -/
def aftL (v : List Int) (l : List Rec) : List Rec := l.filter (beyB v)
theorem aftL_step (v : List Int) (l : List Rec) (k : Nat) (h : k < l.length) : aftL v (l.take (k + 1)) = if beyB v l[k] then aftL v (l.take k) ++ [l[k]] else aftL v (l.take k) := by
  unfold aftL
  rw [List.take_succ_eq_append_getElem h, List.filter_append]
  by_cases e : beyB v l[k] = true
  · rw [if_pos e]; simp [e]
  · rw [if_neg e]; simp [e]
theorem aftL_le (v : List Int) (l : List Rec) : (aftL v l).length ≤ l.length := List.length_filter_le _ _
/-- So many of them. -/
def someL (v : List Int) (l : List Rec) (most : Int) : List Rec := (aftL v l).take most.toNat
theorem someL_full {v : List Int} {l : List Rec} {most : Int} {k : Nat} (hk : k ≤ l.length) (h1 : (aftL v (l.take k)).length ≤ most.toNat) (h2 : most ≤ ((aftL v (l.take k)).length : Int)) : someL v l most = aftL v (l.take k) := by
  unfold someL
  have e : aftL v l = aftL v (l.take k) ++ aftL v (l.drop k) := by
    unfold aftL; rw [← List.filter_append, List.take_append_drop]
  rw [e, List.take_append_of_le_length (by omega), List.take_of_length_le (by omega)]
theorem someL_end {v : List Int} {l : List Rec} {most : Int} (h : (aftL v l).length ≤ most.toNat) : someL v l most = aftL v l := List.take_of_length_le h
/-- The record of a site with a number. -/
def getL (l : List Rec) (s q : Int) : Option Rec := l.find? fun r => r.st.s == s && r.st.q == q
theorem getL_none {l : List Rec} {s q : Int} (h : ∀ j (hj : j < l.length), (l[j].st.s == s && l[j].st.q == q) = false) : getL l s q = none := by
  unfold getL
  rw [List.find?_eq_none]
  intro x hx
  obtain ⟨j, hj, rfl⟩ := List.getElem_of_mem hx
  simp only [h j hj]; simp
theorem getL_some {l : List Rec} {s q : Int} {k : Nat} (hk : k < l.length) (h : ∀ j (hj : j < l.length), j < k → (l[j].st.s == s && l[j].st.q == q) = false) (he : (l[k].st.s == s && l[k].st.q == q) = true) : getL l s q = some l[k] := by
  unfold getL
  induction l generalizing k with
  | nil => simp at hk
  | cons r t ih =>
    cases k with
    | zero => rw [List.find?_cons_of_pos (by simpa using he)]; rfl
    | succ k =>
      have h0 := h 0 (by simp) (by omega)
      rw [List.find?_cons_of_neg (by simpa using h0)]
      exact ih (by simpa using hk) (fun j hj hjk => h (j + 1) (by simpa using hj) (by omega)) he
/-- A log. -/
structure OS where
  room : Int
  base : List Int
  L : List Rec
  clock : Int
def OS.know (S : OS) : List Int := knowL S.base S.L
structure Good (S : OS) : Prop where
  rm : 0 ≤ S.room ∧ S.room ≤ 400
  plain : plainL S.base = S.base
  ch : chain S.base S.L
  len : (S.L.length : Int) ≤ S.room
  ck : 0 ≤ S.clock ∧ S.clock ≤ 1099511627776
def newS (room : Int) (base : List Int) : OS := ⟨min (max room 0) 400, plainL base, [], 0⟩
theorem newS_good (room : Int) (base : List Int) : Good (newS room base) := ⟨by unfold newS; dsimp only; omega, plain_plain _, trivial, by unfold newS; dsimp only [List.length_nil]; omega, by unfold newS; dsimp only; omega⟩
def addE (S : OS) (r : Rec) : Int := if r.ok = false then 1 else if ¬ (r.st.q = atL S.know r.st.s + 1 ∧ covL S.know r.d = true) then 17 else if S.room - (S.L.length : Int) = 0 then 15 else 0
def addS (S : OS) (r : Rec) : OS := if addE S r = 0 then ⟨S.room, S.base, S.L ++ [r], max S.clock r.st.c⟩ else S
theorem addE_zero {S : OS} {r : Rec} (h : addE S r = 0) : r.ok = true ∧ r.st.q = atL S.know r.st.s + 1 ∧ covL S.know r.d = true ∧ S.room - (S.L.length : Int) ≠ 0 := by
  unfold addE at h
  split at h
  · omega
  · split at h
    · omega
    · split at h
      · omega
      · rename_i h1 h2 h3
        exact ⟨by simpa using h1, (Decidable.not_not.1 h2).1, (Decidable.not_not.1 h2).2, h3⟩
theorem addE_arg {S : OS} {r : Rec} (h : r.ok = false) : addE S r = 1 := if_pos h
theorem addE_order {S : OS} {r : Rec} (h : r.ok = true) (k : ¬ (r.st.q = atL S.know r.st.s + 1 ∧ covL S.know r.d = true)) : addE S r = 17 := by unfold addE; rw [if_neg (by rw [h]; decide), if_pos k]
theorem addE_full {S : OS} {r : Rec} (h : r.ok = true) (k : r.st.q = atL S.know r.st.s + 1 ∧ covL S.know r.d = true) (f : S.room - (S.L.length : Int) = 0) : addE S r = 15 := by unfold addE; rw [if_neg (by rw [h]; decide), if_neg (by simpa using k), if_pos f]
theorem addE_yes {S : OS} {r : Rec} (h : r.ok = true) (k : r.st.q = atL S.know r.st.s + 1 ∧ covL S.know r.d = true) (f : ¬ S.room - (S.L.length : Int) = 0) : addE S r = 0 := by unfold addE; rw [if_neg (by rw [h]; decide), if_neg (by simpa using k), if_neg f]
theorem addS_no {S : OS} {r : Rec} (h : addE S r ≠ 0) : addS S r = S := if_neg h
theorem addS_yes {S : OS} {r : Rec} (h : addE S r = 0) : addS S r = ⟨S.room, S.base, S.L ++ [r], max S.clock r.st.c⟩ := if_pos h
theorem know_snoc (S : OS) (r : Rec) : knowL S.base (S.L ++ [r]) = withL S.know r.st.s r.st.q := knowL_append _ _ _
theorem Good.add {S : OS} (h : Good S) (r : Rec) : Good (addS S r) := by
  by_cases e : addE S r = 0
  · obtain ⟨h1, h2, h3, h4⟩ := addE_zero e
    have hp := Rec.ok_parts h1
    rw [addS_yes e]
    refine ⟨h.rm, h.plain, (chain_append _ _ _).2 ⟨h.ch, h1, h2, h3, trivial⟩, ?_, ?_⟩
    · have := h.len; dsimp only; rw [List.length_append, List.length_singleton]; omega
    · have := h.ck; dsimp only; omega
  · rw [addS_no e]; exact h
def trimS (S : OS) (v : List Int) : OS := ⟨S.room, knowL S.base (S.L.take (trimN v S.L)), S.L.drop (trimN v S.L), S.clock⟩
theorem trim_know (S : OS) (v : List Int) : (trimS S v).know = S.know := by
  show knowL (knowL S.base (S.L.take (trimN v S.L))) (S.L.drop (trimN v S.L)) = _
  rw [← knowL_append, List.take_append_drop]; rfl
theorem trimS_none {S : OS} {v : List Int} (h : trimN v S.L = 0) : trimS S v = S := by
  unfold trimS; rw [h]; rfl
theorem Good.trim {S : OS} (h : Good S) (v : List Int) : Good (trimS S v) := by
  have hc := h.ch
  rw [← List.take_append_drop (trimN v S.L) S.L] at hc
  have hc := (chain_append _ _ _).1 hc
  refine ⟨h.rm, know_plain h.plain _, hc.2, ?_, h.ck⟩
  have := h.len
  have := trimN_le v S.L
  unfold trimS; dsimp only; rw [List.length_drop]; omega
theorem Good.know_plain {S : OS} (h : Good S) : plainL S.know = S.know := Og.know_plain h.plain _
theorem Good.base {S : OS} (h : Good S) : baseV S.L S.know = S.base := baseV_is h.plain h.ch
theorem Good.ok {S : OS} (h : Good S) : ∀ r ∈ S.L, r.ok = true := chain_ok h.ch
theorem Good.l400 {S : OS} (h : Good S) : S.L.length ≤ 400 := by have := h.len; have := h.rm; omega
end Go.Proofs.Ythifmfgnblecbaa.Og
