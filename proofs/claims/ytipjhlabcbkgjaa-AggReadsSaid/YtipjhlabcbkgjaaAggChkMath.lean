/- Which aggregates may be, in plain mathematics. -/
import Derived.Test.YtipjhlabcbkgjaaAggMath
import Derived.Test.YtipjhlabcbkgjaaAggEq
set_option maxRecDepth 20000
namespace Go.Proofs.Ytipjhlabcbkgjaa.Ag
open Go.RowKit Go.Proofs.Ytipjhlabcbkgjaa Go.Proofs.Ytipjhlabcbkgjaa.Wd Go.Proofs.Ytipjhlabcbkgjaa.Vi Go.Proofs.Ytipjhlabcbkgjaa.Mk

/-- The values and the sum can be of the same samples. -/
def vOk (a : Ag) : Bool := decide (a.mn ≤ a.mx ∧ a.mn ≤ a.la ∧ a.la ≤ a.mx ∧ a.mn * a.n ≤ a.s ∧ a.s ≤ a.mx * a.n)
def accB (f : Nat → Int) : Nat → Int
  | 0 => 0
  | k + 1 => accB f k + f k
/-- Bucket i is as it may be. -/
def bGood (a : Ag) (i : Nat) : Prop := 0 ≤ a.b i ∧ a.b i ≤ a.n ∧ (0 < a.b i → bk a.mn ≤ i ∧ i ≤ bk a.mx)
instance (a : Ag) (i : Nat) : Decidable (bGood a i) := by unfold bGood; exact inferInstance
def bAll (a : Ag) : Bool := (List.range 9).all fun i => decide (bGood a i)
theorem bAll_iff {a : Ag} : bAll a = true ↔ ∀ i, i < 9 → bGood a i := by
  unfold bAll
  rw [List.all_eq_true]
  constructor
  · intro h i hi; exact of_decide_eq_true (h i (List.mem_range.2 hi))
  · intro h i hi; exact decide_eq_true (h i (List.mem_range.1 hi))
def bOk (a : Ag) : Bool := bAll a && (decide (accB a.b 9 = a.n) && (decide (0 < a.b (bk a.mn)) && decide (0 < a.b (bk a.mx))))
theorem bOk_iff {a : Ag} : bOk a = true ↔ (∀ i, i < 9 → bGood a i) ∧ accB a.b 9 = a.n ∧ 0 < a.b (bk a.mn) ∧ 0 < a.b (bk a.mx) := by
  unfold bOk
  rw [Bool.and_eq_true, Bool.and_eq_true, Bool.and_eq_true, bAll_iff]
  simp
theorem bOk_not {a : Ag} (h : ¬ ((∀ i, i < 9 → bGood a i) ∧ accB a.b 9 = a.n ∧ 0 < a.b (bk a.mn) ∧ 0 < a.b (bk a.mx))) : bOk a = false := by
  rw [Bool.eq_false_iff, Ne, bOk_iff]; exact h
theorem acc_bound {f : Nat → Int} {N : Int} (h : ∀ i, i < 9 → 0 ≤ f i ∧ f i ≤ N) (k : Nat) (hk : k ≤ 9) : 0 ≤ accB f k ∧ accB f k ≤ (k : Int) * N := by
  induction k with
  | zero => simp [accB]
  | succ k ih =>
    have h1 := ih (by omega)
    have h2 := h k (by omega)
    have e : ((k + 1 : Nat) : Int) * N = (k : Int) * N + N := by push_cast; rw [Int.add_mul, Int.one_mul]
    rw [e]
    unfold accB
    omega
theorem acc_bound' {f : Nat → Int} {N : Int} (hN : 0 ≤ N) (k : Nat) (hk : k ≤ 9) (h : ∀ i, i < k → 0 ≤ f i ∧ f i ≤ N) : 0 ≤ accB f k ∧ accB f k ≤ 9 * N := by
  have key : ∀ k, (∀ i, i < k → 0 ≤ f i ∧ f i ≤ N) → 0 ≤ accB f k ∧ accB f k ≤ (k : Int) * N := fun k => by
    induction k with
    | zero => intro _; simp [accB]
    | succ k ih =>
      intro h
      have h1 := ih (fun i hi => h i (by omega))
      have h2 := h k (by omega)
      have e : ((k + 1 : Nat) : Int) * N = (k : Int) * N + N := by push_cast; rw [Int.add_mul, Int.one_mul]
      rw [e]
      unfold accB
      omega
  have h1 := key k h
  have h2 := Int.mul_le_mul_of_nonneg_right (show (k : Int) ≤ 9 by omega) hN
  omega
/-- a may be. -/
def okA (a : Ag) : Bool := decide (AgSame a Ag.zero) || (decide (1 ≤ a.n ∧ a.n ≤ 1099511627776) && (vOk a && (bOk a && a.st.ok)))
def errA (a : Ag) : Int := if okA a then 0 else 1
theorem errA_zero {a : Ag} (h : AgSame a Ag.zero) : errA a = 0 := by unfold errA okA; rw [decide_eq_true h]; rfl
theorem errA_full {a : Ag} (hz : ¬ AgSame a Ag.zero) (h1 : 1 ≤ a.n) (h2 : a.n ≤ 1099511627776) (hv : vOk a = true) (hb : bOk a = true) (hs : a.st.ok = true) : errA a = 0 := by
  unfold errA okA; rw [decide_eq_false hz, decide_eq_true (And.intro h1 h2), hv, hb, hs]; rfl
theorem errA_n {a : Ag} (hz : ¬ AgSame a Ag.zero) (h : ¬ (1 ≤ a.n ∧ a.n ≤ 1099511627776)) : errA a = 1 := by
  unfold errA okA; rw [decide_eq_false hz, decide_eq_false h]; rfl
theorem errA_v {a : Ag} (hz : ¬ AgSame a Ag.zero) (hv : vOk a = false) : errA a = 1 := by
  unfold errA okA; rw [decide_eq_false hz, hv]; simp
theorem errA_b {a : Ag} (hz : ¬ AgSame a Ag.zero) (hb : bOk a = false) : errA a = 1 := by
  unfold errA okA; rw [decide_eq_false hz, hb]; simp
theorem errA_s {a : Ag} (hz : ¬ AgSame a Ag.zero) (hs : a.st.ok = false) : errA a = 1 := by
  unfold errA okA; rw [decide_eq_false hz, hs]; simp
theorem same_n {a : Ag} (h : AgSame a Ag.zero) : a.n = 0 := h.1
theorem st_err (s : St) : s.err = if s.ok then 0 else 1 := rfl
theorem cmp_pos {a b v : Int} (h : cmp a b = v) : 0 < v ↔ b < a := by
  subst h
  unfold cmp
  by_cases h1 : a < b
  · have : a ≠ b := by omega
    simp [h1, this]; omega
  · by_cases h2 : a = b
    · subst h2; simp
    · simp [h1, h2]; omega
end Go.Proofs.Ytipjhlabcbkgjaa.Ag
