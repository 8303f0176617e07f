/- Plain mathematics of aggregates. -/
import Derived.WalkKit
import Derived.Below
import Derived.WalkSmall
import Derived.Lib.Hide
import Derived.Test.YtipjhlabcbkgjaaWideA
import Derived.Test.YtipjhlabcbkgjaaMarkA
import Derived.Test.YtipjhlabcbkgjaaWideB
set_option maxRecDepth 20000
namespace Go.Proofs.Ytipjhlabcbkgjaa.Ag
open Go.RowKit Go.Proofs.Ytipjhlabcbkgjaa Go.Proofs.Ytipjhlabcbkgjaa.Wd Go.Proofs.Ytipjhlabcbkgjaa.Vi Go.Proofs.Ytipjhlabcbkgjaa.Mk

theorem bel_next {w a b : World} (h : Below w.heap.size w a) (k : Below a.heap.size a b) : Below w.heap.size w b := h.trans (k.mono h.size)
theorem bel_new {w a : World} (h : Below w.heap.size w a) (o : Obj) : Below w.heap.size w (a.alloc o) := h.alloc h.size o
/-- One more for each digit, up to 8. -/
def bkN (x k : Nat) : Nat := if 0 < x ∧ k < 8 then bkN (x / 10) (k + 1) else k
termination_by 8 - k
/-- One more for each digit. -/
def rfN (x k : Nat) : Nat := if h : 0 < x then rfN (x / 10) (k + 1) else k
termination_by x
decreasing_by omega
theorem bkN_step {x k : Nat} (h : 0 < x ∧ k < 8) : bkN x k = bkN (x / 10) (k + 1) := by rw [bkN, if_pos h]
theorem bkN_end {x k : Nat} (h : ¬ (0 < x ∧ k < 8)) : bkN x k = k := by rw [bkN, if_neg h]
theorem rfN_step {x k : Nat} (h : 0 < x) : rfN x k = rfN (x / 10) (k + 1) := by rw [rfN, dif_pos h]
theorem rfN_end {x k : Nat} (h : ¬ 0 < x) : rfN x k = k := by rw [rfN, dif_neg h]
theorem rfN_ge (x : Nat) : ∀ k, k ≤ rfN x k := by
  induction x using Nat.strongRecOn with
  | ind x ih =>
    intro k
    by_cases h : 0 < x
    · rw [rfN_step h]; have := ih (x / 10) (by omega) (k + 1); omega
    · rw [rfN_end h]; exact Nat.le_refl _
theorem bk_rf (x : Nat) : ∀ k, k ≤ 8 → bkN x k = min 8 (rfN x k) := by
  induction x using Nat.strongRecOn with
  | ind x ih =>
    intro k hk
    by_cases h : 0 < x
    · by_cases h2 : k < 8
      · rw [bkN_step ⟨h, h2⟩, rfN_step h]; exact ih (x / 10) (by omega) (k + 1) (by omega)
      · rw [bkN_end (by omega)]; have := rfN_ge x k; omega
    · rw [bkN_end (by omega), rfN_end h]; omega
theorem rfN_le (x : Nat) : ∀ k, rfN x k ≤ x + k := by
  induction x using Nat.strongRecOn with
  | ind x ih =>
    intro k
    by_cases h : 0 < x
    · rw [rfN_step h]; have := ih (x / 10) (by omega) (k + 1); omega
    · rw [rfN_end h]; omega
/-- The bucket of a value. -/
def bk (v : Int) : Nat := if v < 0 then 0 else bkN v.toNat 1
theorem bk_le (v : Int) : bk v ≤ 8 := by
  unfold bk
  split
  · omega
  · rw [bk_rf _ _ (by omega)]; omega

/-- The halves of a number. -/
def wh (s : Int) : Int := s / 18446744073709551616
def wl (s : Int) : Int := s % 18446744073709551616
theorem wrep {s : Int} (h : InW s) : Rep (wh s) (wl s) s := by
  obtain ⟨h1, h2⟩ := h
  unfold wh wl
  exact ⟨by omega, by omega, by omega, by omega, by omega⟩
theorem inW_small {v : Int} (h : -9223372036854775808 ≤ v ∧ v ≤ 9223372036854775807) : InW v := ⟨by omega, by omega⟩
/-- What is known of some samples. -/
structure Ag where
  n : Int
  s : Int
  mn : Int
  mx : Int
  la : Int
  st : St
  b : Nat → Int
def agV (a : Ag) : Value := .agg #[.int .i64 a.n, .int .i64 (wh a.s), .int .u64 (wl a.s), .int .i64 a.mn, .int .i64 a.mx, .int .i64 a.la, .int .i64 a.st.c, .int .i64 a.st.s, .int .i64 a.st.q,
  .int .i64 (a.b 0), .int .i64 (a.b 1), .int .i64 (a.b 2), .int .i64 (a.b 3), .int .i64 (a.b 4), .int .i64 (a.b 5), .int .i64 (a.b 6), .int .i64 (a.b 7), .int .i64 (a.b 8)]
def b9V (b : Nat → Int) : Value := .agg #[.int .i64 (b 0), .int .i64 (b 1), .int .i64 (b 2), .int .i64 (b 3), .int .i64 (b 4), .int .i64 (b 5), .int .i64 (b 6), .int .i64 (b 7), .int .i64 (b 8)]
structure Ag.fits (a : Ag) : Prop where
  n : -9223372036854775808 ≤ a.n ∧ a.n ≤ 9223372036854775807
  s : InW a.s
  mn : -9223372036854775808 ≤ a.mn ∧ a.mn ≤ 9223372036854775807
  mx : -9223372036854775808 ≤ a.mx ∧ a.mx ≤ 9223372036854775807
  la : -9223372036854775808 ≤ a.la ∧ a.la ≤ 9223372036854775807
  b : ∀ i, -9223372036854775808 ≤ a.b i ∧ a.b i ≤ 9223372036854775807
def Ag.zero : Ag := ⟨0, 0, 0, 0, 0, ⟨0, 0, 0⟩, fun _ => 0⟩
def w64 (x : Int) : Int := IntKind.i64.wrap x
theorem w64_in (x : Int) : -9223372036854775808 ≤ w64 x ∧ w64 x ≤ 9223372036854775807 := by unfold w64; rw [IntKind.wrap_i64]; omega
theorem w64_self {x : Int} (h : -9223372036854775808 ≤ x ∧ x ≤ 9223372036854775807) : w64 x = x := by unfold w64; rw [IntKind.wrap_i64]; omega
def oneA (v : Int) (st : St) : Ag := ⟨1, v, v, v, v, st, fun i => if i = bk v then 1 else 0⟩
def mgA (a c : Ag) : Ag := if a.n = 0 then c else if c.n = 0 then a else
  ⟨w64 (a.n + c.n), sm (a.s + c.s), min a.mn c.mn, max a.mx c.mx, if a.st.lt c.st then c.la else a.la, if a.st.lt c.st then c.st else a.st, fun i => w64 (a.b i + c.b i)⟩
theorem oneA_fits {v : Int} {st : St} (h : -9223372036854775808 ≤ v ∧ v ≤ 9223372036854775807) : (oneA v st).fits := ⟨by simp [oneA], inW_small h, h, h, h, fun i => by simp only [oneA]; split <;> omega⟩
theorem zero_fits : Ag.zero.fits := ⟨by simp [Ag.zero], inW_small (by simp [Ag.zero]), by simp [Ag.zero], by simp [Ag.zero], by simp [Ag.zero], fun i => by simp [Ag.zero]⟩
theorem mgA_fits {a c : Ag} (ha : a.fits) (hc : c.fits) : (mgA a c).fits := by
  unfold mgA
  split
  · exact hc
  · split
    · exact ha
    · have h1 := ha.mn; have h2 := hc.mn; have h3 := ha.mx; have h4 := hc.mx
      refine ⟨w64_in _, sm_in _, by dsimp only; omega, by dsimp only; omega, ?_, fun i => w64_in _⟩
      dsimp only
      split
      · exact hc.la
      · exact ha.la
end Go.Proofs.Ytipjhlabcbkgjaa.Ag
