/- Plain mathematics of AggMeans. -/
import Derived.Test.YtipjhlabcbkgjaaAggLaws
import Derived.Test.YtipjhlabcbkgjaaAggMean
set_option maxRecDepth 20000
namespace Go.Proofs.Ytipjhlabcbkgjaa.Ag
open Go.RowKit Go.Proofs.Ytipjhlabcbkgjaa Go.Proofs.Ytipjhlabcbkgjaa.Wd Go.Proofs.Ytipjhlabcbkgjaa.Vi Go.Proofs.Ytipjhlabcbkgjaa.Mk

def mmP (p : Pt) : Pt := { p with v := p.v.tmod 1125899906842624 }
def mmL (l : List Pt) (k : Nat) : List Pt := (l.take k).map mmP
theorem mmL_len (l : List Pt) (k : Nat) : (mmL l k).length = min k l.length := by unfold mmL; rw [List.length_map, List.length_take]
theorem mmL_step {l : List Pt} {k : Nat} (h : k < l.length) : mmL l (k + 1) = mmL l k ++ [mmP l[k]] := by unfold mmL; rw [List.take_succ_eq_append_getElem h, List.map_append]; rfl
theorem tmod_bound (x : Int) : -1125899906842624 < x.tmod 1125899906842624 ∧ x.tmod 1125899906842624 < 1125899906842624 := by
  have h1 := Int.tmod_lt_of_pos x (show (0 : Int) < 1125899906842624 by decide)
  have h2 := Int.lt_tmod_of_pos x (show (0 : Int) < 1125899906842624 by decide)
  omega
theorem mmL_bound {l : List Pt} {k : Nat} {p : Pt} (h : p ∈ mmL l k) : -1125899906842624 < p.v ∧ p.v < 1125899906842624 := by
  obtain ⟨q, -, rfl⟩ := List.mem_map.1 (show p ∈ (l.take k).map mmP from h)
  exact tmod_bound q.v
theorem mmL_fits {l : List Pt} (hf : ∀ p ∈ l, p.fits) {k : Nat} {p : Pt} (h : p ∈ mmL l k) : p.fits := by
  have hb := mmL_bound h
  obtain ⟨q, hq, rfl⟩ := List.mem_map.1 (show p ∈ (l.take k).map mmP from h)
  have hq := hf q (List.mem_of_mem_take hq)
  exact ⟨hq.s, hq.t, by omega⟩
theorem sum_lo (l : List Pt) (c : Int) (h : ∀ p ∈ l, c ≤ p.v) : c * (l.length : Int) ≤ sumV l := by
  induction l with
  | nil => simp [sumV]
  | cons p t ih =>
    have h1 := h p List.mem_cons_self
    have h2 := ih (fun q hq => h q (List.mem_cons_of_mem _ hq))
    have e : sumV (p :: t) = p.v + sumV t := by simp [sumV]
    have e2 : c * ((p :: t).length : Int) = c * (t.length : Int) + c := by rw [List.length_cons]; push_cast; rw [Int.mul_add, Int.mul_one]
    rw [e, e2]
    omega
theorem sum_hi (l : List Pt) (c : Int) (h : ∀ p ∈ l, p.v ≤ c) : sumV l ≤ c * (l.length : Int) := by
  induction l with
  | nil => simp [sumV]
  | cons p t ih =>
    have h1 := h p List.mem_cons_self
    have h2 := ih (fun q hq => h q (List.mem_cons_of_mem _ hq))
    have e : sumV (p :: t) = p.v + sumV t := by simp [sumV]
    have e2 : c * ((p :: t).length : Int) = c * (t.length : Int) + c := by rw [List.length_cons]; push_cast; rw [Int.mul_add, Int.mul_one]
    rw [e, e2]
    omega
theorem mm_sum (l : List Pt) (k : Nat) (hk : k ≤ 40) : -45035996273704960 ≤ sumV (mmL l k) ∧ sumV (mmL l k) ≤ 45035996273704960 := by
  have h1 := sum_lo (mmL l k) (-1125899906842624) (fun p hp => by have := mmL_bound hp; omega)
  have h2 := sum_hi (mmL l k) 1125899906842624 (fun p hp => by have := mmL_bound hp; omega)
  have h3 : (mmL l k).length ≤ 40 := by rw [mmL_len]; omega
  omega
/-- What the last lines ask of the mean. -/
structure MeansFacts (S q r mn mx : Int) (K : Nat) : Prop where
  q0 : -9223372036854775808 ≤ q
  q1 : q ≤ 9223372036854775807
  p0 : -45035996273704960 ≤ q * (K : Int)
  p1 : q * (K : Int) ≤ 45035996273704960
  re : S - q * (K : Int) = r
  lo : mn ≤ q
  hi : q ≤ mx
  r0 : r < (K : Int)
  r1 : -(K : Int) < r
  s0 : 0 ≤ S → 0 ≤ r
  s1 : S ≤ 0 → r ≤ 0
theorem means_facts {S mn mx : Int} {K : Nat} (hK : 1 ≤ K) (hS : -45035996273704960 ≤ S ∧ S ≤ 45035996273704960) (h1 : mn * (K : Int) ≤ S) (h2 : S ≤ mx * (K : Int)) :
    MeansFacts S (S.tdiv (K : Int)) (S.tmod (K : Int)) mn mx K := by
  have e := Int.tdiv_mul_add_tmod S (K : Int)
  have m1 := Int.tmod_lt_of_pos S (show (0 : Int) < (K : Int) by omega)
  have m2 := Int.lt_tmod_of_pos S (show (0 : Int) < (K : Int) by omega)
  have m3 : 0 ≤ S → 0 ≤ S.tmod (K : Int) := fun h => Int.tmod_nonneg _ h
  have m4 : S ≤ 0 → S.tmod (K : Int) ≤ 0 := fun h => by
    have := Int.tmod_nonneg (K : Int) (show 0 ≤ -S by omega)
    rw [Int.neg_tmod] at this
    omega
  have q0 : 0 ≤ S → 0 ≤ S.tdiv (K : Int) := fun h => Int.tdiv_nonneg h (by omega)
  have q1 : S ≤ 0 → S.tdiv (K : Int) ≤ 0 := fun h => by
    have := Int.tdiv_nonneg (show 0 ≤ -S by omega) (show (0 : Int) ≤ (K : Int) by omega)
    rw [Int.neg_tdiv] at this
    omega
  generalize hq : S.tdiv (K : Int) = q at *
  generalize hr : S.tmod (K : Int) = r at *
  generalize hp : q * (K : Int) = P at *
  have lo : mn ≤ q := by
    apply Decidable.byContradiction; intro hc
    have := Int.mul_le_mul_of_nonneg_right (show q + 1 ≤ mn by omega) (show (0 : Int) ≤ (K : Int) by omega)
    rw [Int.add_mul, Int.one_mul, hp] at this
    omega
  have hi : q ≤ mx := by
    apply Decidable.byContradiction; intro hc
    have := Int.mul_le_mul_of_nonneg_right (show mx + 1 ≤ q by omega) (show (0 : Int) ≤ (K : Int) by omega)
    rw [Int.add_mul, Int.one_mul, hp] at this
    omega
  have hqP : (0 ≤ q → q ≤ P) ∧ (q ≤ 0 → P ≤ q) := by
    have h1 := fun h : 0 ≤ q => Int.mul_le_mul_of_nonneg_left (show (1 : Int) ≤ (K : Int) by omega) h
    have h2 := fun h : 0 ≤ -q => Int.mul_le_mul_of_nonneg_left (show (1 : Int) ≤ (K : Int) by omega) h
    rw [hp, Int.mul_one] at h1
    rw [Int.neg_mul, Int.neg_mul, hp, Int.mul_one] at h2
    exact ⟨h1, fun h => by have := h2 (by omega); omega⟩
  rcases Int.le_total 0 S with h | h
  · have := q0 h; have := m3 h; have := hqP.1 (q0 h)
    exact ⟨by omega, by omega, by omega, by omega, by omega, lo, hi, m1, by omega, m3, m4⟩
  · have := q1 h; have := m4 h; have := hqP.2 (q1 h)
    exact ⟨by omega, by omega, by omega, by omega, by omega, lo, hi, m1, by omega, m3, m4⟩
end Go.Proofs.Ytipjhlabcbkgjaa.Ag
