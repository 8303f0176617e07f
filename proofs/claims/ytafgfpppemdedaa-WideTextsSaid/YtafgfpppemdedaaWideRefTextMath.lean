/- Long division of sixteen digits by ten, and what it writes: it imports nothing of the program. -/
import Derived.Test.YtafgfpppemdedaaWideRefMath
import Derived.Test.YtafgfpppemdedaaWideDec
namespace Go.Proofs.Ytafgfpppemdedaa
namespace Wd

theorem horn_tail (d : Nat → Int) : horn d 0 16 = tailv d 16 := by
  simp only [tailv, horn, Nat.reduceSub, Nat.zero_add, Nat.sub_zero, Nat.sub_self, Int.reducePow]; omega
theorem horn_congr (d e : Nat → Int) (k : Nat) (h : ∀ i, i < k → d i = e i) : horn d 0 k = horn e 0 k := by
  induction k with
  | zero => rfl
  | succ k ih => rw [horn, horn, ih fun i hi => h i (by omega), Nat.zero_add, h k (by omega)]
/-- The sum of the first digits. -/
def sumv (d : Nat → Int) : Nat → Int
  | 0 => 0
  | k + 1 => sumv d k + d k
theorem sumv_congr (d e : Nat → Int) (k : Nat) (h : ∀ i, i < k → d i = e i) : sumv d k = sumv e k := by
  induction k with
  | zero => rfl
  | succ k ih => rw [sumv, sumv, ih fun i hi => h i (by omega), h k (by omega)]
theorem sumv_bound (d : Nat → Int) (k : Nat) (h : ∀ i, i < k → 0 ≤ d i ∧ d i ≤ 255) : 0 ≤ sumv d k ∧ sumv d k ≤ 255 * k := by
  induction k with
  | zero => exact ⟨Int.le_refl _, by simp [sumv]⟩
  | succ k ih =>
    have h1 := ih fun i hi => h i (by omega)
    have h2 := h k (by omega)
    rw [sumv]; omega
theorem horn_nonneg (d : Nat → Int) (k : Nat) (h : ∀ i, i < k → 0 ≤ d i) : 0 ≤ horn d 0 k := by
  induction k with
  | zero => exact Int.le_refl _
  | succ k ih =>
    have h1 := ih fun i hi => h i (by omega)
    have h2 := h k (by omega)
    rw [horn, Nat.zero_add]; omega
theorem sumv_zero (d : Nat → Int) (k : Nat) (h : ∀ i, i < k → 0 ≤ d i ∧ d i ≤ 255) : sumv d k = 0 ↔ horn d 0 k = 0 := by
  induction k with
  | zero => exact ⟨fun _ => rfl, fun _ => rfl⟩
  | succ k ih =>
    have h1 := ih fun i hi => h i (by omega)
    have h2 := h k (by omega)
    have h3 := (sumv_bound d k fun i hi => h i (by omega)).1
    have h4 := horn_nonneg d k fun i hi => (h i (by omega)).1
    rw [sumv, horn, Nat.zero_add]; omega
/-- One step of the division. -/
theorem div_step {f g g' : Nat → Int} {k : Nat} {r v : Int} (h : horn f 0 k = horn g 0 k * 10 + r) (hv : v = r * 256 + f k) (hg : g' k = v / 10) (hold : ∀ i, i < k → g' i = g i) : horn f 0 (k + 1) = horn g' 0 (k + 1) * 10 + v % 10 := by
  rw [horn, horn, horn_congr g' g k hold, h, Nat.zero_add, hg]; omega

theorem dec_small {n : Nat} (h : n < 10) : dec n = [UInt8.ofNat (48 + n)] := by
  by_cases h0 : n = 0
  · subst h0; rfl
  · unfold dec
    rw [if_neg h0, decz_step n h0 (by omega), show n / 10 = 0 by omega, decz_zero, List.nil_append, Nat.mod_eq_of_lt h]
theorem dec_great {n : Nat} (h : ¬ n < 10) (hb : n < 10000000000000000000000000000000000000000) : dec n = dec (n / 10) ++ [UInt8.ofNat (48 + n % 10)] := by
  unfold dec
  rw [if_neg (by omega), if_neg (by omega), decz_step n (by omega) hb]

/-- The digits of a number that is not below 0, in 128 bits, are its own. -/
theorem tailv_exact {h l a : Int} (A : Rep h l a) : tailv (dg h l) 16 = a % 340282366920938463463374607431768211456 := by
  obtain ⟨k, hk⟩ := tailv_dg A
  have h1 := horn_full (d := dg h l) (o := 0) fun i _ _ => dg_range h l i
  have h2 := horn_full (d := dg h l) (o := 8) fun i _ _ => dg_range h l i
  have h3 := tailv_horn (dg h l)
  omega
end Wd
end Go.Proofs.Ytafgfpppemdedaa
