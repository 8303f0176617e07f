/- Plain mathematics of sixteen digits to the base 256: it imports nothing of the program. -/
import Derived.Test.YtafgfpppemdedaaWideMath
namespace Go.Proofs.Ytafgfpppemdedaa
namespace Wd

/-- What the last k of sixteen numbers say to the base 256. -/
def tailv (d : Nat → Int) : Nat → Int
  | 0 => 0
  | k + 1 => tailv d k + d (15 - k) * 256 ^ k
/-- What k numbers from o on say, the first one the greatest. -/
def horn (d : Nat → Int) (o : Nat) : Nat → Int
  | 0 => 0
  | k + 1 => horn d o k * 256 + d (o + k)
/-- The digits of a number in two halves. -/
def dg (h l : Int) (i : Nat) : Int := if i < 8 then (h % 18446744073709551616) / 256 ^ (7 - i) % 256 else l / 256 ^ (15 - i) % 256
theorem dg_range (h l : Int) (i : Nat) : 0 ≤ dg h l i ∧ dg h l i ≤ 255 := by
  unfold dg; split <;> omega

theorem tailv_congr {d e : Nat → Int} (k : Nat) (h : ∀ m, m < k → d (15 - m) = e (15 - m)) : tailv d k = tailv e k := by
  induction k with
  | zero => rfl
  | succ k ih =>
    rw [tailv, tailv, ih (fun m hm => h m (by omega)), h k (by omega)]
theorem tailv_add (d e : Nat → Int) (k : Nat) : tailv (fun i => d i + e i) k = tailv d k + tailv e k := by
  induction k with
  | zero => rfl
  | succ k ih => rw [tailv, tailv, tailv, ih, Int.add_mul]; ac_rfl
theorem tailv_mul (d : Nat → Int) (n : Int) (k : Nat) : tailv (fun i => d i * n) k = tailv d k * n := by
  induction k with
  | zero => show (0 : Int) = 0 * n; rw [Int.zero_mul]
  | succ k ih => rw [tailv, tailv, ih, Int.add_mul, Int.mul_right_comm]
theorem tailv_not (d : Nat → Int) (k : Nat) : tailv (fun i => 255 - d i) k = 256 ^ k - 1 - tailv d k := by
  induction k with
  | zero => rfl
  | succ k ih =>
    rw [tailv, tailv, ih, Int.sub_mul, Int.pow_succ]
    generalize d (15 - k) * 256 ^ k = P
    generalize (256 : Int) ^ k = Q
    omega
theorem tailv_horn (d : Nat → Int) : tailv d 16 = horn d 0 8 * 18446744073709551616 + horn d 8 8 := by
  simp only [tailv, horn, Nat.reduceSub, Nat.reduceAdd, Nat.zero_add, Nat.sub_zero, Nat.sub_self, Nat.add_zero, Int.reducePow]; omega
theorem horn_range (d : Nat → Int) (o : Nat) (h : ∀ i, o ≤ i → i < o + 8 → 0 ≤ d i ∧ d i ≤ 255) : ∀ k, k ≤ 8 → 0 ≤ horn d o k ∧ horn d o k ≤ 256 ^ k - 1
  | 0, _ => ⟨by show (0 : Int) ≤ 0; decide, by show (0 : Int) ≤ 256 ^ 0 - 1; decide⟩
  | k + 1, hk => by
    have ih := horn_range d o h k (by omega)
    have := h (o + k) (by omega) (by omega)
    rw [horn, Int.pow_succ]
    generalize (256 : Int) ^ k = Q at *
    omega
theorem horn_small {d : Nat → Int} {o : Nat} (h : ∀ i, o ≤ i → i < o + 8 → 0 ≤ d i ∧ d i ≤ 255) (k : Nat) (hk : k < 8) : 0 ≤ horn d o k ∧ horn d o k ≤ 72057594037927935 := by
  have := horn_range d o h k (by omega)
  have e : (256 : Int) ^ k ≤ 256 ^ 7 := by
    have : ∀ j : Fin 8, (256 : Int) ^ j.val ≤ 256 ^ 7 := by decide
    exact this ⟨k, hk⟩
  have e2 : (256 : Int) ^ 7 = 72057594037927936 := by decide
  omega
theorem horn_full {d : Nat → Int} {o : Nat} (h : ∀ i, o ≤ i → i < o + 8 → 0 ≤ d i ∧ d i ≤ 255) : 0 ≤ horn d o 8 ∧ horn d o 8 ≤ 18446744073709551615 := by
  have := horn_range d o h 8 (by omega)
  have e2 : (256 : Int) ^ 8 = 18446744073709551616 := by decide
  omega
/-- The halves of what sixteen digits say. -/
theorem rep_horn {d : Nat → Int} (h : ∀ i, i < 16 → 0 ≤ d i ∧ d i ≤ 255) {x y a : Int} (C : Rep x y a) (e : Cong a (tailv d 16)) : x = (horn d 0 8 + 9223372036854775808) % 18446744073709551616 - 9223372036854775808 ∧ y = horn d 8 8 := by
  have h1 := horn_full (d := d) (o := 0) (fun i _ h2 => h i (by omega))
  have h2 := horn_full (d := d) (o := 8) (fun i _ h2 => h i (by omega))
  rw [tailv_horn] at e
  obtain ⟨p1, p2, p3, p4, p5⟩ := C
  obtain ⟨k, hk⟩ := e
  omega
theorem tailv_dg {h l a : Int} (A : Rep h l a) : Cong (tailv (dg h l) 16) a := by
  obtain ⟨p1, p2, p3, p4, p5⟩ := A
  refine ⟨-(h / 18446744073709551616), ?_⟩
  have e : ∀ i, i < 8 → dg h l i = (h % 18446744073709551616) / 256 ^ (7 - i) % 256 := fun i hi => by unfold dg; rw [if_pos hi]
  have g : ∀ i, ¬ i < 8 → dg h l i = l / 256 ^ (15 - i) % 256 := fun i hi => by unfold dg; rw [if_neg hi]
  simp only [tailv]
  rw [e 0 (by decide), e 1 (by decide), e 2 (by decide), e 3 (by decide), e 4 (by decide), e 5 (by decide), e 6 (by decide), e 7 (by decide), g 8 (by decide), g 9 (by decide), g 10 (by decide), g 11 (by decide), g 12 (by decide), g 13 (by decide), g 14 (by decide), g 15 (by decide)]
  rw [p5]
  have hu : h = h / 18446744073709551616 * 18446744073709551616 + h % 18446744073709551616 := by omega
  have hu0 : 0 ≤ h % 18446744073709551616 ∧ h % 18446744073709551616 ≤ 18446744073709551615 := by omega
  generalize h % 18446744073709551616 = u at *
  generalize h / 18446744073709551616 = z at *
  simp only [Nat.reduceSub, Int.reducePow, Nat.sub_zero, Nat.sub_self]
  omega
/-- One digit put right. -/
theorem carry_step {d f : Nat → Int} {k : Nat} {c : Int} (hk : k < 16) (h : tailv d k = tailv f k + c * 256 ^ k) (x y : Int) (hx : x = (d (15 - k) + c) % 256) (hy : y = (d (15 - k) + c) / 256) (g : Nat → Int) (hg1 : g (15 - k) = x) (hg2 : ∀ i, i ≠ 15 - k → g i = f i) :
    tailv d (k + 1) = tailv g (k + 1) + y * 256 ^ (k + 1) := by
  rw [tailv, tailv, h, hg1, tailv_congr (d := g) (e := f) k (fun m hm => hg2 (15 - m) (by omega)), Int.pow_succ]
  have e : d (15 - k) + c = y * 256 + x := by omega
  have : (d (15 - k) + c) * 256 ^ k = (y * 256 + x) * 256 ^ k := by rw [e]
  rw [Int.add_mul, Int.add_mul, Int.mul_assoc y, Int.mul_comm 256] at this
  omega
end Wd
end Go.Proofs.Ytafgfpppemdedaa
