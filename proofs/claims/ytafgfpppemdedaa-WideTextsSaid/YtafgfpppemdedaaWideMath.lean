/- Plain mathematics of whole numbers of 128 bits, as two halves: it imports nothing of the program. -/
namespace Go.Proofs.Ytafgfpppemdedaa
namespace Wd

/-- The halves h and l are those of the number a: signed above, unsigned below. -/
structure Rep (h l a : Int) : Prop where
  lo : -9223372036854775808 ≤ h
  hi : h ≤ 9223372036854775807
  l0 : 0 ≤ l
  l1 : l ≤ 18446744073709551615
  eq : a = h * 18446744073709551616 + l

/-- The same number modulo 2^128. -/
def Cong (a b : Int) : Prop := ∃ k : Int, a = b + k * 340282366920938463463374607431768211456
/-- In range. -/
def InW (a : Int) : Prop := -170141183460469231731687303715884105728 ≤ a ∧ a ≤ 170141183460469231731687303715884105727

theorem Rep.inW {h l a : Int} (r : Rep h l a) : InW a := by
  obtain ⟨h1, h2, h3, h4, h5⟩ := r
  unfold InW; omega
theorem Rep.uniq {h l h' l' a b : Int} (r : Rep h l a) (s : Rep h' l' b) (c : Cong a b) : h = h' ∧ l = l' ∧ a = b := by
  obtain ⟨h1, h2, h3, h4, h5⟩ := r
  obtain ⟨g1, g2, g3, g4, g5⟩ := s
  obtain ⟨k, hk⟩ := c
  omega
theorem Rep.inj {h l h' l' a : Int} (r : Rep h l a) (s : Rep h' l' a) : h = h' ∧ l = l' := by
  obtain ⟨h1, h2, h3, h4, h5⟩ := r
  obtain ⟨g1, g2, g3, g4, g5⟩ := s
  omega
theorem rep_of {a : Int} (h : InW a) : ∃ x y, Rep x y a := by
  obtain ⟨h1, h2⟩ := h
  exact ⟨a / 18446744073709551616, a % 18446744073709551616, by omega, by omega, by omega, by omega, by omega⟩
/-- The number in range that is the same modulo 2^128. -/
def sm (a : Int) : Int := (a + 170141183460469231731687303715884105728) % 340282366920938463463374607431768211456 - 170141183460469231731687303715884105728
theorem sm_in (a : Int) : InW (sm a) := by unfold InW sm; omega
theorem sm_cong (a : Int) : Cong (sm a) a := by
  refine ⟨-((a + 170141183460469231731687303715884105728) / 340282366920938463463374607431768211456), ?_⟩
  unfold sm; omega
theorem sm_self {a : Int} (h : InW a) : sm a = a := by
  obtain ⟨h1, h2⟩ := h
  unfold sm; omega
theorem sm_eq {a b : Int} (h : Cong a b) : sm a = sm b := by
  obtain ⟨k, rfl⟩ := h
  unfold sm; omega
theorem rep_sm (a : Int) : ∃ x y, Rep x y (sm a) := rep_of (sm_in a)
theorem Cong.rfl {a : Int} : Cong a a := ⟨0, by omega⟩
theorem Cong.symm {a b : Int} (h : Cong a b) : Cong b a := by
  obtain ⟨k, hk⟩ := h; exact ⟨-k, by omega⟩
theorem Cong.trans {a b c : Int} (h : Cong a b) (g : Cong b c) : Cong a c := by
  obtain ⟨k, hk⟩ := h; obtain ⟨j, hj⟩ := g; exact ⟨k + j, by omega⟩
theorem Cong.add {a b c d : Int} (h : Cong a b) (g : Cong c d) : Cong (a + c) (b + d) := by
  obtain ⟨k, hk⟩ := h; obtain ⟨j, hj⟩ := g; exact ⟨k + j, by omega⟩
theorem Cong.sub {a b c d : Int} (h : Cong a b) (g : Cong c d) : Cong (a - c) (b - d) := by
  obtain ⟨k, hk⟩ := h; obtain ⟨j, hj⟩ := g; exact ⟨k - j, by omega⟩
theorem Cong.neg {a b : Int} (h : Cong a b) : Cong (-a) (-b) := by
  obtain ⟨k, hk⟩ := h; exact ⟨-k, by omega⟩
theorem Cong.mul {a b : Int} (h : Cong a b) (n : Int) : Cong (a * n) (b * n) := by
  obtain ⟨k, hk⟩ := h
  refine ⟨k * n, ?_⟩
  rw [hk, Int.add_mul, Int.mul_assoc, Int.mul_assoc, Int.mul_comm n]

/-- What the upper halves are, as the program reckons them. -/
theorem add_hi {h1 l1 a h2 l2 b h l c : Int} (A : Rep h1 l1 a) (B : Rep h2 l2 b) (C : Rep h l c) (e : Cong c (a + b)) (u1 u2 : Int) (hu1 : u1 = h1 % 18446744073709551616) (hu2 : u2 = h2 % 18446744073709551616) :
    l = (l1 + l2) % 18446744073709551616 ∧ h = ((u1 + u2 + (l1 + l2) / 18446744073709551616) % 18446744073709551616 + 9223372036854775808) % 18446744073709551616 - 9223372036854775808 := by
  obtain ⟨p1, p2, p3, p4, p5⟩ := A
  obtain ⟨q1, q2, q3, q4, q5⟩ := B
  obtain ⟨r1, r2, r3, r4, r5⟩ := C
  obtain ⟨k, hk⟩ := e
  omega
theorem sub_hi {h1 l1 a h2 l2 b h l c : Int} (A : Rep h1 l1 a) (B : Rep h2 l2 b) (C : Rep h l c) (e : Cong c (a - b)) (u1 u2 m : Int) (hu1 : u1 = h1 % 18446744073709551616) (hu2 : u2 = h2 % 18446744073709551616) (hm : m = if l1 < l2 then 1 else 0) :
    l = (l1 + 18446744073709551616 - l2) % 18446744073709551616 ∧ h = ((u1 + 18446744073709551616 - u2 - m) % 18446744073709551616 + 9223372036854775808) % 18446744073709551616 - 9223372036854775808 := by
  obtain ⟨p1, p2, p3, p4, p5⟩ := A
  obtain ⟨q1, q2, q3, q4, q5⟩ := B
  obtain ⟨r1, r2, r3, r4, r5⟩ := C
  obtain ⟨k, hk⟩ := e
  split at hm <;> omega
/-- How two numbers compare. -/
def cmp (a b : Int) : Int := if a = b then 0 else if a < b then -1 else 1
end Wd
end Go.Proofs.Ytafgfpppemdedaa
