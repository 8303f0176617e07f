/- Joined: WideMath, WideArith. -/
import Derived.Test.YtipjhlabcbkgjaaProg
import Derived.WalkKit
import Derived.Below
import Derived.Lib.Hide
import Derived.Laws.Externs
import Derived.Shelf.Spec.BitsCarry
import Derived.Laws.Bits64b
import Derived.Deep.Draws
import Derived.Outline
/- Plain mathematics of whole numbers of 128 bits, as two halves: it imports nothing of the program. -/
namespace Go.Proofs.Ytipjhlabcbkgjaa
namespace Wd

/-- The halves h and l are those of the number a: signed above, unsigned below. -/
structure Rep (h l a : Int) : Prop where
  lo : -9223372036854775808 ≤ h
  hi : h ≤ 9223372036854775807
  l0 : 0 ≤ l
  l1 : l ≤ 18446744073709551615
  eq : a = h * 18446744073709551616 + l

/-- The same number modulo 2^128. -/
def Cong (a b : Int) : Prop := ∃ k : Int, a = b + k * 340282366920938463463374607431768211456
/-- In range. -/
def InW (a : Int) : Prop := -170141183460469231731687303715884105728 ≤ a ∧ a ≤ 170141183460469231731687303715884105727

theorem Rep.inW {h l a : Int} (r : Rep h l a) : InW a := by
  obtain ⟨h1, h2, h3, h4, h5⟩ := r
  unfold InW; omega
theorem Rep.uniq {h l h' l' a b : Int} (r : Rep h l a) (s : Rep h' l' b) (c : Cong a b) : h = h' ∧ l = l' ∧ a = b := by
  obtain ⟨h1, h2, h3, h4, h5⟩ := r
  obtain ⟨g1, g2, g3, g4, g5⟩ := s
  obtain ⟨k, hk⟩ := c
  omega
theorem Rep.inj {h l h' l' a : Int} (r : Rep h l a) (s : Rep h' l' a) : h = h' ∧ l = l' := by
  obtain ⟨h1, h2, h3, h4, h5⟩ := r
  obtain ⟨g1, g2, g3, g4, g5⟩ := s
  omega
theorem rep_of {a : Int} (h : InW a) : ∃ x y, Rep x y a := by
  obtain ⟨h1, h2⟩ := h
  exact ⟨a / 18446744073709551616, a % 18446744073709551616, by omega, by omega, by omega, by omega, by omega⟩
/-- The number in range that is the same modulo 2^128. -/
def sm (a : Int) : Int := (a + 170141183460469231731687303715884105728) % 340282366920938463463374607431768211456 - 170141183460469231731687303715884105728
theorem sm_in (a : Int) : InW (sm a) := by unfold InW sm; omega
theorem sm_cong (a : Int) : Cong (sm a) a := by
  refine ⟨-((a + 170141183460469231731687303715884105728) / 340282366920938463463374607431768211456), ?_⟩
  unfold sm; omega
theorem sm_self {a : Int} (h : InW a) : sm a = a := by
  obtain ⟨h1, h2⟩ := h
  unfold sm; omega
theorem sm_eq {a b : Int} (h : Cong a b) : sm a = sm b := by
  obtain ⟨k, rfl⟩ := h
  unfold sm; omega
theorem rep_sm (a : Int) : ∃ x y, Rep x y (sm a) := rep_of (sm_in a)
theorem Cong.rfl {a : Int} : Cong a a := ⟨0, by omega⟩
theorem Cong.symm {a b : Int} (h : Cong a b) : Cong b a := by
  obtain ⟨k, hk⟩ := h; exact ⟨-k, by omega⟩
theorem Cong.trans {a b c : Int} (h : Cong a b) (g : Cong b c) : Cong a c := by
  obtain ⟨k, hk⟩ := h; obtain ⟨j, hj⟩ := g; exact ⟨k + j, by omega⟩
theorem Cong.add {a b c d : Int} (h : Cong a b) (g : Cong c d) : Cong (a + c) (b + d) := by
  obtain ⟨k, hk⟩ := h; obtain ⟨j, hj⟩ := g; exact ⟨k + j, by omega⟩
theorem Cong.sub {a b c d : Int} (h : Cong a b) (g : Cong c d) : Cong (a - c) (b - d) := by
  obtain ⟨k, hk⟩ := h; obtain ⟨j, hj⟩ := g; exact ⟨k - j, by omega⟩
theorem Cong.neg {a b : Int} (h : Cong a b) : Cong (-a) (-b) := by
  obtain ⟨k, hk⟩ := h; exact ⟨-k, by omega⟩
theorem Cong.mul {a b : Int} (h : Cong a b) (n : Int) : Cong (a * n) (b * n) := by
  obtain ⟨k, hk⟩ := h
  refine ⟨k * n, ?_⟩
  rw [hk, Int.add_mul, Int.mul_assoc, Int.mul_assoc, Int.mul_comm n]

/-- What the upper halves are, as the program reckons them. -/
theorem add_hi {h1 l1 a h2 l2 b h l c : Int} (A : Rep h1 l1 a) (B : Rep h2 l2 b) (C : Rep h l c) (e : Cong c (a + b)) (u1 u2 : Int) (hu1 : u1 = h1 % 18446744073709551616) (hu2 : u2 = h2 % 18446744073709551616) :
    l = (l1 + l2) % 18446744073709551616 ∧ h = ((u1 + u2 + (l1 + l2) / 18446744073709551616) % 18446744073709551616 + 9223372036854775808) % 18446744073709551616 - 9223372036854775808 := by
  obtain ⟨p1, p2, p3, p4, p5⟩ := A
  obtain ⟨q1, q2, q3, q4, q5⟩ := B
  obtain ⟨r1, r2, r3, r4, r5⟩ := C
  obtain ⟨k, hk⟩ := e
  omega
theorem sub_hi {h1 l1 a h2 l2 b h l c : Int} (A : Rep h1 l1 a) (B : Rep h2 l2 b) (C : Rep h l c) (e : Cong c (a - b)) (u1 u2 m : Int) (hu1 : u1 = h1 % 18446744073709551616) (hu2 : u2 = h2 % 18446744073709551616) (hm : m = if l1 < l2 then 1 else 0) :
    l = (l1 + 18446744073709551616 - l2) % 18446744073709551616 ∧ h = ((u1 + 18446744073709551616 - u2 - m) % 18446744073709551616 + 9223372036854775808) % 18446744073709551616 - 9223372036854775808 := by
  obtain ⟨p1, p2, p3, p4, p5⟩ := A
  obtain ⟨q1, q2, q3, q4, q5⟩ := B
  obtain ⟨r1, r2, r3, r4, r5⟩ := C
  obtain ⟨k, hk⟩ := e
  split at hm <;> omega
/-- How two numbers compare. -/
def cmp (a b : Int) : Int := if a = b then 0 else if a < b then -1 else 1
end Wd
end Go.Proofs.Ytipjhlabcbkgjaa

/- Contracts of package wide's functions that reckon, over the seat's translation. -/
namespace Go.Proofs.Ytipjhlabcbkgjaa
open Go.RowKit Go.Proofs.Ytipjhlabcbkgjaa.Wd

theorem below_new {B : Nat} {w w' : World} (h : Below B w w') (o : Obj) (hB : B ≤ w'.heap.size) : Below B w (w'.alloc o) := h.alloc hB o

/-- What was there before reads as before. -/
theorem bcell {W w1 : World} (hb : Below W.heap.size W w1) : (∀ b o, b < W.heap.size → w1.cell? ⟨b, o, none⟩ = W.cell? ⟨b, o, none⟩) ∧ (∀ b o, b < W.heap.size → w1.frozen? ⟨b, o, none⟩ = W.frozen? ⟨b, o, none⟩) :=
  ⟨fun b o h => hb.cell (p := ⟨b, o, none⟩) h, fun b o h => hb.frozen (p := ⟨b, o, none⟩) h⟩

theorem below_drewN {B : Nat} {a w : World} (h : Below B a w) (n : Nat) : Below B a (w.drewN n) := ⟨h.os, h.tape, h.output, h.size, h.block⟩
theorem below_on {w w1 w2 : World} (h : Below w.heap.size w w1) (hb : Below w1.heap.size w1 w2) : Below w.heap.size w w2 := h.trans (hb.mono h.size)
theorem below_next {B : Nat} {w w1 w2 : World} (h : Below B w w1) (hb : Below w1.heap.size w1 w2) (hB : B ≤ w1.heap.size) : Below B w w2 := h.trans (hb.mono hB)

theorem add64_run (x y c : Int) (hx : 0 ≤ x) (hy : 0 ≤ y) (hc0 : 0 ≤ c) (hc : c ≤ 1) (w : World) :
    (callFunc 66 #[.int .u64 x, .int .u64 y, .int .u64 c]).run Try.prog w =
      .ok (.value (.tuple #[.int .u64 ((x + y + c) % 18446744073709551616), .int .u64 ((x + y + c) / 18446744073709551616)])) w := by
  rw [run_callFunc_extern Try.func66 (by kernel_rfl) (by kernel_rfl) (by kernel_rfl) (e := add64Entry) (by kernel_rfl), run_add64 x y c hx hy hc0 hc]
  rfl

theorem wrap64_is (t : Int) : wrap64 t = (t + 9223372036854775808) % 18446744073709551616 - 9223372036854775808 := by unfold wrap64; rfl
theorem ret_int {k : IntKind} {a b : Int} (h : a = b) : Ending.returned (.int k a) = .returned (.int k b) := by rw [h]
theorem agg_eq {h l x y : Int} (e1 : h = x) (e2 : l = y) : Ending.returned (.agg #[.int .i64 x, .int .u64 y]) = Ending.returned (.agg #[.int .i64 h, .int .u64 l]) := by rw [e1, e2]

theorem of_any (n h l : Int) (w : World) (h0 : -9223372036854775808 ≤ n) (h1 : n ≤ 9223372036854775807) (r : Rep h l n) :
    Calls Try.prog 32 #[.int .i64 n] w fun e w' => e = .returned (.agg #[.int .i64 h, .int .u64 l]) ∧ Below w.heap.size w w' := by
  go_enter Try.func32, Try.ntmps32
  go_wp2
  refine bodyPost_ret (v := .agg #[.int .i64 (n / 9223372036854775808), .int .u64 (IntKind.u64.wrap n)]) (by simp [results, Try.results32, go_sem]) rfl ⟨?_, below_new (Below.refl _ _) _ (Nat.le_refl _)⟩
  obtain ⟨r1, r2, r3, r4, r5⟩ := r
  rw [IntKind.wrap_u64]
  exact agg_eq (by omega) (by omega)

/-- The call under names of its own: nothing with great numerals lies in the walk's context. -/
theorem add64_is (x y c : Int) (hx : 0 ≤ x) (hy : 0 ≤ y) (hc0 : 0 ≤ c) (hc : c ≤ 1) : ∃ s o : Int, (∀ w, (callFunc 66 #[.int .u64 x, .int .u64 y, .int .u64 c]).run Try.prog w =
      .ok (.value (.tuple #[.int .u64 s, .int .u64 o])) w) ∧ Hid (s = (x + y + c) % 18446744073709551616 ∧ o = (x + y + c) / 18446744073709551616) :=
  ⟨_, _, fun w => add64_run x y c hx hy hc0 hc w, ⟨rfl, rfl⟩⟩

set_option maxHeartbeats 400000 in
theorem add_any (h1 l1 h2 l2 h l a b c : Int) (w : World) (A : Rep h1 l1 a) (B : Rep h2 l2 b) (C : Rep h l c) (E : Cong c (a + b)) :
    Calls Try.prog 35 #[.agg #[.int .i64 h1, .int .u64 l1], .agg #[.int .i64 h2, .int .u64 l2]] w fun e w' => e = .returned (.agg #[.int .i64 h, .int .u64 l]) ∧ Below w.heap.size w w' := by
  obtain ⟨s, o, k1, H1⟩ := add64_is l1 l2 0 A.l0 B.l0 (by decide) (by decide)
  have ho : 0 ≤ o ∧ o ≤ 1 := by
    have e := H1.out.2; have := A.l0; have := A.l1; have := B.l0; have := B.l1
    omega
  have u0 : ∀ x : Int, 0 ≤ IntKind.u64.wrap x := by intro x; rw [IntKind.wrap_u64]; omega
  obtain ⟨t, q, k2, H2⟩ := add64_is (IntKind.u64.wrap h1) (IntKind.u64.wrap h2) o (u0 _) (u0 _) ho.1 ho.2
  clear ho u0
  go_enter Try.func35, Try.ntmps35
  go_wp2
  refine bodyPost_ret (v := .agg #[.int .i64 (wrap64 t), .int .u64 s]) (by simp [results, Try.results35, go_sem]) rfl ⟨?_, by repeat (first | exact Below.refl _ _ | (refine below_new ?_ _ (by simp; try omega)))⟩
  obtain ⟨e1, e2⟩ := H1.out
  obtain ⟨e3, _⟩ := H2.out
  obtain ⟨g1, g2⟩ := add_hi A B C E _ _ (IntKind.wrap_u64 h1) (IntKind.wrap_u64 h2)
  exact agg_eq (by rw [g2, e3, e2, wrap64_is]; simp) (by rw [g1, e1]; simp)

theorem sub64_run (x y b : Nat) (hb : b ≤ 1) (w : World) :
    (callFunc 92 #[.int .u64 x, .int .u64 y, .int .u64 b]).run Try.prog w =
      .ok (.value (.tuple #[.int .u64 (((x + 18446744073709551616 - y - b) % 18446744073709551616 : Nat) : Int), .int .u64 ((if x < y + b then 1 else 0 : Nat) : Int)])) w := by
  rw [run_callFunc_extern Try.func92 (by kernel_rfl) (by kernel_rfl) (by kernel_rfl) (e := sub64Entry) (by kernel_rfl), run_sub64 x y b hb]
  rfl
theorem sub64_is (x y c : Int) (hx : 0 ≤ x) (hy : 0 ≤ y) (hc0 : 0 ≤ c) (hc : c ≤ 1) (hy1 : y ≤ 18446744073709551615) : ∃ s o : Int, (∀ w, (callFunc 92 #[.int .u64 x, .int .u64 y, .int .u64 c]).run Try.prog w =
      .ok (.value (.tuple #[.int .u64 s, .int .u64 o])) w) ∧ Hid (s = (x + 18446744073709551616 - y - c) % 18446744073709551616 ∧ o = if x < y + c then 1 else 0) := by
  obtain ⟨x, rfl⟩ := Int.eq_ofNat_of_zero_le hx
  obtain ⟨y, rfl⟩ := Int.eq_ofNat_of_zero_le hy
  obtain ⟨c, rfl⟩ := Int.eq_ofNat_of_zero_le hc0
  refine ⟨_, _, fun w => sub64_run x y c (by omega) w, ?_, ?_⟩
  · omega
  · split <;> split <;> omega

set_option maxHeartbeats 400000 in
theorem sub_any (h1 l1 h2 l2 h l a b c : Int) (w : World) (A : Rep h1 l1 a) (B : Rep h2 l2 b) (C : Rep h l c) (E : Cong c (a - b)) :
    Calls Try.prog 84 #[.agg #[.int .i64 h1, .int .u64 l1], .agg #[.int .i64 h2, .int .u64 l2]] w fun e w' => e = .returned (.agg #[.int .i64 h, .int .u64 l]) ∧ Below w.heap.size w w' := by
  obtain ⟨s, o, k1, H1⟩ := sub64_is l1 l2 0 A.l0 B.l0 (by decide) (by decide) B.l1
  have ho : 0 ≤ o ∧ o ≤ 1 := by
    have e := H1.out.2
    split at e <;> omega
  have u0 : ∀ x : Int, 0 ≤ IntKind.u64.wrap x := by intro x; rw [IntKind.wrap_u64]; omega
  have u1 : ∀ x : Int, IntKind.u64.wrap x ≤ 18446744073709551615 := by intro x; rw [IntKind.wrap_u64]; omega
  obtain ⟨t, q, k2, H2⟩ := sub64_is (IntKind.u64.wrap h1) (IntKind.u64.wrap h2) o (u0 _) (u0 _) ho.1 ho.2 (u1 _)
  clear ho u0 u1
  go_enter Try.func84, Try.ntmps84
  go_wp2
  refine bodyPost_ret (v := .agg #[.int .i64 (wrap64 t), .int .u64 s]) (by simp [results, Try.results84, go_sem]) rfl ⟨?_, by repeat (first | exact Below.refl _ _ | (refine below_new ?_ _ (by simp; try omega)))⟩
  obtain ⟨e1, e2⟩ := H1.out
  obtain ⟨e3, _⟩ := H2.out
  obtain ⟨g1, g2⟩ := sub_hi A B C E _ _ o (IntKind.wrap_u64 h1) (IntKind.wrap_u64 h2) (by rw [e2]; simp)
  exact agg_eq (by rw [g2, e3, wrap64_is]) (by rw [g1, e1]; simp)

theorem rep_zero : Rep 0 0 0 := ⟨by decide, by decide, by decide, by decide, by decide⟩
theorem neg_any (h1 l1 h l a c : Int) (w : World) (A : Rep h1 l1 a) (C : Rep h l c) (E : Cong c (-a)) :
    Calls Try.prog 60 #[.agg #[.int .i64 (h1), .int .u64 (l1)]] w fun e w' => e = .returned (.agg #[.int .i64 (h), .int .u64 (l)]) ∧ Below w.heap.size w w' := by
  have E' : Cong c (0 - a) := by rw [Int.zero_sub]; exact E
  go_enter Try.func60, Try.ntmps60
  go_wp2_with (go_at_call 84; (with_reducible refine (sub_any 0 0 h1 l1 h l 0 a c _ rep_zero A C E').mono ?_); rintro e w1 ⟨rfl, hb⟩; obtain ⟨hc, hf⟩ := bcell hb; have hz := hb.size; (try simp at hz))
  exact bodyPost_ret (v := .agg #[.int .i64 (h), .int .u64 (l)]) (by simp [results, Try.results60, go_sem, hc]) rfl ⟨rfl, by (repeat (first | exact Below.refl _ _ | refine Below.drew ?_ | refine below_drewN ?_ _ | (refine Below.setCell ?_ (by simp; try omega) _) | (refine below_new ?_ _ (by simp; try omega)) | (refine below_on ?_ (by assumption)) | (refine below_next ?_ (by assumption) (by simp; try omega)) | assumption))⟩

set_option maxHeartbeats 400000 in
theorem cmp_any (h1 l1 h2 l2 a b : Int) (w : World) (A : Rep h1 l1 a) (B : Rep h2 l2 b) :
    Calls Try.prog 73 #[.agg #[.int .i64 (h1), .int .u64 (l1)], .agg #[.int .i64 (h2), .int .u64 (l2)]] w fun e w' => e = .returned (.int .i64 (cmp a b)) ∧ Below w.heap.size w w' := by
  go_enter Try.func73, Try.ntmps73
  go_wp2
  all_goals
    go_ret
    refine ⟨ret_int ?_, by (repeat (first | exact Below.refl _ _ | refine Below.drew ?_ | refine below_drewN ?_ _ | (refine Below.setCell ?_ (by simp; try omega) _) | (refine below_new ?_ _ (by simp; try omega)) | (refine below_on ?_ (by assumption)) | (refine below_next ?_ (by assumption) (by simp; try omega)) | assumption))⟩
    obtain ⟨p1, p2, p3, p4, p5⟩ := A
    obtain ⟨q1, q2, q3, q4, q5⟩ := B
    unfold cmp
    split <;> (try split) <;> omega

theorem mask32 (x : Int) (h0 : 0 ≤ x) (h1 : x ≤ 18446744073709551615) : bits .and .u64 x 4294967295 = x % 4294967296 := by
  obtain ⟨a, rfl⟩ := Int.eq_ofNat_of_zero_le h0
  have h := bits_and_u64_nat a 4294967295 (by omega) (by omega)
  have e : a &&& 4294967295 = a % 4294967296 := Nat.and_two_pow_sub_one_eq_mod a 32
  rw [e] at h
  exact h
theorem mul_parts (x n : Int) : x * n = (x / 4294967296 * n) * 4294967296 + x % 4294967296 * n := by
  have e : x = (x / 4294967296) * 4294967296 + x % 4294967296 := by omega
  have g : (x / 4294967296 * n) * 4294967296 = (x / 4294967296) * 4294967296 * n := by rw [Int.mul_assoc, Int.mul_comm n, ← Int.mul_assoc]
  rw [g, ← Int.add_mul, ← e]
theorem mul_le (a b c d : Int) (h0 : 0 ≤ a) (h1 : a ≤ c) (h2 : 0 ≤ b) (h3 : b ≤ d) : 0 ≤ a * b ∧ a * b ≤ c * d :=
  ⟨Int.mul_nonneg h0 h2, Int.mul_le_mul h1 h3 h2 (by omega)⟩
theorem tup2 {a b c d : Int} {k : IntKind} (h : a = b) (g : c = d) : Ending.returned (.tuple #[.int k a, .int k c]) = .returned (.tuple #[.int k b, .int k d]) := by rw [h, g]

set_option maxHeartbeats 400000 in
theorem mul64_small (x n : Int) (w : World) (hx : 0 ≤ x) (hx1 : x ≤ 18446744073709551615) (hn : 0 ≤ n) (hn1 : n ≤ 4294967295) :
    Calls Try.prog 94 #[.int .u64 x, .int .u64 n] w fun e w' => e = .returned (.tuple #[.int .u64 (x * n / 18446744073709551616), .int .u64 (x * n % 18446744073709551616)]) ∧ w = w' := by
  go_enter Try.func94, Try.ntmps94
  go_wp2
  go_ret2
  refine ⟨tup2 ?_ ?_, rfl⟩
  · obtain ⟨p1, p2⟩ := mul_le (x / 4294967296) n 4294967295 4294967295 (by omega) (by omega) hn hn1
    obtain ⟨q1, q2⟩ := mul_le (x % 4294967296) n 4294967295 4294967295 (by omega) (by omega) hn hn1
    have e3 : n / 4294967296 = 0 := by omega
    have e4 : n % 4294967296 = n := by omega
    rw [mul_parts x n, mask32 x hx hx1, mask32 n hn (by omega), e3, e4]
    generalize x / 4294967296 * n = P at *
    generalize x % 4294967296 * n = Q at *
    simp only [IntKind.wrap_u64, Int.mul_zero]
    rw [mask32 _ (by omega) (by omega)]
    omega
  · rw [IntKind.wrap_u64]

theorem times_hi {h1 l1 a h l c : Int} (n P : Int) (A : Rep h1 l1 a) (C : Rep h l c) (E : Cong c (a * n)) (hP : l1 * n = P) (u M : Int) (hu : u = h1 % 18446744073709551616) (hM : u * n = M) :
    l = P % 18446744073709551616 ∧ h = (((M % 18446744073709551616 + P / 18446744073709551616) % 18446744073709551616) + 9223372036854775808) % 18446744073709551616 - 9223372036854775808 := by
  obtain ⟨p1, p2, p3, p4, p5⟩ := A
  obtain ⟨r1, r2, r3, r4, r5⟩ := C
  obtain ⟨k, hk⟩ := E
  have e : a * n = (h1 * n) * 18446744073709551616 + P := by rw [p5, Int.add_mul, hP, Int.mul_assoc, Int.mul_comm 18446744073709551616, ← Int.mul_assoc]
  have g : h1 * n = M + (h1 / 18446744073709551616 * n) * 18446744073709551616 := by
    have f : h1 = u + h1 / 18446744073709551616 * 18446744073709551616 := by omega
    have : h1 * n = (u + h1 / 18446744073709551616 * 18446744073709551616) * n := by rw [← f]
    rw [this, Int.add_mul, hM, Int.mul_assoc (h1 / 18446744073709551616), Int.mul_comm 18446744073709551616, ← Int.mul_assoc]
  generalize h1 * n = Z at *
  generalize h1 / 18446744073709551616 * n = Y at *
  omega

set_option maxHeartbeats 400000 in
theorem times_any (h1 l1 n h l a c : Int) (w : World) (hn : 0 ≤ n) (hn1 : n ≤ 4294967295) (A : Rep h1 l1 a) (C : Rep h l c) (E : Cong c (a * n)) :
    Calls Try.prog 86 #[.agg #[.int .i64 (h1), .int .u64 (l1)], .int .u32 n] w fun e w' => e = .returned (.agg #[.int .i64 (h), .int .u64 (l)]) ∧ Below w.heap.size w w' := by
  obtain ⟨s, hs⟩ : ∃ s, l1 * n / 18446744073709551616 = s := ⟨_, rfl⟩
  obtain ⟨t, ht⟩ : ∃ t, l1 * n % 18446744073709551616 = t := ⟨_, rfl⟩
  have k1 := fun w => mul64_small l1 n w A.l0 A.l1 hn hn1
  rw [hs, ht] at k1
  have HS := Lib.hid hs
  have HT := Lib.hid ht
  clear hs ht
  go_enter Try.func86, Try.ntmps86
  go_wp2_with (go_at_call 94; (with_reducible refine (k1 _).mono ?_); rintro e w1 ⟨rfl, rfl⟩)
  obtain ⟨g1, g2⟩ := times_hi n _ A C E rfl _ _ (IntKind.wrap_u64 h1) rfl
  refine bodyPost_ret (v := .agg #[.int .i64 (wrap64 (IntKind.u64.wrap (IntKind.u64.wrap (IntKind.u64.wrap h1 * n) + s))), .int .u64 (t)]) (by simp [results, Try.results86, go_sem]) rfl ⟨agg_eq ?_ ?_, by (repeat (first | exact Below.refl _ _ | refine Below.drew ?_ | refine below_drewN ?_ _ | (refine Below.setCell ?_ (by simp; try omega) _) | (refine below_new ?_ _ (by simp; try omega)) | (refine below_on ?_ (by assumption)) | (refine below_next ?_ (by assumption) (by simp; try omega)) | assumption))⟩
  · rw [g2, wrap64_is, HS.out, IntKind.wrap_u64 (_ + s), IntKind.wrap_u64 (_ * n)]
  · rw [g1, HT.out]
end Go.Proofs.Ytipjhlabcbkgjaa
