/- Contracts of package wide's functions that part a number, and of math/bits.Div64 by ten, over the seat's translation. -/
import Derived.Test.YtafgfpppemdedaaWideArith
import Derived.Deep.DeepCutAuto
import Derived.Deep.CutBlock
import Derived.BigQuiet
import Derived.Deep.QuietTactic
import Derived.Deep.RegionHeld3
namespace Go.Proofs.Ytafgfpppemdedaa
open Go.RowKit Go.Proofs.Ytafgfpppemdedaa.Wd

/-- Small: the lower half read as a signed number, if the number is that. -/
def isSmall (a : Int) : Bool := decide (-9223372036854775808 ≤ a ∧ a ≤ 9223372036854775807)
theorem rep_small {n : Int} (h0 : -9223372036854775808 ≤ n) (h1 : n ≤ 9223372036854775807) : ∃ x y, Rep x y n := rep_of (by unfold InW; omega)

theorem keep2 {b : Nat} {x y : Value} {w0 w1 w2 : World} (h : w1.cell? ⟨b, 0, none⟩ = some x ∧ w1.cell? ⟨b, 1, none⟩ = some y ∧ Below w0.heap.size w0 w1) (hb : Below w1.heap.size w1 w2) : w2.cell? ⟨b, 0, none⟩ = some x ∧ w2.cell? ⟨b, 1, none⟩ = some y ∧ Below w0.heap.size w0 w2 := by
  obtain ⟨h1, h2, h3⟩ := h
  exact ⟨(hb.cell (World.block_lt_of_cell? w1 _ h1)).trans h1, (hb.cell (World.block_lt_of_cell? w1 _ h2)).trans h2, h3.trans (hb.mono h3.size)⟩

set_option maxHeartbeats 400000 in
theorem small_yes (h l a : Int) (w : World) (A : Rep h l a) (hs : isSmall a = true) :
    Calls Try.prog 12 #[.agg #[.int .i64 (h), .int .u64 (l)]] w fun e w' => e = .returned (.tuple #[.int .i64 a, .bool true]) ∧ Below w.heap.size w w' := by
  have hb := of_decide_eq_true hs
  have hw : wrap64 l = a := by
    obtain ⟨p1, p2, p3, p4, p5⟩ := A
    rw [wrap64_is]; omega
  go_enter Try.func12, Try.ntmps12
  go_wp2_with fail
  go_region_held3 (fun w' => w'.cell? ⟨w.heap.size, 0, none⟩ = some (.int .i64 h) ∧ w'.cell? ⟨w.heap.size, 1, none⟩ = some (.int .u64 l) ∧ Below w.heap.size w w') ((first | exact ⟨by simp [go_sem], by simp [go_sem], by (repeat (first | exact Below.refl _ _ | refine Below.drew ?_ | refine below_drewN ?_ _ | (refine Below.setCell ?_ (by simp; try omega) _) | (refine below_new ?_ _ (by simp; try omega)) | (refine below_on ?_ (by assumption)) | (refine below_next ?_ (by assumption) (by simp; try omega)) | assumption))⟩ | exact keep2 (by assumption) (by assumption)))
    ((first | (go_at_call 27; refine (of_any a h l _ hb.1 hb.2 A).mono ?_; rintro e w' ⟨rfl, hb'⟩)))
  all_goals
    rename_i hS
    have hbel := hS.2.2
    go_wp2
    go_ret2
    exact ⟨rfl, hbel⟩

set_option maxHeartbeats 400000 in
theorem small_no (h l a : Int) (w : World) (A : Rep h l a) (hs : isSmall a = false) :
    Calls Try.prog 12 #[.agg #[.int .i64 (h), .int .u64 (l)]] w fun e w' => e = .returned (.tuple #[.int .i64 0, .bool false]) ∧ Below w.heap.size w w' := by
  have hb := of_decide_eq_false hs
  obtain ⟨n, hn⟩ : ∃ n, wrap64 l = n := ⟨_, rfl⟩
  have hn1 : -9223372036854775808 ≤ n ∧ n ≤ 9223372036854775807 := by rw [← hn, wrap64_is]; omega
  obtain ⟨x, y, X⟩ := rep_small hn1.1 hn1.2
  have hyl : y = l := by
    obtain ⟨p1, p2, p3, p4, p5⟩ := A
    obtain ⟨q1, q2, q3, q4, q5⟩ := X
    rw [wrap64_is] at hn
    omega
  rw [hyl] at X
  have hne : (x == h) = false := by
    obtain ⟨p1, p2, p3, p4, p5⟩ := A
    obtain ⟨q1, q2, q3, q4, q5⟩ := X
    rw [wrap64_is] at hn
    simp; omega
  clear hyl
  go_enter Try.func12, Try.ntmps12
  go_wp2_with fail
  go_region_held3 (fun w' => w'.cell? ⟨w.heap.size, 0, none⟩ = some (.int .i64 h) ∧ w'.cell? ⟨w.heap.size, 1, none⟩ = some (.int .u64 l) ∧ Below w.heap.size w w') ((first | exact ⟨by simp [go_sem], by simp [go_sem], by (repeat (first | exact Below.refl _ _ | refine Below.drew ?_ | refine below_drewN ?_ _ | (refine Below.setCell ?_ (by simp; try omega) _) | (refine below_new ?_ _ (by simp; try omega)) | (refine below_on ?_ (by assumption)) | (refine below_next ?_ (by assumption) (by simp; try omega)) | assumption))⟩ | exact keep2 (by assumption) (by assumption)))
    ((first | (go_at_call 27; refine (of_any n x l _ hn1.1 hn1.2 X).mono ?_; rintro e w' ⟨rfl, hb'⟩)))
  all_goals
    rename_i hS
    have hbel := hS.2.2
    go_wp2
    go_ret2
    exact ⟨rfl, hbel⟩

set_option maxRecDepth 100000 in
theorem len64_ten (w : World) : Calls Try.prog 52 #[.int .u64 10] w fun e w' => e = .returned (.int .i64 4) ∧ w = w' := by
  go_enter Try.func52, Try.ntmps52
  go_wp2
  go_ret
  exact ⟨ret_int (by kernel_rfl), rfl⟩
theorem lead64_ten (w : World) : Calls Try.prog 51 #[.int .u64 10] w fun e w' => e = .returned (.int .i64 60) ∧ w = w' := by
  go_enter Try.func51, Try.ntmps51
  go_wp2_with (go_at_call 52; (with_reducible refine (len64_ten _).mono ?_); rintro e w1 ⟨rfl, rfl⟩)
  go_ret
  exact ⟨rfl, rfl⟩

theorem or_high (x y : Int) (hx : 0 ≤ x) (hx1 : x ≤ 9) (hy : 0 ≤ y) (hy1 : y ≤ 18446744073709551615) : bits .or .u64 (x * 1152921504606846976) (y / 16) = x * 1152921504606846976 + y / 16 := by
  obtain ⟨a, rfl⟩ := Int.eq_ofNat_of_zero_le hx
  obtain ⟨b, rfl⟩ := Int.eq_ofNat_of_zero_le hy
  have h := bits_or_u64_nat (a * 1152921504606846976) (b / 16) (by omega) (by omega)
  have e : (a * 1152921504606846976) ||| (b / 16) = a * 1152921504606846976 + b / 16 := by
    have := Nat.shiftLeft_add_eq_or_of_lt (i := 60) (b := b / 16) (by omega) a
    rw [Nat.shiftLeft_eq] at this
    exact this.symm
  rw [e] at h
  simpa using h

set_option maxRecDepth 100000 in
set_option maxHeartbeats 1000000 in
theorem div64_ten (x y : Int) (w : World) (hx : 1 ≤ x) (hx1 : x ≤ 9) (hy : 0 ≤ y) (hy1 : y ≤ 18446744073709551615) :
    Calls Try.prog 48 #[.int .u64 x, .int .u64 y, .int .u64 10] w fun e w' => e = .returned (.tuple #[.int .u64 ((x * 18446744073709551616 + y) / 10), .int .u64 ((x * 18446744073709551616 + y) % 10)]) ∧ w = w' := by
  have hx2 : (x == 0) = false := by simp; omega
  obtain ⟨X, hX⟩ : ∃ X, bits .or .u64 (x * 1152921504606846976) (y / 16) = X := ⟨_, rfl⟩
  have HX := Lib.hid ((or_high x y (by omega) hx1 hy hy1).symm.trans hX)
  have bX : 0 ≤ X ∧ X ≤ 11529215046068469759 := by have := HX.out; omega
  obtain ⟨bX1, bX2⟩ := bX
  obtain ⟨q, hq⟩ : ∃ q, X / 2684354560 = q := ⟨_, rfl⟩
  have bq : 0 ≤ q ∧ q ≤ 4294967295 ∧ q * 2684354560 ≤ X ∧ X ≤ q * 2684354560 + 2684354559 := by omega
  obtain ⟨bq1, bq2, bq3, bq4⟩ := bq
  obtain ⟨Y, hY⟩ : ∃ Y, IntKind.u64.wrap (y * 1152921504606846976) = Y := ⟨_, rfl⟩
  have HY : Hid (Y = (y % 16) * 1152921504606846976) := by show _ = _; rw [← hY, IntKind.wrap_u64]; omega
  have bY : 0 ≤ Y ∧ Y ≤ 18446744073709551615 := by rw [← hY, IntKind.wrap_u64]; omega
  have hY0 : bits .and .u64 Y 4294967295 = 0 := by rw [mask32 Y bY.1 bY.2, HY.out]; omega
  obtain ⟨Y1, hY1⟩ : ∃ Y1, Y / 4294967296 = Y1 := ⟨_, rfl⟩
  have HY1 : Hid (Y1 = (y % 16) * 268435456) := by show _ = _; rw [← hY1, HY.out]; omega
  have bY1 : 0 ≤ Y1 ∧ Y1 ≤ 4294967295 := by rw [← hY1]; omega
  obtain ⟨Z, hZ⟩ : ∃ Z, IntKind.u64.wrap (IntKind.u64.wrap (IntKind.u64.wrap (X * 4294967296) + Y1) - IntKind.u64.wrap (q * 11529215046068469760)) = Z := ⟨_, rfl⟩
  have HZ : Hid (Z = (X - q * 2684354560) * 4294967296 + Y1) := by show _ = _; rw [← hZ]; simp only [IntKind.wrap_u64]; omega
  have bZ : 0 ≤ Z ∧ Z ≤ 11529215046068469759 := by have := HZ.out; omega
  obtain ⟨bZ1, bZ2⟩ := bZ
  obtain ⟨r, hr⟩ : ∃ r, Z / 2684354560 = r := ⟨_, rfl⟩
  have br : 0 ≤ r ∧ r ≤ 4294967295 ∧ r * 2684354560 ≤ Z ∧ Z ≤ r * 2684354560 + 2684354559 := by omega
  obtain ⟨br1, br2, br3, br4⟩ := br
  have hm : bits .and .u64 11529215046068469760 4294967295 = 0 := by kernel_rfl
  go_enter Try.func48, Try.ntmps48
  go_upto_block 1 with (go_at_call 51; (with_reducible refine (lead64_ten _).mono ?_); rintro e w1 ⟨rfl, rfl⟩)
  refine wp_loop_rounds 1 ?_
  rw [rounds_succ]
  go_wp2_with fail
  refine wp_loop_rounds 1 ?_
  rw [rounds_succ]
  go_wp2_with fail
  go_ret2
  refine ⟨tup2 ?_ ?_, rfl⟩
  · have e1 := HX.out
    have e2 := HY1.out
    have e3 := HZ.out
    clear hX hY hY0 hZ hm HX HY HZ HY1
    first | omega | show False
  · have e1 := HX.out
    have e2 := HY1.out
    have e3 := HZ.out
    clear hX hY hY0 hZ hm HX HY HZ HY1
    simp only [IntKind.wrap_u64]
    first | omega | show False

set_option maxRecDepth 100000 in
set_option maxHeartbeats 1000000 in
theorem div64_zero (y : Int) (w : World) (hy : 0 ≤ y) (hy1 : y ≤ 18446744073709551615) :
    Calls Try.prog 48 #[.int .u64 0, .int .u64 y, .int .u64 10] w fun e w' => e = .returned (.tuple #[.int .u64 (y / 10), .int .u64 (y % 10)]) ∧ Below w.heap.size w w' := by
  go_enter Try.func48, Try.ntmps48
  go_wp2_with fail
  go_quiet (fail)
  go_wp2
  go_ret2
  exact ⟨rfl, by (repeat (first | exact Below.refl _ _ | refine Below.drew ?_ | refine below_drewN ?_ _ | (refine Below.setCell ?_ (by simp; try omega) _) | (refine below_new ?_ _ (by simp; try omega)) | (refine below_on ?_ (by assumption)) | (refine below_next ?_ (by assumption) (by simp; try omega)) | assumption))⟩

/-- A number in two halves without its last digit, and that digit. -/
theorem div64_any (x y : Int) (w : World) (hx : 0 ≤ x) (hx1 : x ≤ 9) (hy : 0 ≤ y) (hy1 : y ≤ 18446744073709551615) :
    Calls Try.prog 48 #[.int .u64 x, .int .u64 y, .int .u64 10] w fun e w' => e = .returned (.tuple #[.int .u64 ((x * 18446744073709551616 + y) / 10), .int .u64 ((x * 18446744073709551616 + y) % 10)]) ∧ Below w.heap.size w w' := by
  by_cases h : x = 0
  · subst h
    have := div64_zero y w hy hy1
    simpa using this
  · refine (div64_ten x y w (by omega) hx1 hy hy1).mono ?_
    rintro e w' ⟨rfl, rfl⟩
    exact ⟨rfl, Below.refl _ _⟩

/-- What is left of the number a without its last digit lies in the halves x and y. -/
structure URep (x y a : Int) : Prop where
  x0 : 0 ≤ x
  x1 : x ≤ 18446744073709551615
  y0 : 0 ≤ y
  y1 : y ≤ 18446744073709551615
  eq : a = x * 18446744073709551616 + y

theorem tup3 {a b : Int} {u v : Value} {k : IntKind} (h : a = b) : Ending.returned (.tuple #[.int k a, u, v]) = .returned (.tuple #[.int k b, u, v]) := by rw [h]

set_option maxHeartbeats 400000 in
theorem tenth_any (x y x' y' a d : Int) (w : World) (A : URep x y a) (B : URep x' y' (a / 10)) (D : Hid (a % 10 = d)) :
    Calls Try.prog 43 #[.int .u64 x, .int .u64 y] w fun e w' => e = .returned (.tuple #[.int .u64 x', .int .u64 y', .int .u8 d]) ∧ Below w.heap.size w w' := by
  obtain ⟨a1, a2, a3, a4, a5⟩ := A
  obtain ⟨b1, b2, b3, b4, b5⟩ := B
  have hd := D.out
  have k1 := fun w => div64_any (x % 10) y w (by omega) (by omega) a3 a4
  have e1 : (x % 10 * 18446744073709551616 + y) / 10 = y' := by omega
  have e2 : (x % 10 * 18446744073709551616 + y) % 10 = d := by omega
  have e3 : x / 10 = x' := by omega
  rw [e1, e2] at k1
  have hd0 : 0 ≤ d ∧ d ≤ 9 := by omega
  clear a5 b5 hd e1 e2 D
  go_enter Try.func43, Try.ntmps43
  go_wp2_with (go_at_call 48; (with_reducible refine (k1 _).mono ?_); rintro e w1 ⟨rfl, hb⟩)
  go_ret3
  exact ⟨tup3 e3, hb⟩

/-- The absolute value of a, in halves. -/
theorem urep_abs {a : Int} (h : InW a) : ∃ x y, URep x y (a.natAbs : Int) := by
  obtain ⟨h1, h2⟩ := h
  exact ⟨(a.natAbs : Int) / 18446744073709551616, (a.natAbs : Int) % 18446744073709551616, by omega, by omega, by omega, by omega, by omega⟩

set_option maxHeartbeats 400000 in
theorem unsigned_pos (h l a x y : Int) (w : World) (A : Rep h l a) (X : URep x y (a.natAbs : Int)) (ha : 0 ≤ a) :
    Calls Try.prog 42 #[.agg #[.int .i64 (h), .int .u64 (l)]] w fun e w' => e = .returned (.tuple #[.int .u64 x, .int .u64 y]) ∧ Below w.heap.size w w' := by
  have hh : 0 ≤ h ∧ h = x ∧ l = y := by
    obtain ⟨p1, p2, p3, p4, p5⟩ := A
    obtain ⟨q1, q2, q3, q4, q5⟩ := X
    omega
  obtain ⟨h0, rfl, rfl⟩ := hh
  go_enter Try.func42, Try.ntmps42
  go_wp2_with fail
  go_quiet (fail)
  go_wp2
  go_ret2
  exact ⟨tup2 (by rw [IntKind.wrap_u64]; have := A.hi; omega) rfl, by (repeat (first | exact Below.refl _ _ | refine Below.drew ?_ | refine below_drewN ?_ _ | (refine Below.setCell ?_ (by simp; try omega) _) | (refine below_new ?_ _ (by simp; try omega)) | (refine below_on ?_ (by assumption)) | (refine below_next ?_ (by assumption) (by simp; try omega)) | assumption))⟩

set_option maxHeartbeats 400000 in
theorem unsigned_neg (h l a x y : Int) (w : World) (A : Rep h l a) (X : URep x y (a.natAbs : Int)) (ha : a < 0) :
    Calls Try.prog 42 #[.agg #[.int .i64 (h), .int .u64 (l)]] w fun e w' => e = .returned (.tuple #[.int .u64 x, .int .u64 y]) ∧ Below w.heap.size w w' := by
  have hh : h < 0 := by
    obtain ⟨p1, p2, p3, p4, p5⟩ := A
    omega
  obtain ⟨h2, l2, B⟩ := rep_sm (-a)
  have hx : IntKind.u64.wrap h2 = x ∧ l2 = y := by
    obtain ⟨p1, p2, p3, p4, p5⟩ := A
    obtain ⟨q1, q2, q3, q4, q5⟩ := X
    obtain ⟨r1, r2, r3, r4, r5⟩ := B
    unfold sm at r5
    rw [IntKind.wrap_u64]
    omega
  obtain ⟨hx, rfl⟩ := hx
  have k1 := fun w => neg_any h l h2 l2 a _ w A B (sm_cong (-a))
  go_enter Try.func42, Try.ntmps42
  go_wp2_with (first | fail | (go_at_call 16; (with_reducible refine (k1 _).mono ?_); rintro e w1 ⟨rfl, hb⟩; obtain ⟨hc, hf⟩ := bcell hb; have hz := hb.size; (try simp at hz)))
  go_quiet (fail)
  go_wp2
  go_ret2
  exact ⟨rfl, by (repeat (first | exact Below.refl _ _ | refine Below.drew ?_ | refine below_drewN ?_ _ | (refine Below.setCell ?_ (by simp; try omega) _) | (refine below_new ?_ _ (by simp; try omega)) | (refine below_on ?_ (by assumption)) | (refine below_next ?_ (by assumption) (by simp; try omega)) | assumption))⟩
end Go.Proofs.Ytafgfpppemdedaa
