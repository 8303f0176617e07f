/- Contract: Mean. -/
import Derived.Test.YtipjhlabcbkgjaaAggAt
import Derived.Test.YtipjhlabcbkgjaaAggUnder
import Derived.Test.YtipjhlabcbkgjaaAggRTimes
import Derived.Test.YtipjhlabcbkgjaaAggDiv
import Derived.Test.YtipjhlabcbkgjaaWideB
import Derived.Deep.CutRange
import Derived.BigQuiet
set_option maxRecDepth 20000
namespace Go.Proofs.Ytipjhlabcbkgjaa.Ag
open Go.RowKit Go.Proofs.Ytipjhlabcbkgjaa Go.Proofs.Ytipjhlabcbkgjaa.Wd Go.Proofs.Ytipjhlabcbkgjaa.Vi Go.Proofs.Ytipjhlabcbkgjaa.Mk

/-- The mean, rounded towards 0, if there is one. -/
def meanA (a : Ag) : Option Int := if a.n < 1 ∨ 2147483648 < a.n then none else if -9223372036854775808 ≤ a.s.tdiv a.n ∧ a.s.tdiv a.n ≤ 9223372036854775807 then some (a.s.tdiv a.n) else none
def meanV : Option Int → Value
  | none => .tuple #[.int .i64 0, .bool false]
  | some q => .tuple #[.int .i64 q, .bool true]
theorem div64_is (x y n : Nat) (w : World) (hn0 : 1 ≤ n) (hn1 : n ≤ 2147483648) (hx : x < n) (hy : y < 18446744073709551616) (q : Nat) (hq : (x * 18446744073709551616 + y) / n = q) :
    Calls Try.prog 61 #[.int .u64 (x : Int), .int .u64 (y : Int), .int .u64 (n : Int)] w fun e w' => ∃ r, e = .returned (.tuple #[.int .u64 (q : Int), r]) ∧ Below w.heap.size w w' := by
  subst hq
  by_cases hx0 : x = 0
  · subst hx0
    rw [Nat.zero_mul, Nat.zero_add]
    exact div64_low y n w hn0 hn1 hy
  · refine (div64_any x y n w hn0 hn1 (by omega) hx hy).mono ?_
    rintro e w' ⟨r, rfl, rfl⟩
    exact ⟨r, rfl, Below.refl _ _⟩
theorem mean_none {a : Ag} (h : a.n < 1 ∨ 2147483648 < a.n) : meanA a = none := by unfold meanA; rw [if_pos h]
theorem mean_some {a : Ag} (h : ¬ (a.n < 1 ∨ 2147483648 < a.n)) {q : Int} (hq : a.s.tdiv a.n = q) : meanA a = if isSmall q = true then some q else none := by
  unfold meanA isSmall
  rw [if_neg h, hq]
  by_cases hb : -9223372036854775808 ≤ q ∧ q ≤ 9223372036854775807
  · rw [if_pos hb, if_pos (by simpa using hb)]
  · rw [if_neg hb, if_neg (by simpa using hb)]
theorem mean_high {a : Ag} (h : ¬ (a.n < 1 ∨ 2147483648 < a.n)) {q : Int} (hq : a.s.tdiv a.n = q) (hb : q < -9223372036854775808 ∨ 9223372036854775807 < q) : meanA a = none := by
  rw [mean_some h hq, if_neg]
  unfold isSmall
  simp
  omega
theorem tdiv_nn (S n : Nat) : ((S : Int)).tdiv (n : Int) = ((S / n : Nat) : Int) := rfl
theorem tdiv_neg (S n : Nat) : (-(S : Int)).tdiv (n : Int) = -((S / n : Nat) : Int) := by rw [Int.neg_tdiv]; rfl
theorem div_high_aux {x y n F : Nat} (hn0 : 1 ≤ n) (hx : n ≤ x) : F ≤ (x * F + y) / n := by
  refine (Nat.le_div_iff_mul_le hn0).2 ?_
  have := Nat.mul_le_mul_right F hx
  rw [Nat.mul_comm F n]
  omega
theorem div_low_aux {x y n F : Nat} (hn0 : 1 ≤ n) (hx : x < n) (hy : y < F) : (x * F + y) / n < F := by
  refine (Nat.div_lt_iff_lt_mul hn0).2 ?_
  have := Nat.mul_le_mul_right F (show x + 1 ≤ n from hx)
  rw [Nat.succ_mul] at this
  rw [Nat.mul_comm F n]
  omega
theorem div_high {x y n : Nat} (hn0 : 1 ≤ n) (hx : n ≤ x) : 18446744073709551616 ≤ (x * 18446744073709551616 + y) / n := div_high_aux hn0 hx
theorem div_low {x y n : Nat} (hn0 : 1 ≤ n) (hx : x < n) (hy : y < 18446744073709551616) : (x * 18446744073709551616 + y) / n < 18446744073709551616 := div_low_aux hn0 hx hy
set_option maxHeartbeats 2000000 in
theorem mean_pos (a : Ag) (ha : a.fits) (w : World) (h1 : 1 ≤ a.n) (h2 : a.n ≤ 2147483648) (hs : ¬ a.s < 0) : Calls Try.prog 27 #[agV a] w fun e w' => e = .returned (meanV (meanA a)) ∧ Below w.heap.size w w' := by
  obtain ⟨n, hn⟩ : ∃ n : Nat, a.n = (n : Int) := ⟨a.n.toNat, by omega⟩
  obtain ⟨S, hS⟩ : ∃ S : Nat, a.s = (S : Int) := ⟨(a.s).toNat, by omega⟩
  obtain ⟨s1, s2⟩ := ha.s
  obtain ⟨x, hx⟩ : ∃ x, S / 18446744073709551616 = x := ⟨_, rfl⟩
  obtain ⟨y, hy⟩ : ∃ y, S % 18446744073709551616 = y := ⟨_, rfl⟩
  have hy1 : y < 18446744073709551616 := by omega
  have hSx : x * 18446744073709551616 + y = S := by omega
  have hnot : ¬ (a.n < 1 ∨ 2147483648 < a.n) := by omega
  have hq : a.s.tdiv a.n = ((S / n : Nat) : Int) := by rw [hS, hn]; exact tdiv_nn S n
  have hwx : IntKind.u64.wrap (wh a.s) = (x : Int) := by rw [IntKind.wrap_u64]; unfold wh; omega
  have hwy : wl a.s = (y : Int) := by unfold wl; omega
  have hpos : ¬ wh a.s < 0 := by unfold wh; omega
  have HY := Lib.hid hwy
  clear hwy
  have h0 := (AgW.new w a 29).at_
  have hb0 := (Below.refl w.heap.size w).alloc (Nat.le_refl _) (.cells (cells18 a).toArray 29)
  simp only [cells18] at h0 hb0
  have H0 := Lib.hid h0
  have HB := Lib.hid hb0
  clear h0 hb0 s1 s2
  obtain ⟨m, hm⟩ : ∃ m, meanV (meanA a) = m := ⟨_, rfl⟩
  rw [hm]
  have HM := Lib.hid hm
  have n1 : ¬ a.n < 1 := by omega
  have n2 : ¬ 2147483648 < a.n := by omega
  have hwn : IntKind.u64.wrap a.n = (n : Int) := by rw [IntKind.wrap_u64]; omega
  have hK := Lib.hid (And.intro hnot (And.intro hq (And.intro hSx hn)))
  have hn0 : 1 ≤ n := by omega
  have hn1 : n ≤ 2147483648 := by omega
  unfold agV
  clear hm hS hx hy hnot hq hSx hn h1 h2
  go_enter Try.func27, Try.ntmps27
  go_upto_region 1 with fail
  obtain ⟨w0, hw0, h1', hb1⟩ := unName H0.out HB.out
  rw [← hw0]
  clear hw0
  have H1 := Lib.hid h1'
  have HB1 := Lib.hid hb1
  have a0 := h1'.cell 0 rfl
  have a1 := h1'.cell 1 rfl
  have a2 := h1'.cell 2 rfl
  clear h1' hb1
  by_cases hhi : n ≤ x
  · have hhi2 : (n : Int) ≤ (x : Int) := by omega
    obtain ⟨hnot, hq, hSx, hn⟩ := hK.out
    have hD := div_high (y := y) hn0 hhi
    rw [hSx] at hD
    obtain rfl : Value.tuple #[.int .i64 0, .bool false] = m := by rw [← HM.out, mean_high hnot hq (by omega)]; rfl
    have HN := Lib.hid hn
    clear hnot hq hSx hn hD hhi hn0 hn1
    have HA0 := Lib.hid (H1.out.below ((Below.refl _ _).alloc (Nat.le_refl _) (.cells #[.int .i64 (wh a.s), .int .u64 (wl a.s)] 24)))
    have a1n := HA0.out.cell 1 rfl
    go_upto_region 6 with fail
    clear HA0 a1n
    have HV := Lib.hid (RNum.new w0 (wh a.s) (wl a.s) 24)
    have HBB := Lib.hid (bel_new HB1.out (.cells #[.int .i64 (wh a.s), .int .u64 (wl a.s)] 24))
    have HA := Lib.hid (H1.out.below ((Below.refl _ _).alloc (Nat.le_refl _) (.cells #[.int .i64 (wh a.s), .int .u64 (wl a.s)] 24)))
    obtain ⟨W0, hW0⟩ : ∃ W0, W0 = w0.alloc (.cells #[.int .i64 (wh a.s), .int .u64 (wl a.s)] 24) := ⟨_, rfl⟩
    rw [← hW0] at HV HBB HA ⊢
    obtain ⟨qb, hqb⟩ : ∃ qb, w0.heap.size = qb := ⟨_, rfl⟩
    rw [hqb] at HV ⊢
    clear a0 a1 a2 hW0
    have c0 := HV.out.c0
    have c1 := HV.out.c1
    rw [HY.out] at c1
    have a0 := HA.out.cell 0 rfl
    have a1 := HA.out.cell 1 rfl
    go_quiet (fail)
    go_wp2
    go_ret2
    exact ⟨rfl, by have hb := HBB.out; (repeat (first | exact Below.refl _ _ | refine Below.drew ?_ | refine below_drewN ?_ _ | (refine Below.setCell ?_ (by simp; try omega) _) | (refine below_new ?_ _ (by simp; try omega)) | (refine below_on ?_ (by assumption)) | (refine below_next ?_ (by assumption) (by simp; try omega)) | assumption))⟩
  · have hhi2 : ¬ (n : Int) ≤ (x : Int) := by omega
    obtain ⟨hnot, hq, hSx, hn⟩ := hK.out
    have hD := div_low hn0 (by omega : x < n) hy1
    rw [hSx] at hD
    obtain ⟨q, hqq⟩ : ∃ q, S / n = q := ⟨_, rfl⟩
    rw [hqq] at hq hD
    have kd := fun W => div64_is x y n W hn0 hn1 (by omega) hy1 q (by rw [hSx]; exact hqq)
    have hr : Rep 0 (q : Int) (q : Int) := ⟨by omega, by omega, by omega, by omega, by omega⟩
    have hme := mean_some hnot hq
    have HN := Lib.hid (And.intro hn hme)
    cases hsm : isSmall ((q : Int)) with
    | true =>
      rw [hsm, if_pos rfl] at hme
      obtain rfl : Value.tuple #[.int .i64 ((q : Int)), .bool true] = m := by rw [← HM.out, hme]; rfl
      have ksm := fun W => small_yes 0 (q : Int) ((q : Int)) W hr hsm
      clear hnot hq hSx hn hD hhi hn0 hn1 hqq hme hr
      have HA0 := Lib.hid (H1.out.below ((Below.refl _ _).alloc (Nat.le_refl _) (.cells #[.int .i64 (wh a.s), .int .u64 (wl a.s)] 24)))
      have a1n := HA0.out.cell 1 rfl
      go_upto_region 6 with fail
      clear HA0 a1n
      have HV := Lib.hid (RNum.new w0 (wh a.s) (wl a.s) 24)
      have HBB := Lib.hid (bel_new HB1.out (.cells #[.int .i64 (wh a.s), .int .u64 (wl a.s)] 24))
      have HA := Lib.hid (H1.out.below ((Below.refl _ _).alloc (Nat.le_refl _) (.cells #[.int .i64 (wh a.s), .int .u64 (wl a.s)] 24)))
      obtain ⟨W0, hW0⟩ : ∃ W0, W0 = w0.alloc (.cells #[.int .i64 (wh a.s), .int .u64 (wl a.s)] 24) := ⟨_, rfl⟩
      rw [← hW0] at HV HBB HA ⊢
      obtain ⟨qb, hqb⟩ : ∃ qb, w0.heap.size = qb := ⟨_, rfl⟩
      rw [hqb] at HV ⊢
      clear a0 a1 a2 hW0
      have c0 := HV.out.c0
      have c1 := HV.out.c1
      rw [HY.out] at c1
      have a0 := HA.out.cell 0 rfl
      have a1 := HA.out.cell 1 rfl
      go_quiet (fail)
      have HBD := Lib.hid (bel_next HBB.out (show Below W0.heap.size W0 (W0.drewN nq) by (repeat (first | exact Below.refl _ _ | refine Below.drew ?_ | refine below_drewN ?_ _ | (refine Below.setCell ?_ (by simp; try omega) _) | (refine below_new ?_ _ (by simp; try omega)) | (refine below_on ?_ (by assumption)) | (refine below_next ?_ (by assumption) (by simp; try omega)) | assumption))))
      obtain ⟨W1, hW1⟩ : ∃ W1, W1 = W0.drewN nq := ⟨_, rfl⟩
      have HV1 := Lib.hid (HV.out.below (show Below W0.heap.size W0 (W0.drewN nq) by (repeat (first | exact Below.refl _ _ | refine Below.drew ?_ | refine below_drewN ?_ _ | (refine Below.setCell ?_ (by simp; try omega) _) | (refine below_new ?_ _ (by simp; try omega)) | (refine below_on ?_ (by assumption)) | (refine below_next ?_ (by assumption) (by simp; try omega)) | assumption))))
      have HA1 := Lib.hid (HA.out.below (show Below W0.heap.size W0 (W0.drewN nq) by (repeat (first | exact Below.refl _ _ | refine Below.drew ?_ | refine below_drewN ?_ _ | (refine Below.setCell ?_ (by simp; try omega) _) | (refine below_new ?_ _ (by simp; try omega)) | (refine below_on ?_ (by assumption)) | (refine below_next ?_ (by assumption) (by simp; try omega)) | assumption))))
      rw [← hW1] at HBD HV1 HA1 ⊢
      clear hW1 c0 c1 a0 a1
      have c0 := HV1.out.c0
      have c1 := HV1.out.c1
      rw [HY.out] at c1
      have a0 := HA1.out.cell 0 rfl
      have a1 := HA1.out.cell 1 rfl
      go_wp2_with (first
        | (go_at_call 61; (with_reducible refine (kd _).mono ?_); rintro e w5 ⟨rr, rfl, hb5⟩; (have HB5 := Lib.hid (bel_next HBD.out hb5)); (have HA5 := Lib.hid ((HA1.out.below hb5).below ((Below.refl _ _).alloc (Nat.le_refl _) (.cells #[.int .i64 0, .int .u64 (q : Int)] 24)))); (have e1 := HA5.out.cell 1 rfl); (have e2 := (HA1.out.below hb5).cell 1 rfl); clear hb5)
        | (go_at_call 62; (with_reducible refine (ksm _).mono ?_); rintro e w7 ⟨rfl, hb7⟩))
      go_ret2
      exact ⟨rfl, bel_next (bel_new HB5.out _) hb7⟩
    | false =>
      rw [hsm, if_neg (by decide)] at hme
      obtain rfl : Value.tuple #[.int .i64 0, .bool false] = m := by rw [← HM.out, hme]; rfl
      have ksm := fun W => small_no 0 (q : Int) ((q : Int)) W hr hsm
      clear hnot hq hSx hn hD hhi hn0 hn1 hqq hme hr
      have HA0 := Lib.hid (H1.out.below ((Below.refl _ _).alloc (Nat.le_refl _) (.cells #[.int .i64 (wh a.s), .int .u64 (wl a.s)] 24)))
      have a1n := HA0.out.cell 1 rfl
      go_upto_region 6 with fail
      clear HA0 a1n
      have HV := Lib.hid (RNum.new w0 (wh a.s) (wl a.s) 24)
      have HBB := Lib.hid (bel_new HB1.out (.cells #[.int .i64 (wh a.s), .int .u64 (wl a.s)] 24))
      have HA := Lib.hid (H1.out.below ((Below.refl _ _).alloc (Nat.le_refl _) (.cells #[.int .i64 (wh a.s), .int .u64 (wl a.s)] 24)))
      obtain ⟨W0, hW0⟩ : ∃ W0, W0 = w0.alloc (.cells #[.int .i64 (wh a.s), .int .u64 (wl a.s)] 24) := ⟨_, rfl⟩
      rw [← hW0] at HV HBB HA ⊢
      obtain ⟨qb, hqb⟩ : ∃ qb, w0.heap.size = qb := ⟨_, rfl⟩
      rw [hqb] at HV ⊢
      clear a0 a1 a2 hW0
      have c0 := HV.out.c0
      have c1 := HV.out.c1
      rw [HY.out] at c1
      have a0 := HA.out.cell 0 rfl
      have a1 := HA.out.cell 1 rfl
      go_quiet (fail)
      have HBD := Lib.hid (bel_next HBB.out (show Below W0.heap.size W0 (W0.drewN nq) by (repeat (first | exact Below.refl _ _ | refine Below.drew ?_ | refine below_drewN ?_ _ | (refine Below.setCell ?_ (by simp; try omega) _) | (refine below_new ?_ _ (by simp; try omega)) | (refine below_on ?_ (by assumption)) | (refine below_next ?_ (by assumption) (by simp; try omega)) | assumption))))
      obtain ⟨W1, hW1⟩ : ∃ W1, W1 = W0.drewN nq := ⟨_, rfl⟩
      have HV1 := Lib.hid (HV.out.below (show Below W0.heap.size W0 (W0.drewN nq) by (repeat (first | exact Below.refl _ _ | refine Below.drew ?_ | refine below_drewN ?_ _ | (refine Below.setCell ?_ (by simp; try omega) _) | (refine below_new ?_ _ (by simp; try omega)) | (refine below_on ?_ (by assumption)) | (refine below_next ?_ (by assumption) (by simp; try omega)) | assumption))))
      have HA1 := Lib.hid (HA.out.below (show Below W0.heap.size W0 (W0.drewN nq) by (repeat (first | exact Below.refl _ _ | refine Below.drew ?_ | refine below_drewN ?_ _ | (refine Below.setCell ?_ (by simp; try omega) _) | (refine below_new ?_ _ (by simp; try omega)) | (refine below_on ?_ (by assumption)) | (refine below_next ?_ (by assumption) (by simp; try omega)) | assumption))))
      rw [← hW1] at HBD HV1 HA1 ⊢
      clear hW1 c0 c1 a0 a1
      have c0 := HV1.out.c0
      have c1 := HV1.out.c1
      rw [HY.out] at c1
      have a0 := HA1.out.cell 0 rfl
      have a1 := HA1.out.cell 1 rfl
      go_wp2_with (first
        | (go_at_call 61; (with_reducible refine (kd _).mono ?_); rintro e w5 ⟨rr, rfl, hb5⟩; (have HB5 := Lib.hid (bel_next HBD.out hb5)); (have HA5 := Lib.hid ((HA1.out.below hb5).below ((Below.refl _ _).alloc (Nat.le_refl _) (.cells #[.int .i64 0, .int .u64 (q : Int)] 24)))); (have e1 := HA5.out.cell 1 rfl); (have e2 := (HA1.out.below hb5).cell 1 rfl); clear hb5)
        | (go_at_call 62; (with_reducible refine (ksm _).mono ?_); rintro e w7 ⟨rfl, hb7⟩))
      go_ret2
      exact ⟨rfl, bel_next (bel_new HB5.out _) hb7⟩

set_option maxHeartbeats 2000000 in
theorem mean_neg (a : Ag) (ha : a.fits) (w : World) (h1 : 1 ≤ a.n) (h2 : a.n ≤ 2147483648) (hs : a.s < 0) : Calls Try.prog 27 #[agV a] w fun e w' => e = .returned (meanV (meanA a)) ∧ Below w.heap.size w w' := by
  obtain ⟨n, hn⟩ : ∃ n : Nat, a.n = (n : Int) := ⟨a.n.toNat, by omega⟩
  obtain ⟨S, hS⟩ : ∃ S : Nat, a.s = -(S : Int) := ⟨(-a.s).toNat, by omega⟩
  obtain ⟨s1, s2⟩ := ha.s
  obtain ⟨x, hx⟩ : ∃ x, S / 18446744073709551616 = x := ⟨_, rfl⟩
  obtain ⟨y, hy⟩ : ∃ y, S % 18446744073709551616 = y := ⟨_, rfl⟩
  have hy1 : y < 18446744073709551616 := by omega
  have hSx : x * 18446744073709551616 + y = S := by omega
  have hnot : ¬ (a.n < 1 ∨ 2147483648 < a.n) := by omega
  have hq : a.s.tdiv a.n = -((S / n : Nat) : Int) := by rw [hS, hn]; exact tdiv_neg S n
  obtain ⟨z, hz⟩ : ∃ z, sm (-a.s) = z := ⟨_, rfl⟩
  have hzi : InW z := by rw [← hz]; exact sm_in _
  have hzv : z = (S : Int) ∨ (S = 170141183460469231731687303715884105728 ∧ z = -170141183460469231731687303715884105728) := by
    by_cases hc : S = 170141183460469231731687303715884105728
    · refine Or.inr ⟨hc, ?_⟩; rw [← hz, hS]; unfold sm; omega
    · refine Or.inl ?_; rw [← hz, hS]; unfold sm; omega
  have hwx : IntKind.u64.wrap (wh z) = (x : Int) := by rw [IntKind.wrap_u64]; unfold wh; rcases hzv with h | ⟨h, h'⟩ <;> omega
  have hwy : wl z = (y : Int) := by unfold wl; rcases hzv with h | ⟨h, h'⟩ <;> omega
  have kng := fun W => neg_any (wh a.s) (wl a.s) (wh z) (wl z) a.s z W (wrep ha.s) (wrep hzi) (by rw [← hz]; exact sm_cong _)
  have hneg : wh a.s < 0 := by unfold wh; omega
  obtain ⟨hh, hhe⟩ : ∃ v, wh z = v := ⟨_, rfl⟩
  rw [hhe] at hwx kng
  rw [hwy] at kng
  clear hzv hz hzi hwy hhe
  have h0 := (AgW.new w a 29).at_
  have hb0 := (Below.refl w.heap.size w).alloc (Nat.le_refl _) (.cells (cells18 a).toArray 29)
  simp only [cells18] at h0 hb0
  have H0 := Lib.hid h0
  have HB := Lib.hid hb0
  clear h0 hb0 s1 s2
  obtain ⟨m, hm⟩ : ∃ m, meanV (meanA a) = m := ⟨_, rfl⟩
  rw [hm]
  have HM := Lib.hid hm
  have n1 : ¬ a.n < 1 := by omega
  have n2 : ¬ 2147483648 < a.n := by omega
  have hwn : IntKind.u64.wrap a.n = (n : Int) := by rw [IntKind.wrap_u64]; omega
  have hK := Lib.hid (And.intro hnot (And.intro hq (And.intro hSx hn)))
  have hn0 : 1 ≤ n := by omega
  have hn1 : n ≤ 2147483648 := by omega
  unfold agV
  clear hm hS hx hy hnot hq hSx hn h1 h2
  go_enter Try.func27, Try.ntmps27
  go_upto_region 1 with fail
  obtain ⟨w0, hw0, h1', hb1⟩ := unName H0.out HB.out
  rw [← hw0]
  clear hw0
  have H1 := Lib.hid h1'
  have HB1 := Lib.hid hb1
  have a0 := h1'.cell 0 rfl
  have a1 := h1'.cell 1 rfl
  have a2 := h1'.cell 2 rfl
  clear h1' hb1
  by_cases hhi : n ≤ x
  · have hhi2 : (n : Int) ≤ (x : Int) := by omega
    obtain ⟨hnot, hq, hSx, hn⟩ := hK.out
    have hD := div_high (y := y) hn0 hhi
    rw [hSx] at hD
    obtain rfl : Value.tuple #[.int .i64 0, .bool false] = m := by rw [← HM.out, mean_high hnot hq (by omega)]; rfl
    have HN := Lib.hid hn
    clear hnot hq hSx hn hD hhi hn0 hn1
    have HA0 := Lib.hid (H1.out.below ((Below.refl _ _).alloc (Nat.le_refl _) (.cells #[.int .i64 (wh a.s), .int .u64 (wl a.s)] 24)))
    have a1n := HA0.out.cell 1 rfl
    go_upto_region 6 with (go_at_call 60; (with_reducible refine (kng _).mono ?_); rintro e w2 ⟨rfl, hb2⟩; (have HV := Lib.hid ((RNum.new w0 (wh a.s) (wl a.s) 24).below hb2)); (have HBB := Lib.hid (bel_next (bel_new HB1.out (.cells #[.int .i64 (wh a.s), .int .u64 (wl a.s)] 24)) hb2)); (have HA2 := Lib.hid ((H1.out.below ((Below.refl _ _).alloc (Nat.le_refl _) (.cells #[.int .i64 (wh a.s), .int .u64 (wl a.s)] 24))).below hb2)); (have v0 := HV.out.c0); (have v1 := HV.out.c1); (have v2 := HV.out.f0); (have v3 := HV.out.f1); clear hb2)
    have hfar : w.heap.size + 1 ≤ w0.heap.size := by have := H1.out.room; omega
    have hset := ((Below.refl (w.heap.size + 1) w2).setCell (p := ⟨w0.heap.size, 0, none⟩) hfar (.int .i64 hh)).setCell (p := ⟨w0.heap.size, 1, none⟩) hfar (.int .u64 (y : Int))
    have hV2 := HV.out.set hh (y : Int)
    have hA3 := HA2.out.upto hset (Nat.lt_succ_self _)
    have hB3 := HBB.out.trans (hset.mono (Nat.le_succ _))
    obtain ⟨W0, hW0⟩ : ∃ W0, W0 = (w2.setCell ⟨w0.heap.size, 0, none⟩ (.int .i64 hh)).setCell ⟨w0.heap.size, 1, none⟩ (.int .u64 (y : Int)) := ⟨_, rfl⟩
    rw [← hW0] at hV2 hA3 hB3 ⊢
    obtain ⟨qb, hqb⟩ : ∃ qb, w0.heap.size = qb := ⟨_, rfl⟩
    rw [hqb] at hV2 hset hW0 hfar ⊢
    clear hW0 hset v0 v1 v2 v3 a0 a1 a2 HV HA2 hfar a1n HA0
    have HBB := Lib.hid hB3
    have c0 := hV2.c0
    have c1 := hV2.c1
    have a0 := hA3.cell 0 rfl
    have a1 := hA3.cell 1 rfl
    have HV := Lib.hid hV2
    have HA := Lib.hid hA3
    clear hB3 hV2 hA3
    go_quiet (fail)
    go_wp2
    go_ret2
    exact ⟨rfl, by have hb := HBB.out; (repeat (first | exact Below.refl _ _ | refine Below.drew ?_ | refine below_drewN ?_ _ | (refine Below.setCell ?_ (by simp; try omega) _) | (refine below_new ?_ _ (by simp; try omega)) | (refine below_on ?_ (by assumption)) | (refine below_next ?_ (by assumption) (by simp; try omega)) | assumption))⟩
  · have hhi2 : ¬ (n : Int) ≤ (x : Int) := by omega
    obtain ⟨hnot, hq, hSx, hn⟩ := hK.out
    have hD := div_low hn0 (by omega : x < n) hy1
    rw [hSx] at hD
    obtain ⟨q, hqq⟩ : ∃ q, S / n = q := ⟨_, rfl⟩
    rw [hqq] at hq hD
    have kd := fun W => div64_is x y n W hn0 hn1 (by omega) hy1 q (by rw [hSx]; exact hqq)
    have hr : Rep 0 (q : Int) (q : Int) := ⟨by omega, by omega, by omega, by omega, by omega⟩
    have hrn : Rep (wh (-(q : Int))) (wl (-(q : Int))) (-(q : Int)) := wrep ⟨by omega, by omega⟩
    have kn2 := fun W => neg_any 0 (q : Int) (wh (-(q : Int))) (wl (-(q : Int))) (q : Int) (-(q : Int)) W hr hrn Cong.rfl
    obtain ⟨nh, hnh⟩ : ∃ v, wh (-(q : Int)) = v := ⟨_, rfl⟩
    obtain ⟨nl, hnl⟩ : ∃ v, wl (-(q : Int)) = v := ⟨_, rfl⟩
    rw [hnh, hnl] at kn2 hrn
    have hme := mean_some hnot hq
    have HN := Lib.hid (And.intro hn hme)
    cases hsm : isSmall (-(q : Int)) with
    | true =>
      rw [hsm, if_pos rfl] at hme
      obtain rfl : Value.tuple #[.int .i64 (-(q : Int)), .bool true] = m := by rw [← HM.out, hme]; rfl
      have ksm := fun W => small_yes nh nl (-(q : Int)) W hrn hsm
      clear hnot hq hSx hn hD hhi hn0 hn1 hqq hme hr hnh hnl hrn
      have HA0 := Lib.hid (H1.out.below ((Below.refl _ _).alloc (Nat.le_refl _) (.cells #[.int .i64 (wh a.s), .int .u64 (wl a.s)] 24)))
      have a1n := HA0.out.cell 1 rfl
      go_upto_region 6 with (go_at_call 60; (with_reducible refine (kng _).mono ?_); rintro e w2 ⟨rfl, hb2⟩; (have HV := Lib.hid ((RNum.new w0 (wh a.s) (wl a.s) 24).below hb2)); (have HBB := Lib.hid (bel_next (bel_new HB1.out (.cells #[.int .i64 (wh a.s), .int .u64 (wl a.s)] 24)) hb2)); (have HA2 := Lib.hid ((H1.out.below ((Below.refl _ _).alloc (Nat.le_refl _) (.cells #[.int .i64 (wh a.s), .int .u64 (wl a.s)] 24))).below hb2)); (have v0 := HV.out.c0); (have v1 := HV.out.c1); (have v2 := HV.out.f0); (have v3 := HV.out.f1); clear hb2)
      have hfar : w.heap.size + 1 ≤ w0.heap.size := by have := H1.out.room; omega
      have hset := ((Below.refl (w.heap.size + 1) w2).setCell (p := ⟨w0.heap.size, 0, none⟩) hfar (.int .i64 hh)).setCell (p := ⟨w0.heap.size, 1, none⟩) hfar (.int .u64 (y : Int))
      have hV2 := HV.out.set hh (y : Int)
      have hA3 := HA2.out.upto hset (Nat.lt_succ_self _)
      have hB3 := HBB.out.trans (hset.mono (Nat.le_succ _))
      obtain ⟨W0, hW0⟩ : ∃ W0, W0 = (w2.setCell ⟨w0.heap.size, 0, none⟩ (.int .i64 hh)).setCell ⟨w0.heap.size, 1, none⟩ (.int .u64 (y : Int)) := ⟨_, rfl⟩
      rw [← hW0] at hV2 hA3 hB3 ⊢
      obtain ⟨qb, hqb⟩ : ∃ qb, w0.heap.size = qb := ⟨_, rfl⟩
      rw [hqb] at hV2 hset hW0 hfar ⊢
      clear hW0 hset v0 v1 v2 v3 a0 a1 a2 HV HA2 hfar a1n HA0
      have HBB := Lib.hid hB3
      have c0 := hV2.c0
      have c1 := hV2.c1
      have a0 := hA3.cell 0 rfl
      have a1 := hA3.cell 1 rfl
      have HV := Lib.hid hV2
      have HA := Lib.hid hA3
      clear hB3 hV2 hA3
      go_quiet (fail)
      have HBD := Lib.hid (bel_next HBB.out (show Below W0.heap.size W0 (W0.drewN nq) by (repeat (first | exact Below.refl _ _ | refine Below.drew ?_ | refine below_drewN ?_ _ | (refine Below.setCell ?_ (by simp; try omega) _) | (refine below_new ?_ _ (by simp; try omega)) | (refine below_on ?_ (by assumption)) | (refine below_next ?_ (by assumption) (by simp; try omega)) | assumption))))
      obtain ⟨W1, hW1⟩ : ∃ W1, W1 = W0.drewN nq := ⟨_, rfl⟩
      have HV1 := Lib.hid (HV.out.below (show Below W0.heap.size W0 (W0.drewN nq) by (repeat (first | exact Below.refl _ _ | refine Below.drew ?_ | refine below_drewN ?_ _ | (refine Below.setCell ?_ (by simp; try omega) _) | (refine below_new ?_ _ (by simp; try omega)) | (refine below_on ?_ (by assumption)) | (refine below_next ?_ (by assumption) (by simp; try omega)) | assumption))))
      have HA1 := Lib.hid (HA.out.below (show Below W0.heap.size W0 (W0.drewN nq) by (repeat (first | exact Below.refl _ _ | refine Below.drew ?_ | refine below_drewN ?_ _ | (refine Below.setCell ?_ (by simp; try omega) _) | (refine below_new ?_ _ (by simp; try omega)) | (refine below_on ?_ (by assumption)) | (refine below_next ?_ (by assumption) (by simp; try omega)) | assumption))))
      rw [← hW1] at HBD HV1 HA1 ⊢
      clear hW1 c0 c1 a0 a1
      have c0 := HV1.out.c0
      have c1 := HV1.out.c1
      have a0 := HA1.out.cell 0 rfl
      have a1 := HA1.out.cell 1 rfl
      go_wp2_with (first
        | (go_at_call 61; (with_reducible refine (kd _).mono ?_); rintro e w5 ⟨rr, rfl, hb5⟩; (have HB5 := Lib.hid (bel_next HBD.out hb5)); (have HA5 := Lib.hid ((HA1.out.below hb5).below ((Below.refl _ _).alloc (Nat.le_refl _) (.cells #[.int .i64 0, .int .u64 (q : Int)] 24)))); (have e1 := HA5.out.cell 1 rfl); (have e2 := (HA1.out.below hb5).cell 1 rfl); clear hb5)
        | (go_at_call 60; (with_reducible refine (kn2 _).mono ?_); rintro e w6 ⟨rfl, hb6⟩; (have HV6 := Lib.hid ((RNum.new w5 0 (q : Int) 24).below hb6)); (have HB6 := Lib.hid (bel_next (bel_new HB5.out (.cells #[.int .i64 0, .int .u64 (q : Int)] 24)) hb6)); (have hs5 := HB5.out.size); (have i0 := HV6.out.c0); (have i1 := HV6.out.c1); (have i2 := HV6.out.f0); (have i3 := HV6.out.f1); (have j0 := (HV6.out.set nh nl).c0); (have j1 := (HV6.out.set nh nl).c1); clear hb6)
        | (go_at_call 62; (with_reducible refine (ksm _).mono ?_); rintro e w7 ⟨rfl, hb7⟩))
      go_ret2
      exact ⟨rfl, by have hb := HB6.out; (repeat (first | exact Below.refl _ _ | refine Below.drew ?_ | refine below_drewN ?_ _ | (refine Below.setCell ?_ (by simp; try omega) _) | (refine below_new ?_ _ (by simp; try omega)) | (refine below_on ?_ (by assumption)) | (refine below_next ?_ (by assumption) (by simp; try omega)) | assumption))⟩
    | false =>
      rw [hsm, if_neg (by decide)] at hme
      obtain rfl : Value.tuple #[.int .i64 0, .bool false] = m := by rw [← HM.out, hme]; rfl
      have ksm := fun W => small_no nh nl (-(q : Int)) W hrn hsm
      clear hnot hq hSx hn hD hhi hn0 hn1 hqq hme hr hnh hnl hrn
      have HA0 := Lib.hid (H1.out.below ((Below.refl _ _).alloc (Nat.le_refl _) (.cells #[.int .i64 (wh a.s), .int .u64 (wl a.s)] 24)))
      have a1n := HA0.out.cell 1 rfl
      go_upto_region 6 with (go_at_call 60; (with_reducible refine (kng _).mono ?_); rintro e w2 ⟨rfl, hb2⟩; (have HV := Lib.hid ((RNum.new w0 (wh a.s) (wl a.s) 24).below hb2)); (have HBB := Lib.hid (bel_next (bel_new HB1.out (.cells #[.int .i64 (wh a.s), .int .u64 (wl a.s)] 24)) hb2)); (have HA2 := Lib.hid ((H1.out.below ((Below.refl _ _).alloc (Nat.le_refl _) (.cells #[.int .i64 (wh a.s), .int .u64 (wl a.s)] 24))).below hb2)); (have v0 := HV.out.c0); (have v1 := HV.out.c1); (have v2 := HV.out.f0); (have v3 := HV.out.f1); clear hb2)
      have hfar : w.heap.size + 1 ≤ w0.heap.size := by have := H1.out.room; omega
      have hset := ((Below.refl (w.heap.size + 1) w2).setCell (p := ⟨w0.heap.size, 0, none⟩) hfar (.int .i64 hh)).setCell (p := ⟨w0.heap.size, 1, none⟩) hfar (.int .u64 (y : Int))
      have hV2 := HV.out.set hh (y : Int)
      have hA3 := HA2.out.upto hset (Nat.lt_succ_self _)
      have hB3 := HBB.out.trans (hset.mono (Nat.le_succ _))
      obtain ⟨W0, hW0⟩ : ∃ W0, W0 = (w2.setCell ⟨w0.heap.size, 0, none⟩ (.int .i64 hh)).setCell ⟨w0.heap.size, 1, none⟩ (.int .u64 (y : Int)) := ⟨_, rfl⟩
      rw [← hW0] at hV2 hA3 hB3 ⊢
      obtain ⟨qb, hqb⟩ : ∃ qb, w0.heap.size = qb := ⟨_, rfl⟩
      rw [hqb] at hV2 hset hW0 hfar ⊢
      clear hW0 hset v0 v1 v2 v3 a0 a1 a2 HV HA2 hfar a1n HA0
      have HBB := Lib.hid hB3
      have c0 := hV2.c0
      have c1 := hV2.c1
      have a0 := hA3.cell 0 rfl
      have a1 := hA3.cell 1 rfl
      have HV := Lib.hid hV2
      have HA := Lib.hid hA3
      clear hB3 hV2 hA3
      go_quiet (fail)
      have HBD := Lib.hid (bel_next HBB.out (show Below W0.heap.size W0 (W0.drewN nq) by (repeat (first | exact Below.refl _ _ | refine Below.drew ?_ | refine below_drewN ?_ _ | (refine Below.setCell ?_ (by simp; try omega) _) | (refine below_new ?_ _ (by simp; try omega)) | (refine below_on ?_ (by assumption)) | (refine below_next ?_ (by assumption) (by simp; try omega)) | assumption))))
      obtain ⟨W1, hW1⟩ : ∃ W1, W1 = W0.drewN nq := ⟨_, rfl⟩
      have HV1 := Lib.hid (HV.out.below (show Below W0.heap.size W0 (W0.drewN nq) by (repeat (first | exact Below.refl _ _ | refine Below.drew ?_ | refine below_drewN ?_ _ | (refine Below.setCell ?_ (by simp; try omega) _) | (refine below_new ?_ _ (by simp; try omega)) | (refine below_on ?_ (by assumption)) | (refine below_next ?_ (by assumption) (by simp; try omega)) | assumption))))
      have HA1 := Lib.hid (HA.out.below (show Below W0.heap.size W0 (W0.drewN nq) by (repeat (first | exact Below.refl _ _ | refine Below.drew ?_ | refine below_drewN ?_ _ | (refine Below.setCell ?_ (by simp; try omega) _) | (refine below_new ?_ _ (by simp; try omega)) | (refine below_on ?_ (by assumption)) | (refine below_next ?_ (by assumption) (by simp; try omega)) | assumption))))
      rw [← hW1] at HBD HV1 HA1 ⊢
      clear hW1 c0 c1 a0 a1
      have c0 := HV1.out.c0
      have c1 := HV1.out.c1
      have a0 := HA1.out.cell 0 rfl
      have a1 := HA1.out.cell 1 rfl
      go_wp2_with (first
        | (go_at_call 61; (with_reducible refine (kd _).mono ?_); rintro e w5 ⟨rr, rfl, hb5⟩; (have HB5 := Lib.hid (bel_next HBD.out hb5)); (have HA5 := Lib.hid ((HA1.out.below hb5).below ((Below.refl _ _).alloc (Nat.le_refl _) (.cells #[.int .i64 0, .int .u64 (q : Int)] 24)))); (have e1 := HA5.out.cell 1 rfl); (have e2 := (HA1.out.below hb5).cell 1 rfl); clear hb5)
        | (go_at_call 60; (with_reducible refine (kn2 _).mono ?_); rintro e w6 ⟨rfl, hb6⟩; (have HV6 := Lib.hid ((RNum.new w5 0 (q : Int) 24).below hb6)); (have HB6 := Lib.hid (bel_next (bel_new HB5.out (.cells #[.int .i64 0, .int .u64 (q : Int)] 24)) hb6)); (have hs5 := HB5.out.size); (have i0 := HV6.out.c0); (have i1 := HV6.out.c1); (have i2 := HV6.out.f0); (have i3 := HV6.out.f1); (have j0 := (HV6.out.set nh nl).c0); (have j1 := (HV6.out.set nh nl).c1); clear hb6)
        | (go_at_call 62; (with_reducible refine (ksm _).mono ?_); rintro e w7 ⟨rfl, hb7⟩))
      go_ret2
      exact ⟨rfl, by have hb := HB6.out; (repeat (first | exact Below.refl _ _ | refine Below.drew ?_ | refine below_drewN ?_ _ | (refine Below.setCell ?_ (by simp; try omega) _) | (refine below_new ?_ _ (by simp; try omega)) | (refine below_on ?_ (by assumption)) | (refine below_next ?_ (by assumption) (by simp; try omega)) | assumption))⟩

set_option maxHeartbeats 1000000 in
theorem mean_out (a : Ag) (w : World) (h : a.n < 1 ∨ 2147483648 < a.n) : Calls Try.prog 27 #[agV a] w fun e w' => e = .returned (meanV (meanA a)) ∧ Below w.heap.size w w' := by
  rw [mean_none h]
  have h0 := (AgW.new w a 29).at_
  have hb0 := (Below.refl w.heap.size w).alloc (Nat.le_refl _) (.cells (cells18 a).toArray 29)
  simp only [cells18] at h0 hb0
  have H0 := Lib.hid h0
  have HB := Lib.hid hb0
  clear h0 hb0
  unfold agV meanV
  go_enter Try.func27, Try.ntmps27
  go_upto_region 1 with fail
  obtain ⟨w0, hw0, h1', hb1⟩ := unName H0.out HB.out
  rw [← hw0]
  clear hw0
  have HB1 := Lib.hid hb1
  have a0 := h1'.cell 0 rfl
  clear h1' hb1
  by_cases h1 : a.n < 1
  · clear h
    go_wp2
    go_ret2
    exact ⟨rfl, HB1.out⟩
  · have h2 : 2147483648 < a.n := by omega
    clear h
    go_wp2
    go_ret2
    exact ⟨rfl, HB1.out⟩
theorem mean_is (a : Ag) (ha : a.fits) (w : World) : Calls Try.prog 27 #[agV a] w fun e w' => e = .returned (meanV (meanA a)) ∧ Below w.heap.size w w' := by
  by_cases h : a.n < 1 ∨ 2147483648 < a.n
  · exact mean_out a w h
  · by_cases hs : a.s < 0
    · exact mean_neg a ha w (by omega) (by omega) hs
    · exact mean_pos a ha w (by omega) (by omega) hs
end Go.Proofs.Ytipjhlabcbkgjaa.Ag
