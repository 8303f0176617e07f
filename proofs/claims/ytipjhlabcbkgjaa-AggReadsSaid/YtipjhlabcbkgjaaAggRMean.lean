/- Contract: the document's Mean. -/
import Derived.Test.YtipjhlabcbkgjaaAggMean
import Derived.Test.YtipjhlabcbkgjaaWideC
import Derived.Test.YtipjhlabcbkgjaaWideB
import Derived.Deep.RegionHeld
import Derived.Deep.CutRange
set_option maxRecDepth 20000
namespace Go.Proofs.Ytipjhlabcbkgjaa.Ag
open Go.RowKit Go.Proofs.Ytipjhlabcbkgjaa Go.Proofs.Ytipjhlabcbkgjaa.Wd Go.Proofs.Ytipjhlabcbkgjaa.Vi Go.Proofs.Ytipjhlabcbkgjaa.Mk

/-- A number whose lower j bits are cut off. -/
def qK (M j : Nat) : Nat := M / 2 ^ j * 2 ^ j
theorem qK_zero (M : Nat) : qK M 0 = M := by unfold qK; rw [Nat.pow_zero, Nat.div_one, Nat.mul_one]
theorem qK_top {M j : Nat} (h : M < 2 ^ j) : qK M j = 0 := by unfold qK; rw [Nat.div_eq_of_lt h, Nat.zero_mul]
theorem qK_step (M k : Nat) : qK M k = if qK M (k + 1) + 2 ^ k ≤ M then qK M (k + 1) + 2 ^ k else qK M (k + 1) := by
  obtain ⟨P, hP⟩ : ∃ P, 2 ^ k = P := ⟨_, rfl⟩
  have hP1 : 1 ≤ P := by rw [← hP]; exact Nat.one_le_two_pow
  unfold qK
  rw [Nat.pow_succ, hP]
  obtain ⟨c, hc⟩ : ∃ c, M / P = c := ⟨_, rfl⟩
  have h2 : M / (P * 2) = c / 2 := by rw [← Nat.div_div_eq_div_mul, hc]
  rw [h2, hc]
  have e1 : c / 2 * (P * 2) = (c / 2 * 2) * P := by rw [Nat.mul_comm P 2, Nat.mul_assoc]
  rw [e1, show c / 2 * 2 * P + P = (c / 2 * 2 + 1) * P by rw [Nat.succ_mul]]
  by_cases ho : c % 2 = 1
  · have e2 : c / 2 * 2 + 1 = c := by omega
    rw [e2, if_pos (by rw [← hc]; exact Nat.div_mul_le_self M P)]
  · have e2 : c / 2 * 2 = c := by omega
    rw [e2, if_neg]
    intro hle
    have := (Nat.le_div_iff_mul_le hP1).2 hle
    omega
theorem qK_le (M j : Nat) : qK M j ≤ M := Nat.div_mul_le_self M (2 ^ j)
theorem qK_room {M k : Nat} (hM : M < 2 ^ 65) (hk : k < 65) : qK M (k + 1) + 2 ^ k < 2 ^ 65 := by
  unfold qK
  obtain ⟨e, he⟩ : ∃ e, 65 = (k + 1) + e := ⟨65 - (k + 1), by omega⟩
  obtain ⟨P, hP⟩ : ∃ P, 2 ^ k = P := ⟨_, rfl⟩
  have hP1 : 1 ≤ P := by rw [← hP]; exact Nat.one_le_two_pow
  have h65 : 2 ^ 65 = P * 2 * 2 ^ e := by rw [he, Nat.pow_add, Nat.pow_succ, hP]
  have hk1 : 2 ^ (k + 1) = P * 2 := by rw [Nat.pow_succ, hP]
  rw [h65, hk1, hP]
  rw [h65] at hM
  have h1 : M / (P * 2) < 2 ^ e := (Nat.div_lt_iff_lt_mul (by omega)).2 (by rw [Nat.mul_comm]; exact hM)
  have h2 := Nat.mul_le_mul_right (P * 2) (show M / (P * 2) + 1 ≤ 2 ^ e from h1)
  rw [Nat.succ_mul] at h2
  rw [Nat.mul_comm (P * 2) (2 ^ e)]
  generalize M / (P * 2) * (P * 2) = X at *
  generalize 2 ^ e * (P * 2) = Y at *
  omega
theorem two65 : (2 : Nat) ^ 65 = 36893488147419103232 := rfl
/-- The greatest number of 65 bits that goes so often into S. -/
def top65 (S n : Nat) : Nat := min (S / n) 36893488147419103231
theorem top65_lt (S n : Nat) : top65 S n < 2 ^ 65 := by rw [two65]; unfold top65; omega
theorem top65_le {S n t : Nat} (hn : 1 ≤ n) (ht : t < 2 ^ 65) : t * n ≤ S ↔ t ≤ top65 S n := by
  rw [← Nat.le_div_iff_mul_le hn]
  rw [two65] at ht
  unfold top65
  omega
theorem cmp_nonpos {a b v : Int} (h : cmp a b = v) : v ≤ 0 ↔ a ≤ b := by
  subst h
  unfold cmp
  by_cases h1 : a < b
  · simp [h1]; omega
  · by_cases h2 : a = b
    · subst h2; simp
    · simp [h1, h2]; omega
/-- What stands while the document's Mean runs: the aggregate, zero, the sum's size. -/
structure M4 (w : World) (a : Ag) (b4 b5 : Nat) (S : Int) (W : World) : Prop where
  a : AgAt W w.heap.size a
  z : RNum W b4 0 0
  s : RNum W b5 (wh S) (wl S)
  h4 : w.heap.size < b4
  h5 : b4 < b5
  bel : Below w.heap.size w W
theorem M4.upto {w : World} {a : Ag} {b4 b5 B : Nat} {S : Int} {W W' : World} (h : M4 w a b4 b5 S W) (k : Below B W W') (hB : b5 < B) : M4 w a b4 b5 S W' :=
  ⟨h.a.upto k (by have := h.h4; have := h.h5; omega), h.z.upto k (by have := h.h5; omega), h.s.upto k hB, h.h4, h.h5, h.bel.trans (k.mono (by have := h.h4; have := h.h5; omega))⟩
theorem M4.keep {w : World} {a : Ag} {b4 b5 : Nat} {S : Int} {W W' : World} (h : M4 w a b4 b5 S W) (k : Below W.heap.size W W') : M4 w a b4 b5 S W' := h.upto k h.s.room
theorem M4.name {w : World} {a : Ag} {b4 b5 : Nat} {S : Int} {W : World} (h : M4 w a b4 b5 S W) : ∃ x, x = W ∧ M4 w a b4 b5 S x := ⟨W, rfl, h⟩
theorem M4.put_s {w : World} {a : Ag} {b4 b5 : Nat} {S : Int} {W : World} (h : M4 w a b4 b5 S W) (S' : Int) : M4 w a b4 b5 S' ((W.setCell ⟨b5, 0, none⟩ (.int .i64 (wh S'))).setCell ⟨b5, 1, none⟩ (.int .u64 (wl S'))) :=
  have k : Below b5 W ((W.setCell ⟨b5, 0, none⟩ (.int .i64 (wh S'))).setCell ⟨b5, 1, none⟩ (.int .u64 (wl S'))) := ((Below.refl _ _).setCell (p := ⟨b5, 0, none⟩) (Nat.le_refl _) _).setCell (p := ⟨b5, 1, none⟩) (Nat.le_refl _) _
  ⟨h.a.upto k (by have := h.h4; have := h.h5; omega), h.z.upto k h.h5, h.s.set _ _, h.h4, h.h5, h.bel.trans (k.mono (by have := h.h4; have := h.h5; omega))⟩
/-- And the mean so far. -/
structure M5 (w : World) (a : Ag) (b4 b5 : Nat) (S : Int) (b7 : Nat) (q : Int) (W : World) : Prop where
  m : M4 w a b4 b5 S W
  q : RNum W b7 (wh q) (wl q)
  lt : b5 < b7
theorem M5.keep {w : World} {a : Ag} {b4 b5 : Nat} {S : Int} {b7 : Nat} {q : Int} {W W' : World} (h : M5 w a b4 b5 S b7 q W) (k : Below W.heap.size W W') : M5 w a b4 b5 S b7 q W' := ⟨h.m.keep k, h.q.below k, h.lt⟩
theorem M5.drew {w : World} {a : Ag} {b4 b5 : Nat} {S : Int} {b7 : Nat} {q : Int} {W : World} (h : M5 w a b4 b5 S b7 q W) : M5 w a b4 b5 S b7 q W.drew := h.keep ((Below.refl _ _).drew)
theorem M5.name {w : World} {a : Ag} {b4 b5 : Nat} {S : Int} {b7 : Nat} {q : Int} {W : World} (h : M5 w a b4 b5 S b7 q W) : ∃ x, x = W ∧ M5 w a b4 b5 S b7 q x := ⟨W, rfl, h⟩
theorem M5.put_q {w : World} {a : Ag} {b4 b5 : Nat} {S : Int} {b7 : Nat} {q : Int} {W : World} (h : M5 w a b4 b5 S b7 q W) (q' : Int) : M5 w a b4 b5 S b7 q' ((W.setCell ⟨b7, 0, none⟩ (.int .i64 (wh q'))).setCell ⟨b7, 1, none⟩ (.int .u64 (wl q'))) :=
  ⟨h.m.upto (((Below.refl b7 _).setCell (p := ⟨b7, 0, none⟩) (Nat.le_refl _) _).setCell (p := ⟨b7, 1, none⟩) (Nat.le_refl _) _) h.lt, h.q.set _ _, h.lt⟩
/-- And the number that is tried. -/
structure MT (w : World) (a : Ag) (b4 b5 : Nat) (S : Int) (b7 : Nat) (q : Int) (b9 : Nat) (t : Int) (W : World) : Prop where
  m : M5 w a b4 b5 S b7 q W
  t : RNum W b9 (wh t) (wl t)
  lt : b7 < b9
theorem MT.keep {w : World} {a : Ag} {b4 b5 : Nat} {S : Int} {b7 : Nat} {q : Int} {b9 : Nat} {t : Int} {W W' : World} (h : MT w a b4 b5 S b7 q b9 t W) (k : Below W.heap.size W W') : MT w a b4 b5 S b7 q b9 t W' := ⟨h.m.keep k, h.t.below k, h.lt⟩
theorem MT.drew {w : World} {a : Ag} {b4 b5 : Nat} {S : Int} {b7 : Nat} {q : Int} {b9 : Nat} {t : Int} {W : World} (h : MT w a b4 b5 S b7 q b9 t W) : MT w a b4 b5 S b7 q b9 t W.drew := h.keep ((Below.refl _ _).drew)
theorem MT.name {w : World} {a : Ag} {b4 b5 : Nat} {S : Int} {b7 : Nat} {q : Int} {b9 : Nat} {t : Int} {W : World} (h : MT w a b4 b5 S b7 q b9 t W) : ∃ x, x = W ∧ MT w a b4 b5 S b7 q b9 t x := ⟨W, rfl, h⟩
theorem MT.put_t {w : World} {a : Ag} {b4 b5 : Nat} {S : Int} {b7 : Nat} {q : Int} {b9 : Nat} {t : Int} {W : World} (h : MT w a b4 b5 S b7 q b9 t W) (t' : Int) : MT w a b4 b5 S b7 q b9 t' ((W.setCell ⟨b9, 0, none⟩ (.int .i64 (wh t'))).setCell ⟨b9, 1, none⟩ (.int .u64 (wl t'))) :=
  have k : Below b9 W ((W.setCell ⟨b9, 0, none⟩ (.int .i64 (wh t'))).setCell ⟨b9, 1, none⟩ (.int .u64 (wl t'))) := ((Below.refl _ _).setCell (p := ⟨b9, 0, none⟩) (Nat.le_refl _) _).setCell (p := ⟨b9, 1, none⟩) (Nat.le_refl _) _
  ⟨⟨h.m.m.upto k (by have := h.lt; have := h.m.lt; omega), h.m.q.upto k h.lt, h.m.lt⟩, h.t.set _ _, h.lt⟩

set_option maxHeartbeats 4000000 in
theorem rmean_pos (a : Ag) (ha : a.fits) (w : World) (h1 : 1 ≤ a.n) (h2 : a.n ≤ 2147483648) (hs : ¬ a.s < 0) : Calls Try.prog 28 #[agV a] w fun e w' => e = .returned (meanV (meanA a)) ∧ Below w.heap.size w w' := by
  obtain ⟨n, hn⟩ : ∃ n : Nat, a.n = (n : Int) := ⟨a.n.toNat, by omega⟩
  obtain ⟨S, hS⟩ : ∃ S : Nat, a.s = (S : Int) := ⟨(a.s).toNat, by omega⟩
  obtain ⟨s1, s2⟩ := ha.s
  have hnot : ¬ (a.n < 1 ∨ 2147483648 < a.n) := by omega
  have hq : a.s.tdiv a.n = ((S / n : Nat) : Int) := by rw [hS, hn]; exact tdiv_nn S n
  have hSl : S ≤ 170141183460469231731687303715884105728 := by omega
  obtain ⟨v1, hv1⟩ : ∃ v, cmp a.s 0 = v := ⟨_, rfl⟩
  have hv1n : decide (v1 < 0) = false := decide_eq_false fun hc => hs ((cmp_neg hv1).1 hc)
  have k1 := fun W => refCmp_any (wh a.s) (wl a.s) 0 0 a.s 0 v1 W (wrep ha.s) rep_zero (Lib.hid hv1)
  have h0 := (AgW.new w a 29).at_
  have hb0 := (Below.refl w.heap.size w).alloc (Nat.le_refl _) (.cells (cells18 a).toArray 29)
  simp only [cells18] at h0 hb0
  have H0 := Lib.hid h0
  have HB := Lib.hid hb0
  clear h0 hb0 s1 s2
  obtain ⟨m, hm⟩ : ∃ m, meanV (meanA a) = m := ⟨_, rfl⟩
  rw [hm]
  have HM := Lib.hid hm
  have n1 : ¬ a.n < 1 := by omega
  have n2 : ¬ 2147483648 < a.n := by omega
  have hwn : IntKind.u32.wrap a.n = (n : Int) := by rw [IntKind.wrap_u32]; omega
  have hK := Lib.hid (And.intro hnot (And.intro hq (And.intro hS hn)))
  have hn0 : 1 ≤ n := by omega
  have hn1 : n ≤ 2147483648 := by omega
  unfold agV
  clear hm hnot hq hS hn h1 h2 hv1
  go_enter Try.func28, Try.ntmps28
  go_upto_region 1 with fail
  obtain ⟨w0, hw0, h1', hb1⟩ := unName H0.out HB.out
  rw [← hw0]
  clear hw0
  have H1 := Lib.hid h1'
  have HB1 := Lib.hid hb1
  have a0 := h1'.cell 0 rfl
  have a1 := h1'.cell 1 rfl
  have a2 := h1'.cell 2 rfl
  have a1b := (h1'.below ((Below.refl _ _).alloc (Nat.le_refl _) (.cells #[.int .i64 0, .int .u64 0] 24))).cell 1 rfl
  have a2b := (h1'.below ((Below.refl _ _).alloc (Nat.le_refl _) (.cells #[.int .i64 0, .int .u64 0] 24))).cell 2 rfl
  clear h1' hb1
  go_upto_region 5 with fail
  have hr0 := H1.out.room
  obtain ⟨w3, hw3, h3⟩ := (show M4 w a w0.heap.size (w0.heap.size + 1) a.s ((w0.alloc (.cells #[.int .i64 0, .int .u64 0] 24)).alloc (.cells #[.int .i64 (wh a.s), .int .u64 (wl a.s)] 24)) from
    ⟨(H1.out.below ((Below.refl _ _).alloc (Nat.le_refl _) _)).below ((Below.refl _ _).alloc (Nat.le_refl _) _), (RNum.new w0 0 0 24).below ((Below.refl _ _).alloc (Nat.le_refl _) _), by
      have := RNum.new (w0.alloc (.cells #[.int .i64 0, .int .u64 0] 24)) (wh a.s) (wl a.s) 24
      rwa [World.size_alloc] at this, hr0, Nat.lt_succ_self _, bel_new (bel_new HB1.out _) _⟩).name
  rw [← hw3]
  clear hw3 a1b a2b a0 a1 a2
  obtain ⟨b4, hb4⟩ : ∃ b, w0.heap.size = b := ⟨_, rfl⟩
  rw [hb4] at h3 ⊢
  obtain ⟨b5, hb5⟩ : ∃ b, b4 + 1 = b := ⟨_, rfl⟩
  rw [hb5] at h3 ⊢
  have H3 := Lib.hid h3
  have z0 := h3.z.c0
  have z1 := h3.z.c1
  have s0 := h3.s.c0
  have s1 := h3.s.c1
  clear h3 hb4 hb5 hr0
  go_upto_if 26 with (go_at_call 51; (with_reducible refine (k1 _).mono ?_); rintro e w4 ⟨rfl, hb⟩; (have H4 := Lib.hid (H3.out.keep hb)); clear hb s0 s1 z0 z1)
  clear k1 H3 w3
  have s0 := H4.out.s.c0
  have s1 := H4.out.s.c1
  have hSl2 : S < 170141183460469231731687303715884105728 := by obtain ⟨_, _, hS, _⟩ := hK.out; have := ha.s.2; omega
  have hSS : a.s = (S : Int) := hK.out.2.2.1
  obtain ⟨v2, hv2⟩ : ∃ v, cmp (S : Int) 0 = v := ⟨_, rfl⟩
  have k2 := fun W => refCmp_any (wh (S : Int)) (wl (S : Int)) 0 0 (S : Int) 0 v2 W (wrep ⟨by omega, by omega⟩) rep_zero (Lib.hid hv2)
  have hv2n : ¬ v2 < 0 := fun hc => absurd ((cmp_neg hv2).1 hc) (by omega)
  clear hv2 s0 s1
  rw [hSS] at H4
  have H6 := H4
  clear H4
  have s0 := H6.out.s.c0
  have s1 := H6.out.s.c1
  have z0 := H6.out.z.c0
  have z1 := H6.out.z.c1
  clear hSS
  have hv2d : decide (v2 < 0) = false := decide_eq_false hv2n
  go_upto_region 11 with (go_at_call 51; (with_reducible refine (k2 _).mono ?_); rintro e w7 ⟨rfl, hb⟩; (have H7 := Lib.hid (H6.out.keep hb)); (have z2 := H7.out.z.c0); (have z3 := H7.out.z.c1); clear hb)
  clear s0 s1 z0 z1 hv2d hv2n k2 H6
  obtain ⟨w8, hw8, h8⟩ := (show M5 w a b4 b5 (S : Int) w7.heap.size 0 (w7.alloc (.cells #[.int .i64 0, .int .u64 0] 24)) from
    ⟨H7.out.keep ((Below.refl _ _).alloc (Nat.le_refl _) _), by rw [wh_zero, wl_zero]; exact RNum.new w7 0 0 _, H7.out.s.room⟩).name
  rw [← hw8]
  obtain ⟨b7, hb7⟩ : ∃ b, w7.heap.size = b := ⟨_, rfl⟩
  rw [hb7] at h8 ⊢
  have H8 := Lib.hid h8
  clear hw8 h8 hb7 z2 z3 H7
  obtain ⟨M, hM⟩ : ∃ M, top65 S n = M := ⟨_, rfl⟩
  have HMl := Lib.hid (show M < 2 ^ 65 by rw [← hM]; exact top65_lt S n)
  have HMt := Lib.hid hM
  have HSl := Lib.hid hSl2
  clear hM hSl2 hSl
  go_wp2_with fail
  go_loopw [8, 9, 10] (fun i _ _ wr => ∃ j : Nat, i = .int .i64 ((j : Int) - 1) ∧ j ≤ 65 ∧ M5 w a b4 b5 (S : Int) b7 ((qK M j : Nat) : Int) wr) (fun i _ _ _ => (intOf i + 1).toNat)
  case atStart => exact ⟨65, rfl, Nat.le_refl _, by rw [qK_top HMl.out]; exact H8.out⟩
  case round =>
    obtain ⟨j, rfl, hj, hQ⟩ := hrel
    obtain ⟨w9, hw9⟩ : ∃ x, x = wr := ⟨_, rfl⟩
    subst hw9
    have HQ := Lib.hid hQ
    clear hQ H8
    cases j with
    | zero =>
      rw [show (((0 : Nat) : Int) - 1) = -1 from rfl]
      rw [qK_zero] at HQ
      have hMlt : M < 36893488147419103232 := by have := HMl.out; rwa [two65] at this
      obtain ⟨P, hP⟩ : ∃ P, (M + 1) * n = P := ⟨_, rfl⟩
      have hPi : ((M : Int) + 1) * (n : Int) = (P : Int) := by rw [← hP]; push_cast; rfl
      have hPl : P ≤ 79228162514264337593543950336 := by
        rw [← hP]
        exact Nat.le_trans (Nat.mul_le_mul (show M + 1 ≤ 36893488147419103232 from hMlt) hn1) (by decide)
      have ka := fun W => refAdd_any (wh (M : Int)) (wl (M : Int)) 0 1 (wh ((M : Int) + 1)) (wl ((M : Int) + 1)) (M : Int) 1 ((M : Int) + 1) W (wrep ⟨by omega, by omega⟩) ⟨by omega, by omega, by omega, by omega, by omega⟩ (wrep ⟨by omega, by omega⟩) Cong.rfl
      have kt := fun W => refTimes_any (wh ((M : Int) + 1)) (wl ((M : Int) + 1)) (n : Int) (wh (P : Int)) (wl (P : Int)) ((M : Int) + 1) (P : Int) W (by omega) (by omega) (wrep ⟨by omega, by omega⟩) (wrep ⟨by omega, by omega⟩) (by rw [hPi]; exact Cong.rfl)
      obtain ⟨v4, hv4⟩ : ∃ v, cmp (P : Int) (S : Int) = v := ⟨_, rfl⟩
      have kc := fun W => refCmp_any (wh (P : Int)) (wl (P : Int)) (wh (S : Int)) (wl (S : Int)) (P : Int) (S : Int) v4 W (wrep ⟨by omega, by omega⟩) (wrep ⟨by omega, by have := HSl.out; omega⟩) (Lib.hid hv4)
      have hiff : v4 ≤ 0 ↔ M + 1 ≤ S / n := by
        rw [cmp_nonpos hv4, Nat.le_div_iff_mul_le hn0, hP]
        omega
      have hMS : M ≤ S / n ∧ (M < 36893488147419103231 → M = S / n) := by
        have := HMt.out
        unfold top65 at this
        omega
      clear hPi hPl hP hv4
      by_cases hle : M + 1 ≤ S / n
      · have hvd : decide (v4 ≤ 0) = true := decide_eq_true (hiff.2 hle)
        obtain ⟨hnot, hq, hS, hn⟩ := hK.out
        obtain rfl : Value.tuple #[.int .i64 0, .bool false] = m := by rw [← HM.out, mean_high hnot hq (by omega)]; rfl
        clear hnot hq hS hn hle hiff hMS hMlt
        go_wp2_with fail
        refine wp_region_held_drew (S := (M5 w a b4 b5 (S : Int) b7 (M : Int))) (by kernel_rfl) HQ.out.drew (fun hHeld => ?_)
        refine wpAnyH_take (i := 0) (oi := ?t1o) (v := ?t1v) ?t1h (by kernel_rfl) (by kernel_rfl) (by kernel_rfl) ?t1q ?t1y hHeld ?t1r
        case t1h => (simp only [List.getElem?_toArray, List.getElem?_cons_zero]; rfl)
        case t1q => exact fun _ _ _ h => h
        case t1y => (refine Or.inl ⟨by first | kernel_rfl | rfl, ?_⟩; intro w hSw; (try dsimp only at hSw); have x0 := hSw.m.a.cell 0 rfl; have x1 := hSw.m.s.c0; have x2 := hSw.m.s.c1; have x3 := hSw.q.c0; have x4 := hSw.q.c1; go_simp <;> (try with_reducible rfl))
        try simp only [Act.put, List.setIfInBounds_toArray, List.set_cons_zero, List.set_cons_succ]
        refine wpAnyH_take (i := 1) (oi := ?t2o) (v := ?t2v) ?t2h (by kernel_rfl) (by kernel_rfl) (by kernel_rfl) ?t2q ?t2y hHeld ?t2r
        case t2h => (simp only [List.getElem?_toArray, List.getElem?_cons_succ, List.getElem?_cons_zero]; rfl)
        case t2q => exact fun _ _ _ h => h
        case t2y => (refine Or.inl ⟨by first | kernel_rfl | rfl, ?_⟩; intro w hSw; (try dsimp only at hSw); have x0 := hSw.m.a.cell 0 rfl; have x1 := hSw.m.s.c0; have x2 := hSw.m.s.c1; have x3 := hSw.q.c0; have x4 := hSw.q.c1; go_simp <;> (try with_reducible rfl))
        try simp only [Act.put, List.setIfInBounds_toArray, List.set_cons_zero, List.set_cons_succ]
        refine wpAnyH_take (i := 3) (oi := ?t3o) (v := ?t3v) ?t3h (by kernel_rfl) (by kernel_rfl) (by kernel_rfl) ?t3q ?t3y hHeld ?t3r
        case t3h => (simp only [List.getElem?_toArray, List.getElem?_cons_succ, List.getElem?_cons_zero]; rfl)
        case t3q => exact fun _ _ _ h => h
        case t3y => (refine Or.inl ⟨by first | kernel_rfl | rfl, ?_⟩; intro w hSw; (try dsimp only at hSw); have x0 := hSw.m.a.cell 0 rfl; have x1 := hSw.m.s.c0; have x2 := hSw.m.s.c1; have x3 := hSw.q.c0; have x4 := hSw.q.c1; go_simp <;> (try with_reducible rfl))
        try simp only [Act.put, List.setIfInBounds_toArray, List.set_cons_zero, List.set_cons_succ]
        refine wpAnyH_take (i := 4) (oi := ?t4o) (v := ?t4v) ?t4h (by kernel_rfl) (by kernel_rfl) (by kernel_rfl) ?t4q ?t4y hHeld ?t4r
        case t4h => (simp only [List.getElem?_toArray, List.getElem?_cons_succ, List.getElem?_cons_zero]; rfl)
        case t4q => exact fun _ _ _ h => h
        case t4y => (refine Or.inl ⟨by first | kernel_rfl | rfl, ?_⟩; intro w hSw; (try dsimp only at hSw); have x0 := hSw.m.a.cell 0 rfl; have x1 := hSw.m.s.c0; have x2 := hSw.m.s.c1; have x3 := hSw.q.c0; have x4 := hSw.q.c1; go_simp <;> (try with_reducible rfl))
        try simp only [Act.put, List.setIfInBounds_toArray, List.set_cons_zero, List.set_cons_succ]
        refine wpAnyH_take (i := 5) (oi := ?t5o) (v := ?t5v) ?t5h (by kernel_rfl) (by kernel_rfl) (by kernel_rfl) ?t5q ?t5y hHeld ?t5r
        case t5h => (simp only [List.getElem?_toArray, List.getElem?_cons_succ, List.getElem?_cons_zero]; rfl)
        case t5q => exact fun _ _ _ h => h
        case t5y => (refine Or.inl ⟨by first | kernel_rfl | rfl, ?_⟩; intro w hSw; (try dsimp only at hSw); have x0 := hSw.m.a.cell 0 rfl; have x1 := hSw.m.s.c0; have x2 := hSw.m.s.c1; have x3 := hSw.q.c0; have x4 := hSw.q.c1; go_simp <;> (try with_reducible rfl))
        try simp only [Act.put, List.setIfInBounds_toArray, List.set_cons_zero, List.set_cons_succ]
        refine wpAnyH_take (i := 7) (oi := ?t6o) (v := ?t6v) ?t6h (by kernel_rfl) (by kernel_rfl) (by kernel_rfl) ?t6q ?t6y hHeld ?t6r
        case t6h => (simp only [List.getElem?_toArray, List.getElem?_cons_succ, List.getElem?_cons_zero]; rfl)
        case t6q => exact fun _ _ _ h => h
        case t6y => (refine Or.inl ⟨by first | kernel_rfl | rfl, ?_⟩; intro w hSw; (try dsimp only at hSw); have x0 := hSw.m.a.cell 0 rfl; have x1 := hSw.m.s.c0; have x2 := hSw.m.s.c1; have x3 := hSw.q.c0; have x4 := hSw.q.c1; go_simp <;> (try with_reducible rfl))
        try simp only [Act.put, List.setIfInBounds_toArray, List.set_cons_zero, List.set_cons_succ]
        refine wpAnyH_ready (rs := [2]) (by kernel_rfl) (by simp) ?_
        refine (AllReadyH.cons rfl (fun K hK => ?_) AllReadyH.nil)
        go_simp
        ((with_reducible refine (ka _).mono ?_); rintro e w10 ⟨rfl, hb⟩; (have H10 := Lib.hid (hHeld.keep hb)); clear hb)
        refine hK.out _ _ (H10.out) (fun hHeld => ?_)
        clear hK K
        try simp only [Act.put, List.setIfInBounds_toArray, List.set_cons_zero, List.set_cons_succ]
        refine wpAnyH_ready (rs := [6]) (by kernel_rfl) (by simp) ?_
        refine (AllReadyH.cons rfl (fun K hK => ?_) AllReadyH.nil)
        go_simp
        ((with_reducible refine (kt _).mono ?_); rintro e w11 ⟨rfl, hb⟩; (have H11 := Lib.hid (hHeld.keep hb)); clear hb)
        refine hK.out _ _ (H11.out) (fun hHeld => ?_)
        clear hK K
        try simp only [Act.put, List.setIfInBounds_toArray, List.set_cons_zero, List.set_cons_succ]
        refine wpAnyH_ready (rs := [8]) (by kernel_rfl) (by simp) ?_
        refine (AllReadyH.cons rfl (fun K hK => ?_) AllReadyH.nil)
        go_simp
        ((with_reducible refine (kc _).mono ?_); rintro e w12 ⟨rfl, hb⟩; (have H12 := Lib.hid (hHeld.keep hb)); clear hb)
        refine hK.out _ _ (H12.out) (fun hHeld => ?_)
        clear hK K
        try simp only [Act.put, List.setIfInBounds_toArray, List.set_cons_zero, List.set_cons_succ]
        refine wpAnyH_take (i := 9) (oi := ?t7o) (v := ?t7v) ?t7h (by kernel_rfl) (by kernel_rfl) (by kernel_rfl) ?t7q ?t7y hHeld ?t7r
        case t7h => (simp only [List.getElem?_toArray, List.getElem?_cons_succ, List.getElem?_cons_zero]; rfl)
        case t7q => exact fun _ _ _ h => h
        case t7y => (refine Or.inl ⟨by first | kernel_rfl | rfl, ?_⟩; intro w hSw; (try dsimp only at hSw); have x0 := hSw.m.a.cell 0 rfl; have x1 := hSw.m.s.c0; have x2 := hSw.m.s.c1; have x3 := hSw.q.c0; have x4 := hSw.q.c1; go_simp <;> (try with_reducible rfl))
        try simp only [Act.put, List.setIfInBounds_toArray, List.set_cons_zero, List.set_cons_succ]
        refine wpAnyH_done (by kernel_rfl) ?_ _
        clear hHeld
        go_wp2
        go_ret2
        exact ⟨rfl, H12.out.m.bel⟩
      · have hvd : decide (v4 ≤ 0) = false := decide_eq_false (fun hc => hle (hiff.1 hc))
        have hMq : M = S / n := by omega
        obtain ⟨hnot, hq, hS, hn⟩ := hK.out
        rw [← hMq] at hq
        have hme := mean_some hnot hq
        clear hnot hq hS hn hle hiff hMS hMq
        cases hsm : isSmall ((M : Int)) with
        | true =>
          rw [hsm, if_pos rfl] at hme
          obtain rfl : Value.tuple #[.int .i64 ((M : Int)), .bool true] = m := by rw [← HM.out, hme]; rfl
          have ksm := fun W => refSmall_yes (wh ((M : Int))) (wl ((M : Int))) ((M : Int)) W (wrep ⟨by omega, by omega⟩) hsm
          clear hme hMlt
          go_wp2_with fail
          refine wp_region_held_drew (S := (M5 w a b4 b5 (S : Int) b7 (M : Int))) (by kernel_rfl) HQ.out.drew (fun hHeld => ?_)
          refine wpAnyH_take (i := 0) (oi := ?u1o) (v := ?u1v) ?u1h (by kernel_rfl) (by kernel_rfl) (by kernel_rfl) ?u1q ?u1y hHeld ?u1r
          case u1h => (simp only [List.getElem?_toArray, List.getElem?_cons_zero]; rfl)
          case u1q => exact fun _ _ _ h => h
          case u1y => (refine Or.inl ⟨by first | kernel_rfl | rfl, ?_⟩; intro w hSw; (try dsimp only at hSw); have x0 := hSw.m.a.cell 0 rfl; have x1 := hSw.m.s.c0; have x2 := hSw.m.s.c1; have x3 := hSw.q.c0; have x4 := hSw.q.c1; go_simp <;> (try with_reducible rfl))
          try simp only [Act.put, List.setIfInBounds_toArray, List.set_cons_zero, List.set_cons_succ]
          refine wpAnyH_take (i := 1) (oi := ?u2o) (v := ?u2v) ?u2h (by kernel_rfl) (by kernel_rfl) (by kernel_rfl) ?u2q ?u2y hHeld ?u2r
          case u2h => (simp only [List.getElem?_toArray, List.getElem?_cons_succ, List.getElem?_cons_zero]; rfl)
          case u2q => exact fun _ _ _ h => h
          case u2y => (refine Or.inl ⟨by first | kernel_rfl | rfl, ?_⟩; intro w hSw; (try dsimp only at hSw); have x0 := hSw.m.a.cell 0 rfl; have x1 := hSw.m.s.c0; have x2 := hSw.m.s.c1; have x3 := hSw.q.c0; have x4 := hSw.q.c1; go_simp <;> (try with_reducible rfl))
          try simp only [Act.put, List.setIfInBounds_toArray, List.set_cons_zero, List.set_cons_succ]
          refine wpAnyH_take (i := 3) (oi := ?u3o) (v := ?u3v) ?u3h (by kernel_rfl) (by kernel_rfl) (by kernel_rfl) ?u3q ?u3y hHeld ?u3r
          case u3h => (simp only [List.getElem?_toArray, List.getElem?_cons_succ, List.getElem?_cons_zero]; rfl)
          case u3q => exact fun _ _ _ h => h
          case u3y => (refine Or.inl ⟨by first | kernel_rfl | rfl, ?_⟩; intro w hSw; (try dsimp only at hSw); have x0 := hSw.m.a.cell 0 rfl; have x1 := hSw.m.s.c0; have x2 := hSw.m.s.c1; have x3 := hSw.q.c0; have x4 := hSw.q.c1; go_simp <;> (try with_reducible rfl))
          try simp only [Act.put, List.setIfInBounds_toArray, List.set_cons_zero, List.set_cons_succ]
          refine wpAnyH_take (i := 4) (oi := ?u4o) (v := ?u4v) ?u4h (by kernel_rfl) (by kernel_rfl) (by kernel_rfl) ?u4q ?u4y hHeld ?u4r
          case u4h => (simp only [List.getElem?_toArray, List.getElem?_cons_succ, List.getElem?_cons_zero]; rfl)
          case u4q => exact fun _ _ _ h => h
          case u4y => (refine Or.inl ⟨by first | kernel_rfl | rfl, ?_⟩; intro w hSw; (try dsimp only at hSw); have x0 := hSw.m.a.cell 0 rfl; have x1 := hSw.m.s.c0; have x2 := hSw.m.s.c1; have x3 := hSw.q.c0; have x4 := hSw.q.c1; go_simp <;> (try with_reducible rfl))
          try simp only [Act.put, List.setIfInBounds_toArray, List.set_cons_zero, List.set_cons_succ]
          refine wpAnyH_take (i := 5) (oi := ?u5o) (v := ?u5v) ?u5h (by kernel_rfl) (by kernel_rfl) (by kernel_rfl) ?u5q ?u5y hHeld ?u5r
          case u5h => (simp only [List.getElem?_toArray, List.getElem?_cons_succ, List.getElem?_cons_zero]; rfl)
          case u5q => exact fun _ _ _ h => h
          case u5y => (refine Or.inl ⟨by first | kernel_rfl | rfl, ?_⟩; intro w hSw; (try dsimp only at hSw); have x0 := hSw.m.a.cell 0 rfl; have x1 := hSw.m.s.c0; have x2 := hSw.m.s.c1; have x3 := hSw.q.c0; have x4 := hSw.q.c1; go_simp <;> (try with_reducible rfl))
          try simp only [Act.put, List.setIfInBounds_toArray, List.set_cons_zero, List.set_cons_succ]
          refine wpAnyH_take (i := 7) (oi := ?u6o) (v := ?u6v) ?u6h (by kernel_rfl) (by kernel_rfl) (by kernel_rfl) ?u6q ?u6y hHeld ?u6r
          case u6h => (simp only [List.getElem?_toArray, List.getElem?_cons_succ, List.getElem?_cons_zero]; rfl)
          case u6q => exact fun _ _ _ h => h
          case u6y => (refine Or.inl ⟨by first | kernel_rfl | rfl, ?_⟩; intro w hSw; (try dsimp only at hSw); have x0 := hSw.m.a.cell 0 rfl; have x1 := hSw.m.s.c0; have x2 := hSw.m.s.c1; have x3 := hSw.q.c0; have x4 := hSw.q.c1; go_simp <;> (try with_reducible rfl))
          try simp only [Act.put, List.setIfInBounds_toArray, List.set_cons_zero, List.set_cons_succ]
          refine wpAnyH_ready (rs := [2]) (by kernel_rfl) (by simp) ?_
          refine (AllReadyH.cons rfl (fun K hK => ?_) AllReadyH.nil)
          go_simp
          ((with_reducible refine (ka _).mono ?_); rintro e w10 ⟨rfl, hb⟩; (have H10 := Lib.hid (hHeld.keep hb)); clear hb)
          refine hK.out _ _ (H10.out) (fun hHeld => ?_)
          clear hK K
          try simp only [Act.put, List.setIfInBounds_toArray, List.set_cons_zero, List.set_cons_succ]
          refine wpAnyH_ready (rs := [6]) (by kernel_rfl) (by simp) ?_
          refine (AllReadyH.cons rfl (fun K hK => ?_) AllReadyH.nil)
          go_simp
          ((with_reducible refine (kt _).mono ?_); rintro e w11 ⟨rfl, hb⟩; (have H11 := Lib.hid (hHeld.keep hb)); clear hb)
          refine hK.out _ _ (H11.out) (fun hHeld => ?_)
          clear hK K
          try simp only [Act.put, List.setIfInBounds_toArray, List.set_cons_zero, List.set_cons_succ]
          refine wpAnyH_ready (rs := [8]) (by kernel_rfl) (by simp) ?_
          refine (AllReadyH.cons rfl (fun K hK => ?_) AllReadyH.nil)
          go_simp
          ((with_reducible refine (kc _).mono ?_); rintro e w12 ⟨rfl, hb⟩; (have H12 := Lib.hid (hHeld.keep hb)); clear hb)
          refine hK.out _ _ (H12.out) (fun hHeld => ?_)
          clear hK K
          try simp only [Act.put, List.setIfInBounds_toArray, List.set_cons_zero, List.set_cons_succ]
          refine wpAnyH_take (i := 9) (oi := ?u7o) (v := ?u7v) ?u7h (by kernel_rfl) (by kernel_rfl) (by kernel_rfl) ?u7q ?u7y hHeld ?u7r
          case u7h => (simp only [List.getElem?_toArray, List.getElem?_cons_succ, List.getElem?_cons_zero]; rfl)
          case u7q => exact fun _ _ _ h => h
          case u7y => (refine Or.inl ⟨by first | kernel_rfl | rfl, ?_⟩; intro w hSw; (try dsimp only at hSw); have x0 := hSw.m.a.cell 0 rfl; have x1 := hSw.m.s.c0; have x2 := hSw.m.s.c1; have x3 := hSw.q.c0; have x4 := hSw.q.c1; go_simp <;> (try with_reducible rfl))
          try simp only [Act.put, List.setIfInBounds_toArray, List.set_cons_zero, List.set_cons_succ]
          refine wpAnyH_done (by kernel_rfl) ?_ _
          clear hHeld
          have q0 := H12.out.q.c0
          have q1 := H12.out.q.c1
          go_wp2_with (go_at_call 65; (with_reducible refine (ksm _).mono ?_); rintro e w15 ⟨rfl, hb15⟩)
          go_ret2
          exact ⟨rfl, bel_next H12.out.m.bel hb15⟩
        | false =>
          rw [hsm, if_neg (by decide)] at hme
          obtain rfl : Value.tuple #[.int .i64 0, .bool false] = m := by rw [← HM.out, hme]; rfl
          have ksm := fun W => refSmall_no (wh ((M : Int))) (wl ((M : Int))) ((M : Int)) W (wrep ⟨by omega, by omega⟩) hsm
          clear hme hMlt
          go_wp2_with fail
          refine wp_region_held_drew (S := (M5 w a b4 b5 (S : Int) b7 (M : Int))) (by kernel_rfl) HQ.out.drew (fun hHeld => ?_)
          refine wpAnyH_take (i := 0) (oi := ?v1o) (v := ?v1v) ?v1h (by kernel_rfl) (by kernel_rfl) (by kernel_rfl) ?v1q ?v1y hHeld ?v1r
          case v1h => (simp only [List.getElem?_toArray, List.getElem?_cons_zero]; rfl)
          case v1q => exact fun _ _ _ h => h
          case v1y => (refine Or.inl ⟨by first | kernel_rfl | rfl, ?_⟩; intro w hSw; (try dsimp only at hSw); have x0 := hSw.m.a.cell 0 rfl; have x1 := hSw.m.s.c0; have x2 := hSw.m.s.c1; have x3 := hSw.q.c0; have x4 := hSw.q.c1; go_simp <;> (try with_reducible rfl))
          try simp only [Act.put, List.setIfInBounds_toArray, List.set_cons_zero, List.set_cons_succ]
          refine wpAnyH_take (i := 1) (oi := ?v2o) (v := ?v2v) ?v2h (by kernel_rfl) (by kernel_rfl) (by kernel_rfl) ?v2q ?v2y hHeld ?v2r
          case v2h => (simp only [List.getElem?_toArray, List.getElem?_cons_succ, List.getElem?_cons_zero]; rfl)
          case v2q => exact fun _ _ _ h => h
          case v2y => (refine Or.inl ⟨by first | kernel_rfl | rfl, ?_⟩; intro w hSw; (try dsimp only at hSw); have x0 := hSw.m.a.cell 0 rfl; have x1 := hSw.m.s.c0; have x2 := hSw.m.s.c1; have x3 := hSw.q.c0; have x4 := hSw.q.c1; go_simp <;> (try with_reducible rfl))
          try simp only [Act.put, List.setIfInBounds_toArray, List.set_cons_zero, List.set_cons_succ]
          refine wpAnyH_take (i := 3) (oi := ?v3o) (v := ?v3v) ?v3h (by kernel_rfl) (by kernel_rfl) (by kernel_rfl) ?v3q ?v3y hHeld ?v3r
          case v3h => (simp only [List.getElem?_toArray, List.getElem?_cons_succ, List.getElem?_cons_zero]; rfl)
          case v3q => exact fun _ _ _ h => h
          case v3y => (refine Or.inl ⟨by first | kernel_rfl | rfl, ?_⟩; intro w hSw; (try dsimp only at hSw); have x0 := hSw.m.a.cell 0 rfl; have x1 := hSw.m.s.c0; have x2 := hSw.m.s.c1; have x3 := hSw.q.c0; have x4 := hSw.q.c1; go_simp <;> (try with_reducible rfl))
          try simp only [Act.put, List.setIfInBounds_toArray, List.set_cons_zero, List.set_cons_succ]
          refine wpAnyH_take (i := 4) (oi := ?v4o) (v := ?v4v) ?v4h (by kernel_rfl) (by kernel_rfl) (by kernel_rfl) ?v4q ?v4y hHeld ?v4r
          case v4h => (simp only [List.getElem?_toArray, List.getElem?_cons_succ, List.getElem?_cons_zero]; rfl)
          case v4q => exact fun _ _ _ h => h
          case v4y => (refine Or.inl ⟨by first | kernel_rfl | rfl, ?_⟩; intro w hSw; (try dsimp only at hSw); have x0 := hSw.m.a.cell 0 rfl; have x1 := hSw.m.s.c0; have x2 := hSw.m.s.c1; have x3 := hSw.q.c0; have x4 := hSw.q.c1; go_simp <;> (try with_reducible rfl))
          try simp only [Act.put, List.setIfInBounds_toArray, List.set_cons_zero, List.set_cons_succ]
          refine wpAnyH_take (i := 5) (oi := ?v5o) (v := ?v5v) ?v5h (by kernel_rfl) (by kernel_rfl) (by kernel_rfl) ?v5q ?v5y hHeld ?v5r
          case v5h => (simp only [List.getElem?_toArray, List.getElem?_cons_succ, List.getElem?_cons_zero]; rfl)
          case v5q => exact fun _ _ _ h => h
          case v5y => (refine Or.inl ⟨by first | kernel_rfl | rfl, ?_⟩; intro w hSw; (try dsimp only at hSw); have x0 := hSw.m.a.cell 0 rfl; have x1 := hSw.m.s.c0; have x2 := hSw.m.s.c1; have x3 := hSw.q.c0; have x4 := hSw.q.c1; go_simp <;> (try with_reducible rfl))
          try simp only [Act.put, List.setIfInBounds_toArray, List.set_cons_zero, List.set_cons_succ]
          refine wpAnyH_take (i := 7) (oi := ?v6o) (v := ?v6v) ?v6h (by kernel_rfl) (by kernel_rfl) (by kernel_rfl) ?v6q ?v6y hHeld ?v6r
          case v6h => (simp only [List.getElem?_toArray, List.getElem?_cons_succ, List.getElem?_cons_zero]; rfl)
          case v6q => exact fun _ _ _ h => h
          case v6y => (refine Or.inl ⟨by first | kernel_rfl | rfl, ?_⟩; intro w hSw; (try dsimp only at hSw); have x0 := hSw.m.a.cell 0 rfl; have x1 := hSw.m.s.c0; have x2 := hSw.m.s.c1; have x3 := hSw.q.c0; have x4 := hSw.q.c1; go_simp <;> (try with_reducible rfl))
          try simp only [Act.put, List.setIfInBounds_toArray, List.set_cons_zero, List.set_cons_succ]
          refine wpAnyH_ready (rs := [2]) (by kernel_rfl) (by simp) ?_
          refine (AllReadyH.cons rfl (fun K hK => ?_) AllReadyH.nil)
          go_simp
          ((with_reducible refine (ka _).mono ?_); rintro e w10 ⟨rfl, hb⟩; (have H10 := Lib.hid (hHeld.keep hb)); clear hb)
          refine hK.out _ _ (H10.out) (fun hHeld => ?_)
          clear hK K
          try simp only [Act.put, List.setIfInBounds_toArray, List.set_cons_zero, List.set_cons_succ]
          refine wpAnyH_ready (rs := [6]) (by kernel_rfl) (by simp) ?_
          refine (AllReadyH.cons rfl (fun K hK => ?_) AllReadyH.nil)
          go_simp
          ((with_reducible refine (kt _).mono ?_); rintro e w11 ⟨rfl, hb⟩; (have H11 := Lib.hid (hHeld.keep hb)); clear hb)
          refine hK.out _ _ (H11.out) (fun hHeld => ?_)
          clear hK K
          try simp only [Act.put, List.setIfInBounds_toArray, List.set_cons_zero, List.set_cons_succ]
          refine wpAnyH_ready (rs := [8]) (by kernel_rfl) (by simp) ?_
          refine (AllReadyH.cons rfl (fun K hK => ?_) AllReadyH.nil)
          go_simp
          ((with_reducible refine (kc _).mono ?_); rintro e w12 ⟨rfl, hb⟩; (have H12 := Lib.hid (hHeld.keep hb)); clear hb)
          refine hK.out _ _ (H12.out) (fun hHeld => ?_)
          clear hK K
          try simp only [Act.put, List.setIfInBounds_toArray, List.set_cons_zero, List.set_cons_succ]
          refine wpAnyH_take (i := 9) (oi := ?v7o) (v := ?v7v) ?v7h (by kernel_rfl) (by kernel_rfl) (by kernel_rfl) ?v7q ?v7y hHeld ?v7r
          case v7h => (simp only [List.getElem?_toArray, List.getElem?_cons_succ, List.getElem?_cons_zero]; rfl)
          case v7q => exact fun _ _ _ h => h
          case v7y => (refine Or.inl ⟨by first | kernel_rfl | rfl, ?_⟩; intro w hSw; (try dsimp only at hSw); have x0 := hSw.m.a.cell 0 rfl; have x1 := hSw.m.s.c0; have x2 := hSw.m.s.c1; have x3 := hSw.q.c0; have x4 := hSw.q.c1; go_simp <;> (try with_reducible rfl))
          try simp only [Act.put, List.setIfInBounds_toArray, List.set_cons_zero, List.set_cons_succ]
          refine wpAnyH_done (by kernel_rfl) ?_ _
          clear hHeld
          have q0 := H12.out.q.c0
          have q1 := H12.out.q.c1
          go_wp2_with (go_at_call 65; (with_reducible refine (ksm _).mono ?_); rintro e w15 ⟨rfl, hb15⟩)
          go_ret2
          exact ⟨rfl, bel_next H12.out.m.bel hb15⟩
    | succ k =>
      have hk1 : (((k + 1 : Nat) : Int) - 1) = (k : Int) := by omega
      rw [hk1]
      have hk0 : 0 ≤ (k : Int) := by omega
      have hk65 : k < 65 := by omega
      have hkw : IntKind.i64.wrap ((k : Int) - 1) = (k : Int) - 1 := by rw [IntKind.wrap_i64]; omega
      have HROOM := Lib.hid (qK_room HMl.out hk65)
      have HSTEP := Lib.hid (qK_step M k)
      obtain ⟨Q, hQ⟩ : ∃ Q, qK M (k + 1) = Q := ⟨_, rfl⟩
      rw [hQ] at HROOM HSTEP HQ
      have HJ := Lib.hid hj
      clear hQ hk1 hj
      go_wp2_with fail
      obtain ⟨w10, hw10, h10⟩ := (show MT w a b4 b5 (S : Int) b7 (Q : Int) w9.heap.size ((2 ^ 0 : Nat) : Int) (w9.alloc (.cells #[.int .i64 0, .int .u64 1] 24)) from
        ⟨HQ.out.keep ((Below.refl _ _).alloc (Nat.le_refl _) _), RNum.new w9 0 1 _, HQ.out.q.room⟩).name
      rw [← hw10]
      obtain ⟨b9, hb9⟩ : ∃ b, w9.heap.size = b := ⟨_, rfl⟩
      rw [hb9] at h10 ⊢
      have H10 := Lib.hid h10
      clear hw10 h10 hb9 HQ
      go_loopw [10] (fun i wr => ∃ c : Nat, i = .int .i64 (c : Int) ∧ c ≤ k ∧ MT w a b4 b5 (S : Int) b7 (Q : Int) b9 ((2 ^ c : Nat) : Int) wr) (fun i _ => k - (intOf i).toNat)
      case atStart => exact ⟨0, rfl, Nat.zero_le _, H10.out⟩
      case round =>
        obtain ⟨c, rfl, hc, hT⟩ := hrel
        obtain ⟨w11, hw11⟩ : ∃ x, x = wr := ⟨_, rfl⟩
        subst hw11
        have HT := Lib.hid hT
        clear hT H10
        obtain ⟨T, hTT⟩ : ∃ T, 2 ^ c = T := ⟨_, rfl⟩
        rw [hTT] at HT
        have hT65 : T < 36893488147419103232 := by rw [← hTT, ← two65]; exact Nat.pow_lt_pow_right (by decide) (by omega)
        have q0 := HT.out.m.q.c0
        have q1 := HT.out.m.q.c1
        have t0 := HT.out.t.c0
        have t1 := HT.out.t.c1
        by_cases hck : c < k
        · have hcki : (c : Int) < (k : Int) := by omega
          have hcw : IntKind.i64.wrap ((c : Int) + 1) = (c : Int) + 1 := by rw [IntKind.wrap_i64]; omega
          have HTC := Lib.hid (show 2 ^ (c + 1) = T + T by rw [Nat.pow_succ, hTT]; omega)
          have ka := fun W => refAdd_any (wh (T : Int)) (wl (T : Int)) (wh (T : Int)) (wl (T : Int)) (wh ((T : Int) + (T : Int))) (wl ((T : Int) + (T : Int))) (T : Int) (T : Int) ((T : Int) + (T : Int)) W (wrep ⟨by omega, by omega⟩) (wrep ⟨by omega, by omega⟩) (wrep ⟨by omega, by omega⟩) Cong.rfl
          clear hTT hT65
          go_upto_region 17 with (go_at_call 37; (with_reducible refine (ka _).mono ?_); rintro e w12 ⟨rfl, hb⟩; (have H12 := Lib.hid (HT.out.keep hb)); (have t2 := H12.out.t.c0); (have t3 := H12.out.t.c1); (have t4 := H12.out.t.f0); (have t5 := H12.out.t.f1); clear hb)
          obtain ⟨w13, hw13, h13⟩ := (H12.out.put_t ((T : Int) + (T : Int))).name
          rw [← hw13]
          have H13 := Lib.hid h13
          clear hw13 h13 t0 t1 t2 t3 t4 t5 q0 q1 ka
          go_wp2
          go_roundw
          case rel => exact ⟨c + 1, by go_num, by omega, by rw [HTC.out]; exact H13.out⟩
          case measure => simp [intOf]; omega
        · have hcki : ¬ (c : Int) < (k : Int) := by omega
          obtain rfl : c = k := by omega
          rw [hTT] at HROOM HSTEP
          have hroom := HROOM.out
          rw [two65] at hroom
          obtain ⟨P, hP⟩ : ∃ P, (Q + T) * n = P := ⟨_, rfl⟩
          have hPi : ((Q : Int) + (T : Int)) * (n : Int) = (P : Int) := by rw [← hP]; push_cast; rfl
          have hPl : P ≤ 79228162514264337593543950336 := by
            rw [← hP]
            exact Nat.le_trans (Nat.mul_le_mul (show Q + T ≤ 36893488147419103232 by omega) hn1) (by decide)
          have ka := fun W => refAdd_any (wh (Q : Int)) (wl (Q : Int)) (wh (T : Int)) (wl (T : Int)) (wh ((Q : Int) + (T : Int))) (wl ((Q : Int) + (T : Int))) (Q : Int) (T : Int) ((Q : Int) + (T : Int)) W (wrep ⟨by omega, by omega⟩) (wrep ⟨by omega, by omega⟩) (wrep ⟨by omega, by omega⟩) Cong.rfl
          have kt := fun W => refTimes_any (wh ((Q : Int) + (T : Int))) (wl ((Q : Int) + (T : Int))) (n : Int) (wh (P : Int)) (wl (P : Int)) ((Q : Int) + (T : Int)) (P : Int) W (by omega) (by omega) (wrep ⟨by omega, by omega⟩) (wrep ⟨by omega, by omega⟩) (by rw [hPi]; exact Cong.rfl)
          obtain ⟨v3, hv3⟩ : ∃ v, cmp (P : Int) (S : Int) = v := ⟨_, rfl⟩
          have kc := fun W => refCmp_any (wh (P : Int)) (wl (P : Int)) (wh (S : Int)) (wl (S : Int)) (P : Int) (S : Int) v3 W (wrep ⟨by omega, by omega⟩) (wrep ⟨by omega, by have := HSl.out; omega⟩) (Lib.hid hv3)
          have hiff : v3 ≤ 0 ↔ Q + T ≤ M := by
            rw [cmp_nonpos hv3, ← HMt.out, ← top65_le hn0 HROOM.out, hP]
            omega
          clear hTT hT65 hPi hPl hP hv3 hroom
          go_upto_region 20 with (go_at_call 37; (with_reducible refine (ka _).mono ?_); rintro e w12 ⟨rfl, hb⟩; (have H12 := Lib.hid (HT.out.keep hb)); (have t2 := H12.out.t.c0); (have t3 := H12.out.t.c1); (have t4 := H12.out.t.f0); (have t5 := H12.out.t.f1); clear hb)
          obtain ⟨w13, hw13, h13⟩ := (H12.out.put_t ((Q : Int) + (T : Int))).name
          rw [← hw13]
          have H13 := Lib.hid h13
          clear hw13 h13 t0 t1 t2 t3 t4 t5 q0 q1 ka
          by_cases hle : Q + T ≤ M
          · have hvd : decide (v3 ≤ 0) = true := decide_eq_true (hiff.2 hle)
            have HNX := Lib.hid (show ((qK M c : Nat) : Int) = (Q : Int) + (T : Int) by rw [HSTEP.out, if_pos hle]; push_cast; rfl)
            clear hle hiff
            refine wp_region_held_drew (S := (MT w a b4 b5 (S : Int) b7 (Q : Int) b9 ((Q : Int) + (T : Int)))) (by kernel_rfl) H13.out.drew (fun hHeld => ?_)
            refine wpAnyH_take (i := 0) (oi := ?r1o) (v := ?r1v) ?r1h (by kernel_rfl) (by kernel_rfl) (by kernel_rfl) ?r1q ?r1y hHeld ?r1r
            case r1h => (simp only [List.getElem?_toArray, List.getElem?_cons_zero]; rfl)
            case r1q => exact fun _ _ _ h => h
            case r1y => (refine Or.inl ⟨by first | kernel_rfl | rfl, ?_⟩; intro w hSw; (try dsimp only at hSw); have x0 := hSw.m.m.a.cell 0 rfl; have x1 := hSw.m.m.s.c0; have x2 := hSw.m.m.s.c1; have x3 := hSw.t.c0; have x4 := hSw.t.c1; go_simp <;> (try with_reducible rfl))
            try simp only [Act.put, List.setIfInBounds_toArray, List.set_cons_zero, List.set_cons_succ]
            refine wpAnyH_take (i := 1) (oi := ?r2o) (v := ?r2v) ?r2h (by kernel_rfl) (by kernel_rfl) (by kernel_rfl) ?r2q ?r2y hHeld ?r2r
            case r2h => (simp only [List.getElem?_toArray, List.getElem?_cons_succ, List.getElem?_cons_zero]; rfl)
            case r2q => exact fun _ _ _ h => h
            case r2y => (refine Or.inl ⟨by first | kernel_rfl | rfl, ?_⟩; intro w hSw; (try dsimp only at hSw); have x0 := hSw.m.m.a.cell 0 rfl; have x1 := hSw.m.m.s.c0; have x2 := hSw.m.m.s.c1; have x3 := hSw.t.c0; have x4 := hSw.t.c1; go_simp <;> (try with_reducible rfl))
            try simp only [Act.put, List.setIfInBounds_toArray, List.set_cons_zero, List.set_cons_succ]
            refine wpAnyH_take (i := 2) (oi := ?r3o) (v := ?r3v) ?r3h (by kernel_rfl) (by kernel_rfl) (by kernel_rfl) ?r3q ?r3y hHeld ?r3r
            case r3h => (simp only [List.getElem?_toArray, List.getElem?_cons_succ, List.getElem?_cons_zero]; rfl)
            case r3q => exact fun _ _ _ h => h
            case r3y => (refine Or.inl ⟨by first | kernel_rfl | rfl, ?_⟩; intro w hSw; (try dsimp only at hSw); have x0 := hSw.m.m.a.cell 0 rfl; have x1 := hSw.m.m.s.c0; have x2 := hSw.m.m.s.c1; have x3 := hSw.t.c0; have x4 := hSw.t.c1; go_simp <;> (try with_reducible rfl))
            try simp only [Act.put, List.setIfInBounds_toArray, List.set_cons_zero, List.set_cons_succ]
            refine wpAnyH_take (i := 3) (oi := ?r4o) (v := ?r4v) ?r4h (by kernel_rfl) (by kernel_rfl) (by kernel_rfl) ?r4q ?r4y hHeld ?r4r
            case r4h => (simp only [List.getElem?_toArray, List.getElem?_cons_succ, List.getElem?_cons_zero]; rfl)
            case r4q => exact fun _ _ _ h => h
            case r4y => (refine Or.inl ⟨by first | kernel_rfl | rfl, ?_⟩; intro w hSw; (try dsimp only at hSw); have x0 := hSw.m.m.a.cell 0 rfl; have x1 := hSw.m.m.s.c0; have x2 := hSw.m.m.s.c1; have x3 := hSw.t.c0; have x4 := hSw.t.c1; go_simp <;> (try with_reducible rfl))
            try simp only [Act.put, List.setIfInBounds_toArray, List.set_cons_zero, List.set_cons_succ]
            refine wpAnyH_take (i := 5) (oi := ?r5o) (v := ?r5v) ?r5h (by kernel_rfl) (by kernel_rfl) (by kernel_rfl) ?r5q ?r5y hHeld ?r5r
            case r5h => (simp only [List.getElem?_toArray, List.getElem?_cons_succ, List.getElem?_cons_zero]; rfl)
            case r5q => exact fun _ _ _ h => h
            case r5y => (refine Or.inl ⟨by first | kernel_rfl | rfl, ?_⟩; intro w hSw; (try dsimp only at hSw); have x0 := hSw.m.m.a.cell 0 rfl; have x1 := hSw.m.m.s.c0; have x2 := hSw.m.m.s.c1; have x3 := hSw.t.c0; have x4 := hSw.t.c1; go_simp <;> (try with_reducible rfl))
            try simp only [Act.put, List.setIfInBounds_toArray, List.set_cons_zero, List.set_cons_succ]
            refine wpAnyH_ready (rs := [4]) (by kernel_rfl) (by simp) ?_
            refine (AllReadyH.cons rfl (fun K hK => ?_) AllReadyH.nil)
            go_simp
            ((with_reducible refine (kt _).mono ?_); rintro e w14 ⟨rfl, hb⟩; (have H14 := Lib.hid (hHeld.keep hb)); clear hb)
            refine hK.out _ _ (H14.out) (fun hHeld => ?_)
            clear hK K
            try simp only [Act.put, List.setIfInBounds_toArray, List.set_cons_zero, List.set_cons_succ]
            refine wpAnyH_ready (rs := [6]) (by kernel_rfl) (by simp) ?_
            refine (AllReadyH.cons rfl (fun K hK => ?_) AllReadyH.nil)
            go_simp
            ((with_reducible refine (kc _).mono ?_); rintro e w15 ⟨rfl, hb⟩; (have H15 := Lib.hid (hHeld.keep hb)); clear hb)
            refine hK.out _ _ (H15.out) (fun hHeld => ?_)
            clear hK K
            try simp only [Act.put, List.setIfInBounds_toArray, List.set_cons_zero, List.set_cons_succ]
            refine wpAnyH_take (i := 7) (oi := ?r6o) (v := ?r6v) ?r6h (by kernel_rfl) (by kernel_rfl) (by kernel_rfl) ?r6q ?r6y hHeld ?r6r
            case r6h => (simp only [List.getElem?_toArray, List.getElem?_cons_succ, List.getElem?_cons_zero]; rfl)
            case r6q => exact fun _ _ _ h => h
            case r6y => (refine Or.inl ⟨by first | kernel_rfl | rfl, ?_⟩; intro w hSw; (try dsimp only at hSw); have x0 := hSw.m.m.a.cell 0 rfl; have x1 := hSw.m.m.s.c0; have x2 := hSw.m.m.s.c1; have x3 := hSw.t.c0; have x4 := hSw.t.c1; go_simp <;> (try with_reducible rfl))
            try simp only [Act.put, List.setIfInBounds_toArray, List.set_cons_zero, List.set_cons_succ]
            refine wpAnyH_done (by kernel_rfl) ?_ _
            have q0 := H15.out.m.q.c0
            have q1 := H15.out.m.q.c1
            have q2 := H15.out.m.q.f0
            have q3 := H15.out.m.q.f1
            have t0 := H15.out.t.c0
            have t1 := H15.out.t.c1
            clear hHeld
            go_upto_region 13 with fail
            obtain ⟨w16, hw16, h16⟩ := (H15.out.m.put_q ((Q : Int) + (T : Int))).name
            rw [← hw16]
            have H16 := Lib.hid h16
            clear hw16 h16 q0 q1 q2 q3 t0 t1
            go_wp2
            go_roundw
            case rel => exact ⟨c, by go_num, by have := HJ.out; omega, by rw [HNX.out]; exact H16.out⟩
            case measure => simp [intOf]
          · have hvd : decide (v3 ≤ 0) = false := decide_eq_false (fun hc => hle (hiff.1 hc))
            have HNX := Lib.hid (show ((qK M c : Nat) : Int) = (Q : Int) by rw [HSTEP.out, if_neg hle])
            clear hle hiff
            refine wp_region_held_drew (S := (MT w a b4 b5 (S : Int) b7 (Q : Int) b9 ((Q : Int) + (T : Int)))) (by kernel_rfl) H13.out.drew (fun hHeld => ?_)
            refine wpAnyH_take (i := 0) (oi := ?s1o) (v := ?s1v) ?s1h (by kernel_rfl) (by kernel_rfl) (by kernel_rfl) ?s1q ?s1y hHeld ?s1r
            case s1h => (simp only [List.getElem?_toArray, List.getElem?_cons_zero]; rfl)
            case s1q => exact fun _ _ _ h => h
            case s1y => (refine Or.inl ⟨by first | kernel_rfl | rfl, ?_⟩; intro w hSw; (try dsimp only at hSw); have x0 := hSw.m.m.a.cell 0 rfl; have x1 := hSw.m.m.s.c0; have x2 := hSw.m.m.s.c1; have x3 := hSw.t.c0; have x4 := hSw.t.c1; go_simp <;> (try with_reducible rfl))
            try simp only [Act.put, List.setIfInBounds_toArray, List.set_cons_zero, List.set_cons_succ]
            refine wpAnyH_take (i := 1) (oi := ?s2o) (v := ?s2v) ?s2h (by kernel_rfl) (by kernel_rfl) (by kernel_rfl) ?s2q ?s2y hHeld ?s2r
            case s2h => (simp only [List.getElem?_toArray, List.getElem?_cons_succ, List.getElem?_cons_zero]; rfl)
            case s2q => exact fun _ _ _ h => h
            case s2y => (refine Or.inl ⟨by first | kernel_rfl | rfl, ?_⟩; intro w hSw; (try dsimp only at hSw); have x0 := hSw.m.m.a.cell 0 rfl; have x1 := hSw.m.m.s.c0; have x2 := hSw.m.m.s.c1; have x3 := hSw.t.c0; have x4 := hSw.t.c1; go_simp <;> (try with_reducible rfl))
            try simp only [Act.put, List.setIfInBounds_toArray, List.set_cons_zero, List.set_cons_succ]
            refine wpAnyH_take (i := 2) (oi := ?s3o) (v := ?s3v) ?s3h (by kernel_rfl) (by kernel_rfl) (by kernel_rfl) ?s3q ?s3y hHeld ?s3r
            case s3h => (simp only [List.getElem?_toArray, List.getElem?_cons_succ, List.getElem?_cons_zero]; rfl)
            case s3q => exact fun _ _ _ h => h
            case s3y => (refine Or.inl ⟨by first | kernel_rfl | rfl, ?_⟩; intro w hSw; (try dsimp only at hSw); have x0 := hSw.m.m.a.cell 0 rfl; have x1 := hSw.m.m.s.c0; have x2 := hSw.m.m.s.c1; have x3 := hSw.t.c0; have x4 := hSw.t.c1; go_simp <;> (try with_reducible rfl))
            try simp only [Act.put, List.setIfInBounds_toArray, List.set_cons_zero, List.set_cons_succ]
            refine wpAnyH_take (i := 3) (oi := ?s4o) (v := ?s4v) ?s4h (by kernel_rfl) (by kernel_rfl) (by kernel_rfl) ?s4q ?s4y hHeld ?s4r
            case s4h => (simp only [List.getElem?_toArray, List.getElem?_cons_succ, List.getElem?_cons_zero]; rfl)
            case s4q => exact fun _ _ _ h => h
            case s4y => (refine Or.inl ⟨by first | kernel_rfl | rfl, ?_⟩; intro w hSw; (try dsimp only at hSw); have x0 := hSw.m.m.a.cell 0 rfl; have x1 := hSw.m.m.s.c0; have x2 := hSw.m.m.s.c1; have x3 := hSw.t.c0; have x4 := hSw.t.c1; go_simp <;> (try with_reducible rfl))
            try simp only [Act.put, List.setIfInBounds_toArray, List.set_cons_zero, List.set_cons_succ]
            refine wpAnyH_take (i := 5) (oi := ?s5o) (v := ?s5v) ?s5h (by kernel_rfl) (by kernel_rfl) (by kernel_rfl) ?s5q ?s5y hHeld ?s5r
            case s5h => (simp only [List.getElem?_toArray, List.getElem?_cons_succ, List.getElem?_cons_zero]; rfl)
            case s5q => exact fun _ _ _ h => h
            case s5y => (refine Or.inl ⟨by first | kernel_rfl | rfl, ?_⟩; intro w hSw; (try dsimp only at hSw); have x0 := hSw.m.m.a.cell 0 rfl; have x1 := hSw.m.m.s.c0; have x2 := hSw.m.m.s.c1; have x3 := hSw.t.c0; have x4 := hSw.t.c1; go_simp <;> (try with_reducible rfl))
            try simp only [Act.put, List.setIfInBounds_toArray, List.set_cons_zero, List.set_cons_succ]
            refine wpAnyH_ready (rs := [4]) (by kernel_rfl) (by simp) ?_
            refine (AllReadyH.cons rfl (fun K hK => ?_) AllReadyH.nil)
            go_simp
            ((with_reducible refine (kt _).mono ?_); rintro e w14 ⟨rfl, hb⟩; (have H14 := Lib.hid (hHeld.keep hb)); clear hb)
            refine hK.out _ _ (H14.out) (fun hHeld => ?_)
            clear hK K
            try simp only [Act.put, List.setIfInBounds_toArray, List.set_cons_zero, List.set_cons_succ]
            refine wpAnyH_ready (rs := [6]) (by kernel_rfl) (by simp) ?_
            refine (AllReadyH.cons rfl (fun K hK => ?_) AllReadyH.nil)
            go_simp
            ((with_reducible refine (kc _).mono ?_); rintro e w15 ⟨rfl, hb⟩; (have H15 := Lib.hid (hHeld.keep hb)); clear hb)
            refine hK.out _ _ (H15.out) (fun hHeld => ?_)
            clear hK K
            try simp only [Act.put, List.setIfInBounds_toArray, List.set_cons_zero, List.set_cons_succ]
            refine wpAnyH_take (i := 7) (oi := ?s6o) (v := ?s6v) ?s6h (by kernel_rfl) (by kernel_rfl) (by kernel_rfl) ?s6q ?s6y hHeld ?s6r
            case s6h => (simp only [List.getElem?_toArray, List.getElem?_cons_succ, List.getElem?_cons_zero]; rfl)
            case s6q => exact fun _ _ _ h => h
            case s6y => (refine Or.inl ⟨by first | kernel_rfl | rfl, ?_⟩; intro w hSw; (try dsimp only at hSw); have x0 := hSw.m.m.a.cell 0 rfl; have x1 := hSw.m.m.s.c0; have x2 := hSw.m.m.s.c1; have x3 := hSw.t.c0; have x4 := hSw.t.c1; go_simp <;> (try with_reducible rfl))
            try simp only [Act.put, List.setIfInBounds_toArray, List.set_cons_zero, List.set_cons_succ]
            refine wpAnyH_done (by kernel_rfl) ?_ _
            clear hHeld
            go_wp2
            go_roundw
            case rel => exact ⟨c, by go_num, by have := HJ.out; omega, by rw [HNX.out]; exact H15.out.m⟩
            case measure => simp [intOf]

set_option maxHeartbeats 4000000 in
theorem rmean_neg (a : Ag) (ha : a.fits) (w : World) (h1 : 1 ≤ a.n) (h2 : a.n ≤ 2147483648) (hs : a.s < 0) : Calls Try.prog 28 #[agV a] w fun e w' => e = .returned (meanV (meanA a)) ∧ Below w.heap.size w w' := by
  obtain ⟨n, hn⟩ : ∃ n : Nat, a.n = (n : Int) := ⟨a.n.toNat, by omega⟩
  obtain ⟨S, hS⟩ : ∃ S : Nat, a.s = -(S : Int) := ⟨(-a.s).toNat, by omega⟩
  obtain ⟨s1, s2⟩ := ha.s
  have hnot : ¬ (a.n < 1 ∨ 2147483648 < a.n) := by omega
  have hq : a.s.tdiv a.n = -((S / n : Nat) : Int) := by rw [hS, hn]; exact tdiv_neg S n
  have hSl : S ≤ 170141183460469231731687303715884105728 := by omega
  obtain ⟨v1, hv1⟩ : ∃ v, cmp a.s 0 = v := ⟨_, rfl⟩
  have hv1n : decide (v1 < 0) = true := decide_eq_true ((cmp_neg hv1).2 hs)
  have k1 := fun W => refCmp_any (wh a.s) (wl a.s) 0 0 a.s 0 v1 W (wrep ha.s) rep_zero (Lib.hid hv1)
  have h0 := (AgW.new w a 29).at_
  have hb0 := (Below.refl w.heap.size w).alloc (Nat.le_refl _) (.cells (cells18 a).toArray 29)
  simp only [cells18] at h0 hb0
  have H0 := Lib.hid h0
  have HB := Lib.hid hb0
  clear h0 hb0 s1 s2
  obtain ⟨m, hm⟩ : ∃ m, meanV (meanA a) = m := ⟨_, rfl⟩
  rw [hm]
  have HM := Lib.hid hm
  have n1 : ¬ a.n < 1 := by omega
  have n2 : ¬ 2147483648 < a.n := by omega
  have hwn : IntKind.u32.wrap a.n = (n : Int) := by rw [IntKind.wrap_u32]; omega
  have hK := Lib.hid (And.intro hnot (And.intro hq (And.intro hS hn)))
  have hn0 : 1 ≤ n := by omega
  have hn1 : n ≤ 2147483648 := by omega
  unfold agV
  clear hm hnot hq hS hn h1 h2 hv1
  go_enter Try.func28, Try.ntmps28
  go_upto_region 1 with fail
  obtain ⟨w0, hw0, h1', hb1⟩ := unName H0.out HB.out
  rw [← hw0]
  clear hw0
  have H1 := Lib.hid h1'
  have HB1 := Lib.hid hb1
  have a0 := h1'.cell 0 rfl
  have a1 := h1'.cell 1 rfl
  have a2 := h1'.cell 2 rfl
  have a1b := (h1'.below ((Below.refl _ _).alloc (Nat.le_refl _) (.cells #[.int .i64 0, .int .u64 0] 24))).cell 1 rfl
  have a2b := (h1'.below ((Below.refl _ _).alloc (Nat.le_refl _) (.cells #[.int .i64 0, .int .u64 0] 24))).cell 2 rfl
  clear h1' hb1
  go_upto_region 5 with fail
  have hr0 := H1.out.room
  obtain ⟨w3, hw3, h3⟩ := (show M4 w a w0.heap.size (w0.heap.size + 1) a.s ((w0.alloc (.cells #[.int .i64 0, .int .u64 0] 24)).alloc (.cells #[.int .i64 (wh a.s), .int .u64 (wl a.s)] 24)) from
    ⟨(H1.out.below ((Below.refl _ _).alloc (Nat.le_refl _) _)).below ((Below.refl _ _).alloc (Nat.le_refl _) _), (RNum.new w0 0 0 24).below ((Below.refl _ _).alloc (Nat.le_refl _) _), by
      have := RNum.new (w0.alloc (.cells #[.int .i64 0, .int .u64 0] 24)) (wh a.s) (wl a.s) 24
      rwa [World.size_alloc] at this, hr0, Nat.lt_succ_self _, bel_new (bel_new HB1.out _) _⟩).name
  rw [← hw3]
  clear hw3 a1b a2b a0 a1 a2
  obtain ⟨b4, hb4⟩ : ∃ b, w0.heap.size = b := ⟨_, rfl⟩
  rw [hb4] at h3 ⊢
  obtain ⟨b5, hb5⟩ : ∃ b, b4 + 1 = b := ⟨_, rfl⟩
  rw [hb5] at h3 ⊢
  have H3 := Lib.hid h3
  have z0 := h3.z.c0
  have z1 := h3.z.c1
  have s0 := h3.s.c0
  have s1 := h3.s.c1
  clear h3 hb4 hb5 hr0
  go_upto_if 26 with (go_at_call 51; (with_reducible refine (k1 _).mono ?_); rintro e w4 ⟨rfl, hb⟩; (have H4 := Lib.hid (H3.out.keep hb)); clear hb s0 s1 z0 z1)
  clear k1 H3 w3
  have s0 := H4.out.s.c0
  have s1 := H4.out.s.c1
  obtain ⟨z, hz⟩ : ∃ z, sm (-a.s) = z := ⟨_, rfl⟩
  have hzi : InW z := by rw [← hz]; exact sm_in _
  have hzv : (S < 170141183460469231731687303715884105728 ∧ z = (S : Int)) ∨ (S = 170141183460469231731687303715884105728 ∧ z = -170141183460469231731687303715884105728) := by
    obtain ⟨_, _, hS, _⟩ := hK.out
    by_cases hc : S = 170141183460469231731687303715884105728
    · refine Or.inr ⟨hc, ?_⟩; rw [← hz, hS]; unfold sm; omega
    · refine Or.inl ⟨by omega, ?_⟩; rw [← hz, hS]; unfold sm; omega
  have kng := fun W => refNeg_any (wh a.s) (wl a.s) (wh z) (wl z) a.s z W (wrep ha.s) (wrep hzi) (by rw [← hz]; exact sm_cong _)
  obtain ⟨v2, hv2⟩ : ∃ v, cmp z 0 = v := ⟨_, rfl⟩
  have k2 := fun W => refCmp_any (wh z) (wl z) 0 0 z 0 v2 W (wrep hzi) rep_zero (Lib.hid hv2)
  have HZ := Lib.hid (And.intro hzv hv2)
  clear hz hzv hv2 hzi
  go_upto_region 8 with (go_at_call 63; (with_reducible refine (kng _).mono ?_); rintro e w5 ⟨rfl, hb⟩; (have H5 := Lib.hid (H4.out.keep hb)); (have s2 := H5.out.s.c0); (have s3 := H5.out.s.c1); (have s4 := H5.out.s.f0); (have s5 := H5.out.s.f1); clear hb)
  obtain ⟨w6, hw6, h6⟩ := (H5.out.put_s z).name
  rw [← hw6]
  clear hw6 s0 s1 s2 s3 s4 s5 kng
  have H6 := Lib.hid h6
  clear h6 H5 H4
  have s0 := H6.out.s.c0
  have s1 := H6.out.s.c1
  have z0 := H6.out.z.c0
  have z1 := H6.out.z.c1
  by_cases hmax : S = 170141183460469231731687303715884105728
  · have hv2n : v2 < 0 := by obtain ⟨hz, hv⟩ := HZ.out; exact (cmp_neg hv).2 (by omega)
    obtain ⟨hnot, hq, hS, hn⟩ := hK.out
    have hdq : 9223372036854775808 < S / n := by
      have := (Nat.le_div_iff_mul_le hn0 (x := 9223372036854775809) (y := S)).2 (by omega)
      omega
    obtain rfl : Value.tuple #[.int .i64 0, .bool false] = m := by rw [← HM.out, mean_high hnot hq (by omega)]; rfl
    clear hnot hq hS hn hdq hmax
    go_wp2_with (go_at_call 51; (with_reducible refine (k2 _).mono ?_); rintro e w7 ⟨rfl, hb⟩; (have H7 := Lib.hid (H6.out.keep hb)); clear hb)
    go_ret2
    exact ⟨rfl, H7.out.bel⟩
  have hSl2 : S < 170141183460469231731687303715884105728 := by omega
  have hv2n : ¬ v2 < 0 := by obtain ⟨hz, hv⟩ := HZ.out; exact fun hc => absurd ((cmp_neg hv).1 hc) (by omega)
  have hzS : z = (S : Int) := by obtain ⟨hz, hv⟩ := HZ.out; omega
  subst hzS
  clear hmax HZ
  have hv2d : decide (v2 < 0) = false := decide_eq_false hv2n
  go_upto_region 11 with (go_at_call 51; (with_reducible refine (k2 _).mono ?_); rintro e w7 ⟨rfl, hb⟩; (have H7 := Lib.hid (H6.out.keep hb)); (have z2 := H7.out.z.c0); (have z3 := H7.out.z.c1); clear hb)
  clear s0 s1 z0 z1 hv2d hv2n k2 H6
  obtain ⟨w8, hw8, h8⟩ := (show M5 w a b4 b5 (S : Int) w7.heap.size 0 (w7.alloc (.cells #[.int .i64 0, .int .u64 0] 24)) from
    ⟨H7.out.keep ((Below.refl _ _).alloc (Nat.le_refl _) _), by rw [wh_zero, wl_zero]; exact RNum.new w7 0 0 _, H7.out.s.room⟩).name
  rw [← hw8]
  obtain ⟨b7, hb7⟩ : ∃ b, w7.heap.size = b := ⟨_, rfl⟩
  rw [hb7] at h8 ⊢
  have H8 := Lib.hid h8
  clear hw8 h8 hb7 z2 z3 H7
  obtain ⟨M, hM⟩ : ∃ M, top65 S n = M := ⟨_, rfl⟩
  have HMl := Lib.hid (show M < 2 ^ 65 by rw [← hM]; exact top65_lt S n)
  have HMt := Lib.hid hM
  have HSl := Lib.hid hSl2
  clear hM hSl2 hSl
  go_wp2_with fail
  go_loopw [8, 9, 10] (fun i _ _ wr => ∃ j : Nat, i = .int .i64 ((j : Int) - 1) ∧ j ≤ 65 ∧ M5 w a b4 b5 (S : Int) b7 ((qK M j : Nat) : Int) wr) (fun i _ _ _ => (intOf i + 1).toNat)
  case atStart => exact ⟨65, rfl, Nat.le_refl _, by rw [qK_top HMl.out]; exact H8.out⟩
  case round =>
    obtain ⟨j, rfl, hj, hQ⟩ := hrel
    obtain ⟨w9, hw9⟩ : ∃ x, x = wr := ⟨_, rfl⟩
    subst hw9
    have HQ := Lib.hid hQ
    clear hQ H8
    cases j with
    | zero =>
      rw [show (((0 : Nat) : Int) - 1) = -1 from rfl]
      rw [qK_zero] at HQ
      have hMlt : M < 36893488147419103232 := by have := HMl.out; rwa [two65] at this
      obtain ⟨P, hP⟩ : ∃ P, (M + 1) * n = P := ⟨_, rfl⟩
      have hPi : ((M : Int) + 1) * (n : Int) = (P : Int) := by rw [← hP]; push_cast; rfl
      have hPl : P ≤ 79228162514264337593543950336 := by
        rw [← hP]
        exact Nat.le_trans (Nat.mul_le_mul (show M + 1 ≤ 36893488147419103232 from hMlt) hn1) (by decide)
      have ka := fun W => refAdd_any (wh (M : Int)) (wl (M : Int)) 0 1 (wh ((M : Int) + 1)) (wl ((M : Int) + 1)) (M : Int) 1 ((M : Int) + 1) W (wrep ⟨by omega, by omega⟩) ⟨by omega, by omega, by omega, by omega, by omega⟩ (wrep ⟨by omega, by omega⟩) Cong.rfl
      have kt := fun W => refTimes_any (wh ((M : Int) + 1)) (wl ((M : Int) + 1)) (n : Int) (wh (P : Int)) (wl (P : Int)) ((M : Int) + 1) (P : Int) W (by omega) (by omega) (wrep ⟨by omega, by omega⟩) (wrep ⟨by omega, by omega⟩) (by rw [hPi]; exact Cong.rfl)
      obtain ⟨v4, hv4⟩ : ∃ v, cmp (P : Int) (S : Int) = v := ⟨_, rfl⟩
      have kc := fun W => refCmp_any (wh (P : Int)) (wl (P : Int)) (wh (S : Int)) (wl (S : Int)) (P : Int) (S : Int) v4 W (wrep ⟨by omega, by omega⟩) (wrep ⟨by omega, by have := HSl.out; omega⟩) (Lib.hid hv4)
      have hiff : v4 ≤ 0 ↔ M + 1 ≤ S / n := by
        rw [cmp_nonpos hv4, Nat.le_div_iff_mul_le hn0, hP]
        omega
      have hMS : M ≤ S / n ∧ (M < 36893488147419103231 → M = S / n) := by
        have := HMt.out
        unfold top65 at this
        omega
      clear hPi hPl hP hv4
      by_cases hle : M + 1 ≤ S / n
      · have hvd : decide (v4 ≤ 0) = true := decide_eq_true (hiff.2 hle)
        obtain ⟨hnot, hq, hS, hn⟩ := hK.out
        obtain rfl : Value.tuple #[.int .i64 0, .bool false] = m := by rw [← HM.out, mean_high hnot hq (by omega)]; rfl
        clear hnot hq hS hn hle hiff hMS hMlt
        go_wp2_with fail
        refine wp_region_held_drew (S := (M5 w a b4 b5 (S : Int) b7 (M : Int))) (by kernel_rfl) HQ.out.drew (fun hHeld => ?_)
        refine wpAnyH_take (i := 0) (oi := ?t1o) (v := ?t1v) ?t1h (by kernel_rfl) (by kernel_rfl) (by kernel_rfl) ?t1q ?t1y hHeld ?t1r
        case t1h => (simp only [List.getElem?_toArray, List.getElem?_cons_zero]; rfl)
        case t1q => exact fun _ _ _ h => h
        case t1y => (refine Or.inl ⟨by first | kernel_rfl | rfl, ?_⟩; intro w hSw; (try dsimp only at hSw); have x0 := hSw.m.a.cell 0 rfl; have x1 := hSw.m.s.c0; have x2 := hSw.m.s.c1; have x3 := hSw.q.c0; have x4 := hSw.q.c1; go_simp <;> (try with_reducible rfl))
        try simp only [Act.put, List.setIfInBounds_toArray, List.set_cons_zero, List.set_cons_succ]
        refine wpAnyH_take (i := 1) (oi := ?t2o) (v := ?t2v) ?t2h (by kernel_rfl) (by kernel_rfl) (by kernel_rfl) ?t2q ?t2y hHeld ?t2r
        case t2h => (simp only [List.getElem?_toArray, List.getElem?_cons_succ, List.getElem?_cons_zero]; rfl)
        case t2q => exact fun _ _ _ h => h
        case t2y => (refine Or.inl ⟨by first | kernel_rfl | rfl, ?_⟩; intro w hSw; (try dsimp only at hSw); have x0 := hSw.m.a.cell 0 rfl; have x1 := hSw.m.s.c0; have x2 := hSw.m.s.c1; have x3 := hSw.q.c0; have x4 := hSw.q.c1; go_simp <;> (try with_reducible rfl))
        try simp only [Act.put, List.setIfInBounds_toArray, List.set_cons_zero, List.set_cons_succ]
        refine wpAnyH_take (i := 3) (oi := ?t3o) (v := ?t3v) ?t3h (by kernel_rfl) (by kernel_rfl) (by kernel_rfl) ?t3q ?t3y hHeld ?t3r
        case t3h => (simp only [List.getElem?_toArray, List.getElem?_cons_succ, List.getElem?_cons_zero]; rfl)
        case t3q => exact fun _ _ _ h => h
        case t3y => (refine Or.inl ⟨by first | kernel_rfl | rfl, ?_⟩; intro w hSw; (try dsimp only at hSw); have x0 := hSw.m.a.cell 0 rfl; have x1 := hSw.m.s.c0; have x2 := hSw.m.s.c1; have x3 := hSw.q.c0; have x4 := hSw.q.c1; go_simp <;> (try with_reducible rfl))
        try simp only [Act.put, List.setIfInBounds_toArray, List.set_cons_zero, List.set_cons_succ]
        refine wpAnyH_take (i := 4) (oi := ?t4o) (v := ?t4v) ?t4h (by kernel_rfl) (by kernel_rfl) (by kernel_rfl) ?t4q ?t4y hHeld ?t4r
        case t4h => (simp only [List.getElem?_toArray, List.getElem?_cons_succ, List.getElem?_cons_zero]; rfl)
        case t4q => exact fun _ _ _ h => h
        case t4y => (refine Or.inl ⟨by first | kernel_rfl | rfl, ?_⟩; intro w hSw; (try dsimp only at hSw); have x0 := hSw.m.a.cell 0 rfl; have x1 := hSw.m.s.c0; have x2 := hSw.m.s.c1; have x3 := hSw.q.c0; have x4 := hSw.q.c1; go_simp <;> (try with_reducible rfl))
        try simp only [Act.put, List.setIfInBounds_toArray, List.set_cons_zero, List.set_cons_succ]
        refine wpAnyH_take (i := 5) (oi := ?t5o) (v := ?t5v) ?t5h (by kernel_rfl) (by kernel_rfl) (by kernel_rfl) ?t5q ?t5y hHeld ?t5r
        case t5h => (simp only [List.getElem?_toArray, List.getElem?_cons_succ, List.getElem?_cons_zero]; rfl)
        case t5q => exact fun _ _ _ h => h
        case t5y => (refine Or.inl ⟨by first | kernel_rfl | rfl, ?_⟩; intro w hSw; (try dsimp only at hSw); have x0 := hSw.m.a.cell 0 rfl; have x1 := hSw.m.s.c0; have x2 := hSw.m.s.c1; have x3 := hSw.q.c0; have x4 := hSw.q.c1; go_simp <;> (try with_reducible rfl))
        try simp only [Act.put, List.setIfInBounds_toArray, List.set_cons_zero, List.set_cons_succ]
        refine wpAnyH_take (i := 7) (oi := ?t6o) (v := ?t6v) ?t6h (by kernel_rfl) (by kernel_rfl) (by kernel_rfl) ?t6q ?t6y hHeld ?t6r
        case t6h => (simp only [List.getElem?_toArray, List.getElem?_cons_succ, List.getElem?_cons_zero]; rfl)
        case t6q => exact fun _ _ _ h => h
        case t6y => (refine Or.inl ⟨by first | kernel_rfl | rfl, ?_⟩; intro w hSw; (try dsimp only at hSw); have x0 := hSw.m.a.cell 0 rfl; have x1 := hSw.m.s.c0; have x2 := hSw.m.s.c1; have x3 := hSw.q.c0; have x4 := hSw.q.c1; go_simp <;> (try with_reducible rfl))
        try simp only [Act.put, List.setIfInBounds_toArray, List.set_cons_zero, List.set_cons_succ]
        refine wpAnyH_ready (rs := [2]) (by kernel_rfl) (by simp) ?_
        refine (AllReadyH.cons rfl (fun K hK => ?_) AllReadyH.nil)
        go_simp
        ((with_reducible refine (ka _).mono ?_); rintro e w10 ⟨rfl, hb⟩; (have H10 := Lib.hid (hHeld.keep hb)); clear hb)
        refine hK.out _ _ (H10.out) (fun hHeld => ?_)
        clear hK K
        try simp only [Act.put, List.setIfInBounds_toArray, List.set_cons_zero, List.set_cons_succ]
        refine wpAnyH_ready (rs := [6]) (by kernel_rfl) (by simp) ?_
        refine (AllReadyH.cons rfl (fun K hK => ?_) AllReadyH.nil)
        go_simp
        ((with_reducible refine (kt _).mono ?_); rintro e w11 ⟨rfl, hb⟩; (have H11 := Lib.hid (hHeld.keep hb)); clear hb)
        refine hK.out _ _ (H11.out) (fun hHeld => ?_)
        clear hK K
        try simp only [Act.put, List.setIfInBounds_toArray, List.set_cons_zero, List.set_cons_succ]
        refine wpAnyH_ready (rs := [8]) (by kernel_rfl) (by simp) ?_
        refine (AllReadyH.cons rfl (fun K hK => ?_) AllReadyH.nil)
        go_simp
        ((with_reducible refine (kc _).mono ?_); rintro e w12 ⟨rfl, hb⟩; (have H12 := Lib.hid (hHeld.keep hb)); clear hb)
        refine hK.out _ _ (H12.out) (fun hHeld => ?_)
        clear hK K
        try simp only [Act.put, List.setIfInBounds_toArray, List.set_cons_zero, List.set_cons_succ]
        refine wpAnyH_take (i := 9) (oi := ?t7o) (v := ?t7v) ?t7h (by kernel_rfl) (by kernel_rfl) (by kernel_rfl) ?t7q ?t7y hHeld ?t7r
        case t7h => (simp only [List.getElem?_toArray, List.getElem?_cons_succ, List.getElem?_cons_zero]; rfl)
        case t7q => exact fun _ _ _ h => h
        case t7y => (refine Or.inl ⟨by first | kernel_rfl | rfl, ?_⟩; intro w hSw; (try dsimp only at hSw); have x0 := hSw.m.a.cell 0 rfl; have x1 := hSw.m.s.c0; have x2 := hSw.m.s.c1; have x3 := hSw.q.c0; have x4 := hSw.q.c1; go_simp <;> (try with_reducible rfl))
        try simp only [Act.put, List.setIfInBounds_toArray, List.set_cons_zero, List.set_cons_succ]
        refine wpAnyH_done (by kernel_rfl) ?_ _
        clear hHeld
        go_wp2
        go_ret2
        exact ⟨rfl, H12.out.m.bel⟩
      · have hvd : decide (v4 ≤ 0) = false := decide_eq_false (fun hc => hle (hiff.1 hc))
        have hMq : M = S / n := by omega
        obtain ⟨hnot, hq, hS, hn⟩ := hK.out
        rw [← hMq] at hq
        have hme := mean_some hnot hq
        have kng2 := fun W => refNeg_any (wh (M : Int)) (wl (M : Int)) (wh (-(M : Int))) (wl (-(M : Int))) (M : Int) (-(M : Int)) W (wrep ⟨by omega, by omega⟩) (wrep ⟨by omega, by omega⟩) Cong.rfl
        clear hnot hq hS hn hle hiff hMS hMq
        cases hsm : isSmall (-(M : Int)) with
        | true =>
          rw [hsm, if_pos rfl] at hme
          obtain rfl : Value.tuple #[.int .i64 (-(M : Int)), .bool true] = m := by rw [← HM.out, hme]; rfl
          have ksm := fun W => refSmall_yes (wh (-(M : Int))) (wl (-(M : Int))) (-(M : Int)) W (wrep ⟨by omega, by omega⟩) hsm
          clear hme hMlt
          go_wp2_with fail
          refine wp_region_held_drew (S := (M5 w a b4 b5 (S : Int) b7 (M : Int))) (by kernel_rfl) HQ.out.drew (fun hHeld => ?_)
          refine wpAnyH_take (i := 0) (oi := ?u1o) (v := ?u1v) ?u1h (by kernel_rfl) (by kernel_rfl) (by kernel_rfl) ?u1q ?u1y hHeld ?u1r
          case u1h => (simp only [List.getElem?_toArray, List.getElem?_cons_zero]; rfl)
          case u1q => exact fun _ _ _ h => h
          case u1y => (refine Or.inl ⟨by first | kernel_rfl | rfl, ?_⟩; intro w hSw; (try dsimp only at hSw); have x0 := hSw.m.a.cell 0 rfl; have x1 := hSw.m.s.c0; have x2 := hSw.m.s.c1; have x3 := hSw.q.c0; have x4 := hSw.q.c1; go_simp <;> (try with_reducible rfl))
          try simp only [Act.put, List.setIfInBounds_toArray, List.set_cons_zero, List.set_cons_succ]
          refine wpAnyH_take (i := 1) (oi := ?u2o) (v := ?u2v) ?u2h (by kernel_rfl) (by kernel_rfl) (by kernel_rfl) ?u2q ?u2y hHeld ?u2r
          case u2h => (simp only [List.getElem?_toArray, List.getElem?_cons_succ, List.getElem?_cons_zero]; rfl)
          case u2q => exact fun _ _ _ h => h
          case u2y => (refine Or.inl ⟨by first | kernel_rfl | rfl, ?_⟩; intro w hSw; (try dsimp only at hSw); have x0 := hSw.m.a.cell 0 rfl; have x1 := hSw.m.s.c0; have x2 := hSw.m.s.c1; have x3 := hSw.q.c0; have x4 := hSw.q.c1; go_simp <;> (try with_reducible rfl))
          try simp only [Act.put, List.setIfInBounds_toArray, List.set_cons_zero, List.set_cons_succ]
          refine wpAnyH_take (i := 3) (oi := ?u3o) (v := ?u3v) ?u3h (by kernel_rfl) (by kernel_rfl) (by kernel_rfl) ?u3q ?u3y hHeld ?u3r
          case u3h => (simp only [List.getElem?_toArray, List.getElem?_cons_succ, List.getElem?_cons_zero]; rfl)
          case u3q => exact fun _ _ _ h => h
          case u3y => (refine Or.inl ⟨by first | kernel_rfl | rfl, ?_⟩; intro w hSw; (try dsimp only at hSw); have x0 := hSw.m.a.cell 0 rfl; have x1 := hSw.m.s.c0; have x2 := hSw.m.s.c1; have x3 := hSw.q.c0; have x4 := hSw.q.c1; go_simp <;> (try with_reducible rfl))
          try simp only [Act.put, List.setIfInBounds_toArray, List.set_cons_zero, List.set_cons_succ]
          refine wpAnyH_take (i := 4) (oi := ?u4o) (v := ?u4v) ?u4h (by kernel_rfl) (by kernel_rfl) (by kernel_rfl) ?u4q ?u4y hHeld ?u4r
          case u4h => (simp only [List.getElem?_toArray, List.getElem?_cons_succ, List.getElem?_cons_zero]; rfl)
          case u4q => exact fun _ _ _ h => h
          case u4y => (refine Or.inl ⟨by first | kernel_rfl | rfl, ?_⟩; intro w hSw; (try dsimp only at hSw); have x0 := hSw.m.a.cell 0 rfl; have x1 := hSw.m.s.c0; have x2 := hSw.m.s.c1; have x3 := hSw.q.c0; have x4 := hSw.q.c1; go_simp <;> (try with_reducible rfl))
          try simp only [Act.put, List.setIfInBounds_toArray, List.set_cons_zero, List.set_cons_succ]
          refine wpAnyH_take (i := 5) (oi := ?u5o) (v := ?u5v) ?u5h (by kernel_rfl) (by kernel_rfl) (by kernel_rfl) ?u5q ?u5y hHeld ?u5r
          case u5h => (simp only [List.getElem?_toArray, List.getElem?_cons_succ, List.getElem?_cons_zero]; rfl)
          case u5q => exact fun _ _ _ h => h
          case u5y => (refine Or.inl ⟨by first | kernel_rfl | rfl, ?_⟩; intro w hSw; (try dsimp only at hSw); have x0 := hSw.m.a.cell 0 rfl; have x1 := hSw.m.s.c0; have x2 := hSw.m.s.c1; have x3 := hSw.q.c0; have x4 := hSw.q.c1; go_simp <;> (try with_reducible rfl))
          try simp only [Act.put, List.setIfInBounds_toArray, List.set_cons_zero, List.set_cons_succ]
          refine wpAnyH_take (i := 7) (oi := ?u6o) (v := ?u6v) ?u6h (by kernel_rfl) (by kernel_rfl) (by kernel_rfl) ?u6q ?u6y hHeld ?u6r
          case u6h => (simp only [List.getElem?_toArray, List.getElem?_cons_succ, List.getElem?_cons_zero]; rfl)
          case u6q => exact fun _ _ _ h => h
          case u6y => (refine Or.inl ⟨by first | kernel_rfl | rfl, ?_⟩; intro w hSw; (try dsimp only at hSw); have x0 := hSw.m.a.cell 0 rfl; have x1 := hSw.m.s.c0; have x2 := hSw.m.s.c1; have x3 := hSw.q.c0; have x4 := hSw.q.c1; go_simp <;> (try with_reducible rfl))
          try simp only [Act.put, List.setIfInBounds_toArray, List.set_cons_zero, List.set_cons_succ]
          refine wpAnyH_ready (rs := [2]) (by kernel_rfl) (by simp) ?_
          refine (AllReadyH.cons rfl (fun K hK => ?_) AllReadyH.nil)
          go_simp
          ((with_reducible refine (ka _).mono ?_); rintro e w10 ⟨rfl, hb⟩; (have H10 := Lib.hid (hHeld.keep hb)); clear hb)
          refine hK.out _ _ (H10.out) (fun hHeld => ?_)
          clear hK K
          try simp only [Act.put, List.setIfInBounds_toArray, List.set_cons_zero, List.set_cons_succ]
          refine wpAnyH_ready (rs := [6]) (by kernel_rfl) (by simp) ?_
          refine (AllReadyH.cons rfl (fun K hK => ?_) AllReadyH.nil)
          go_simp
          ((with_reducible refine (kt _).mono ?_); rintro e w11 ⟨rfl, hb⟩; (have H11 := Lib.hid (hHeld.keep hb)); clear hb)
          refine hK.out _ _ (H11.out) (fun hHeld => ?_)
          clear hK K
          try simp only [Act.put, List.setIfInBounds_toArray, List.set_cons_zero, List.set_cons_succ]
          refine wpAnyH_ready (rs := [8]) (by kernel_rfl) (by simp) ?_
          refine (AllReadyH.cons rfl (fun K hK => ?_) AllReadyH.nil)
          go_simp
          ((with_reducible refine (kc _).mono ?_); rintro e w12 ⟨rfl, hb⟩; (have H12 := Lib.hid (hHeld.keep hb)); clear hb)
          refine hK.out _ _ (H12.out) (fun hHeld => ?_)
          clear hK K
          try simp only [Act.put, List.setIfInBounds_toArray, List.set_cons_zero, List.set_cons_succ]
          refine wpAnyH_take (i := 9) (oi := ?u7o) (v := ?u7v) ?u7h (by kernel_rfl) (by kernel_rfl) (by kernel_rfl) ?u7q ?u7y hHeld ?u7r
          case u7h => (simp only [List.getElem?_toArray, List.getElem?_cons_succ, List.getElem?_cons_zero]; rfl)
          case u7q => exact fun _ _ _ h => h
          case u7y => (refine Or.inl ⟨by first | kernel_rfl | rfl, ?_⟩; intro w hSw; (try dsimp only at hSw); have x0 := hSw.m.a.cell 0 rfl; have x1 := hSw.m.s.c0; have x2 := hSw.m.s.c1; have x3 := hSw.q.c0; have x4 := hSw.q.c1; go_simp <;> (try with_reducible rfl))
          try simp only [Act.put, List.setIfInBounds_toArray, List.set_cons_zero, List.set_cons_succ]
          refine wpAnyH_done (by kernel_rfl) ?_ _
          clear hHeld
          have q0 := H12.out.q.c0
          have q1 := H12.out.q.c1
          go_upto_region 26 with (go_at_call 63; (with_reducible refine (kng2 _).mono ?_); rintro e w13 ⟨rfl, hb⟩; (have H13 := Lib.hid (H12.out.keep hb)); (have q2 := H13.out.q.c0); (have q3 := H13.out.q.c1); (have q4 := H13.out.q.f0); (have q5 := H13.out.q.f1); clear hb)
          obtain ⟨w14, hw14, h14⟩ := (H13.out.put_q (-(M : Int))).name
          rw [← hw14]
          have H14 := Lib.hid h14
          clear hw14 h14 q0 q1 q2 q3 q4 q5
          have q0 := H14.out.q.c0
          have q1 := H14.out.q.c1
          go_wp2_with (go_at_call 65; (with_reducible refine (ksm _).mono ?_); rintro e w15 ⟨rfl, hb15⟩)
          go_ret2
          exact ⟨rfl, bel_next H14.out.m.bel hb15⟩
        | false =>
          rw [hsm, if_neg (by decide)] at hme
          obtain rfl : Value.tuple #[.int .i64 0, .bool false] = m := by rw [← HM.out, hme]; rfl
          have ksm := fun W => refSmall_no (wh (-(M : Int))) (wl (-(M : Int))) (-(M : Int)) W (wrep ⟨by omega, by omega⟩) hsm
          clear hme hMlt
          go_wp2_with fail
          refine wp_region_held_drew (S := (M5 w a b4 b5 (S : Int) b7 (M : Int))) (by kernel_rfl) HQ.out.drew (fun hHeld => ?_)
          refine wpAnyH_take (i := 0) (oi := ?v1o) (v := ?v1v) ?v1h (by kernel_rfl) (by kernel_rfl) (by kernel_rfl) ?v1q ?v1y hHeld ?v1r
          case v1h => (simp only [List.getElem?_toArray, List.getElem?_cons_zero]; rfl)
          case v1q => exact fun _ _ _ h => h
          case v1y => (refine Or.inl ⟨by first | kernel_rfl | rfl, ?_⟩; intro w hSw; (try dsimp only at hSw); have x0 := hSw.m.a.cell 0 rfl; have x1 := hSw.m.s.c0; have x2 := hSw.m.s.c1; have x3 := hSw.q.c0; have x4 := hSw.q.c1; go_simp <;> (try with_reducible rfl))
          try simp only [Act.put, List.setIfInBounds_toArray, List.set_cons_zero, List.set_cons_succ]
          refine wpAnyH_take (i := 1) (oi := ?v2o) (v := ?v2v) ?v2h (by kernel_rfl) (by kernel_rfl) (by kernel_rfl) ?v2q ?v2y hHeld ?v2r
          case v2h => (simp only [List.getElem?_toArray, List.getElem?_cons_succ, List.getElem?_cons_zero]; rfl)
          case v2q => exact fun _ _ _ h => h
          case v2y => (refine Or.inl ⟨by first | kernel_rfl | rfl, ?_⟩; intro w hSw; (try dsimp only at hSw); have x0 := hSw.m.a.cell 0 rfl; have x1 := hSw.m.s.c0; have x2 := hSw.m.s.c1; have x3 := hSw.q.c0; have x4 := hSw.q.c1; go_simp <;> (try with_reducible rfl))
          try simp only [Act.put, List.setIfInBounds_toArray, List.set_cons_zero, List.set_cons_succ]
          refine wpAnyH_take (i := 3) (oi := ?v3o) (v := ?v3v) ?v3h (by kernel_rfl) (by kernel_rfl) (by kernel_rfl) ?v3q ?v3y hHeld ?v3r
          case v3h => (simp only [List.getElem?_toArray, List.getElem?_cons_succ, List.getElem?_cons_zero]; rfl)
          case v3q => exact fun _ _ _ h => h
          case v3y => (refine Or.inl ⟨by first | kernel_rfl | rfl, ?_⟩; intro w hSw; (try dsimp only at hSw); have x0 := hSw.m.a.cell 0 rfl; have x1 := hSw.m.s.c0; have x2 := hSw.m.s.c1; have x3 := hSw.q.c0; have x4 := hSw.q.c1; go_simp <;> (try with_reducible rfl))
          try simp only [Act.put, List.setIfInBounds_toArray, List.set_cons_zero, List.set_cons_succ]
          refine wpAnyH_take (i := 4) (oi := ?v4o) (v := ?v4v) ?v4h (by kernel_rfl) (by kernel_rfl) (by kernel_rfl) ?v4q ?v4y hHeld ?v4r
          case v4h => (simp only [List.getElem?_toArray, List.getElem?_cons_succ, List.getElem?_cons_zero]; rfl)
          case v4q => exact fun _ _ _ h => h
          case v4y => (refine Or.inl ⟨by first | kernel_rfl | rfl, ?_⟩; intro w hSw; (try dsimp only at hSw); have x0 := hSw.m.a.cell 0 rfl; have x1 := hSw.m.s.c0; have x2 := hSw.m.s.c1; have x3 := hSw.q.c0; have x4 := hSw.q.c1; go_simp <;> (try with_reducible rfl))
          try simp only [Act.put, List.setIfInBounds_toArray, List.set_cons_zero, List.set_cons_succ]
          refine wpAnyH_take (i := 5) (oi := ?v5o) (v := ?v5v) ?v5h (by kernel_rfl) (by kernel_rfl) (by kernel_rfl) ?v5q ?v5y hHeld ?v5r
          case v5h => (simp only [List.getElem?_toArray, List.getElem?_cons_succ, List.getElem?_cons_zero]; rfl)
          case v5q => exact fun _ _ _ h => h
          case v5y => (refine Or.inl ⟨by first | kernel_rfl | rfl, ?_⟩; intro w hSw; (try dsimp only at hSw); have x0 := hSw.m.a.cell 0 rfl; have x1 := hSw.m.s.c0; have x2 := hSw.m.s.c1; have x3 := hSw.q.c0; have x4 := hSw.q.c1; go_simp <;> (try with_reducible rfl))
          try simp only [Act.put, List.setIfInBounds_toArray, List.set_cons_zero, List.set_cons_succ]
          refine wpAnyH_take (i := 7) (oi := ?v6o) (v := ?v6v) ?v6h (by kernel_rfl) (by kernel_rfl) (by kernel_rfl) ?v6q ?v6y hHeld ?v6r
          case v6h => (simp only [List.getElem?_toArray, List.getElem?_cons_succ, List.getElem?_cons_zero]; rfl)
          case v6q => exact fun _ _ _ h => h
          case v6y => (refine Or.inl ⟨by first | kernel_rfl | rfl, ?_⟩; intro w hSw; (try dsimp only at hSw); have x0 := hSw.m.a.cell 0 rfl; have x1 := hSw.m.s.c0; have x2 := hSw.m.s.c1; have x3 := hSw.q.c0; have x4 := hSw.q.c1; go_simp <;> (try with_reducible rfl))
          try simp only [Act.put, List.setIfInBounds_toArray, List.set_cons_zero, List.set_cons_succ]
          refine wpAnyH_ready (rs := [2]) (by kernel_rfl) (by simp) ?_
          refine (AllReadyH.cons rfl (fun K hK => ?_) AllReadyH.nil)
          go_simp
          ((with_reducible refine (ka _).mono ?_); rintro e w10 ⟨rfl, hb⟩; (have H10 := Lib.hid (hHeld.keep hb)); clear hb)
          refine hK.out _ _ (H10.out) (fun hHeld => ?_)
          clear hK K
          try simp only [Act.put, List.setIfInBounds_toArray, List.set_cons_zero, List.set_cons_succ]
          refine wpAnyH_ready (rs := [6]) (by kernel_rfl) (by simp) ?_
          refine (AllReadyH.cons rfl (fun K hK => ?_) AllReadyH.nil)
          go_simp
          ((with_reducible refine (kt _).mono ?_); rintro e w11 ⟨rfl, hb⟩; (have H11 := Lib.hid (hHeld.keep hb)); clear hb)
          refine hK.out _ _ (H11.out) (fun hHeld => ?_)
          clear hK K
          try simp only [Act.put, List.setIfInBounds_toArray, List.set_cons_zero, List.set_cons_succ]
          refine wpAnyH_ready (rs := [8]) (by kernel_rfl) (by simp) ?_
          refine (AllReadyH.cons rfl (fun K hK => ?_) AllReadyH.nil)
          go_simp
          ((with_reducible refine (kc _).mono ?_); rintro e w12 ⟨rfl, hb⟩; (have H12 := Lib.hid (hHeld.keep hb)); clear hb)
          refine hK.out _ _ (H12.out) (fun hHeld => ?_)
          clear hK K
          try simp only [Act.put, List.setIfInBounds_toArray, List.set_cons_zero, List.set_cons_succ]
          refine wpAnyH_take (i := 9) (oi := ?v7o) (v := ?v7v) ?v7h (by kernel_rfl) (by kernel_rfl) (by kernel_rfl) ?v7q ?v7y hHeld ?v7r
          case v7h => (simp only [List.getElem?_toArray, List.getElem?_cons_succ, List.getElem?_cons_zero]; rfl)
          case v7q => exact fun _ _ _ h => h
          case v7y => (refine Or.inl ⟨by first | kernel_rfl | rfl, ?_⟩; intro w hSw; (try dsimp only at hSw); have x0 := hSw.m.a.cell 0 rfl; have x1 := hSw.m.s.c0; have x2 := hSw.m.s.c1; have x3 := hSw.q.c0; have x4 := hSw.q.c1; go_simp <;> (try with_reducible rfl))
          try simp only [Act.put, List.setIfInBounds_toArray, List.set_cons_zero, List.set_cons_succ]
          refine wpAnyH_done (by kernel_rfl) ?_ _
          clear hHeld
          have q0 := H12.out.q.c0
          have q1 := H12.out.q.c1
          go_upto_region 26 with (go_at_call 63; (with_reducible refine (kng2 _).mono ?_); rintro e w13 ⟨rfl, hb⟩; (have H13 := Lib.hid (H12.out.keep hb)); (have q2 := H13.out.q.c0); (have q3 := H13.out.q.c1); (have q4 := H13.out.q.f0); (have q5 := H13.out.q.f1); clear hb)
          obtain ⟨w14, hw14, h14⟩ := (H13.out.put_q (-(M : Int))).name
          rw [← hw14]
          have H14 := Lib.hid h14
          clear hw14 h14 q0 q1 q2 q3 q4 q5
          have q0 := H14.out.q.c0
          have q1 := H14.out.q.c1
          go_wp2_with (go_at_call 65; (with_reducible refine (ksm _).mono ?_); rintro e w15 ⟨rfl, hb15⟩)
          go_ret2
          exact ⟨rfl, bel_next H14.out.m.bel hb15⟩
    | succ k =>
      have hk1 : (((k + 1 : Nat) : Int) - 1) = (k : Int) := by omega
      rw [hk1]
      have hk0 : 0 ≤ (k : Int) := by omega
      have hk65 : k < 65 := by omega
      have hkw : IntKind.i64.wrap ((k : Int) - 1) = (k : Int) - 1 := by rw [IntKind.wrap_i64]; omega
      have HROOM := Lib.hid (qK_room HMl.out hk65)
      have HSTEP := Lib.hid (qK_step M k)
      obtain ⟨Q, hQ⟩ : ∃ Q, qK M (k + 1) = Q := ⟨_, rfl⟩
      rw [hQ] at HROOM HSTEP HQ
      have HJ := Lib.hid hj
      clear hQ hk1 hj
      go_wp2_with fail
      obtain ⟨w10, hw10, h10⟩ := (show MT w a b4 b5 (S : Int) b7 (Q : Int) w9.heap.size ((2 ^ 0 : Nat) : Int) (w9.alloc (.cells #[.int .i64 0, .int .u64 1] 24)) from
        ⟨HQ.out.keep ((Below.refl _ _).alloc (Nat.le_refl _) _), RNum.new w9 0 1 _, HQ.out.q.room⟩).name
      rw [← hw10]
      obtain ⟨b9, hb9⟩ : ∃ b, w9.heap.size = b := ⟨_, rfl⟩
      rw [hb9] at h10 ⊢
      have H10 := Lib.hid h10
      clear hw10 h10 hb9 HQ
      go_loopw [10] (fun i wr => ∃ c : Nat, i = .int .i64 (c : Int) ∧ c ≤ k ∧ MT w a b4 b5 (S : Int) b7 (Q : Int) b9 ((2 ^ c : Nat) : Int) wr) (fun i _ => k - (intOf i).toNat)
      case atStart => exact ⟨0, rfl, Nat.zero_le _, H10.out⟩
      case round =>
        obtain ⟨c, rfl, hc, hT⟩ := hrel
        obtain ⟨w11, hw11⟩ : ∃ x, x = wr := ⟨_, rfl⟩
        subst hw11
        have HT := Lib.hid hT
        clear hT H10
        obtain ⟨T, hTT⟩ : ∃ T, 2 ^ c = T := ⟨_, rfl⟩
        rw [hTT] at HT
        have hT65 : T < 36893488147419103232 := by rw [← hTT, ← two65]; exact Nat.pow_lt_pow_right (by decide) (by omega)
        have q0 := HT.out.m.q.c0
        have q1 := HT.out.m.q.c1
        have t0 := HT.out.t.c0
        have t1 := HT.out.t.c1
        by_cases hck : c < k
        · have hcki : (c : Int) < (k : Int) := by omega
          have hcw : IntKind.i64.wrap ((c : Int) + 1) = (c : Int) + 1 := by rw [IntKind.wrap_i64]; omega
          have HTC := Lib.hid (show 2 ^ (c + 1) = T + T by rw [Nat.pow_succ, hTT]; omega)
          have ka := fun W => refAdd_any (wh (T : Int)) (wl (T : Int)) (wh (T : Int)) (wl (T : Int)) (wh ((T : Int) + (T : Int))) (wl ((T : Int) + (T : Int))) (T : Int) (T : Int) ((T : Int) + (T : Int)) W (wrep ⟨by omega, by omega⟩) (wrep ⟨by omega, by omega⟩) (wrep ⟨by omega, by omega⟩) Cong.rfl
          clear hTT hT65
          go_upto_region 17 with (go_at_call 37; (with_reducible refine (ka _).mono ?_); rintro e w12 ⟨rfl, hb⟩; (have H12 := Lib.hid (HT.out.keep hb)); (have t2 := H12.out.t.c0); (have t3 := H12.out.t.c1); (have t4 := H12.out.t.f0); (have t5 := H12.out.t.f1); clear hb)
          obtain ⟨w13, hw13, h13⟩ := (H12.out.put_t ((T : Int) + (T : Int))).name
          rw [← hw13]
          have H13 := Lib.hid h13
          clear hw13 h13 t0 t1 t2 t3 t4 t5 q0 q1 ka
          go_wp2
          go_roundw
          case rel => exact ⟨c + 1, by go_num, by omega, by rw [HTC.out]; exact H13.out⟩
          case measure => simp [intOf]; omega
        · have hcki : ¬ (c : Int) < (k : Int) := by omega
          obtain rfl : c = k := by omega
          rw [hTT] at HROOM HSTEP
          have hroom := HROOM.out
          rw [two65] at hroom
          obtain ⟨P, hP⟩ : ∃ P, (Q + T) * n = P := ⟨_, rfl⟩
          have hPi : ((Q : Int) + (T : Int)) * (n : Int) = (P : Int) := by rw [← hP]; push_cast; rfl
          have hPl : P ≤ 79228162514264337593543950336 := by
            rw [← hP]
            exact Nat.le_trans (Nat.mul_le_mul (show Q + T ≤ 36893488147419103232 by omega) hn1) (by decide)
          have ka := fun W => refAdd_any (wh (Q : Int)) (wl (Q : Int)) (wh (T : Int)) (wl (T : Int)) (wh ((Q : Int) + (T : Int))) (wl ((Q : Int) + (T : Int))) (Q : Int) (T : Int) ((Q : Int) + (T : Int)) W (wrep ⟨by omega, by omega⟩) (wrep ⟨by omega, by omega⟩) (wrep ⟨by omega, by omega⟩) Cong.rfl
          have kt := fun W => refTimes_any (wh ((Q : Int) + (T : Int))) (wl ((Q : Int) + (T : Int))) (n : Int) (wh (P : Int)) (wl (P : Int)) ((Q : Int) + (T : Int)) (P : Int) W (by omega) (by omega) (wrep ⟨by omega, by omega⟩) (wrep ⟨by omega, by omega⟩) (by rw [hPi]; exact Cong.rfl)
          obtain ⟨v3, hv3⟩ : ∃ v, cmp (P : Int) (S : Int) = v := ⟨_, rfl⟩
          have kc := fun W => refCmp_any (wh (P : Int)) (wl (P : Int)) (wh (S : Int)) (wl (S : Int)) (P : Int) (S : Int) v3 W (wrep ⟨by omega, by omega⟩) (wrep ⟨by omega, by have := HSl.out; omega⟩) (Lib.hid hv3)
          have hiff : v3 ≤ 0 ↔ Q + T ≤ M := by
            rw [cmp_nonpos hv3, ← HMt.out, ← top65_le hn0 HROOM.out, hP]
            omega
          clear hTT hT65 hPi hPl hP hv3 hroom
          go_upto_region 20 with (go_at_call 37; (with_reducible refine (ka _).mono ?_); rintro e w12 ⟨rfl, hb⟩; (have H12 := Lib.hid (HT.out.keep hb)); (have t2 := H12.out.t.c0); (have t3 := H12.out.t.c1); (have t4 := H12.out.t.f0); (have t5 := H12.out.t.f1); clear hb)
          obtain ⟨w13, hw13, h13⟩ := (H12.out.put_t ((Q : Int) + (T : Int))).name
          rw [← hw13]
          have H13 := Lib.hid h13
          clear hw13 h13 t0 t1 t2 t3 t4 t5 q0 q1 ka
          by_cases hle : Q + T ≤ M
          · have hvd : decide (v3 ≤ 0) = true := decide_eq_true (hiff.2 hle)
            have HNX := Lib.hid (show ((qK M c : Nat) : Int) = (Q : Int) + (T : Int) by rw [HSTEP.out, if_pos hle]; push_cast; rfl)
            clear hle hiff
            refine wp_region_held_drew (S := (MT w a b4 b5 (S : Int) b7 (Q : Int) b9 ((Q : Int) + (T : Int)))) (by kernel_rfl) H13.out.drew (fun hHeld => ?_)
            refine wpAnyH_take (i := 0) (oi := ?r1o) (v := ?r1v) ?r1h (by kernel_rfl) (by kernel_rfl) (by kernel_rfl) ?r1q ?r1y hHeld ?r1r
            case r1h => (simp only [List.getElem?_toArray, List.getElem?_cons_zero]; rfl)
            case r1q => exact fun _ _ _ h => h
            case r1y => (refine Or.inl ⟨by first | kernel_rfl | rfl, ?_⟩; intro w hSw; (try dsimp only at hSw); have x0 := hSw.m.m.a.cell 0 rfl; have x1 := hSw.m.m.s.c0; have x2 := hSw.m.m.s.c1; have x3 := hSw.t.c0; have x4 := hSw.t.c1; go_simp <;> (try with_reducible rfl))
            try simp only [Act.put, List.setIfInBounds_toArray, List.set_cons_zero, List.set_cons_succ]
            refine wpAnyH_take (i := 1) (oi := ?r2o) (v := ?r2v) ?r2h (by kernel_rfl) (by kernel_rfl) (by kernel_rfl) ?r2q ?r2y hHeld ?r2r
            case r2h => (simp only [List.getElem?_toArray, List.getElem?_cons_succ, List.getElem?_cons_zero]; rfl)
            case r2q => exact fun _ _ _ h => h
            case r2y => (refine Or.inl ⟨by first | kernel_rfl | rfl, ?_⟩; intro w hSw; (try dsimp only at hSw); have x0 := hSw.m.m.a.cell 0 rfl; have x1 := hSw.m.m.s.c0; have x2 := hSw.m.m.s.c1; have x3 := hSw.t.c0; have x4 := hSw.t.c1; go_simp <;> (try with_reducible rfl))
            try simp only [Act.put, List.setIfInBounds_toArray, List.set_cons_zero, List.set_cons_succ]
            refine wpAnyH_take (i := 2) (oi := ?r3o) (v := ?r3v) ?r3h (by kernel_rfl) (by kernel_rfl) (by kernel_rfl) ?r3q ?r3y hHeld ?r3r
            case r3h => (simp only [List.getElem?_toArray, List.getElem?_cons_succ, List.getElem?_cons_zero]; rfl)
            case r3q => exact fun _ _ _ h => h
            case r3y => (refine Or.inl ⟨by first | kernel_rfl | rfl, ?_⟩; intro w hSw; (try dsimp only at hSw); have x0 := hSw.m.m.a.cell 0 rfl; have x1 := hSw.m.m.s.c0; have x2 := hSw.m.m.s.c1; have x3 := hSw.t.c0; have x4 := hSw.t.c1; go_simp <;> (try with_reducible rfl))
            try simp only [Act.put, List.setIfInBounds_toArray, List.set_cons_zero, List.set_cons_succ]
            refine wpAnyH_take (i := 3) (oi := ?r4o) (v := ?r4v) ?r4h (by kernel_rfl) (by kernel_rfl) (by kernel_rfl) ?r4q ?r4y hHeld ?r4r
            case r4h => (simp only [List.getElem?_toArray, List.getElem?_cons_succ, List.getElem?_cons_zero]; rfl)
            case r4q => exact fun _ _ _ h => h
            case r4y => (refine Or.inl ⟨by first | kernel_rfl | rfl, ?_⟩; intro w hSw; (try dsimp only at hSw); have x0 := hSw.m.m.a.cell 0 rfl; have x1 := hSw.m.m.s.c0; have x2 := hSw.m.m.s.c1; have x3 := hSw.t.c0; have x4 := hSw.t.c1; go_simp <;> (try with_reducible rfl))
            try simp only [Act.put, List.setIfInBounds_toArray, List.set_cons_zero, List.set_cons_succ]
            refine wpAnyH_take (i := 5) (oi := ?r5o) (v := ?r5v) ?r5h (by kernel_rfl) (by kernel_rfl) (by kernel_rfl) ?r5q ?r5y hHeld ?r5r
            case r5h => (simp only [List.getElem?_toArray, List.getElem?_cons_succ, List.getElem?_cons_zero]; rfl)
            case r5q => exact fun _ _ _ h => h
            case r5y => (refine Or.inl ⟨by first | kernel_rfl | rfl, ?_⟩; intro w hSw; (try dsimp only at hSw); have x0 := hSw.m.m.a.cell 0 rfl; have x1 := hSw.m.m.s.c0; have x2 := hSw.m.m.s.c1; have x3 := hSw.t.c0; have x4 := hSw.t.c1; go_simp <;> (try with_reducible rfl))
            try simp only [Act.put, List.setIfInBounds_toArray, List.set_cons_zero, List.set_cons_succ]
            refine wpAnyH_ready (rs := [4]) (by kernel_rfl) (by simp) ?_
            refine (AllReadyH.cons rfl (fun K hK => ?_) AllReadyH.nil)
            go_simp
            ((with_reducible refine (kt _).mono ?_); rintro e w14 ⟨rfl, hb⟩; (have H14 := Lib.hid (hHeld.keep hb)); clear hb)
            refine hK.out _ _ (H14.out) (fun hHeld => ?_)
            clear hK K
            try simp only [Act.put, List.setIfInBounds_toArray, List.set_cons_zero, List.set_cons_succ]
            refine wpAnyH_ready (rs := [6]) (by kernel_rfl) (by simp) ?_
            refine (AllReadyH.cons rfl (fun K hK => ?_) AllReadyH.nil)
            go_simp
            ((with_reducible refine (kc _).mono ?_); rintro e w15 ⟨rfl, hb⟩; (have H15 := Lib.hid (hHeld.keep hb)); clear hb)
            refine hK.out _ _ (H15.out) (fun hHeld => ?_)
            clear hK K
            try simp only [Act.put, List.setIfInBounds_toArray, List.set_cons_zero, List.set_cons_succ]
            refine wpAnyH_take (i := 7) (oi := ?r6o) (v := ?r6v) ?r6h (by kernel_rfl) (by kernel_rfl) (by kernel_rfl) ?r6q ?r6y hHeld ?r6r
            case r6h => (simp only [List.getElem?_toArray, List.getElem?_cons_succ, List.getElem?_cons_zero]; rfl)
            case r6q => exact fun _ _ _ h => h
            case r6y => (refine Or.inl ⟨by first | kernel_rfl | rfl, ?_⟩; intro w hSw; (try dsimp only at hSw); have x0 := hSw.m.m.a.cell 0 rfl; have x1 := hSw.m.m.s.c0; have x2 := hSw.m.m.s.c1; have x3 := hSw.t.c0; have x4 := hSw.t.c1; go_simp <;> (try with_reducible rfl))
            try simp only [Act.put, List.setIfInBounds_toArray, List.set_cons_zero, List.set_cons_succ]
            refine wpAnyH_done (by kernel_rfl) ?_ _
            have q0 := H15.out.m.q.c0
            have q1 := H15.out.m.q.c1
            have q2 := H15.out.m.q.f0
            have q3 := H15.out.m.q.f1
            have t0 := H15.out.t.c0
            have t1 := H15.out.t.c1
            clear hHeld
            go_upto_region 13 with fail
            obtain ⟨w16, hw16, h16⟩ := (H15.out.m.put_q ((Q : Int) + (T : Int))).name
            rw [← hw16]
            have H16 := Lib.hid h16
            clear hw16 h16 q0 q1 q2 q3 t0 t1
            go_wp2
            go_roundw
            case rel => exact ⟨c, by go_num, by have := HJ.out; omega, by rw [HNX.out]; exact H16.out⟩
            case measure => simp [intOf]
          · have hvd : decide (v3 ≤ 0) = false := decide_eq_false (fun hc => hle (hiff.1 hc))
            have HNX := Lib.hid (show ((qK M c : Nat) : Int) = (Q : Int) by rw [HSTEP.out, if_neg hle])
            clear hle hiff
            refine wp_region_held_drew (S := (MT w a b4 b5 (S : Int) b7 (Q : Int) b9 ((Q : Int) + (T : Int)))) (by kernel_rfl) H13.out.drew (fun hHeld => ?_)
            refine wpAnyH_take (i := 0) (oi := ?s1o) (v := ?s1v) ?s1h (by kernel_rfl) (by kernel_rfl) (by kernel_rfl) ?s1q ?s1y hHeld ?s1r
            case s1h => (simp only [List.getElem?_toArray, List.getElem?_cons_zero]; rfl)
            case s1q => exact fun _ _ _ h => h
            case s1y => (refine Or.inl ⟨by first | kernel_rfl | rfl, ?_⟩; intro w hSw; (try dsimp only at hSw); have x0 := hSw.m.m.a.cell 0 rfl; have x1 := hSw.m.m.s.c0; have x2 := hSw.m.m.s.c1; have x3 := hSw.t.c0; have x4 := hSw.t.c1; go_simp <;> (try with_reducible rfl))
            try simp only [Act.put, List.setIfInBounds_toArray, List.set_cons_zero, List.set_cons_succ]
            refine wpAnyH_take (i := 1) (oi := ?s2o) (v := ?s2v) ?s2h (by kernel_rfl) (by kernel_rfl) (by kernel_rfl) ?s2q ?s2y hHeld ?s2r
            case s2h => (simp only [List.getElem?_toArray, List.getElem?_cons_succ, List.getElem?_cons_zero]; rfl)
            case s2q => exact fun _ _ _ h => h
            case s2y => (refine Or.inl ⟨by first | kernel_rfl | rfl, ?_⟩; intro w hSw; (try dsimp only at hSw); have x0 := hSw.m.m.a.cell 0 rfl; have x1 := hSw.m.m.s.c0; have x2 := hSw.m.m.s.c1; have x3 := hSw.t.c0; have x4 := hSw.t.c1; go_simp <;> (try with_reducible rfl))
            try simp only [Act.put, List.setIfInBounds_toArray, List.set_cons_zero, List.set_cons_succ]
            refine wpAnyH_take (i := 2) (oi := ?s3o) (v := ?s3v) ?s3h (by kernel_rfl) (by kernel_rfl) (by kernel_rfl) ?s3q ?s3y hHeld ?s3r
            case s3h => (simp only [List.getElem?_toArray, List.getElem?_cons_succ, List.getElem?_cons_zero]; rfl)
            case s3q => exact fun _ _ _ h => h
            case s3y => (refine Or.inl ⟨by first | kernel_rfl | rfl, ?_⟩; intro w hSw; (try dsimp only at hSw); have x0 := hSw.m.m.a.cell 0 rfl; have x1 := hSw.m.m.s.c0; have x2 := hSw.m.m.s.c1; have x3 := hSw.t.c0; have x4 := hSw.t.c1; go_simp <;> (try with_reducible rfl))
            try simp only [Act.put, List.setIfInBounds_toArray, List.set_cons_zero, List.set_cons_succ]
            refine wpAnyH_take (i := 3) (oi := ?s4o) (v := ?s4v) ?s4h (by kernel_rfl) (by kernel_rfl) (by kernel_rfl) ?s4q ?s4y hHeld ?s4r
            case s4h => (simp only [List.getElem?_toArray, List.getElem?_cons_succ, List.getElem?_cons_zero]; rfl)
            case s4q => exact fun _ _ _ h => h
            case s4y => (refine Or.inl ⟨by first | kernel_rfl | rfl, ?_⟩; intro w hSw; (try dsimp only at hSw); have x0 := hSw.m.m.a.cell 0 rfl; have x1 := hSw.m.m.s.c0; have x2 := hSw.m.m.s.c1; have x3 := hSw.t.c0; have x4 := hSw.t.c1; go_simp <;> (try with_reducible rfl))
            try simp only [Act.put, List.setIfInBounds_toArray, List.set_cons_zero, List.set_cons_succ]
            refine wpAnyH_take (i := 5) (oi := ?s5o) (v := ?s5v) ?s5h (by kernel_rfl) (by kernel_rfl) (by kernel_rfl) ?s5q ?s5y hHeld ?s5r
            case s5h => (simp only [List.getElem?_toArray, List.getElem?_cons_succ, List.getElem?_cons_zero]; rfl)
            case s5q => exact fun _ _ _ h => h
            case s5y => (refine Or.inl ⟨by first | kernel_rfl | rfl, ?_⟩; intro w hSw; (try dsimp only at hSw); have x0 := hSw.m.m.a.cell 0 rfl; have x1 := hSw.m.m.s.c0; have x2 := hSw.m.m.s.c1; have x3 := hSw.t.c0; have x4 := hSw.t.c1; go_simp <;> (try with_reducible rfl))
            try simp only [Act.put, List.setIfInBounds_toArray, List.set_cons_zero, List.set_cons_succ]
            refine wpAnyH_ready (rs := [4]) (by kernel_rfl) (by simp) ?_
            refine (AllReadyH.cons rfl (fun K hK => ?_) AllReadyH.nil)
            go_simp
            ((with_reducible refine (kt _).mono ?_); rintro e w14 ⟨rfl, hb⟩; (have H14 := Lib.hid (hHeld.keep hb)); clear hb)
            refine hK.out _ _ (H14.out) (fun hHeld => ?_)
            clear hK K
            try simp only [Act.put, List.setIfInBounds_toArray, List.set_cons_zero, List.set_cons_succ]
            refine wpAnyH_ready (rs := [6]) (by kernel_rfl) (by simp) ?_
            refine (AllReadyH.cons rfl (fun K hK => ?_) AllReadyH.nil)
            go_simp
            ((with_reducible refine (kc _).mono ?_); rintro e w15 ⟨rfl, hb⟩; (have H15 := Lib.hid (hHeld.keep hb)); clear hb)
            refine hK.out _ _ (H15.out) (fun hHeld => ?_)
            clear hK K
            try simp only [Act.put, List.setIfInBounds_toArray, List.set_cons_zero, List.set_cons_succ]
            refine wpAnyH_take (i := 7) (oi := ?s6o) (v := ?s6v) ?s6h (by kernel_rfl) (by kernel_rfl) (by kernel_rfl) ?s6q ?s6y hHeld ?s6r
            case s6h => (simp only [List.getElem?_toArray, List.getElem?_cons_succ, List.getElem?_cons_zero]; rfl)
            case s6q => exact fun _ _ _ h => h
            case s6y => (refine Or.inl ⟨by first | kernel_rfl | rfl, ?_⟩; intro w hSw; (try dsimp only at hSw); have x0 := hSw.m.m.a.cell 0 rfl; have x1 := hSw.m.m.s.c0; have x2 := hSw.m.m.s.c1; have x3 := hSw.t.c0; have x4 := hSw.t.c1; go_simp <;> (try with_reducible rfl))
            try simp only [Act.put, List.setIfInBounds_toArray, List.set_cons_zero, List.set_cons_succ]
            refine wpAnyH_done (by kernel_rfl) ?_ _
            clear hHeld
            go_wp2
            go_roundw
            case rel => exact ⟨c, by go_num, by have := HJ.out; omega, by rw [HNX.out]; exact H15.out.m⟩
            case measure => simp [intOf]

set_option maxHeartbeats 1000000 in
theorem rmean_out (a : Ag) (w : World) (h : a.n < 1 ∨ 2147483648 < a.n) : Calls Try.prog 28 #[agV a] w fun e w' => e = .returned (meanV (meanA a)) ∧ Below w.heap.size w w' := by
  rw [mean_none h]
  have h0 := (AgW.new w a 29).at_
  have hb0 := (Below.refl w.heap.size w).alloc (Nat.le_refl _) (.cells (cells18 a).toArray 29)
  simp only [cells18] at h0 hb0
  have H0 := Lib.hid h0
  have HB := Lib.hid hb0
  clear h0 hb0
  unfold agV meanV
  go_enter Try.func28, Try.ntmps28
  go_upto_region 1 with fail
  obtain ⟨w0, hw0, h1', hb1⟩ := unName H0.out HB.out
  rw [← hw0]
  clear hw0
  have HB1 := Lib.hid hb1
  have a0 := h1'.cell 0 rfl
  clear h1' hb1
  by_cases h1 : a.n < 1
  · clear h
    go_wp2
    go_ret2
    exact ⟨rfl, HB1.out⟩
  · have h2 : 2147483648 < a.n := by omega
    clear h
    go_wp2
    go_ret2
    exact ⟨rfl, HB1.out⟩
theorem rmean_is (a : Ag) (ha : a.fits) (w : World) : Calls Try.prog 28 #[agV a] w fun e w' => e = .returned (meanV (meanA a)) ∧ Below w.heap.size w w' := by
  by_cases h : a.n < 1 ∨ 2147483648 < a.n
  · exact rmean_out a w h
  · by_cases hs : a.s < 0
    · exact rmean_neg a ha w (by omega) (by omega) hs
    · exact rmean_pos a ha w (by omega) (by omega) hs
end Go.Proofs.Ytipjhlabcbkgjaa.Ag
