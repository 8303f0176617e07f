/- Contract: math/bits.Div64 by a number of at most 32 bits. -/
import Derived.Test.YtipjhlabcbkgjaaWideA
import Derived.Deep.DeepCutAuto
import Derived.Deep.CutBlock
import Derived.BigQuiet
import Derived.Deep.QuietTactic
import Derived.Shelf.Small.Bits
import Derived.Lib.ItoaNum
set_option maxRecDepth 20000
namespace Go.Proofs.Ytipjhlabcbkgjaa.Ag
open Go.RowKit Go.Proofs.Ytipjhlabcbkgjaa Go.Proofs.Ytipjhlabcbkgjaa.Wd
def layLead_ren : Go.Shelf.Ren := ⟨fun | 134 => 85 | 129 => 93 | n => n, fun | 53 => 22 | 3 => 3 | 4 => 4 | 46 => 87 | 5 => 5 | 9 => 9 | n => n, fun | n => n⟩
theorem layLead : Go.Proofs.Lays.n134 Try.prog layLead_ren := {
  mixed := by kernel_rfl,
  f129 := Try.func93.trans (congrArg some (by kernel_rfl)),
  f134 := Try.func85.trans (congrArg some (by kernel_rfl)),
  t3 := Try.underlying3,
  a3 := Try.isAgg3,
  z3 := Try.sizeOf3,
  v3 := Try.zeroValue3,
  t4 := Try.underlying4,
  a4 := Try.isAgg4,
  z4 := Try.sizeOf4,
  v4 := Try.zeroValue4,
  t5 := Try.underlying5,
  a5 := Try.isAgg5,
  z5 := Try.sizeOf5,
  v5 := Try.zeroValue5,
  t9 := Try.underlying9,
  a9 := Try.isAgg9,
  z9 := Try.sizeOf9,
  v9 := Try.zeroValue9,
  t46 := Try.underlying87,
  a46 := Try.isAgg87,
  z46 := Try.sizeOf87,
  v46 := Try.zeroValue87,
  t53 := Try.underlying22,
  a53 := Try.isAgg22,
  z53 := Try.sizeOf22,
  v53 := Try.zeroValue22 }
theorem lead_is (n : Nat) (hn : n < 18446744073709551616) (w : World) : Calls Try.prog 85 #[.int .u64 (n : Int)] w fun e w' => e = .returned (.int .i64 (64 - (Lib.bitLen n : Int))) ∧ w = w' := by
  have h := Any.bits_LeadingZeros64 layLead (n : Int) w (by omega) (by omega)
  change Calls Try.prog 85 _ _ _ at h
  refine h.mono ?_
  rintro e w' ⟨rfl, rfl⟩
  exact ⟨by rw [Int.toNat_natCast], rfl⟩
/-- The numbers of the long division, in halves of 32 bits. -/
structure DV (x y n s U Y L u1 u0 q1 r1 Z q0 : Nat) : Prop where
  fN : IntKind.u64.wrap ((n : Int) * 2 ^ s) = ((Y * 4294967296 : Nat) : Int)
  fX : bits .or .u64 (IntKind.u64.wrap ((x : Int) * 2 ^ s)) ((y : Int) / 2 ^ (64 - s)) = (U : Int)
  fL : IntKind.u64.wrap ((y : Int) * 2 ^ s) = (L : Int)
  fY0 : 1 ≤ Y
  fY1 : Y < 4294967296
  fu1 : L / 4294967296 = u1
  fu0 : L % 4294967296 = u0
  fL1 : L < 18446744073709551616
  fq1 : U / Y = q1
  fr1 : U - q1 * Y = r1
  frq : U = q1 * Y + r1
  fr1l : r1 < Y
  fq1l : q1 < 4294967296
  fZ : r1 * 4294967296 + u1 = Z
  fq0 : Z / Y = q0
  fq0l : q0 < 4294967296
  fZl : Z < Y * 4294967296
  fUl : U < Y * 4294967296
  fin : q1 * 4294967296 + q0 = (x * 18446744073709551616 + y) / n
theorem tup_left {a b : Int} {r : Value} (h : a = b) : Ending.returned (.tuple #[.int .u64 a, r]) = .returned (.tuple #[.int .u64 b, r]) := by rw [h]
theorem u64_nn (z : Int) : decide (IntKind.u64.wrap z < 0) = false := by rw [IntKind.wrap_u64]; simp; omega
theorem u64_nn2 (z : Int) : 0 ≤ IntKind.u64.wrap z := by rw [IntKind.wrap_u64]; omega
theorem mul_aux {x G y T h U L : Nat} (h1 : y * T = h * G + L) (h2 : x * T + h = U) : (x * G + y) * T = U * G + L := by
  rw [Nat.add_mul, h1, ← h2, Nat.add_mul, Nat.mul_right_comm, Nat.add_assoc]
theorem div_aux (U L F Y : Nat) (hF : 0 < F) : (U * (F * F) + L) / (Y * F) = (U * F + L / F) / Y := by
  rw [Nat.mul_comm Y F, ← Nat.div_div_eq_div_mul, ← Nat.mul_assoc, Nat.add_comm, Nat.add_mul_div_right _ _ hF, Nat.add_comm]
theorem fin_aux {U q r Y F u Z : Nat} (h1 : U = q * Y + r) (h2 : r * F + u = Z) : U * F + u = Z + q * F * Y := by
  rw [h1, ← h2, Nat.add_mul, Nat.mul_right_comm]; omega
theorem cast_aux (q Y F : Nat) : (q : Int) * ((Y * F : Nat) : Int) = ((q * Y : Nat) : Int) * (F : Int) := by
  rw [Int.natCast_mul, Int.natCast_mul, Int.mul_assoc]
theorem quo_aux {a b c d n T : Nat} (h1 : a * T = b) (h2 : n * T = c) (hT : 0 < T) (h3 : b / c = d) : a / n = d := by
  rw [← h3, ← h1, ← h2, Nat.mul_div_mul_right _ _ hT]
theorem low_aux {Z q F Y : Nat} (hY : 0 < Y) : (Z + q * F * Y) / Y = q * F + Z / Y := by
  rw [Nat.add_mul_div_right _ _ hY, Nat.add_comm]
theorem dv_of (x y n s : Nat) (hn0 : 1 ≤ n) (hx : x < n) (hy : y < 18446744073709551616) (hs0 : 32 ≤ s) (hs1 : s ≤ 63) (hb : n * 2 ^ s < 18446744073709551616) : ∃ U Y L u1 u0 q1 r1 Z q0, DV x y n s U Y L u1 u0 q1 r1 Z q0 := by
  obtain ⟨P, hP⟩ : ∃ P, 2 ^ (s - 32) = P := ⟨_, rfl⟩
  obtain ⟨T, hT⟩ : ∃ T, 2 ^ s = T := ⟨_, rfl⟩
  obtain ⟨D, hD⟩ : ∃ D, 2 ^ (64 - s) = D := ⟨_, rfl⟩
  have hTP : T = P * 4294967296 := by rw [← hT, ← hP, show (4294967296 : Nat) = 2 ^ 32 from rfl, ← Nat.pow_add]; congr 1; omega
  have hTD : T * D = 18446744073709551616 := by rw [← hT, ← hD, ← Nat.pow_add, show s + (64 - s) = 64 by omega]
  have hP1 : 1 ≤ P := by rw [← hP]; exact Nat.one_le_two_pow
  have hT1 : 1 ≤ T := by rw [← hT]; exact Nat.one_le_two_pow
  have hD1 : 1 ≤ D := by rw [← hD]; exact Nat.one_le_two_pow
  rw [hT] at hb
  obtain ⟨Y, hY⟩ : ∃ Y, n * P = Y := ⟨_, rfl⟩
  have hNY : n * T = Y * 4294967296 := by rw [hTP, ← hY, Nat.mul_assoc]
  have hY0 : 1 ≤ Y := by rw [← hY]; exact Nat.mul_pos hn0 hP1
  have hY1 : Y < 4294967296 := by omega
  obtain ⟨h, hh⟩ : ∃ h, y / D = h := ⟨_, rfl⟩
  have hhT : h < T := by rw [← hh]; exact (Nat.div_lt_iff_lt_mul hD1).2 (by rw [hTD]; exact hy)
  have hxT : x * T + T ≤ n * T := by have := Nat.mul_le_mul_right T (show x + 1 ≤ n from hx); rw [Nat.succ_mul] at this; exact this
  obtain ⟨U, hU⟩ : ∃ U, x * T + h = U := ⟨_, rfl⟩
  have hUl : U < Y * 4294967296 := by omega
  obtain ⟨L, hL⟩ : ∃ L, y * T % 18446744073709551616 = L := ⟨_, rfl⟩
  have hyT : y * T = h * 18446744073709551616 + L := by
    have e1 : y * T / 18446744073709551616 = h := by rw [← hTD, Nat.mul_comm T D, Nat.mul_div_mul_right _ _ hT1, hh]
    have e2 := Nat.div_add_mod (y * T) 18446744073709551616
    rw [e1, hL] at e2
    omega
  obtain ⟨q1, hq1⟩ : ∃ q1, U / Y = q1 := ⟨_, rfl⟩
  obtain ⟨r1, hr1⟩ : ∃ r1, U % Y = r1 := ⟨_, rfl⟩
  have hrq : U = q1 * Y + r1 := by have := Nat.div_add_mod U Y; rw [hq1, hr1, Nat.mul_comm] at this; exact this.symm
  have hr1l : r1 < Y := by rw [← hr1]; exact Nat.mod_lt _ hY0
  have hq1l : q1 < 4294967296 := by rw [← hq1]; exact (Nat.div_lt_iff_lt_mul hY0).2 (by rw [Nat.mul_comm]; exact hUl)
  have hLl : L < 18446744073709551616 := by rw [← hL]; exact Nat.mod_lt _ (by decide)
  obtain ⟨Z, hZ⟩ : ∃ Z, r1 * 4294967296 + L / 4294967296 = Z := ⟨_, rfl⟩
  have hZl : Z < Y * 4294967296 := by omega
  have hq0l : Z / Y < 4294967296 := (Nat.div_lt_iff_lt_mul hY0).2 (by rw [Nat.mul_comm]; exact hZl)
  refine ⟨U, Y, L, _, _, q1, r1, Z, _, ⟨?_, ?_, ?_, hY0, hY1, rfl, rfl, hLl, hq1, by omega, hrq, hr1l, hq1l, hZ, rfl, hq0l, hZl, hUl, ?_⟩⟩
  · have e : (n : Int) * 2 ^ s = ((n * T : Nat) : Int) := by rw [← hT]; push_cast; rfl
    rw [e, hNY, IntKind.wrap_u64]
    omega
  · have e : (x : Int) * 2 ^ s = ((x * T : Nat) : Int) := by rw [← hT]; push_cast; rfl
    have e2 : (y : Int) / 2 ^ (64 - s) = (h : Int) := by rw [← hh, ← hD]; push_cast; rfl
    have e3 : IntKind.u64.wrap ((x * T : Nat) : Int) = ((x * T : Nat) : Int) := by rw [IntKind.wrap_u64]; omega
    rw [e, e2, e3]
    have k := bits_or_u64_nat (x * T) h (by omega) (by omega)
    have k2 : (x * T) ||| h = x * T + h := by
      have := Nat.shiftLeft_add_eq_or_of_lt (i := s) (b := h) (by rw [hT]; exact hhT) x
      rw [Nat.shiftLeft_eq, hT] at this
      exact this.symm
    rw [k2, hU] at k
    exact k
  · have e : (y : Int) * 2 ^ s = ((y * T : Nat) : Int) := by rw [← hT]; push_cast; rfl
    rw [e, IntKind.wrap_u64, ← hL]
    omega
  · have hd : (U * 18446744073709551616 + L) / (Y * 4294967296) = q1 * 4294967296 + Z / Y := by
      have e3 := div_aux U L 4294967296 Y (by decide)
      rw [fin_aux hrq hZ, low_aux hY0] at e3
      exact e3
    exact (quo_aux (mul_aux hyT hU) hNY hT1 hd).symm
theorem lead_bound (n s : Nat) (hn0 : 1 ≤ n) (hn1 : n ≤ 2147483648) (hs : (64 - (Lib.bitLen n : Int)) = (s : Int)) : 32 ≤ s ∧ s ≤ 63 ∧ n * 2 ^ s < 18446744073709551616 := by
  have h1 : Lib.bitLen n ≤ 32 := Lib.bitLen_le n 32 (by decide) (by omega)
  have h2 := Lib.bitLenAux_bounds 64 n (by omega) (by omega)
  change 1 ≤ Lib.bitLen n ∧ _ ∧ n < 2 ^ Lib.bitLen n at h2
  refine ⟨by omega, by omega, ?_⟩
  have e : 2 ^ Lib.bitLen n * 2 ^ s = 18446744073709551616 := by rw [← Nat.pow_add, show Lib.bitLen n + s = 64 by omega]
  rw [← e]
  exact Nat.mul_lt_mul_of_pos_right h2.2.2 (Nat.two_pow_pos s)
set_option maxRecDepth 100000 in
set_option maxHeartbeats 1000000 in
theorem div64_any (x y n : Nat) (w : World) (hn0 : 1 ≤ n) (hn1 : n ≤ 2147483648) (hx0 : 1 ≤ x) (hx : x < n) (hy : y < 18446744073709551616) :
    Calls Try.prog 61 #[.int .u64 (x : Int), .int .u64 (y : Int), .int .u64 (n : Int)] w fun e w' => ∃ r, e = .returned (.tuple #[.int .u64 (((x * 18446744073709551616 + y) / n : Nat) : Int), r]) ∧ w = w' := by
  obtain ⟨s, hs⟩ : ∃ s : Nat, (64 - (Lib.bitLen n : Int)) = (s : Int) := ⟨64 - Lib.bitLen n, by have := Lib.bitLen_le n 64 (by omega) (by omega); omega⟩
  have kl := fun w => lead_is n (by omega) w
  rw [hs] at kl
  obtain ⟨b0, b1, b2⟩ := lead_bound n s hn0 hn1 hs
  obtain ⟨U, Y, L, u1, u0, q1, r1, Z, q0, H⟩ := dv_of x y n s hn0 hx hy b0 b1 b2
  have HH := Lib.hid H
  have hn0i : ((n : Int) == 0) = false := by simp; omega
  have hx0i : ((x : Int) == 0) = false := by simp; omega
  have hxi : ¬ (n : Int) ≤ (x : Int) := by omega
  obtain ⟨N, hN⟩ : ∃ N, Y * 4294967296 = N := ⟨_, rfl⟩
  have g1 := H.fN
  rw [hN] at g1
  have g2 := H.fX
  have g3 := H.fL
  have g4 : (N : Int) / 4294967296 = (Y : Int) := by omega
  have g5 : bits .and .u64 (N : Int) 4294967295 = 0 := by rw [mask32 _ (by omega) (by have := H.fY1; omega)]; omega
  have g6 : (L : Int) / 4294967296 = (u1 : Int) := by have := H.fu1; omega
  have g7 : bits .and .u64 (L : Int) 4294967295 = (u0 : Int) := by rw [mask32 _ (by omega) (by have := H.fL1; omega)]; have := H.fu0; omega
  have g8 : (U : Int).tdiv (Y : Int) = (q1 : Int) := by rw [← H.fq1]; rfl
  have hqY : q1 * Y ≤ U := by have := H.frq; omega
  have hqYi : (q1 : Int) * (Y : Int) = ((q1 * Y : Nat) : Int) := by push_cast; rfl
  have g9 : IntKind.u64.wrap (q1 : Int) = (q1 : Int) := by have := H.fq1l; rw [IntKind.wrap_u64]; omega
  have g10 : IntKind.u64.wrap ((U : Int) - IntKind.u64.wrap ((q1 : Int) * (Y : Int))) = (r1 : Int) := by
    have := H.frq; have := H.fUl; have := H.fY1
    rw [hqYi]; simp only [IntKind.wrap_u64]; omega
  have g11 : ¬ 4294967296 ≤ (q1 : Int) := by have := H.fq1l; omega
  have g12 : IntKind.u64.wrap (IntKind.u64.wrap (IntKind.u64.wrap ((U : Int) * 4294967296) + (u1 : Int)) - IntKind.u64.wrap ((q1 : Int) * (N : Int))) = (Z : Int) := by
    have e1 : (q1 : Int) * (N : Int) = ((q1 * Y : Nat) : Int) * 4294967296 := by rw [← hN]; exact cast_aux q1 Y 4294967296
    have := H.frq; have := H.fUl; have := H.fY1; have := H.fZ; have := H.fZl; have := H.fr1l
    have e2 : (U : Int) * 4294967296 + (u1 : Int) - ((q1 * Y : Nat) : Int) * 4294967296 = (Z : Int) := by
      generalize q1 * Y = Q at *
      omega
    rw [e1]; simp only [IntKind.wrap_u64]
    rw [Int.emod_add_emod, ← Int.sub_emod, e2]
    exact Int.emod_eq_of_lt (by omega) (by omega)
  have g13 : (Z : Int).tdiv (Y : Int) = (q0 : Int) := by rw [← H.fq0]; rfl
  have g14 : IntKind.u64.wrap (q0 : Int) = (q0 : Int) := by have := H.fq0l; rw [IntKind.wrap_u64]; omega
  have g15 : ¬ 4294967296 ≤ (q0 : Int) := by have := H.fq0l; omega
  have g16 : (Y : Int) ≠ 0 := by have := H.fY0; omega
  have g17 : ((Y : Int) == 0) = false := by simp; have := H.fY0; omega
  have HN := Lib.hid hN
  have hq1i : (0 : Int) ≤ (q1 : Int) := by omega
  clear hN H b2 hs hqYi hqY
  obtain ⟨Ui, hU⟩ : ∃ z, (U : Int) = z := ⟨_, rfl⟩
  obtain ⟨Yi, hY⟩ : ∃ z, (Y : Int) = z := ⟨_, rfl⟩
  obtain ⟨Ni, hNi⟩ : ∃ z, (N : Int) = z := ⟨_, rfl⟩
  obtain ⟨Li, hL⟩ : ∃ z, (L : Int) = z := ⟨_, rfl⟩
  obtain ⟨u1i, hu1⟩ : ∃ z, (u1 : Int) = z := ⟨_, rfl⟩
  obtain ⟨u0i, hu0⟩ : ∃ z, (u0 : Int) = z := ⟨_, rfl⟩
  obtain ⟨q1i, hq1⟩ : ∃ z, (q1 : Int) = z := ⟨_, rfl⟩
  obtain ⟨r1i, hr1⟩ : ∃ z, (r1 : Int) = z := ⟨_, rfl⟩
  obtain ⟨Zi, hZ⟩ : ∃ z, (Z : Int) = z := ⟨_, rfl⟩
  obtain ⟨q0i, hq0⟩ : ∃ z, (q0 : Int) = z := ⟨_, rfl⟩
  obtain ⟨xi, hxx⟩ : ∃ z, (x : Int) = z := ⟨_, rfl⟩
  obtain ⟨yi, hyy⟩ : ∃ z, (y : Int) = z := ⟨_, rfl⟩
  obtain ⟨ni, hnn⟩ : ∃ z, (n : Int) = z := ⟨_, rfl⟩
  rw [hnn, hNi] at g1
  rw [hxx, hyy, hU] at g2
  rw [hyy, hL] at g3
  rw [hNi, hY] at g4
  rw [hNi] at g5
  rw [hL, hu1] at g6
  rw [hL, hu0] at g7
  rw [hU, hY, hq1] at g8
  rw [hq1] at g9 g11 hq1i
  rw [hU, hq1, hY, hr1] at g10
  rw [hU, hu1, hq1, hNi, hZ] at g12
  rw [hZ, hY, hq0] at g13
  rw [hq0] at g14 g15
  rw [hY] at g16 g17
  rw [hnn] at hn0i kl
  rw [hxx] at hx0i
  rw [hnn, hxx] at hxi
  rw [hxx, hyy, hnn]
  obtain ⟨res, hres⟩ : ∃ r : Int, ((((x * 18446744073709551616 + y) / n : Nat)) : Int) = r := ⟨_, rfl⟩
  rw [hres]
  have hw0 := u64_nn
  have hw1 := u64_nn2
  have HH2 := Lib.hid (And.intro hq1 (And.intro hq0 hres))
  clear hU hY hNi hL hu1 hu0 hq1 hr1 hZ hq0 hxx hyy hnn hres hn0 hn1 hx0 hx hy
  go_enter Try.func61, Try.ntmps61
  go_upto_block 1 with (go_at_call 85; (with_reducible refine (kl _).mono ?_); rintro e w1 ⟨rfl, rfl⟩)
  refine wp_loop_rounds 1 ?_
  rw [rounds_succ]
  go_wp2_with fail
  refine wp_loop_rounds 1 ?_
  rw [rounds_succ]
  go_wp2_with fail
  go_ret2
  refine ⟨_, tup_left ?_, rfl⟩
  have hH := HH.out
  have := hH.fq1l; have := hH.fq0l
  obtain ⟨e1, e2, e3⟩ := HH2.out
  rw [← e1, ← e2, ← e3, ← hH.fin]
  simp only [IntKind.wrap_u64]
  omega
theorem div64_low (y n : Nat) (w : World) (hn0 : 1 ≤ n) (hn1 : n ≤ 2147483648) (hy : y < 18446744073709551616) :
    Calls Try.prog 61 #[.int .u64 0, .int .u64 (y : Int), .int .u64 (n : Int)] w fun e w' => ∃ r, e = .returned (.tuple #[.int .u64 ((y / n : Nat) : Int), r]) ∧ Below w.heap.size w w' := by
  have hn0i : ((n : Int) == 0) = false := by simp; omega
  have hni : ¬ (n : Int) ≤ 0 := by omega
  have hq : (y : Int).tdiv (n : Int) = ((y / n : Nat) : Int) := rfl
  have hle : y / n ≤ y := Nat.div_le_self _ _
  obtain ⟨q, hqq⟩ : ∃ q, y / n = q := ⟨_, rfl⟩
  rw [hqq] at hq hle ⊢
  have hw : IntKind.u64.wrap (q : Int) = (q : Int) := by rw [IntKind.wrap_u64]; omega
  clear hqq hle
  go_enter Try.func61, Try.ntmps61
  go_wp2_with fail
  go_quiet (fail)
  go_wp2
  go_ret2
  exact ⟨_, rfl, by (repeat (first | exact Below.refl _ _ | refine Below.drew ?_ | refine below_drewN ?_ _ | (refine Below.setCell ?_ (by simp; try omega) _) | (refine below_new ?_ _ (by simp; try omega)) | (refine below_on ?_ (by assumption)) | (refine below_next ?_ (by assumption) (by simp; try omega)) | assumption))⟩
end Go.Proofs.Ytipjhlabcbkgjaa.Ag
