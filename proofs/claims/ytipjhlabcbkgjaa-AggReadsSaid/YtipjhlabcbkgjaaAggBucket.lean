/- Contracts: the bucket of a value. -/
import Derived.Test.YtipjhlabcbkgjaaAggMath
import Derived.Test.YtipjhlabcbkgjaaProg
set_option maxRecDepth 20000
namespace Go.Proofs.Ytipjhlabcbkgjaa.Ag
open Go.RowKit Go.Proofs.Ytipjhlabcbkgjaa Go.Proofs.Ytipjhlabcbkgjaa.Wd Go.Proofs.Ytipjhlabcbkgjaa.Vi Go.Proofs.Ytipjhlabcbkgjaa.Mk

set_option maxHeartbeats 2000000 in
theorem bucket_is (v : Int) (w : World) (hv : -9223372036854775808 ≤ v ∧ v ≤ 9223372036854775807) (k0 : Nat) (H : Hid (bk v = k0)) : Calls Try.prog 12 #[.int .i64 v] w fun e w' => e = .returned (.int .i64 (k0 : Int)) ∧ w = w' := by
  have H := H.out
  unfold bk at H
  by_cases h0 : v < 0
  · rw [if_pos h0] at H
    subst H
    go_enter Try.func12, Try.ntmps12
    go_wp2
    go_ret
    exact ⟨rfl, rfl⟩
  · rw [if_neg h0] at H
    obtain ⟨n, rfl⟩ : ∃ n : Nat, v = (n : Int) := ⟨v.toNat, by omega⟩
    rw [Int.toNat_natCast] at H
    have HB := Lib.hid (show n ≤ 9223372036854775807 by omega)
    clear hv
    go_enter Try.func12, Try.ntmps12
    go_wp2
    go_loopw [0, 3] (fun x k wr => ∃ m j : Nat, x = .int .i64 (m : Int) ∧ k = .int .i64 (j : Int) ∧ j ≤ 8 ∧ m ≤ 9223372036854775807 ∧ bkN m j = k0 ∧ wr = w) (fun _ k _ => 8 - (intOf k).toNat)
    case atStart => exact ⟨n, 1, rfl, rfl, by omega, HB.out, H, rfl⟩
    case round =>
      obtain ⟨m, j, rfl, rfl, hj, hm, hb, rfl⟩ := hrel
      clear H
      by_cases hm0 : 0 < m
      · have hm0i : 0 < (m : Int) := by omega
        by_cases hj8 : j < 8
        · have hj8i : (j : Int) < 8 := by omega
          rw [bkN_step ⟨hm0, hj8⟩] at hb
          obtain ⟨y, hy⟩ : ∃ y, m / 10 = y := ⟨_, rfl⟩
          rw [hy] at hb
          have hq : (m : Int).tdiv 10 = (y : Int) := by rw [Int.tdiv_eq_ediv_of_nonneg (by omega)]; omega
          have hy2 : y ≤ 9223372036854775807 := by omega
          have hwy : IntKind.i64.wrap (y : Int) = (y : Int) := by rw [IntKind.wrap_i64]; omega
          have hwj : IntKind.i64.wrap ((j : Int) + 1) = (j : Int) + 1 := by rw [IntKind.wrap_i64]; omega
          have HBB := Lib.hid hb
          clear hy hb
          go_wp2
          go_roundw
          case rel => exact ⟨y, j + 1, rfl, by go_num, by omega, hy2, HBB.out, trivial⟩
          case measure => simp [intOf]; omega
        · have hj8i : ¬ (j : Int) < 8 := by omega
          rw [bkN_end (by omega)] at hb
          subst hb
          go_wp2
          go_ret
          exact ⟨rfl, rfl⟩
      · have hm0i : ¬ 0 < (m : Int) := by omega
        rw [bkN_end (by omega)] at hb
        subst hb
        go_wp2
        go_ret
        exact ⟨rfl, rfl⟩
set_option maxHeartbeats 2000000 in
theorem rbucket_is (v : Int) (w : World) (hv : -9223372036854775808 ≤ v ∧ v ≤ 9223372036854775807) (k0 : Nat) (H : Hid (bk v = k0)) : Calls Try.prog 13 #[.int .i64 v] w fun e w' => e = .returned (.int .i64 (k0 : Int)) ∧ w = w' := by
  have H := H.out
  unfold bk at H
  by_cases h0 : v < 0
  · rw [if_pos h0] at H
    subst H
    go_enter Try.func13, Try.ntmps13
    go_wp2
    go_ret
    exact ⟨rfl, rfl⟩
  · rw [if_neg h0] at H
    obtain ⟨n, rfl⟩ : ∃ n : Nat, v = (n : Int) := ⟨v.toNat, by omega⟩
    rw [Int.toNat_natCast, bk_rf _ _ (by omega)] at H
    have HB := Lib.hid (show n ≤ 9223372036854775807 by omega)
    obtain ⟨r, hr⟩ : ∃ r, rfN n 1 = r := ⟨_, rfl⟩
    rw [hr] at H
    have HK := Lib.hid H
    have hrb : r ≤ 9223372036854775808 := by have := rfN_le n 1; have := HB.out; omega
    clear hv H
    go_enter Try.func13, Try.ntmps13
    go_wp2
    go_loopw [0, 3] (fun x k wr => ∃ m j : Nat, x = .int .i64 (m : Int) ∧ k = .int .i64 (j : Int) ∧ m ≤ 9223372036854775807 ∧ j ≤ 20 ∧ m * 10 ^ j ≤ 9223372036854775807 * 10 ∧ rfN m j = r ∧ wr = w) (fun x _ _ => (intOf x).toNat)
    case atStart => exact ⟨n, 1, rfl, rfl, HB.out, by omega, by have := HB.out; omega, hr, rfl⟩
    case round =>
      obtain ⟨m, j, rfl, rfl, hm, hj, hmj, hb, rfl⟩ := hrel
      clear hr
      by_cases hm0 : 0 < m
      · have hm0i : 0 < (m : Int) := by omega
        have hj20 : j < 20 := by
          apply Decidable.byContradiction
          intro hn
          have : j = 20 := by omega
          subst this
          omega
        rw [rfN_step hm0] at hb
        obtain ⟨y, hy⟩ : ∃ y, m / 10 = y := ⟨_, rfl⟩
        rw [hy] at hb
        have hq : (m : Int).tdiv 10 = (y : Int) := by rw [Int.tdiv_eq_ediv_of_nonneg (by omega)]; omega
        have hy2 : y ≤ 9223372036854775807 := by omega
        have hmy : y * 10 ^ (j + 1) ≤ 9223372036854775807 * 10 := by
          have h1 : y * 10 ≤ m := by omega
          have h2 := Nat.mul_le_mul_right (10 ^ j) h1
          rw [Nat.pow_succ, Nat.mul_comm (10 ^ j) 10, ← Nat.mul_assoc]
          omega
        have hwy : IntKind.i64.wrap (y : Int) = (y : Int) := by rw [IntKind.wrap_i64]; omega
        have hwj : IntKind.i64.wrap ((j : Int) + 1) = (j : Int) + 1 := by rw [IntKind.wrap_i64]; omega
        have HBB := Lib.hid hb
        have HMY := Lib.hid hmy
        have HYM := Lib.hid (show y < m by omega)
        clear hy hb hmj hmy
        go_wp2
        go_roundw
        case rel => exact ⟨y, j + 1, rfl, by go_num, hy2, by omega, HMY.out, HBB.out, trivial⟩
        case measure => simp [intOf]; exact HYM.out
      · have hm0i : ¬ 0 < (m : Int) := by omega
        rw [rfN_end (by omega)] at hb
        subst hb
        have HK := HK.out
        clear hmj
        by_cases hj8 : 8 < j
        · have hj8i : 8 < (j : Int) := by omega
          have : k0 = 8 := by omega
          subst this
          clear HK
          go_wp2
          go_ret
          exact ⟨rfl, rfl⟩
        · have hj8i : ¬ 8 < (j : Int) := by omega
          have : k0 = j := by omega
          subst this
          clear HK
          go_wp2
          go_ret
          exact ⟨rfl, rfl⟩
end Go.Proofs.Ytipjhlabcbkgjaa.Ag
