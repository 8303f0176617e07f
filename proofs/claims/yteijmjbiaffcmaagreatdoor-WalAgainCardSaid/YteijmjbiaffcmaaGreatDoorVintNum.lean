/- Contracts of package vint's Zig and Zag, and of the document's answers for them. -/
import Derived.Test.YteijmjbiaffcmaaGreatDoorProg
import Derived.Test.YteijmjbiaffcmaaGreatDoorVintMath
import Derived.WalkKit
import Derived.Handy
import Derived.Outline
import Derived.Laws.IdiomStrings
import Derived.Laws.BitsAllLaws
import Derived.IntWalk
import Derived.Lib.Hide
namespace Go.Proofs.YteijmjbiaffcmaaGreatDoor
open Go.RowKit Go.Proofs.YteijmjbiaffcmaaGreatDoor.Vi

def zig (n : Int) : Int := if 0 ≤ n then 2 * n else -(2 * n) - 1
def zag (u : Int) : Int := if u % 2 = 0 then u / 2 else -(u / 2) - 1

theorem wrap64_is (x : Int) : wrap64 x = (x + 9223372036854775808) % 18446744073709551616 - 9223372036854775808 := by
  unfold wrap64; omega
theorem zx_pos (n : Int) (h0 : 0 ≤ n) (h1 : n ≤ 9223372036854775807) : bits .xor .u64 (IntKind.u64.wrap (wrap64 (n * 2))) (n / 9223372036854775808) = 2 * n := by
  have e1 : IntKind.u64.wrap (wrap64 (n * 2)) = 2 * n := by rw [IntKind.wrap_u64, wrap64_is]; omega
  have e2 : n / 9223372036854775808 = 0 := by omega
  rw [e1, e2, u64_xor _ _ (by omega) (by omega) (by omega) (by omega)]
  simp; omega
theorem ones_xor (a : Int) (h0 : 0 ≤ a) (h1 : a < 18446744073709551616) : bits .xor .u64 a 18446744073709551615 = 18446744073709551615 - a := by
  obtain ⟨A, rfl⟩ := Int.eq_ofNat_of_zero_le h0
  show IntKind.u64.wrap ((BitVec.ofInt 64 (A : Int) ^^^ BitVec.ofInt 64 18446744073709551615).toNat : Int) = _
  have e : BitVec.ofInt 64 18446744073709551615 = BitVec.allOnes 64 := by decide
  rw [e, BitVec.xor_allOnes, BitVec.toNat_not, ofInt_u64 A (by omega), IntKind.wrap_u64]
  omega
theorem zx_neg (n : Int) (h0 : n < 0) (h1 : -9223372036854775808 ≤ n) : bits .xor .u64 (IntKind.u64.wrap (wrap64 (n * 2))) (IntKind.u64.wrap (n / 9223372036854775808)) = -(2 * n) - 1 := by
  have e1 : IntKind.u64.wrap (wrap64 (n * 2)) = 2 * n + 18446744073709551616 := by rw [IntKind.wrap_u64, wrap64_is]; omega
  have e2 : IntKind.u64.wrap (n / 9223372036854775808) = 18446744073709551615 := by rw [IntKind.wrap_u64]; omega
  rw [e1, e2, ones_xor _ (by omega) (by omega)]; omega
theorem i64_xor_zero (a : Int) (h0 : 0 ≤ a) (h1 : a < 9223372036854775808) : bits .xor .i64 a 0 = a := by
  obtain ⟨A, rfl⟩ := Int.eq_ofNat_of_zero_le h0
  show IntKind.i64.wrap ((BitVec.ofInt 64 (A : Int) ^^^ BitVec.ofInt 64 0).toNat : Int) = _
  have e : BitVec.ofInt 64 0 = 0#64 := by decide
  rw [e, BitVec.xor_zero, ofInt_u64 A (by omega)]
  simp [IntKind.wrap, IntKind.bits, IntKind.signed]; omega
theorem i64_xor_ones (a : Int) (h0 : 0 ≤ a) (h1 : a < 9223372036854775808) : bits .xor .i64 a (-1) = -a - 1 := by
  obtain ⟨A, rfl⟩ := Int.eq_ofNat_of_zero_le h0
  show IntKind.i64.wrap ((BitVec.ofInt 64 (A : Int) ^^^ BitVec.ofInt 64 (-1)).toNat : Int) = _
  have e : BitVec.ofInt 64 (-1) = BitVec.allOnes 64 := by decide
  rw [e, BitVec.xor_allOnes, BitVec.toNat_not, ofInt_u64 A (by omega)]
  simp [IntKind.wrap, IntKind.bits, IntKind.signed]; omega
theorem and_one (u : Int) (h0 : 0 ≤ u) (h1 : u ≤ 18446744073709551615) : bits .and .u64 u 1 = u % 2 := by
  rw [u64_and u 1 h0 (by omega) (by omega) (by omega)]
  have : u.toNat &&& (1 : Int).toNat = u.toNat % 2 := Nat.and_one_is_mod _
  rw [this]; omega
theorem zg (u : Int) (h0 : 0 ≤ u) (h1 : u ≤ 18446744073709551615) : bits .xor .i64 (u / 2) (wrap64 (-wrap64 (bits .and .u64 u 1))) = zag u := by
  rw [and_one u h0 h1]
  unfold zag
  by_cases h : u % 2 = 0
  · have e : wrap64 (-wrap64 (u % 2)) = 0 := by rw [wrap64_is, wrap64_is]; omega
    rw [if_pos h, e, i64_xor_zero _ (by omega) (by omega)]
  · have e : wrap64 (-wrap64 (u % 2)) = -1 := by rw [wrap64_is, wrap64_is]; omega
    rw [if_neg h, e, i64_xor_ones _ (by omega) (by omega)]

theorem zig_bounds (n : Int) (h0 : -9223372036854775808 ≤ n) (h1 : n ≤ 9223372036854775807) : 0 ≤ zig n ∧ zig n ≤ 18446744073709551615 := by unfold zig; split <;> omega
theorem zag_zig (n : Int) : zag (zig n) = n := by unfold zig zag; split <;> split <;> omega
theorem zig_zag (u : Int) (h : 0 ≤ u) : zig (zag u) = u := by unfold zig zag; split <;> split <;> omega
theorem zag_bounds (u : Int) (h0 : 0 ≤ u) (h1 : u ≤ 18446744073709551615) : -9223372036854775808 ≤ zag u ∧ zag u ≤ 9223372036854775807 := by unfold zag; split <;> omega
end Go.Proofs.YteijmjbiaffcmaaGreatDoor
