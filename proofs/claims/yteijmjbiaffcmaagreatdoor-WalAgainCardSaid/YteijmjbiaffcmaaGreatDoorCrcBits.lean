/- The model's operations on uint32 numbers said of BitVec 32, and what it means that the table of the program stands in memory. -/
import Derived.WalkKit
import Derived.Handy
import Derived.Below
import Derived.Lib.Hide
import Derived.Laws.BitsAllLaws
import Derived.Test.YteijmjbiaffcmaaGreatDoorCrcMath
namespace Go.Proofs.YteijmjbiaffcmaaGreatDoor
open Go.RowKit
namespace Crc

theorem nat32 (a : BitVec 32) : (0 : Int) ≤ (a.toNat : Int) ∧ (a.toNat : Int) < 4294967296 := by
  have := a.isLt; omega
theorem xor_is (a b : BitVec 32) : bits .xor .u32 (a.toNat : Int) (b.toNat : Int) = ((a ^^^ b).toNat : Int) := by
  rw [u32_xor_nat _ _ a.isLt b.isLt, BitVec.toNat_xor]
theorem and15_is (a : BitVec 32) : bits .and .u32 (a.toNat : Int) 15 = ((a &&& 15#32).toNat : Int) := by
  have := u32_and_nat a.toNat 15 a.isLt (by decide)
  rw [BitVec.toNat_and]; exact this
theorem not_is (a : BitVec 32) : bits .xor .u32 4294967295 (a.toNat : Int) = ((~~~ a).toNat : Int) := by
  have := xor_is 4294967295#32 a
  rw [show ((4294967295#32 : BitVec 32).toNat : Int) = 4294967295 from rfl] at this
  rw [this, show (4294967295#32 : BitVec 32) = BitVec.allOnes 32 from rfl, BitVec.allOnes_xor]
theorem shr4_is (a : BitVec 32) : (a.toNat : Int) / 16 = ((a >>> 4).toNat : Int) := by
  rw [BitVec.toNat_ushiftRight, Nat.shiftRight_eq_div_pow]; simp

/-- Where the table stands: block 4. -/
def Tab (w : World) : Prop := ∀ j, j < 16 → w.cell? ⟨4, j, none⟩ = some (.int .u32 ((tabv j).toNat : Int))
theorem Tab.room {w : World} (h : Tab w) : 4 < w.heap.size :=
  World.block_lt_of_cell? w _ (h 0 (by decide))
theorem Tab.below {w w' : World} {B : Nat} (h : Tab w) (hb : Below B w w') (hB : 4 < B) : Tab w' := fun j hj =>
  (hb.cell (p := ⟨4, j, none⟩) hB).trans (h j hj)
theorem Tab.alloc {w : World} (h : Tab w) (o : Obj) : Tab (w.alloc o) :=
  h.below ((Below.refl w.heap.size w).alloc (Nat.le_refl _) o) h.room
theorem below_next {w a b : World} (h : Below w.heap.size w a) (k : Below a.heap.size a b) : Below w.heap.size w b := h.trans (k.mono h.size)
theorem below_new {w a : World} (h : Below w.heap.size w a) (o : Obj) : Below w.heap.size w (a.alloc o) := h.alloc h.size o
theorem Tab.next {w a : World} (h : Tab w) (k : Below w.heap.size w a) : Tab a := h.below k h.room
theorem Tab.drew {w : World} (h : Tab w) : Tab w.drew := h
end Crc
end Go.Proofs.YteijmjbiaffcmaaGreatDoor
