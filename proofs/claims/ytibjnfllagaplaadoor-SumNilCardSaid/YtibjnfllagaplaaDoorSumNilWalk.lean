/- The walk of law SumNil: it returns true and turns nothing that was there. -/
import Derived.Test.YtibjnfllagaplaaDoorSumObj
import Derived.Test.YtibjnfllagaplaaDoorSumAwake
namespace Go.Proofs.YtibjnfllagaplaaDoor.sumNil
open Go.RowKit Go.Proofs.YtibjnfllagaplaaDoor.Crc

/-- A new Sum, written "a" to: as the law does it. -/
theorem write_a (w : World) (ht : Tab w) : Calls Tryd.prog 18 #[.pointer (some ⟨w.heap.size, 0, none⟩), .string aS] (w.alloc (.cells #[.int .u32 0, .int .i64 0] 43))
    fun e w' => e = .returned (.int .i64 1) ∧ SumAt w' w.heap.size 3251651376#32 1 ∧ Below w.heap.size w w' := by
  refine (write_any w.heap.size 0 0#32 aS _ (by decide) (by decide) (ht.alloc _) (sumAt_new w)).mono ?_
  rintro e w' ⟨rfl, hS, hb⟩
  refine ⟨rfl, ?_, (below_new (Below.refl _ _) _).trans hb⟩
  rw [ext_zero, show aS.data.toList = [97] from rfl, crc_a] at hS
  exact hS

set_option maxHeartbeats 400000 in
theorem walk (s : ByteArray) (w : World) (_hs : s.size ≤ maxLen) (ht : Tab w) :
    Calls Tryd.prog 7 #[.string s] w fun e w' => e = .returned (.bool true) ∧ Below w.heap.size w w' := by
  have HA : Hid (crc aS.data.toList = 3251651376#32) := crc_a
  have hm1 : aS.size ≤ maxLen := by decide
  go_enter Tryd.func7, Tryd.ntmps7
  go_wp2_with (first
    | (go_at_call 21; with_reducible refine (reset_nil _).mono ?_; rintro e w1 ⟨rfl, rfl⟩)
    | (go_at_call 18; with_reducible refine (write_nil _ _).mono ?_; rintro e w1 ⟨rfl, rfl⟩)
    | (go_at_call 18; with_reducible refine (write_a w ht).mono ?_; rintro e w1 ⟨rfl, hS1, hw1⟩; have ht1 := ht.next hw1)
    | (go_at_call 9; with_reducible refine (awake_any _ (by assumption)).mono ?_; rintro e w2 ⟨rfl, hw2⟩; have ht2 := Tab.next (by assumption) hw2; have hS2 := hS1.below hw2 hS1.room)
    | (go_at_call 19; with_reducible refine (len_nil _).mono ?_; rintro e w3 ⟨rfl, rfl⟩)
    | (go_at_call 19; with_reducible refine (len_any w.heap.size 1 3251651376#32 _ (hS2.below (below_new (Below.refl _ _) _) hS2.room)).mono ?_; rintro e w3 ⟨rfl, rfl⟩)
    | (go_at_call 20; with_reducible refine (value_nil _).mono ?_; rintro e w3 ⟨rfl, rfl⟩)
    | (go_at_call 20; with_reducible refine (value_any w.heap.size 1 3251651376#32 _ hS2).mono ?_; rintro e w3 ⟨rfl, rfl⟩)
    | (go_at_call 11; with_reducible refine (of_one _ _ aS 3251651376#32 _ hm1 HA (Tab.alloc (by assumption) _) (by simp [go_sem])).mono ?_; rintro e w4 ⟨rfl, rfl⟩))
  go_ret
  exact ⟨rfl, by repeat (first | assumption | apply below_new | (refine below_next ?_ (by assumption)))⟩
end Go.Proofs.YtibjnfllagaplaaDoor.sumNil
