/- The walk of law SumValues: it returns true and turns nothing that was there. -/
import Derived.Test.YtibjnfllagaplaaDoorSumRef
import Derived.Test.YtibjnfllagaplaaDoorSumAwake
namespace Go.Proofs.YtibjnfllagaplaaDoor.sumValues
open Go.RowKit Go.Proofs.YtibjnfllagaplaaDoor.Crc

set_option maxHeartbeats 400000 in
theorem walk (s : ByteArray) (w : World) (_hs : s.size ≤ maxLen) (ht : Tab w) :
    Calls Tryd.prog 3 #[.string s] w fun e w' => e = .returned (.bool true) ∧ Below w.heap.size w w' := by
  obtain ⟨t, h1, _, hshort⟩ := short_any s 2000 2000 rfl (by decide)
  have hm : t.size ≤ maxLen := by unfold maxLen; omega
  obtain ⟨c, hc⟩ : ∃ c, crc t.data.toList = c := ⟨_, rfl⟩
  have HC := Lib.hid hc
  clear hc
  go_enter Tryd.func3, Tryd.ntmps3
  go_wp2_with (first
    | (go_at_call 9; with_reducible refine (awake_any _ ht).mono ?_; rintro e w1 ⟨rfl, hw1⟩; have ht1 := ht.next hw1)
    | (go_at_call 10; with_reducible refine (hshort _).mono ?_; rintro e w2 ⟨rfl, rfl⟩)
    | (go_at_call 11; with_reducible refine (of_one _ _ t c _ hm HC (Tab.alloc (by assumption) _) (by simp [go_sem])).mono ?_; rintro e w4 ⟨rfl, rfl⟩)
    | (go_at_call 12; with_reducible refine (refOf_any t _ hm).mono ?_; rw [HC.out]; rintro e w4 ⟨rfl, rfl⟩))
  go_ret
  exact ⟨rfl, below_new hw1 _⟩
end Go.Proofs.YtibjnfllagaplaaDoor.sumValues
