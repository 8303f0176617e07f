/- The walk of law WindowTimes. -/
import Derived.Test.YtdkenokjdiamhaaDoorWindowAwake
set_option maxRecDepth 20000
namespace Go.Proofs.YtdkenokjdiamhaaDoor
open Go.RowKit

set_option maxHeartbeats 4000000 in
theorem windowTimes.walk (t tier : Int) (w : World) (ht : -9223372036854775808 ≤ t ∧ t ≤ 9223372036854775807) (_hk : -9223372036854775808 ≤ tier ∧ tier ≤ 9223372036854775807) (hT : Tab w) :
    Calls Tryd.prog 3 #[.int .i64 t, .int .i64 tier] w fun e w' => e = .returned (.bool true) ∧ Below w.heap.size w w' := by
  have k0 := awake_is w hT
  have k1 := fun w h => width_is tier _ w h (Lib.hid rfl)
  have r1 := fun w => rwidth_is tier _ w (Lib.hid rfl)
  have k2 := fun w h => start_is t tier _ w h ht (Lib.hid rfl)
  have r2 := fun w => rstart_is t tier _ w ht (Lib.hid rfl)
  have k3 := fun w h => of_is t tier _ w h ht (Lib.hid rfl)
  have r3 := fun w => rof_is t tier _ w ht (Lib.hid rfl)
  generalize wid tier = W at *
  generalize startI t tier = z at *
  generalize ofI t tier = o at *
  have q : ∀ w, (binOp .eql 26 (.agg #[.int .i64 o.f, .int .i64 o.t]) (.agg #[.int .i64 o.f, .int .i64 o.t])).run Tryd.prog w = .ok (.bool true) w := fun w => by
    rw [sp_eql o o w, Sp.same_iff.2 rfl]
  have qw : (W == W) = true := by simp
  have qz : (z == z) = true := by simp
  unfold Sp.v at k3 r3
  go_enter Tryd.func3, Tryd.ntmps3
  go_wp2_with (first
    | (go_at_call 10; (with_reducible refine k0.mono ?_); rintro e w1 ⟨rfl, hb1⟩; have hT1 := hT.next hb1)
    | (go_at_call 11; (with_reducible refine (k1 _ hT1).mono ?_); rintro e w2 ⟨rfl, rfl⟩)
    | (go_at_call 12; (with_reducible refine (r1 _).mono ?_); rintro e w2 ⟨rfl, rfl⟩)
    | (go_at_call 13; (with_reducible refine (k2 _ hT1).mono ?_); rintro e w2 ⟨rfl, rfl⟩)
    | (go_at_call 14; (with_reducible refine (r2 _).mono ?_); rintro e w2 ⟨rfl, rfl⟩)
    | (go_at_call 15; (with_reducible refine (k3 _ hT1).mono ?_); rintro e w2 ⟨rfl, hb2⟩)
    | (go_at_call 16; (with_reducible refine (r3 _).mono ?_); rintro e w3 ⟨rfl, hb3⟩))
  go_ret
  exact ⟨rfl, bel_next (bel_next hb1 hb2) hb3⟩
end Go.Proofs.YtdkenokjdiamhaaDoor
