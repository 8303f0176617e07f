/- The closures that read how many series, and how many points, there are. -/
import Derived.Test.YtkomfenjeoaelaaDoorBlockRow
import Derived.Test.YtkomfenjeoaelaaDoorVintB
set_option maxRecDepth 20000
set_option linter.unusedSimpArgs false
namespace Go.Proofs.YtkomfenjeoaelaaDoor
open Go.RowKit Go.Proofs.YtkomfenjeoaelaaDoor.Vi Go.Proofs.YtkomfenjeoaelaaDoor.Mk

set_option maxHeartbeats 2000000 in
theorem seriesN_is (d z : Nat) (r r' : ByteArray) (b b' : Bool) (v : Int) (w : World) (hr : r.size ≤ 100000) (H : Hid (smallQ r b 3000 = (v, r', b'))) (h : RA w d r b) (hz : w.cell? ⟨z, 0, none⟩ = some (.func (.func 85) #[.pointer (some ⟨d, 0, none⟩)] #[])) :
    Calls Tryd.prog 87 #[.pointer (some ⟨z, 0, none⟩)] w (Took d (.int .i64 v) r' b' w) := by
  have ks := fun W h => small_is d r r' b b' v 3000 W (by unfold maxLen; omega) (by omega) H h
  clear H
  go_enter Tryd.func87, Tryd.ntmps87
  go_wp2_with (first
    | (go_at_call 85; (with_reducible refine (ks _ h).mono ?_); rintro e w2 ⟨rfl, hR2, hB2⟩))
  go_ret
  exact ⟨rfl, hR2, hB2⟩
set_option maxHeartbeats 2000000 in
theorem pointsN_is (d z y : Nat) (r r' : ByteArray) (b b' : Bool) (v n : Int) (w : World) (hr : r.size ≤ 100000) (hn : 0 ≤ n ∧ n ≤ 3000) (H : Hid (smallQ r b n = (v, r', b'))) (hv : 0 ≤ v ∧ v ≤ n) (h : RA w d r b) (hz : w.cell? ⟨z, 0, none⟩ = some (.func (.func 85) #[.pointer (some ⟨d, 0, none⟩)] #[]))
    (hy : w.cell? ⟨y, 0, none⟩ = some (.int .i64 n)) (hyf : w.frozen? ⟨y, 0, none⟩ = false) (hne : y ≠ d) (hnz : y < w.heap.size) :
    Calls Tryd.prog 88 #[.pointer (some ⟨z, 0, none⟩), .pointer (some ⟨y, 0, none⟩)] w (fun e w' => e = .returned (.int .i64 v) ∧ ∃ w2, Took d (.int .i64 v) r' b' w (.returned (.int .i64 v)) w2 ∧ w' = w2.setCell ⟨y, 0, none⟩ (.int .i64 (n - v))) := by
  have ks := fun W h => small_is d r r' b b' v n W (by unfold maxLen; omega) (by omega) H h
  have hw : IntKind.i64.wrap (n - v) = n - v := by rw [IntKind.wrap_i64]; omega
  clear H
  go_enter Tryd.func88, Tryd.ntmps88
  go_wp2_with (first
    | (go_at_call 85; (with_reducible refine (ks _ h).mono ?_); rintro e w2 ⟨rfl, hR2, hB2⟩; (have hy2 := hB2.cell (p := ⟨y, 0, none⟩) hne hnz); (have hyf2 := hB2.frozen (p := ⟨y, 0, none⟩) hne hnz); (rw [hy] at hy2); (rw [hyf] at hyf2)))
  go_ret
  exact ⟨rfl, w2, ⟨rfl, hR2, hB2⟩, rfl⟩
end Go.Proofs.YtkomfenjeoaelaaDoor
