/- Trim. -/
import Derived.Test.YthifmfgnblecbaaOgAll
import Derived.WalkMore
set_option maxRecDepth 20000
set_option linter.unusedSimpArgs false
set_option linter.unusedVariables false
namespace Go.Proofs.Ythifmfgnblecbaa.Og
open Go.RowKit Go.Proofs.Ythifmfgnblecbaa.Vi Go.Proofs.Ythifmfgnblecbaa.Mk

theorem elemR : Try.prog.underlying 43 = some (.slice (Try.prog.elem 43)) := by kernel_rfl
structure TrJ (w wr : World) (V : List Int) (zs : List Rd) (k : Nat) : Prop where
  bel : Below w.heap.size w wr
  no : ∀ j (hj : j < zs.length), j < k → beyB V zs[j].r = false
end Go.Proofs.Ythifmfgnblecbaa.Og
