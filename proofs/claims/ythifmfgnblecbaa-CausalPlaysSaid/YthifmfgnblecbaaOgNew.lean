/- New; the law's record. -/
import Derived.Test.YthifmfgnblecbaaOgAdd
import Derived.Test.YthifmfgnblecbaaOgGet
set_option maxRecDepth 20000
set_option linter.unusedSimpArgs false
set_option linter.unusedVariables false
namespace Go.Proofs.Ythifmfgnblecbaa.Og
open Go.RowKit Go.Proofs.Ythifmfgnblecbaa.Vi Go.Proofs.Ythifmfgnblecbaa.Mk

/-- The law's record. -/
def lawR (s q : Int) (d : List Int) : Rec := ⟨1, ⟨#[97]⟩, q, 0, 0, ⟨q, s, q⟩, d⟩
def RecDone (s q : Int) (d : List Int) (dv : Value) (w : World) (e : Ending) (w' : World) : Prop := e = .returned (recV (lawR s q d) dv) ∧ Below w.heap.size w w'
end Go.Proofs.Ythifmfgnblecbaa.Og
