/- Get. -/
import Derived.Test.YthifmfgnblecbaaOgAft
set_option maxRecDepth 20000
set_option linter.unusedSimpArgs false
set_option linter.unusedVariables false
namespace Go.Proofs.Ythifmfgnblecbaa.Og
open Go.RowKit Go.Proofs.Ythifmfgnblecbaa.Vi Go.Proofs.Ythifmfgnblecbaa.Mk

def GetDone (l : List Rec) (s q : Int) (w : World) (e : Ending) (w' : World) : Prop := ∃ x : Rd, e = .returned (.tuple #[recV x.r x.dv, .bool (getL l s q).isSome]) ∧ x.r = (getL l s q).getD Rec.zero ∧ Ns w' x.dv x.r.d ∧ Below w.heap.size w w' ∧ ∀ z, x.dv.ownBlock = some z → w.heap.size ≤ z ∧ z < w'.heap.size
theorem cell9_new (w : World) (z : Obj) (e : Nat) (he : e < w.heap.size) {r : Rec} {v : Value} (h : RecW w e r v) : RecW (w.alloc z) e r v := h.below ((Below.refl _ _).alloc (Nat.le_refl _) z)
structure GeJ (w wr : World) (zs : List Rd) (s q : Int) (k : Nat) : Prop where
  bel : Below w.heap.size w wr
  out : RecW wr w.heap.size Rec.zero (.slice none 0 0)
  no : ∀ j (hj : j < zs.length), j < k → (zs[j].r.st.s == s && zs[j].r.st.q == q) = false
end Go.Proofs.Ythifmfgnblecbaa.Og
