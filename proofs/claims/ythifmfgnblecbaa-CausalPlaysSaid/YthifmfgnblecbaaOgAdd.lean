/- Add. -/
import Derived.Test.YthifmfgnblecbaaOgTrim
import Derived.Test.YthifmfgnblecbaaSamplePCheck
import Derived.StillTailTactics
set_option maxRecDepth 20000
set_option linter.unusedSimpArgs false
set_option linter.unusedVariables false
namespace Go.Proofs.Ythifmfgnblecbaa.Og
open Go.RowKit Go.Proofs.Ythifmfgnblecbaa.Vi Go.Proofs.Ythifmfgnblecbaa.Mk

/-- A drawing region all of whose operations but the last ones leave the world. -/
theorem still_tail {P : Program} {id : Nat} {Q : Exit → Act → World → Prop} {a : Act} {w : World} {l : List Oper} (n : Nat) (hm : P.follows .mixedOrders = true) (hB : Region.lexTailB .any l.toArray n = true)
    (h : wpStill P l.toArray w.drew (fun a' => wpList P l.toArray Q (l.drop n) a' w.drew) (l.take n) a) : (Code.region id l.toArray true).wp P Q a w := wp_region_still_tail n hm hB h
theorem covers_quiet (v1 v2 : Value) (l1 l2 : List Int) (z : Bool) (hz : covL l1 l2 = z) (u : World) (n : Nat) (h1 : Ns u v1 l1) (h2 : Ns u v2 l2) :
    Calls Try.prog 51 #[v1, v2] (u.drewN n) fun e w' => e = .returned (.bool z) ∧ w' = u.drewN n :=
  (coversN v1 v2 l1 l2 _ (Ns.later h1 (below_drawn u n)) (Ns.later h2 (below_drawn u n))).mono fun _ _ ⟨e1, e2⟩ => ⟨by rw [← hz]; exact e1, e2.symm⟩
end Go.Proofs.Ythifmfgnblecbaa.Og
