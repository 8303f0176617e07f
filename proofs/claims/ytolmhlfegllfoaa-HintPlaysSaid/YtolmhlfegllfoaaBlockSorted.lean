/- The contracts of the program's Sorted and of the document's. -/
import Derived.Test.YtolmhlfegllfoaaBlockRow
import Derived.Deep.RegionHeld
set_option maxRecDepth 20000
set_option linter.unusedSimpArgs false
namespace Go.Proofs.Ytolmhlfegllfoaa
open Go.RowKit Go.Proofs.Ytolmhlfegllfoaa.Vi Go.Proofs.Ytolmhlfegllfoaa.Mk

/-- Held: two points in a block. -/
structure PP (w : World) (b i j : Nat) (p q : Pt) (w' : World) : Prop where
  x : PtO w' b i p
  y : PtO w' b j q
  bel : Below w.heap.size w w'
theorem PP.keep {w w1 w2 : World} {b i j : Nat} {p q : Pt} (h : PP w b i j p q w1) (k : Below w1.heap.size w1 w2) : PP w b i j p q w2 := ⟨h.x.below k h.x.room, h.y.below k h.y.room, bel_next h.bel k⟩
theorem PP.drew {w w1 : World} {b i j : Nat} {p q : Pt} (h : PP w b i j p q w1) : PP w b i j p q w1.drew := h.keep ((Below.refl _ _).drew)
theorem srtB_iff : ∀ {l : List Pt}, srtB l = true ↔ ∀ j (h : j + 1 < l.length), (l[j]).before (l[j + 1]) = true
  | [] => ⟨fun _ j h => by simp at h, fun _ => rfl⟩
  | [a] => ⟨fun _ j h => by simp at h, fun _ => rfl⟩
  | a :: b :: t => by
    unfold srtB
    rw [Bool.and_eq_true, srtB_iff (l := b :: t)]
    constructor
    · rintro ⟨h1, h2⟩ j hj
      cases j with
      | zero => exact h1
      | succ j => exact h2 j (by simpa using hj)
    · intro h
      exact ⟨h 0 (by simp), fun j hj => h (j + 1) (by simpa using hj)⟩

end Go.Proofs.Ytolmhlfegllfoaa
