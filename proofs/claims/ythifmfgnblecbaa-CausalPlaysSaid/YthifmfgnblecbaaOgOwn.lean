/- A copy of a record; whether a record is beyond a vector. -/
import Derived.Test.YthifmfgnblecbaaOgAt
import Derived.Test.YthifmfgnblecbaaSampleG
import Derived.Deep.RegionHeld
set_option maxRecDepth 20000
set_option linter.unusedSimpArgs false
set_option linter.unusedVariables false
namespace Go.Proofs.Ythifmfgnblecbaa.Og
open Go.RowKit Go.Proofs.Ythifmfgnblecbaa.Vi Go.Proofs.Ythifmfgnblecbaa.Mk

theorem setCell_noop {w : World} {b o : Nat} {v : Value} (h : w.cell? ⟨b, o, none⟩ = some v) : w.setCell ⟨b, o, none⟩ v = w := by
  unfold World.cell? at h
  unfold World.setCell
  obtain ⟨heap, tape, drawn, os, output⟩ := w
  dsimp only at *
  congr 1
  apply Array.ext
  · simp
  · intro i h1 h2
    rw [Array.getElem_modify]
    split
    · rename_i e
      subst e
      have hb : heap[b]? = some heap[b] := Array.getElem?_eq_getElem h2
      rw [hb] at h
      cases hq : heap[b] with
      | cells c t f =>
        rw [hq] at h
        simp at h
        simp only [Option.isSome_none, Bool.false_eq_true, if_false]
        congr 1
        apply Array.ext
        · simp
        · intro j g1 g2
          rw [Array.getElem_setIfInBounds]
          split
          · rename_i e
            subst e
            rw [Array.getElem?_eq_getElem g2] at h
            exact (Option.some.inj h).symm
          · rfl
      | _ => rfl
    · rfl
theorem World.heap_setCell_off (w : World) (b o : Nat) (v : Value) (q : Nat) (h : q ≠ b) : (w.setCell ⟨b, o, none⟩ v).heap[q]? = w.heap[q]? := Below.heap_setCell w ⟨b, o, none⟩ v q h
theorem nine_off (a : World) (b q : Nat) (h : q ≠ b) (v0 v1 v2 v3 v4 v5 v6 v7 v8 : Value) : (((((((((a.setCell ⟨b, 0, none⟩ v0).setCell ⟨b, 1, none⟩ v1).setCell ⟨b, 2, none⟩ v2).setCell ⟨b, 3, none⟩ v3).setCell ⟨b, 4, none⟩ v4).setCell ⟨b, 5, none⟩ v5).setCell ⟨b, 6, none⟩ v6).setCell ⟨b, 7, none⟩ v7).setCell ⟨b, 8, none⟩ v8).heap[q]? = a.heap[q]? := by
  rw [World.heap_setCell_off _ _ _ _ _ h, World.heap_setCell_off _ _ _ _ _ h, World.heap_setCell_off _ _ _ _ _ h, World.heap_setCell_off _ _ _ _ _ h, World.heap_setCell_off _ _ _ _ _ h, World.heap_setCell_off _ _ _ _ _ h, World.heap_setCell_off _ _ _ _ _ h, World.heap_setCell_off _ _ _ _ _ h, World.heap_setCell_off _ _ _ _ _ h]
theorem own_past {v : Value} {A C D : Nat} (h : ∀ q, v.ownBlock = some q → C ≤ q ∧ q < D) (k : A ≤ C) : ∀ q, v.ownBlock = some q → A ≤ q ∧ q < D := fun q hq => ⟨Nat.le_trans k (h q hq).1, (h q hq).2⟩
structure OwS (w : World) (b e : Nat) (r : Rec) (u : World) : Prop where
  rw_ : ∃ z, RecW u b r z
  out : RecW u e Rec.zero (.slice none 0 0)
  bel : Below w.heap.size w u
  lo : w.heap.size ≤ b ∧ b < e
theorem OwS.lt1 {w u : World} {b e : Nat} {r : Rec} (h : OwS w b e r u) : b < u.heap.size := by obtain ⟨z, hz⟩ := h.rw_; exact hz.room
theorem OwS.keep {w u u' : World} {b e : Nat} {r : Rec} (h : OwS w b e r u) (k : Below u.heap.size u u') : OwS w b e r u' := by
  obtain ⟨z, hz⟩ := h.rw_
  exact ⟨⟨z, hz.below k⟩, h.out.below k, bel_next h.bel k, h.lo⟩
theorem OwS.set8 {w u : World} {b e : Nat} {r : Rec} (h : OwS w b e r u) (v : Value) : OwS w b e r (u.setCell ⟨b, 8, none⟩ v) := by
  obtain ⟨z, hz⟩ := h.rw_
  exact ⟨⟨v, hz.set8 r.d v⟩, h.out.other ⟨b, 8, none⟩ v (by have := h.lo; dsimp only; omega), h.bel.setCell (by have := h.lo; dsimp only; omega) _, h.lo⟩
def OwnDone (r : Rec) (w : World) (e : Ending) (w' : World) : Prop := ∃ x : Rd, x.r = r ∧ e = .returned (recV r x.dv) ∧ Ns w' x.dv r.d ∧ Below w.heap.size w w' ∧ ∀ q, x.dv.ownBlock = some q → w.heap.size ≤ q ∧ q < w'.heap.size
end Go.Proofs.Ythifmfgnblecbaa.Og
