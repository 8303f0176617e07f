/- An aggregate that is written field by field: its eighteen cells as a list. -/
import Derived.Test.YtipjhlabcbkgjaaAggAt
set_option maxRecDepth 20000
namespace Go.Proofs.Ytipjhlabcbkgjaa.Ag
open Go.RowKit Go.Proofs.Ytipjhlabcbkgjaa Go.Proofs.Ytipjhlabcbkgjaa.Wd Go.Proofs.Ytipjhlabcbkgjaa.Vi Go.Proofs.Ytipjhlabcbkgjaa.Mk

/-- The cells L stand in block b, and may be written. -/
structure AgL (w : World) (b : Nat) (L : List Value) : Prop where
  r : w.rangeAt b 0 L
  t : w.there b 0 18
  len : L.length = 18
theorem AgL.of {w : World} {b : Nat} {a : Ag} (h : AgW w b a) : AgL w b (cells18 a) := ⟨h.at_.r, h.t, rfl⟩
theorem AgL.to {w : World} {b : Nat} {a : Ag} {L : List Value} (h : AgL w b L) (e : L = cells18 a) : AgW w b a := by subst e; exact ⟨⟨h.r⟩, h.t⟩
theorem AgL.cell {w : World} {b : Nat} {L : List Value} (h : AgL w b L) (j : Nat) {v : Value} (hv : L[j]? = some v) : w.cell? ⟨b, j, none⟩ = some v := by have := h.r j v hv; rwa [Nat.zero_add] at this
theorem AgL.free {w : World} {b : Nat} {L : List Value} (h : AgL w b L) (j : Nat) (hj : j < 18) : w.frozen? ⟨b, j, none⟩ = false := by have := (h.t j hj).2; rwa [Nat.zero_add] at this
theorem AgL.room {w : World} {b : Nat} {L : List Value} (h : AgL w b L) : b < w.heap.size := World.block_lt_of_cell? w _ (h.cell 0 (List.getElem?_eq_getElem (by rw [h.len]; omega)))
theorem AgL.upto {w w' : World} {b B : Nat} {L : List Value} (h : AgL w b L) (k : Below B w w') (hb : b < B) : AgL w' b L :=
  ⟨fun j v hv => (k.cell (p := ⟨b, 0 + j, none⟩) hb).trans (h.r j v hv), fun j hj => ⟨by rw [k.cell (p := ⟨b, 0 + j, none⟩) hb]; exact (h.t j hj).1, (k.frozen (p := ⟨b, 0 + j, none⟩) hb).trans (h.t j hj).2⟩, h.len⟩
theorem AgL.below {w w' : World} {b : Nat} {L : List Value} (h : AgL w b L) (k : Below w.heap.size w w') : AgL w' b L := h.upto k h.room
/-- One cell is written. -/
theorem AgL.put {w : World} {b : Nat} {L : List Value} (h : AgL w b L) (j : Nat) (hj : j < 18) (v : Value) : AgL (w.setCell ⟨b, j, none⟩ v) b (L.set j v) := by
  have hl := h.len
  refine ⟨fun i u hu => ?_, fun i hi => ⟨?_, ?_⟩, by rw [List.length_set]; exact hl⟩
  · rw [Nat.zero_add]
    by_cases e : i = j
    · subst e
      rw [List.getElem?_set_self (by omega)] at hu
      cases hu
      exact World.cell?_setCell_same _ _ _ (h.cell i (List.getElem?_eq_getElem (by omega)))
    · rw [List.getElem?_set_ne (by omega)] at hu
      rw [World.cell?_setCell_other _ _ _ _ (fun e2 => e (by injection e2 with _ e3; exact e3.symm))]
      exact h.cell i hu
  · rw [Nat.zero_add]
    by_cases e : i = j
    · subst e
      rw [World.cell?_setCell_same _ _ _ (h.cell i (List.getElem?_eq_getElem (by omega)))]; rfl
    · rw [World.cell?_setCell_other _ _ _ _ (fun e2 => e (by injection e2 with _ e3; exact e3.symm)), h.cell i (List.getElem?_eq_getElem (by omega))]; rfl
  · have := h.free i hi
    rw [Nat.zero_add]
    simp [go_sem, this]
end Go.Proofs.Ytipjhlabcbkgjaa.Ag
