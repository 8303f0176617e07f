/- What OriginPlays's walk reads. -/
import Derived.Test.YthbajlfkgbfkgaaOgDuo
set_option maxRecDepth 20000
set_option linter.unusedSimpArgs false
set_option linter.unusedVariables false
namespace Go.Proofs.Ythbajlfkgbfkgaa.Og
open Go.RowKit Go.Proofs.Ythbajlfkgbfkgaa.Vi Go.Proofs.Ythbajlfkgbfkgaa.Mk

theorem tm5 (n : Int) : ∃ (q : Int) (k : Nat), n.tmod 5 = q ∧ k ≤ 4 ∧ ((q < 0 ∧ IntKind.i64.wrap (q + 5) = (k : Int)) ∨ (¬ q < 0 ∧ q = (k : Int))) := by
  have h1 := Int.tmod_lt_of_pos n (show (0 : Int) < 5 by decide)
  have h2 := Int.lt_tmod_of_pos n (show (0 : Int) < 5 by decide)
  by_cases h : n.tmod 5 < 0
  · exact ⟨_, (n.tmod 5 + 5).toNat, rfl, by omega, Or.inl ⟨h, by rw [IntKind.wrap_i64]; omega⟩⟩
  · exact ⟨_, (n.tmod 5).toNat, rfl, by omega, Or.inr ⟨h, by omega⟩⟩
/-- A record's box, by its block. -/
def BoxR (w : World) (p : Nat) (x : Rd) : Prop := w.heap[p]? = some (box9 x)
theorem BoxR.new (w : World) (x : Rd) : BoxR (w.alloc (box9 x)) w.heap.size x := heap_alloc_new w _
theorem BoxR.r9 {w : World} {p : Nat} {x : Rd} (h : BoxR w p x) : R9 w p 0 x := by
  unfold BoxR box9 at h
  constructor <;> (rw [Joins.cell_of_block h]; rfl)
theorem BoxR.other {w w' : World} {p : Nat} {x : Rd} (h : BoxR w p x) (k : w'.heap[p]? = w.heap[p]?) : BoxR w' p x := k.trans h
theorem BoxR.lt {w : World} {p : Nat} {x : Rd} (h : BoxR w p x) : p < w.heap.size := (Array.getElem?_eq_some_iff.1 h).1
theorem BoxR.later {w w' : World} {p : Nat} {x : Rd} (h : BoxR w p x) (k : Below w.heap.size w w') : BoxR w' p x := h.other (k.block _ h.lt)
theorem BoxR.fz {w : World} {p : Nat} {x : Rd} (h : BoxR w p x) (i : Nat) : w.frozen? ⟨p, i, none⟩ = false := by
  unfold BoxR box9 at h
  exact Joins.unfrozen_of_block h _
theorem BoxR.fit {w : World} {p : Nat} {k t v tier c st q : Int} {s : ByteArray} {d : List Int} {a : Option Addr} {cc : Nat} (h : BoxR w p ⟨⟨k, s, t, v, tier, ⟨c, st, q⟩, d⟩, a, cc⟩) (q' : Int) (K : List Int) (aK : Option Addr) (cK : Nat) :
    BoxR ((w.setCell ⟨p, 7, none⟩ (.int .i64 q')).setCell ⟨p, 8, none⟩ (.slice aK K.length cK)) p ⟨⟨k, s, t, v, tier, ⟨c, st, q'⟩, K⟩, aK, cK⟩ := by
  unfold BoxR box9 at *
  exact Joins.block_setCell (i := 8) (Joins.block_setCell (i := 7) h (.int .i64 q')) _
theorem RdL.one {w : World} {g : Nat} {z : Rd} {r : Rec} (h : R9 w g 0 z) (hn : Ns w z.dv z.r.d) (hr : z.r = r) : RdL w (some ⟨g, 0, none⟩) [r] := by
  subst hr
  refine Or.inr ⟨g, 0, rfl, fun j hj => ?_⟩
  obtain rfl : j = 0 := by simp at hj; exact hj
  exact ⟨z, rfl, by simpa using h, hn⟩
/-- The round's state behind the switch. -/
structure PlJ (w wo wx : World) (b b2 po : Nat) (S : OS) : Prop where
  duo : Duo (fun q => q = po) w wx b S b2 S (.slice none 0 0) []
  box : wx.heap[po]? = wo.heap[po]?
theorem Duo.start {w w1 w2 w3 : World} {b b2 : Nat} {room : Int} {l : List Int} (h0 : Below w.heap.size w w1) (h1 : ∀ B, B ≤ w1.heap.size → LogAt w2 B b (newS room l) (fun q => w1.heap.size ≤ q ∧ q < w2.heap.size)) (hb1 : Below w1.heap.size w1 w2)
    (h2 : ∀ B, B ≤ w2.heap.size → LogD w3 B b2 (newS room l) (fun q => q = b2) (fun q => w2.heap.size ≤ q ∧ q < w3.heap.size)) (hb2 : Below w2.heap.size w2 w3) : Duo noH w w3 b (newS room l) b2 (newS room l) (.slice none 0 0) [] :=
  Duo.made h0 (h1 _ h0.size) hb1 (h2 _ (Nat.le_trans h0.size hb1.size)) hb2
theorem addE_eq (S : OS) (r : Rec) : (addE S r == addE S r) = true := by simp
end Go.Proofs.Ythbajlfkgbfkgaa.Og
