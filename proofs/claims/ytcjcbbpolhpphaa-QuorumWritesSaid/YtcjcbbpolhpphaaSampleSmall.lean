/- Contracts of the document's PointOf, and of the laws' own short and small. -/
import Derived.Test.YtcjcbbpolhpphaaSampleRCheck
import Derived.Test.YtcjcbbpolhpphaaSamplePt
import Derived.Test.YtcjcbbpolhpphaaMarkB
set_option maxRecDepth 20000
namespace Go.Proofs.Ytcjcbbpolhpphaa
open Go.RowKit Go.Proofs.Ytcjcbbpolhpphaa.Vi Go.Proofs.Ytcjcbbpolhpphaa.Mk

def Rec.pt (r : Rec) : Pt := if r.k = 1 ∧ r.ok = true then ⟨r.s, r.t, r.v, r.st⟩ else ⟨⟨#[]⟩, 0, 0, ⟨0, 0, 0⟩⟩
def Rec.isPt (r : Rec) : Bool := decide (r.k = 1) && r.ok
/-- The zero point's block stays as it was behind a call. -/
theorem zero_later {w1 w2 : World} {b : Nat} (k : Below w1.heap.size w1 w2) (hb : b < w1.heap.size) (j : Nat) (v : Value) (h : w1.cell? ⟨b, j, none⟩ = some v) (hz : w1.frozen? ⟨b, j, none⟩ = false) : w2.cell? ⟨b, j, none⟩ = some v ∧ w2.frozen? ⟨b, j, none⟩ = false :=
  ⟨(k.cell (p := ⟨b, j, none⟩) hb).trans h, (k.frozen (p := ⟨b, j, none⟩) hb).trans hz⟩

theorem six_set {w a : World} (h : Below w.heap.size w a) (b : Nat) (hb : w.heap.size ≤ b) (v0 v1 v2 v3 v4 v5 : Value) : Below w.heap.size w ((((((a.setCell ⟨b, 0, none⟩ v0).setCell ⟨b, 1, none⟩ v1).setCell ⟨b, 2, none⟩ v2).setCell ⟨b, 3, none⟩ v3).setCell ⟨b, 4, none⟩ v4).setCell ⟨b, 5, none⟩ v5) :=
  (((((h.setCell (p := ⟨b, 0, none⟩) hb _).setCell (p := ⟨b, 1, none⟩) hb _).setCell (p := ⟨b, 2, none⟩) hb _).setCell (p := ⟨b, 3, none⟩) hb _).setCell (p := ⟨b, 4, none⟩) hb _).setCell (p := ⟨b, 5, none⟩) hb _

/-- The record that small makes of one. -/
def Rec.small (r : Rec) : Rec := { r with s := cutB r.s 60, d := r.d.take 12 }
/-- What small leaves. -/
def SmallDone (r : Rec) (w : World) (e : Ending) (w' : World) : Prop := ∃ dv', e = .returned (recV r.small dv') ∧ Ns w' dv' r.small.d ∧ Below w.heap.size w w'
end Go.Proofs.Ytcjcbbpolhpphaa
