/- The contract of the document's TakeVector, wherever the reader stands. -/
import Derived.Test.YtcjcbbpolhpphaaMarkRRead
set_option maxRecDepth 20000
namespace Go.Proofs.Ytcjcbbpolhpphaa
open Go.RowKit Go.Proofs.Ytcjcbbpolhpphaa.Vi Go.Proofs.Ytcjcbbpolhpphaa.Mk

/-- What TakeVector's loop has read. -/
structure TvG (w wr : World) (d : Nat) (S r : ByteArray) (o : Value) (k : Nat) : Prop where
  row : IRow wr w.heap.size o (outS r k)
  rs : RS wr d S (stp r k).1 (stp r k).2
  bel : But d w wr
theorem TvG.len {w wr : World} {d : Nat} {S r : ByteArray} {o : Value} {k : Nat} (R : TvG w wr d S r o k) : ∃ a c, o = .slice a k c := by
  have := R.row.slice; rw [outS_len] at this; exact this
/-- What TakeVector answers. -/
def TvGDone (d : Nat) (S r : ByteArray) (n : Nat) (w : World) (e : Ending) (w' : World) : Prop :=
  ∃ v, e = .returned v ∧ But d w w' ∧ (((stp r n).2 = false ∧ outS r n = plainL (outS r n) ∧ Ns w' v (outS r n) ∧ (∀ q, v.ownBlock = some q → w.heap.size ≤ q) ∧ RS w' d S (stp r n).1 false) ∨ (¬ ((stp r n).2 = false ∧ outS r n = plainL (outS r n)) ∧ v = .slice none 0 0 ∧ RS w' d S ⟨#[]⟩ true))

end Go.Proofs.Ytcjcbbpolhpphaa
