/- Contracts of the document's TakeVector and Read. -/
import Derived.Test.YthifmfgnblecbaaMarkReadMath
import Derived.Test.YthifmfgnblecbaaMarkC
set_option maxRecDepth 20000
namespace Go.Proofs.Ythifmfgnblecbaa
open Go.RowKit Go.Proofs.Ythifmfgnblecbaa.Vi Go.Proofs.Ythifmfgnblecbaa.Mk

theorem IRow.but {w w' : World} {B d : Nat} {v : Value} {xs : List Int} (h : IRow w B v xs) (k : But d w w') (hd : d < B) : IRow w' B v xs := by
  obtain ⟨h1, h2⟩ := h
  refine ⟨h1, ?_⟩
  rcases h2 with h2 | ⟨g, cap, cur, e1, e2, e3, rest⟩
  · exact Or.inl h2
  · have hg : g < w.heap.size := (Array.getElem?_eq_some_iff.1 e3).1
    exact Or.inr ⟨g, cap, cur, e1, e2, (k.block g hg (by omega)).trans e3, rest⟩
theorem RS.farB {w w' : World} {d B : Nat} {S r : ByteArray} {br : Bool} (h : RS w d S r br) (k : Below B w w') (hd : d < B) : RS w' d S r br := by
  obtain ⟨a, bad, ⟨c0, c1, c2, f0, f1, f2⟩, hs⟩ := h
  exact ⟨a, bad, ⟨(k.cell (p := ⟨d, 0, none⟩) hd).trans c0, (k.cell (p := ⟨d, 1, none⟩) hd).trans c1, (k.cell (p := ⟨d, 2, none⟩) hd).trans c2, (k.frozen (p := ⟨d, 0, none⟩) hd).trans f0, (k.frozen (p := ⟨d, 1, none⟩) hd).trans f1, (k.frozen (p := ⟨d, 2, none⟩) hd).trans f2⟩, hs⟩
theorem But.ofB {d B : Nat} {w0 w w' : World} (h : But d w0 w) (k : Below B w w') (hB : w0.heap.size ≤ B) : But d w0 w' :=
  ⟨k.os.trans h.os, k.tape.trans h.tape, k.output.trans h.output, Nat.le_trans h.size k.size, fun i hi hb => (k.block i (by omega)).trans (h.block i hi hb)⟩
/-- What TakeVector's loop has read. -/
structure TvRel (w wr : World) (d : Nat) (S : ByteArray) (o : Value) (k : Nat) : Prop where
  row : IRow wr w.heap.size o (outS S k)
  rs : RS wr d S (stp S k).1 (stp S k).2
  bel : But d w wr
theorem outS_len (S : ByteArray) (k : Nat) : (outS S k).length = k := by unfold outS; simp
theorem TvRel.len {w wr : World} {d : Nat} {S : ByteArray} {o : Value} {k : Nat} (R : TvRel w wr d S o k) : ∃ a c, o = .slice a k c := by
  have := R.row.slice; rw [outS_len] at this; exact this
/-- What TakeVector answers. -/
def TvDone (d : Nat) (S : ByteArray) (n : Nat) (w : World) (e : Ending) (w' : World) : Prop :=
  ∃ v, e = .returned v ∧ But d w w' ∧ (((stp S n).2 = false ∧ outS S n = plainL (outS S n) ∧ Ns w' v (outS S n) ∧ RS w' d S (stp S n).1 false) ∨ (¬ ((stp S n).2 = false ∧ outS S n = plainL (outS S n)) ∧ v = .slice none 0 0 ∧ RS w' d S ⟨#[]⟩ true))

theorem restZero (S : ByteArray) : restB S 0 = S := list_inj (by rw [restB_list, List.drop_zero])
/-- What the document's Read answers. -/
def RReadDone (s : ByteArray) (w : World) (e : Ending) (w' : World) : Prop := ∃ v er, e = .returned (.tuple #[v, .int .i64 er]) ∧ Below w.heap.size w w' ∧ ((OkS s ∧ er = 0 ∧ Ns w' v (vecS s)) ∨ (¬ OkS s ∧ er = 10 ∧ v = .slice none 0 0))

end Go.Proofs.Ythifmfgnblecbaa
