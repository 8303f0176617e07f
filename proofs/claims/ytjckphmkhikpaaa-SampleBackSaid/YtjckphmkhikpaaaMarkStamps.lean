/- Slices of stamps: one that came in, and one that the call makes. -/
import Derived.Test.YtjckphmkhikpaaaMarkTake
import Derived.Test.YtjckphmkhikpaaaMarkNs
import Derived.Deep.Slices
import Derived.Lib.SmallJoins
import Derived.OpenShut
namespace Go.Proofs.Ytjckphmkhikpaaa
open Go.RowKit Go.Proofs.Ytjckphmkhikpaaa.Vi Go.Proofs.Ytjckphmkhikpaaa.Mk

/-- A stamp's three cells in block b from o on. -/
structure StO (w : World) (b o : Nat) (a : St) : Prop where
  c0 : w.cell? ⟨b, o, none⟩ = some (.int .i64 a.c)
  c1 : w.cell? ⟨b, o + 1, none⟩ = some (.int .i64 a.s)
  c2 : w.cell? ⟨b, o + 2, none⟩ = some (.int .i64 a.q)
theorem StO.room {w : World} {b o : Nat} {a : St} (h : StO w b o a) : b < w.heap.size := World.block_lt_of_cell? w _ h.c0
theorem StO.below {w w' : World} {b o B : Nat} {a : St} (h : StO w b o a) (k : Below B w w') (hb : b < B) : StO w' b o a :=
  ⟨(k.cell (p := ⟨b, o, none⟩) hb).trans h.c0, (k.cell (p := ⟨b, o + 1, none⟩) hb).trans h.c1, (k.cell (p := ⟨b, o + 2, none⟩) hb).trans h.c2⟩
theorem StO.but {w w' : World} {b o d : Nat} {a : St} (h : StO w b o a) (k : But d w w') (hd : b ≠ d) : StO w' b o a :=
  ⟨(k.cell (p := ⟨b, o, none⟩) hd h.room).trans h.c0, (k.cell (p := ⟨b, o + 1, none⟩) hd h.room).trans h.c1, (k.cell (p := ⟨b, o + 2, none⟩) hd h.room).trans h.c2⟩
/-- A slice of the stamps l, in a block below B. -/
structure Sts (w : World) (B : Nat) (a : Option Addr) (l : List St) : Prop where
  at_ : l = [] ∨ ∃ b off, a = some ⟨b, off, none⟩ ∧ b < B ∧ ∀ j (h : j < l.length), StO w b (off + j * 3) l[j]
theorem Sts.below {w w' : World} {B : Nat} {a : Option Addr} {l : List St} (h : Sts w B a l) (k : Below B w w') : Sts w' B a l := by
  rcases h.at_ with h | ⟨b, off, e, hb, hc⟩
  · exact ⟨Or.inl h⟩
  · exact ⟨Or.inr ⟨b, off, e, hb, fun j hj => (hc j hj).below k hb⟩⟩
theorem Sts.but {w w' : World} {B d : Nat} {a : Option Addr} {l : List St} (h : Sts w B a l) (k : But d w w') (hd : B ≤ d) : Sts w' B a l := by
  rcases h.at_ with h | ⟨b, off, e, hb, hc⟩
  · exact ⟨Or.inl h⟩
  · exact ⟨Or.inr ⟨b, off, e, hb, fun j hj => (hc j hj).but k (by omega)⟩⟩
/-- A slice of stamps that came in. -/
structure ArgStamps (w : World) (a : Option Addr) (len cap : Nat) : Prop where
  has : ∃ l : List St, l.length = len ∧ Sts w w.heap.size a l ∧ len ≤ 9223372036854775807

theorem cellsE : Try.prog.cellsOf 23 = 3 := by kernel_rfl
theorem stamp_of_cells {H : Type} {enc : TypeId × Value → H} {w : World} {base : Nat} {sp : Nat → Bool} {hd : Bool} {n : Nat} {cs : List Value} {x : DataW H × List MemPlace} (hcs : cs.length = 3)
    (h : DataW.trod enc Try.prog w base sp hd n 23 cs = some x) : ∃ a : St, cs = [.int .i64 a.c, .int .i64 a.s, .int .i64 a.q] := by
  match cs, hcs with
  | [c0, c1, c2], _ =>
    obtain ⟨y0, y1, y2, m, _, _, h0, h1, h2⟩ := Go.Deep.trod_struct3 Try.underlying23 h
    have hI : Try.prog.cellsOf 3 = 1 := by kernel_rfl
    simp only [hI, List.drop_zero, List.take_succ_cons, List.take_zero, List.drop_succ_cons] at h0 h1 h2
    obtain ⟨n0, e0, _, _⟩ := DataW.trod_int Try.underlying3 h0
    obtain ⟨n1, e1, _, _⟩ := DataW.trod_int Try.underlying3 h1
    obtain ⟨n2, e2, _, _⟩ := DataW.trod_int Try.underlying3 h2
    simp at e0 e1 e2
    exact ⟨⟨n0, n1, n2⟩, by rw [e0, e1, e2]⟩
end Go.Proofs.Ytjckphmkhikpaaa
