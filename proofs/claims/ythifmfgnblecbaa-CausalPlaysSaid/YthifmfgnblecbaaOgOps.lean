/- Calls that came in; the laws' own few and small. -/
import Derived.Test.YthifmfgnblecbaaOgNew
import Derived.Test.YthifmfgnblecbaaSampleG
set_option maxRecDepth 20000
set_option linter.unusedSimpArgs false
set_option linter.unusedVariables false
namespace Go.Proofs.Ythifmfgnblecbaa.Og
open Go.ChangeShapes Go.WideShapes Go.ChangeAt Go.RowKit Go.Joins Go.Proofs.Ythifmfgnblecbaa.Vi Go.Proofs.Ythifmfgnblecbaa.Mk

theorem trod_struct5 {H : Type} {enc : TypeId × Value → H} {P : Program} {w : World} {base : Nat} {spare : Nat → Bool} {held : Bool} {t : TypeId} {f0 f1 f2 f3 f4 : Field} {fuel : Nat} {cs : List Value} {x : DataW H × List MemPlace} (ht : P.underlying t = some (.struct #[f0, f1, f2, f3, f4])) (h : DataW.trod enc P w base spare held fuel t cs = some x) :
    ∃ y0 y1 y2 y3 y4 n, DataW.trod enc P w base spare held n f0.type ((cs.drop f0.offset).take (P.cellsOf f0.type)) = some y0 ∧ DataW.trod enc P w base spare held n f1.type ((cs.drop f1.offset).take (P.cellsOf f1.type)) = some y1 ∧
      DataW.trod enc P w base spare held n f2.type ((cs.drop f2.offset).take (P.cellsOf f2.type)) = some y2 ∧ DataW.trod enc P w base spare held n f3.type ((cs.drop f3.offset).take (P.cellsOf f3.type)) = some y3 ∧
      DataW.trod enc P w base spare held n f4.type ((cs.drop f4.offset).take (P.cellsOf f4.type)) = some y4 := by
  obtain ⟨xs, n, _, rfl, hl, hlen, hf⟩ := DataW.trod_struct ht h
  match xs, hlen with
  | [y0, y1, y2, y3, y4], _ => exact ⟨y0, y1, y2, y3, y4, n, by simpa using hf 0 f0 rfl, by simpa using hf 1 f1 rfl, by simpa using hf 2 f2 rfl, by simpa using hf 3 f3 rfl, by simpa using hf 4 f4 rfl⟩
/-- A slice of numbers that came in. -/
theorem ns_of_cell {H : Type} {enc : TypeId × Value → H} {w : World} {base : Nat} {sp : Nat → Bool} {hd : Bool} {n : Nat} {c8 : Value} {x : DataW H × List MemPlace} (h6 : DataW.trod enc Try.prog w base sp hd n 22 [c8] = some x) :
    ∃ l a cap, c8 = .slice a (List.length l) cap ∧ ArgNs w (.slice a (List.length l) cap) l := by
  have hsl : ∃ ad len cap, c8 = .slice ad len cap := by
    rcases Go.Deep.open_slice Try.underlying22 h6 with ⟨hcs, _⟩ | ⟨y, l, c, m, n, D, Pl, hcs, _⟩
    · simp at hcs; exact ⟨_, _, _, hcs⟩
    · simp at hcs; exact ⟨_, _, _, hcs⟩
  obtain ⟨ad, len, cap, rfl⟩ := hsl
  obtain ⟨l, hl⟩ := argNs_of (argInts_of Try.underlying22 Try.underlying3 (by kernel_rfl) h6)
  obtain ⟨a', c', e⟩ := hl.ns.slice
  injection e with e1 e2 e3
  subst e2
  exact ⟨l, ad, cap, rfl, hl⟩
theorem rec_of_cells {H : Type} {enc : TypeId × Value → H} {w : World} {base : Nat} {sp : Nat → Bool} {hd : Bool} {fuel : Nat} {cs : List Value} {x : DataW H × List MemPlace} (hcs : cs.length = 9)
    (hf : DataW.trod enc Try.prog w base sp hd fuel 33 cs = some x) : ∃ y : Rd, cs = cells9 y ∧ y.r.wide ∧ ArgNs w y.dv y.r.d := by
  obtain ⟨c0, c1, c2, c3, c4, c5, c6, c7, c8, rfl⟩ := list9 hcs
  obtain ⟨y0, y1, y2, y3, y4, y5, y6, n, h0, h1, h2, h3, h4, h5, h6⟩ := trod_struct7 Try.underlying33 hf
  have hI : Try.prog.cellsOf 3 = 1 := by kernel_rfl
  have hJ : Try.prog.cellsOf 2 = 1 := by kernel_rfl
  have hT : Try.prog.cellsOf 9 = 1 := by kernel_rfl
  have hS : Try.prog.cellsOf 31 = 3 := by kernel_rfl
  have hN : Try.prog.cellsOf 22 = 1 := by kernel_rfl
  simp only [Value.cells, hI, hJ, hT, hS, hN, List.drop_zero, List.take_succ_cons, List.take_zero, List.drop_succ_cons] at h0 h1 h2 h3 h4 h5 h6
  obtain ⟨n0, e0, _, w0⟩ := DataW.trod_int Try.underlying3 h0
  obtain ⟨s, e1, _, hs⟩ := DataW.trod_string Try.underlying9 h1
  obtain ⟨n2, e2, _, w2⟩ := DataW.trod_int Try.underlying3 h2
  obtain ⟨n3, e3, _, w3⟩ := DataW.trod_int Try.underlying2 h3
  obtain ⟨n4, e4, _, w4⟩ := DataW.trod_int Try.underlying3 h4
  obtain ⟨a, e5, a1, a2⟩ := stamp_of_cells2 rfl h5
  obtain ⟨dl, ad, cap, rfl, hdl⟩ := ns_of_cell h6
  simp at e0 e1 e2 e3 e4 e5
  obtain ⟨e5, e6, e7⟩ := e5
  have b0' := bounds_i64 w0
  have b2' := bounds_i64 w2
  have b3' := bounds_i64 w3
  have b4' := bounds_i64 w4
  refine ⟨⟨⟨n0, s, n2, n3, n4, a, dl⟩, ad, cap⟩, by rw [e0, e1, e2, e3, e4, e5, e6, e7]; rfl, ⟨?_, by unfold maxLen at hs; dsimp only; omega, ?_, ?_, ?_, ?_⟩, hdl⟩
  all_goals dsimp only; omega
/-- A call: its kind, how many, whether it fits, its record, its vector. -/
structure GOp where
  k : Int
  m : Int
  f : Bool
  x : Rd
  V : List Int
  a : Option Addr
  c : Nat
def GOp.cells (r : GOp) : List Value := [.int .i64 r.k, .int .i64 r.m, .bool r.f, .int .i64 r.x.r.k, .string r.x.r.s, .int .i64 r.x.r.t, .int .i64 r.x.r.v, .int .i64 r.x.r.tier, .int .i64 r.x.r.st.c, .int .i64 r.x.r.st.s, .int .i64 r.x.r.st.q, .slice r.x.a r.x.r.d.length r.x.c, .slice r.a r.V.length r.c]
structure GOp.fits (r : GOp) (w : World) : Prop where
  k : -9223372036854775808 ≤ r.k ∧ r.k ≤ 9223372036854775807
  m : -9223372036854775808 ≤ r.m ∧ r.m ≤ 9223372036854775807
  rc : r.x.r.wide
  d : ArgNs w r.x.dv r.x.r.d
  V : ArgNs w (.slice r.a r.V.length r.c) r.V
theorem list13 {α : Type} {l : List α} (h : l.length = 13) : ∃ c0 c1 c2 c3 c4 c5 c6 c7 c8 c9 c10 c11 c12, l = [c0, c1, c2, c3, c4, c5, c6, c7, c8, c9, c10, c11, c12] := by
  match l, h with
  | [c0, c1, c2, c3, c4, c5, c6, c7, c8, c9, c10, c11, c12], _ => exact ⟨c0, c1, c2, c3, c4, c5, c6, c7, c8, c9, c10, c11, c12, rfl⟩
/-- A call's thirteen cells. -/
structure GOpO (w : World) (b o : Nat) (x : GOp) : Prop where
  c0 : w.cell? ⟨b, o, none⟩ = some (.int .i64 x.k)
  c1 : w.cell? ⟨b, o + 1, none⟩ = some (.int .i64 x.m)
  c2 : w.cell? ⟨b, o + 2, none⟩ = some (.bool x.f)
  c3 : w.cell? ⟨b, o + 3, none⟩ = some (.int .i64 x.x.r.k)
  c4 : w.cell? ⟨b, o + 4, none⟩ = some (.string x.x.r.s)
  c5 : w.cell? ⟨b, o + 5, none⟩ = some (.int .i64 x.x.r.t)
  c6 : w.cell? ⟨b, o + 6, none⟩ = some (.int .i64 x.x.r.v)
  c7 : w.cell? ⟨b, o + 7, none⟩ = some (.int .i64 x.x.r.tier)
  c8 : w.cell? ⟨b, o + 8, none⟩ = some (.int .i64 x.x.r.st.c)
  c9 : w.cell? ⟨b, o + 9, none⟩ = some (.int .i64 x.x.r.st.s)
  c10 : w.cell? ⟨b, o + 10, none⟩ = some (.int .i64 x.x.r.st.q)
  c11 : w.cell? ⟨b, o + 11, none⟩ = some (.slice x.x.a x.x.r.d.length x.x.c)
  c12 : w.cell? ⟨b, o + 12, none⟩ = some (.slice x.a x.V.length x.c)
theorem GOpO.other {w w' : World} {b o : Nat} {x : GOp} (h : GOpO w b o x) (k : w'.heap[b]? = w.heap[b]?) : GOpO w' b o x :=
  have f : ∀ j, w'.cell? ⟨b, j, none⟩ = w.cell? ⟨b, j, none⟩ := fun j => World.cell?_of_block (w := w) (a := ⟨b, j, none⟩) k
  ⟨(f _).trans h.c0, (f _).trans h.c1, (f _).trans h.c2, (f _).trans h.c3, (f _).trans h.c4, (f _).trans h.c5, (f _).trans h.c6, (f _).trans h.c7, (f _).trans h.c8, (f _).trans h.c9, (f _).trans h.c10, (f _).trans h.c11, (f _).trans h.c12⟩
theorem GOpO.room {w : World} {b o : Nat} {x : GOp} (h : GOpO w b o x) : b < w.heap.size := World.block_lt_of_cell? w _ h.c0
theorem GOpO.below {w w' : World} {b o B : Nat} {x : GOp} (h : GOpO w b o x) (k : Below B w w') (hb : b < B) : GOpO w' b o x := h.other (k.block b hb)
/-- A slice of calls that came in. -/
structure ArgGOps (w : World) (a : Option Addr) (len cap : Nat) : Prop where
  has : ∃ l : List GOp, l.length = len ∧ (l = [] ∨ ∃ b off, a = some ⟨b, off, none⟩ ∧ b < w.heap.size ∧ ∀ j (h : j < l.length), GOpO w b (off + j * 13) l[j]) ∧ len ≤ 9223372036854775807 ∧ ∀ r ∈ l, r.fits w
theorem take12 {w : World} {a : Option Addr} {cap : Nat} {l : List Int} (h : ArgNs w (.slice a l.length cap) l) : Ns w (.slice a (l.take 12).length cap) (l.take 12) := by
  have hsz := h.ns.size
  obtain ⟨⟨a2, cap2, he, hc⟩, hw, _, hr⟩ := h.ns
  injection he with e1 e2 e3
  subst e1 e3
  refine ⟨⟨a, cap, rfl, ?_⟩, fun n hn => hw n (List.mem_of_mem_take hn), by rw [List.length_take]; omega, hr⟩
  rcases hc with rfl | ⟨b, off, h3, h4, h5⟩
  · exact Or.inl rfl
  · refine Or.inr ⟨b, off, h3, h4, fun j hj => ?_⟩
    rw [List.getElem_take]; exact h5 j (by rw [List.length_take] at hj; omega)
/-- small: a shorter name, fewer numbers. -/
def Rd.small (x : Rd) : Rd := ⟨x.r.small, x.a, x.c⟩
def Small17 (x : Rd) (w : World) (e : Ending) (w' : World) : Prop := e = .returned (recV x.small.r x.small.dv) ∧ Ns w' x.small.dv x.small.r.d ∧ Below w.heap.size w w'
end Go.Proofs.Ythifmfgnblecbaa.Og
