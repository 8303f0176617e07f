/- Points and records that came in by value, slices of points that came in. -/
import Derived.Test.YtjckphmkhikpaaaSampleFew
import Derived.Test.YtjckphmkhikpaaaSampleSmall
import Derived.WideShapes
set_option maxRecDepth 20000
namespace Go.Proofs.Ytjckphmkhikpaaa
open Go.ChangeShapes Go.WideShapes Go.RowKit Go.Proofs.Ytjckphmkhikpaaa.Vi Go.Proofs.Ytjckphmkhikpaaa.Mk

theorem list9 {α : Type} {l : List α} (h : l.length = 9) : ∃ c0 c1 c2 c3 c4 c5 c6 c7 c8, l = [c0, c1, c2, c3, c4, c5, c6, c7, c8] := by
  match l, h with
  | [c0, c1, c2, c3, c4, c5, c6, c7, c8], _ => exact ⟨c0, c1, c2, c3, c4, c5, c6, c7, c8, rfl⟩
theorem open_point {H : Type} {enc : TypeId × Value → H} {w : World} {base b0 : Nat} {sp : Nat → Bool} {held : Bool} {v : Value} {d : DataW H} {p : List MemPlace}
    (hv : Value.okWide Try.prog w .any b0 34 v) (h : DataW.Trod enc Try.prog w base sp held 34 v d p) : ∃ q : Pt, v = ptV q ∧ q.fits := by
  obtain ⟨cs, rfl, hsz⟩ := okWide_struct Try.underlying34 hv
  rw [cellsP] at hsz
  obtain ⟨fuel, hf⟩ := h
  obtain ⟨q, hq, hfit⟩ := point_of_cells (by simpa [Value.cells] using hsz) hf
  refine ⟨q, ?_, hfit⟩
  obtain ⟨l⟩ := cs
  have : l = cells6 q := hq
  rw [this]; rfl
/-- The numbers of a record that came in are of their kinds. -/
structure Rec.wide (r : Rec) : Prop where
  k : -9223372036854775808 ≤ r.k ∧ r.k ≤ 9223372036854775807
  s : r.s.size ≤ 9223372036854775807
  t : -9223372036854775808 ≤ r.t ∧ r.t ≤ 9223372036854775807
  v : -9223372036854775808 ≤ r.v ∧ r.v ≤ 9223372036854775807
  tier : -9223372036854775808 ≤ r.tier ∧ r.tier ≤ 9223372036854775807
  ss : -9223372036854775808 ≤ r.st.s ∧ r.st.s ≤ 9223372036854775807
theorem Rec.wide.small {r : Rec} (h : r.wide) : r.small.fits := ⟨h.k, by have := cutB_len r.s 60; show (cutB r.s 60).size ≤ _; omega, h.t, h.v, h.tier, h.ss⟩
theorem cellsR : Try.prog.cellsOf 26 = 9 := by kernel_rfl
theorem trod_struct7 {H : Type} {enc : TypeId × Value → H} {P : Program} {w : World} {base : Nat} {spare : Nat → Bool} {held : Bool} {t : TypeId} {f0 f1 f2 f3 f4 f5 f6 : Field} {fuel : Nat} {cs : List Value} {x : DataW H × List MemPlace} (ht : P.underlying t = some (.struct #[f0, f1, f2, f3, f4, f5, f6])) (h : DataW.trod enc P w base spare held fuel t cs = some x) :
    ∃ y0 y1 y2 y3 y4 y5 y6 n, DataW.trod enc P w base spare held n f0.type ((cs.drop f0.offset).take (P.cellsOf f0.type)) = some y0 ∧ DataW.trod enc P w base spare held n f1.type ((cs.drop f1.offset).take (P.cellsOf f1.type)) = some y1 ∧
      DataW.trod enc P w base spare held n f2.type ((cs.drop f2.offset).take (P.cellsOf f2.type)) = some y2 ∧ DataW.trod enc P w base spare held n f3.type ((cs.drop f3.offset).take (P.cellsOf f3.type)) = some y3 ∧
      DataW.trod enc P w base spare held n f4.type ((cs.drop f4.offset).take (P.cellsOf f4.type)) = some y4 ∧ DataW.trod enc P w base spare held n f5.type ((cs.drop f5.offset).take (P.cellsOf f5.type)) = some y5 ∧
      DataW.trod enc P w base spare held n f6.type ((cs.drop f6.offset).take (P.cellsOf f6.type)) = some y6 := by
  obtain ⟨xs, n, _, rfl, hl, hlen, hf⟩ := DataW.trod_struct ht h
  match xs, hlen with
  | [y0, y1, y2, y3, y4, y5, y6], _ => exact ⟨y0, y1, y2, y3, y4, y5, y6, n, by simpa using hf 0 f0 rfl, by simpa using hf 1 f1 rfl, by simpa using hf 2 f2 rfl, by simpa using hf 3 f3 rfl, by simpa using hf 4 f4 rfl, by simpa using hf 5 f5 rfl, by simpa using hf 6 f6 rfl⟩
theorem stamp_of_cells2 {H : Type} {enc : TypeId × Value → H} {w : World} {base : Nat} {sp : Nat → Bool} {hd : Bool} {n : Nat} {cs : List Value} {x : DataW H × List MemPlace} (hcs : cs.length = 3)
    (h : DataW.trod enc Try.prog w base sp hd n 23 cs = some x) : ∃ a : St, cs = [.int .i64 a.c, .int .i64 a.s, .int .i64 a.q] ∧ -9223372036854775808 ≤ a.s ∧ a.s ≤ 9223372036854775807 := by
  match cs, hcs with
  | [c0, c1, c2], _ =>
    obtain ⟨y0, y1, y2, m, _, _, h0, h1, h2⟩ := Go.Deep.trod_struct3 Try.underlying23 h
    have hI : Try.prog.cellsOf 3 = 1 := by kernel_rfl
    simp only [hI, List.drop_zero, List.take_succ_cons, List.take_zero, List.drop_succ_cons] at h0 h1 h2
    obtain ⟨n0, e0, _, _⟩ := DataW.trod_int Try.underlying3 h0
    obtain ⟨n1, e1, _, w1⟩ := DataW.trod_int Try.underlying3 h1
    obtain ⟨n2, e2, _, _⟩ := DataW.trod_int Try.underlying3 h2
    simp at e0 e1 e2
    have := bounds_i64 w1
    exact ⟨⟨n0, n1, n2⟩, by rw [e0, e1, e2], by dsimp only; omega, by dsimp only; omega⟩
theorem open_record {H : Type} {enc : TypeId × Value → H} {w : World} {base b0 : Nat} {sp : Nat → Bool} {held : Bool} {v : Value} {d : DataW H} {p : List MemPlace}
    (hv : Value.okWide Try.prog w .any b0 26 v) (h : DataW.Trod enc Try.prog w base sp held 26 v d p) : ∃ (r : Rec) (dv : Value), v = recV r dv ∧ r.wide ∧ ArgNs w dv r.d := by
  obtain ⟨cs, rfl, hsz⟩ := okWide_struct Try.underlying26 hv
  rw [cellsR] at hsz
  obtain ⟨fuel, hf⟩ := h
  obtain ⟨l⟩ := cs
  obtain ⟨c0, c1, c2, c3, c4, c5, c6, c7, c8, rfl⟩ := list9 (show l.length = 9 from hsz)
  obtain ⟨y0, y1, y2, y3, y4, y5, y6, n, h0, h1, h2, h3, h4, h5, h6⟩ := trod_struct7 Try.underlying26 hf
  have hI : Try.prog.cellsOf 3 = 1 := by kernel_rfl
  have hJ : Try.prog.cellsOf 2 = 1 := by kernel_rfl
  have hT : Try.prog.cellsOf 9 = 1 := by kernel_rfl
  have hS : Try.prog.cellsOf 23 = 3 := by kernel_rfl
  have hN : Try.prog.cellsOf 24 = 1 := by kernel_rfl
  simp only [Value.cells, hI, hJ, hT, hS, hN, List.drop_zero, List.take_succ_cons, List.take_zero, List.drop_succ_cons] at h0 h1 h2 h3 h4 h5 h6
  obtain ⟨n0, e0, _, w0⟩ := DataW.trod_int Try.underlying3 h0
  obtain ⟨s, e1, _, hs⟩ := DataW.trod_string Try.underlying9 h1
  obtain ⟨n2, e2, _, w2⟩ := DataW.trod_int Try.underlying3 h2
  obtain ⟨n3, e3, _, w3⟩ := DataW.trod_int Try.underlying2 h3
  obtain ⟨n4, e4, _, w4⟩ := DataW.trod_int Try.underlying3 h4
  obtain ⟨a, e5, a1, a2⟩ := stamp_of_cells2 rfl h5
  have hsl : ∃ ad len cap, c8 = .slice ad len cap := by
    rcases Go.Deep.open_slice Try.underlying24 h6 with ⟨hcs, _⟩ | ⟨y, l, c, m, n, D, Pl, hcs, _⟩
    · simp at hcs; exact ⟨_, _, _, hcs⟩
    · simp at hcs; exact ⟨_, _, _, hcs⟩
  obtain ⟨ad, len, cap, rfl⟩ := hsl
  have hA := argInts_of Try.underlying24 Try.underlying3 (by kernel_rfl) h6
  obtain ⟨dl, hdl⟩ := argNs_of hA
  simp at e0 e1 e2 e3 e4 e5
  obtain ⟨e5, e6, e7⟩ := e5
  have b0' := bounds_i64 w0
  have b2' := bounds_i64 w2
  have b3' := bounds_i64 w3
  have b4' := bounds_i64 w4
  refine ⟨⟨n0, s, n2, n3, n4, a, dl⟩, .slice ad len cap, by rw [e0, e1, e2, e3, e4, e5, e6, e7]; rfl, ⟨?_, by unfold maxLen at hs; dsimp only; omega, ?_, ?_, ?_, ?_⟩, hdl⟩
  all_goals dsimp only; omega
end Go.Proofs.Ytjckphmkhikpaaa
