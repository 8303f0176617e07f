/- Points and records that came in by value, slices of points that came in. -/
import Derived.Test.YtkomfenjeoaelaaDoorSampleFew
import Derived.Test.YtkomfenjeoaelaaDoorSampleSmall
import Derived.WideShapes
set_option maxRecDepth 20000
namespace Go.Proofs.YtkomfenjeoaelaaDoor
open Go.ChangeShapes Go.WideShapes Go.RowKit Go.Proofs.YtkomfenjeoaelaaDoor.Vi Go.Proofs.YtkomfenjeoaelaaDoor.Mk

theorem list9 {α : Type} {l : List α} (h : l.length = 9) : ∃ c0 c1 c2 c3 c4 c5 c6 c7 c8, l = [c0, c1, c2, c3, c4, c5, c6, c7, c8] := by
  match l, h with
  | [c0, c1, c2, c3, c4, c5, c6, c7, c8], _ => exact ⟨c0, c1, c2, c3, c4, c5, c6, c7, c8, rfl⟩
theorem open_point {H : Type} {enc : TypeId × Value → H} {w : World} {base b0 : Nat} {sp : Nat → Bool} {held : Bool} {v : Value} {d : DataW H} {p : List MemPlace}
    (hv : Value.okWide Tryd.prog w .any b0 32 v) (h : DataW.Trod enc Tryd.prog w base sp held 32 v d p) : ∃ q : Pt, v = ptV q ∧ q.fits := by
  obtain ⟨cs, rfl, hsz⟩ := okWide_struct Tryd.underlying32 hv
  rw [cellsP] at hsz
  obtain ⟨fuel, hf⟩ := h
  obtain ⟨q, hq, hfit⟩ := point_of_cells (by simpa [Value.cells] using hsz) hf
  refine ⟨q, ?_, hfit⟩
  obtain ⟨l⟩ := cs
  have : l = cells6 q := hq
  rw [this]; rfl
/-- The numbers of a record that came in are of their kinds. -/
structure Rec.wide (r : Rec) : Prop where
  k : -9223372036854775808 ≤ r.k ∧ r.k ≤ 9223372036854775807
  s : r.s.size ≤ 9223372036854775807
  t : -9223372036854775808 ≤ r.t ∧ r.t ≤ 9223372036854775807
  v : -9223372036854775808 ≤ r.v ∧ r.v ≤ 9223372036854775807
  tier : -9223372036854775808 ≤ r.tier ∧ r.tier ≤ 9223372036854775807
  ss : -9223372036854775808 ≤ r.st.s ∧ r.st.s ≤ 9223372036854775807
theorem Rec.wide.small {r : Rec} (h : r.wide) : r.small.fits := ⟨h.k, by have := cutB_len r.s 60; show (cutB r.s 60).size ≤ _; omega, h.t, h.v, h.tier, h.ss⟩
theorem trod_struct7 {H : Type} {enc : TypeId × Value → H} {P : Program} {w : World} {base : Nat} {spare : Nat → Bool} {held : Bool} {t : TypeId} {f0 f1 f2 f3 f4 f5 f6 : Field} {fuel : Nat} {cs : List Value} {x : DataW H × List MemPlace} (ht : P.underlying t = some (.struct #[f0, f1, f2, f3, f4, f5, f6])) (h : DataW.trod enc P w base spare held fuel t cs = some x) :
    ∃ y0 y1 y2 y3 y4 y5 y6 n, DataW.trod enc P w base spare held n f0.type ((cs.drop f0.offset).take (P.cellsOf f0.type)) = some y0 ∧ DataW.trod enc P w base spare held n f1.type ((cs.drop f1.offset).take (P.cellsOf f1.type)) = some y1 ∧
      DataW.trod enc P w base spare held n f2.type ((cs.drop f2.offset).take (P.cellsOf f2.type)) = some y2 ∧ DataW.trod enc P w base spare held n f3.type ((cs.drop f3.offset).take (P.cellsOf f3.type)) = some y3 ∧
      DataW.trod enc P w base spare held n f4.type ((cs.drop f4.offset).take (P.cellsOf f4.type)) = some y4 ∧ DataW.trod enc P w base spare held n f5.type ((cs.drop f5.offset).take (P.cellsOf f5.type)) = some y5 ∧
      DataW.trod enc P w base spare held n f6.type ((cs.drop f6.offset).take (P.cellsOf f6.type)) = some y6 := by
  obtain ⟨xs, n, _, rfl, hl, hlen, hf⟩ := DataW.trod_struct ht h
  match xs, hlen with
  | [y0, y1, y2, y3, y4, y5, y6], _ => exact ⟨y0, y1, y2, y3, y4, y5, y6, n, by simpa using hf 0 f0 rfl, by simpa using hf 1 f1 rfl, by simpa using hf 2 f2 rfl, by simpa using hf 3 f3 rfl, by simpa using hf 4 f4 rfl, by simpa using hf 5 f5 rfl, by simpa using hf 6 f6 rfl⟩
theorem stamp_of_cells2 {H : Type} {enc : TypeId × Value → H} {w : World} {base : Nat} {sp : Nat → Bool} {hd : Bool} {n : Nat} {cs : List Value} {x : DataW H × List MemPlace} (hcs : cs.length = 3)
    (h : DataW.trod enc Tryd.prog w base sp hd n 30 cs = some x) : ∃ a : St, cs = [.int .i64 a.c, .int .i64 a.s, .int .i64 a.q] ∧ -9223372036854775808 ≤ a.s ∧ a.s ≤ 9223372036854775807 := by
  match cs, hcs with
  | [c0, c1, c2], _ =>
    obtain ⟨y0, y1, y2, m, _, _, h0, h1, h2⟩ := Go.Deep.trod_struct3 Tryd.underlying30 h
    have hI : Tryd.prog.cellsOf 3 = 1 := by kernel_rfl
    simp only [hI, List.drop_zero, List.take_succ_cons, List.take_zero, List.drop_succ_cons] at h0 h1 h2
    obtain ⟨n0, e0, _, _⟩ := DataW.trod_int Tryd.underlying3 h0
    obtain ⟨n1, e1, _, w1⟩ := DataW.trod_int Tryd.underlying3 h1
    obtain ⟨n2, e2, _, _⟩ := DataW.trod_int Tryd.underlying3 h2
    simp at e0 e1 e2
    have := bounds_i64 w1
    exact ⟨⟨n0, n1, n2⟩, by rw [e0, e1, e2], by dsimp only; omega, by dsimp only; omega⟩
end Go.Proofs.YtkomfenjeoaelaaDoor
