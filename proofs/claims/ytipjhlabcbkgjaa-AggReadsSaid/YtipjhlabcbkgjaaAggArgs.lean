/- An aggregate that came in by value. -/
import Derived.Test.YtipjhlabcbkgjaaAggAt
import Derived.Test.YtipjhlabcbkgjaaAggPts
import Derived.WideShapes
import Derived.OpenShut
set_option maxRecDepth 20000
namespace Go.Proofs.Ytipjhlabcbkgjaa.Ag
open Go.ChangeShapes Go.WideShapes Go.RowKit Go.Joins Go.Proofs.Ytipjhlabcbkgjaa Go.Proofs.Ytipjhlabcbkgjaa.Wd Go.Proofs.Ytipjhlabcbkgjaa.Vi Go.Proofs.Ytipjhlabcbkgjaa.Mk

theorem list18 {α : Type} {l : List α} (h : l.length = 18) : ∃ c0 c1 c2 c3 c4 c5 c6 c7 c8 c9 c10 c11 c12 c13 c14 c15 c16 c17, l = [c0, c1, c2, c3, c4, c5, c6, c7, c8, c9, c10, c11, c12, c13, c14, c15, c16, c17] := by
  match l, h with
  | [c0, c1, c2, c3, c4, c5, c6, c7, c8, c9, c10, c11, c12, c13, c14, c15, c16, c17], _ => exact ⟨c0, c1, c2, c3, c4, c5, c6, c7, c8, c9, c10, c11, c12, c13, c14, c15, c16, c17, rfl⟩
theorem ag_struct7 {H : Type} {enc : TypeId × Value → H} {P : Program} {w : World} {base : Nat} {spare : Nat → Bool} {held : Bool} {t : TypeId} {f0 f1 f2 f3 f4 f5 f6 : Field} {fuel : Nat} {cs : List Value} {x : DataW H × List MemPlace} (ht : P.underlying t = some (.struct #[f0, f1, f2, f3, f4, f5, f6])) (h : DataW.trod enc P w base spare held fuel t cs = some x) :
    ∃ y0 y1 y2 y3 y4 y5 y6 n, DataW.trod enc P w base spare held n f0.type ((cs.drop f0.offset).take (P.cellsOf f0.type)) = some y0 ∧ DataW.trod enc P w base spare held n f1.type ((cs.drop f1.offset).take (P.cellsOf f1.type)) = some y1 ∧
      DataW.trod enc P w base spare held n f2.type ((cs.drop f2.offset).take (P.cellsOf f2.type)) = some y2 ∧ DataW.trod enc P w base spare held n f3.type ((cs.drop f3.offset).take (P.cellsOf f3.type)) = some y3 ∧
      DataW.trod enc P w base spare held n f4.type ((cs.drop f4.offset).take (P.cellsOf f4.type)) = some y4 ∧ DataW.trod enc P w base spare held n f5.type ((cs.drop f5.offset).take (P.cellsOf f5.type)) = some y5 ∧
      DataW.trod enc P w base spare held n f6.type ((cs.drop f6.offset).take (P.cellsOf f6.type)) = some y6 := by
  obtain ⟨xs, n, _, rfl, hl, hlen, hf⟩ := DataW.trod_struct ht h
  match xs, hlen with
  | [y0, y1, y2, y3, y4, y5, y6], _ => exact ⟨y0, y1, y2, y3, y4, y5, y6, n, by simpa using hf 0 f0 rfl, by simpa using hf 1 f1 rfl, by simpa using hf 2 f2 rfl, by simpa using hf 3 f3 rfl, by simpa using hf 4 f4 rfl, by simpa using hf 5 f5 rfl, by simpa using hf 6 f6 rfl⟩
theorem cellsAg : Try.prog.cellsOf 29 = 18 := by kernel_rfl
theorem wide_of_cells {H : Type} {enc : TypeId × Value → H} {w : World} {base : Nat} {sp : Nat → Bool} {hd : Bool} {n : Nat} {c0 c1 : Value} {x : DataW H × List MemPlace}
    (h : DataW.trod enc Try.prog w base sp hd n 24 [c0, c1] = some x) : ∃ s : Int, c0 = .int .i64 (wh s) ∧ c1 = .int .u64 (wl s) ∧ InW s := by
  obtain ⟨y0, y1, m, _, _, h0, h1⟩ := trod_struct2 Try.underlying24 h
  have hI : Try.prog.cellsOf 2 = 1 := by kernel_rfl
  have hU : Try.prog.cellsOf 22 = 1 := by kernel_rfl
  simp only [hI, hU, List.drop_zero, List.take_succ_cons, List.take_zero, List.drop_succ_cons] at h0 h1
  obtain ⟨n0, e0, _, w0⟩ := DataW.trod_int Try.underlying2 h0
  obtain ⟨n1, e1, _, w1⟩ := DataW.trod_int Try.underlying22 h1
  simp at e0 e1
  have b0 := bounds_i64 w0
  have b1 := bounds_u64 w1
  refine ⟨n0 * 18446744073709551616 + n1, ?_, ?_, ?_⟩
  · rw [e0]; congr 1; unfold wh; omega
  · rw [e1]; congr 1; unfold wl; omega
  · constructor <;> omega
theorem nine_of_cells {H : Type} {enc : TypeId × Value → H} {w : World} {base : Nat} {sp : Nat → Bool} {hd : Bool} {n : Nat} {c0 c1 c2 c3 c4 c5 c6 c7 c8 : Value} {x : DataW H × List MemPlace}
    (h : DataW.trod enc Try.prog w base sp hd n 27 [c0, c1, c2, c3, c4, c5, c6, c7, c8] = some x) : ∃ b : Nat → Int, c0 = .int .i64 (b 0) ∧ c1 = .int .i64 (b 1) ∧ c2 = .int .i64 (b 2) ∧ c3 = .int .i64 (b 3) ∧ c4 = .int .i64 (b 4) ∧ c5 = .int .i64 (b 5) ∧ c6 = .int .i64 (b 6) ∧ c7 = .int .i64 (b 7) ∧ c8 = .int .i64 (b 8) ∧ ∀ i, -9223372036854775808 ≤ b i ∧ b i ≤ 9223372036854775807 := by
  have ht : Try.prog.underlying 27 = some (.array 9 3) := Try.underlying27
  have hE : Try.prog.cellsOf 3 = 1 := by kernel_rfl
  obtain ⟨xs, m, _, hx, _, hl, hel⟩ := DataW.trod_array ht h
  rw [hE] at hel
  match xs, hl with
  | [x0, x1, x2, x3, x4, x5, x6, x7, x8], _ =>
    have e0 := hel 0 (by omega)
    have e1 := hel 1 (by omega)
    have e2 := hel 2 (by omega)
    have e3 := hel 3 (by omega)
    have e4 := hel 4 (by omega)
    have e5 := hel 5 (by omega)
    have e6 := hel 6 (by omega)
    have e7 := hel 7 (by omega)
    have e8 := hel 8 (by omega)
    simp at e0 e1 e2 e3 e4 e5 e6 e7 e8
    obtain ⟨n0, h0, _, w0⟩ := DataW.trod_int Try.underlying3 e0
    obtain ⟨n1, h1, _, w1⟩ := DataW.trod_int Try.underlying3 e1
    obtain ⟨n2, h2, _, w2⟩ := DataW.trod_int Try.underlying3 e2
    obtain ⟨n3, h3, _, w3⟩ := DataW.trod_int Try.underlying3 e3
    obtain ⟨n4, h4, _, w4⟩ := DataW.trod_int Try.underlying3 e4
    obtain ⟨n5, h5, _, w5⟩ := DataW.trod_int Try.underlying3 e5
    obtain ⟨n6, h6, _, w6⟩ := DataW.trod_int Try.underlying3 e6
    obtain ⟨n7, h7, _, w7⟩ := DataW.trod_int Try.underlying3 e7
    obtain ⟨n8, h8, _, w8⟩ := DataW.trod_int Try.underlying3 e8
    simp at h0 h1 h2 h3 h4 h5 h6 h7 h8
    have b0 := bounds_i64 w0
    have b1 := bounds_i64 w1
    have b2 := bounds_i64 w2
    have b3 := bounds_i64 w3
    have b4 := bounds_i64 w4
    have b5 := bounds_i64 w5
    have b6 := bounds_i64 w6
    have b7 := bounds_i64 w7
    have b8 := bounds_i64 w8
    refine ⟨fun i => match i with | 0 => n0 | 1 => n1 | 2 => n2 | 3 => n3 | 4 => n4 | 5 => n5 | 6 => n6 | 7 => n7 | _ => n8, h0, h1, h2, h3, h4, h5, h6, h7, h8, fun i => ?_⟩
    dsimp only
    split <;> omega
theorem open_agg {H : Type} {enc : TypeId × Value → H} {w : World} {base b0 : Nat} {sp : Nat → Bool} {held : Bool} {v : Value} {d : DataW H} {p : List MemPlace}
    (hv : Value.okWide Try.prog w .any b0 29 v) (h : DataW.Trod enc Try.prog w base sp held 29 v d p) : ∃ a : Ag, v = agV a ∧ a.fits := by
  obtain ⟨cs, rfl, hsz⟩ := okWide_struct Try.underlying29 hv
  rw [cellsAg] at hsz
  obtain ⟨fuel, hf⟩ := h
  obtain ⟨l⟩ := cs
  obtain ⟨c0, c1, c2, c3, c4, c5, c6, c7, c8, c9, c10, c11, c12, c13, c14, c15, c16, c17, rfl⟩ := list18 (show l.length = 18 from hsz)
  obtain ⟨y0, y1, y2, y3, y4, y5, y6, n, h0, h1, h2, h3, h4, h5, h6⟩ := ag_struct7 Try.underlying29 hf
  have hI : Try.prog.cellsOf 3 = 1 := by kernel_rfl
  have hJ : Try.prog.cellsOf 2 = 1 := by kernel_rfl
  have hW : Try.prog.cellsOf 24 = 2 := by kernel_rfl
  have hS : Try.prog.cellsOf 26 = 3 := by kernel_rfl
  have h9 : Try.prog.cellsOf 27 = 9 := by kernel_rfl
  simp only [hI, hJ, hW, hS, h9, Value.cells, List.drop_zero, List.take_succ_cons, List.take_zero, List.drop_succ_cons] at h0 h1 h2 h3 h4 h5 h6
  obtain ⟨n0, e0, _, w0⟩ := DataW.trod_int Try.underlying3 h0
  obtain ⟨s, e1, e2, ws⟩ := wide_of_cells h1
  obtain ⟨n2, e3, _, w2⟩ := DataW.trod_int Try.underlying2 h2
  obtain ⟨n3, e4, _, w3⟩ := DataW.trod_int Try.underlying2 h3
  obtain ⟨n4, e5, _, w4⟩ := DataW.trod_int Try.underlying2 h4
  obtain ⟨st, e6⟩ := stamp_of_cells rfl h5
  obtain ⟨b, f0, f1, f2, f3, f4, f5, f6, f7, f8, wb⟩ := nine_of_cells h6
  simp at e0 e3 e4 e5 e6
  obtain ⟨e6, e7, e8⟩ := e6
  have b0 := bounds_i64 w0
  have b2 := bounds_i64 w2
  have b3 := bounds_i64 w3
  have b4 := bounds_i64 w4
  refine ⟨⟨n0, s, n2, n3, n4, st, b⟩, by rw [e0, e1, e2, e3, e4, e5, e6, e7, e8, f0, f1, f2, f3, f4, f5, f6, f7, f8]; rfl, ⟨?_, ws, ?_, ?_, ?_, wb⟩⟩ <;> (dsimp only; omega)
end Go.Proofs.Ytipjhlabcbkgjaa.Ag
