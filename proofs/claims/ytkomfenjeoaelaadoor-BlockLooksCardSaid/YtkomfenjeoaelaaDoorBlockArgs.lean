/- Spans that came in by value. -/
import Derived.Test.YtkomfenjeoaelaaDoorSampleArgs
import Derived.Lib.SmallJoins
import Derived.OpenShut
set_option maxRecDepth 20000
namespace Go.Proofs.YtkomfenjeoaelaaDoor
open Go.ChangeShapes Go.WideShapes Go.ChangeAt Go.RowKit Go.Joins Go.Proofs.YtkomfenjeoaelaaDoor.Vi Go.Proofs.YtkomfenjeoaelaaDoor.Mk

theorem open_sp {H : Type} {enc : TypeId × Value → H} {w : World} {base b0 : Nat} {sp : Nat → Bool} {held : Bool} {v : Value} {d : DataW H} {p : List MemPlace}
    (hv : Value.okWide Tryd.prog w .any b0 34 v) (h : DataW.Trod enc Tryd.prog w base sp held 34 v d p) : ∃ f t : Int, v = .agg #[.int .i64 f, .int .i64 t] ∧ (-9223372036854775808 ≤ f ∧ f ≤ 9223372036854775807) ∧ (-9223372036854775808 ≤ t ∧ t ≤ 9223372036854775807) := by
  obtain ⟨cs, rfl, hsz⟩ := okWide_struct Tryd.underlying34 hv
  have cS : Tryd.prog.cellsOf 34 = 2 := by kernel_rfl
  rw [cS] at hsz
  obtain ⟨fuel, hf⟩ := h
  have hl : cs.toList.length = 2 := by simpa [Value.cells] using hsz
  obtain ⟨l⟩ := cs
  match l, hl with
  | [c0, c1], _ =>
    obtain ⟨y0, y1, m, _, _, h0, h1⟩ := trod_struct2 Tryd.underlying34 hf
    have hI : Tryd.prog.cellsOf 3 = 1 := by kernel_rfl
    simp only [Value.cells, hI, List.drop_zero, List.take_succ_cons, List.take_zero, List.drop_succ_cons] at h0 h1
    obtain ⟨n0, e0, _, w0⟩ := DataW.trod_int Tryd.underlying3 h0
    obtain ⟨n1, e1, _, w1⟩ := DataW.trod_int Tryd.underlying3 h1
    simp at e0 e1
    have b0 := bounds_i64 w0
    have b1 := bounds_i64 w1
    exact ⟨n0, n1, by rw [e0, e1], by omega, by omega⟩
end Go.Proofs.YtkomfenjeoaelaaDoor
