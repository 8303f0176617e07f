/- An array of two numbers that comes in by value. -/
import Derived.Test.YtkomfenjeoaelaaDoorProg
import Derived.Lib.SmallJoins
import Derived.OpenShut
set_option maxRecDepth 20000
namespace Go.Proofs.YtkomfenjeoaelaaDoor
open Go.ChangeShapes Go.WideShapes Go.ChangeAt Go.RowKit Go.Joins

theorem open_two {H : Type} {enc : TypeId × Value → H} {w : World} {base b0 : Nat} {sp : Nat → Bool} {held : Bool} {v : Value} {d : DataW H} {p : List MemPlace}
    (hv : Value.okWide Tryd.prog w .any b0 55 v) (h : DataW.Trod enc Tryd.prog w base sp held 55 v d p) :
    ∃ n0 n1 : Int, v = .agg #[.int .i64 n0, .int .i64 n1] ∧ d = .agg [.lit (.int .i64 n0), .lit (.int .i64 n1)] ∧ p = [] ∧ (Lit.int .i64 n0).wf = true ∧ (Lit.int .i64 n1).wf = true := by
  have ht : Tryd.prog.underlying 55 = some (.array 2 3) := Tryd.underlying55
  have hC : Tryd.prog.cellsOf 55 = 2 := by kernel_rfl
  have hE : Tryd.prog.cellsOf 3 = 1 := by kernel_rfl
  simp only [Value.okWide, ht] at hv
  obtain ⟨cs, rfl, hsz, _⟩ := hv
  obtain ⟨c0, c1, rfl⟩ := array2 (hsz.trans hC)
  obtain ⟨fuel, hf⟩ := h
  obtain ⟨xs, m, _, hx, _, hl, hel⟩ := DataW.trod_array ht hf
  rw [hE] at hel
  match xs, hl with
  | [x0, x1], _ =>
    have e0 := hel 0 (by omega)
    have e1 := hel 1 (by omega)
    simp [Value.cells] at e0 e1
    obtain ⟨n0, h0, rfl, w0⟩ := DataW.trod_int Tryd.underlying3 e0
    obtain ⟨n1, h1, rfl, w1⟩ := DataW.trod_int Tryd.underlying3 e1
    simp at h0 h1
    subst h0 h1
    simp at hx
    obtain ⟨rfl, rfl⟩ := hx
    exact ⟨n0, n1, rfl, rfl, rfl, w0, w1⟩
theorem two_reads {H : Type} {enc : TypeId × Value → H} (W : World) {base : Nat} {sp : Nat → Bool} {held : Bool} {n0 n1 : Int} (w0 : (Lit.int .i64 n0).wf = true) (w1 : (Lit.int .i64 n1).wf = true) :
    DataW.Trod enc Tryd.prog W base sp held 55 (.agg #[.int .i64 n0, .int .i64 n1]) (.agg [.lit (.int .i64 n0), .lit (.int .i64 n1)]) [] := by
  have ht : Tryd.prog.underlying 55 = some (.array 2 3) := Tryd.underlying55
  have hC : Tryd.prog.cellsOf 55 = 2 := by kernel_rfl
  have hE : Tryd.prog.cellsOf 3 = 1 := by kernel_rfl
  have r2 : List.range 2 = [0, 1] := rfl
  exact ⟨2, by simp [DataW.trod, ht, hC, hE, r2, Value.cells, Tryd.underlying3, w0, w1]⟩
end Go.Proofs.YtkomfenjeoaelaaDoor
