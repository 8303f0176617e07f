/- An array of two texts that comes in by value. -/
import Derived.Test.YtbgjcopgipganaaProg
import Derived.Lib.SmallJoins
import Derived.OpenShut
import Derived.ChangeArms
set_option maxRecDepth 20000
namespace Go.Proofs.Ytbgjcopgipganaa
open Go.ChangeShapes Go.WideShapes Go.ChangeAt Go.RowKit Go.Joins

theorem open_texts {H : Type} {enc : TypeId × Value → H} {w : World} {base b0 : Nat} {sp : Nat → Bool} {held : Bool} {v : Value} {d : DataW H} {p : List MemPlace}
    (hv : Value.okWide Try.prog w .any b0 52 v) (h : DataW.Trod enc Try.prog w base sp held 52 v d p) :
    ∃ s0 s1 : ByteArray, v = .agg #[.string s0, .string s1] ∧ d = .agg [.lit (.string s0.data.toList), .lit (.string s1.data.toList)] ∧ p = [] ∧ s0.size ≤ maxLen ∧ s1.size ≤ maxLen := by
  have ht : Try.prog.underlying 52 = some (.array 2 9) := Try.underlying52
  have hC : Try.prog.cellsOf 52 = 2 := by kernel_rfl
  have hE : Try.prog.cellsOf 9 = 1 := by kernel_rfl
  simp only [Value.okWide, ht] at hv
  obtain ⟨cs, rfl, hsz, _⟩ := hv
  obtain ⟨c0, c1, rfl⟩ := array2 (hsz.trans hC)
  obtain ⟨fuel, hf⟩ := h
  obtain ⟨xs, m, _, hx, _, hl, hel⟩ := DataW.trod_array ht hf
  rw [hE] at hel
  match xs, hl with
  | [x0, x1], _ =>
    have e0 := hel 0 (by omega)
    have e1 := hel 1 (by omega)
    simp [Value.cells] at e0 e1
    obtain ⟨n0, h0, rfl, w0⟩ := DataW.trod_string Try.underlying9 e0
    obtain ⟨n1, h1, rfl, w1⟩ := DataW.trod_string Try.underlying9 e1
    simp at h0 h1
    subst h0 h1
    simp at hx
    obtain ⟨rfl, rfl⟩ := hx
    exact ⟨n0, n1, rfl, rfl, rfl, w0, w1⟩
theorem texts_read {H : Type} {enc : TypeId × Value → H} (W : World) {base : Nat} {sp : Nat → Bool} {held : Bool} {n0 n1 : ByteArray} (w0 : n0.size ≤ maxLen) (w1 : n1.size ≤ maxLen) :
    DataW.Trod enc Try.prog W base sp held 52 (.agg #[.string n0, .string n1]) (.agg [.lit (.string n0.data.toList), .lit (.string n1.data.toList)]) [] := by
  have ht : Try.prog.underlying 52 = some (.array 2 9) := Try.underlying52
  have hC : Try.prog.cellsOf 52 = 2 := by kernel_rfl
  have hE : Try.prog.cellsOf 9 = 1 := by kernel_rfl
  have r2 : List.range 2 = [0, 1] := rfl
  exact ⟨2, by simp [DataW.trod, ht, hC, hE, r2, Value.cells, Try.underlying9, w0, w1]⟩
end Go.Proofs.Ytbgjcopgipganaa
