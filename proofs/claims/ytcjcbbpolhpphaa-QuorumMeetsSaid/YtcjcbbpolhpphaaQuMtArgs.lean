/- Three numbers, and two lists of numbers, by value. -/
import Derived.Test.YtcjcbbpolhpphaaQuReps
set_option maxRecDepth 20000
set_option linter.unusedSimpArgs false
set_option linter.unusedVariables false
namespace Go.Proofs.Ytcjcbbpolhpphaa.Qu
open Go.ChangeShapes Go.WideShapes Go.ChangeAt Go.RowKit Go.Joins

theorem arr_size {cs : Array Value} {n : Nat} (h : cs.size = n) : cs.toList.length = n := by simpa using h
theorem open_three {H : Type} {enc : TypeId × Value → H} {w : World} {base b0 : Nat} {sp : Nat → Bool} {held : Bool} {v : Value} {d : DataW H} {p : List MemPlace}
    (hv : Value.okWide Try.prog w .any b0 51 v) (h : DataW.Trod enc Try.prog w base sp held 51 v d p) :
    ∃ n0 n1 n2 : Int, v = .agg #[.int .i64 n0, .int .i64 n1, .int .i64 n2] ∧ d = .agg [.lit (.int .i64 n0), .lit (.int .i64 n1), .lit (.int .i64 n2)] ∧ p = [] ∧ (Lit.int .i64 n0).wf = true ∧ (Lit.int .i64 n1).wf = true ∧ (Lit.int .i64 n2).wf = true := by
  have ht : Try.prog.underlying 51 = some (.array 3 3) := Try.underlying51
  have hC : Try.prog.cellsOf 51 = 3 := by kernel_rfl
  have hE : Try.prog.cellsOf 3 = 1 := by kernel_rfl
  simp only [Value.okWide, ht] at hv
  obtain ⟨cs, rfl, hsz, _⟩ := hv
  have hl3 := arr_size (hsz.trans hC)
  obtain ⟨cl⟩ := cs
  match cl, hl3 with
  | [c0, c1, c2], _ =>
    obtain ⟨fuel, hf⟩ := h
    obtain ⟨xs, m, _, hx, _, hl, hel⟩ := DataW.trod_array ht hf
    rw [hE] at hel
    match xs, hl with
    | [x0, x1, x2], _ =>
      have e0 := hel 0 (by omega)
      have e1 := hel 1 (by omega)
      have e2 := hel 2 (by omega)
      simp [Value.cells] at e0 e1 e2
      obtain ⟨n0, h0, rfl, w0⟩ := DataW.trod_int Try.underlying3 e0
      obtain ⟨n1, h1, rfl, w1⟩ := DataW.trod_int Try.underlying3 e1
      obtain ⟨n2, h2, rfl, w2⟩ := DataW.trod_int Try.underlying3 e2
      simp at h0 h1 h2
      subst h0 h1 h2
      simp at hx
      obtain ⟨rfl, rfl⟩ := hx
      exact ⟨n0, n1, n2, rfl, rfl, rfl, w0, w1, w2⟩
theorem three_reads {H : Type} {enc : TypeId × Value → H} (W : World) {base : Nat} {sp : Nat → Bool} {held : Bool} {n0 n1 n2 : Int} (w0 : (Lit.int .i64 n0).wf = true) (w1 : (Lit.int .i64 n1).wf = true) (w2 : (Lit.int .i64 n2).wf = true) :
    DataW.Trod enc Try.prog W base sp held 51 (.agg #[.int .i64 n0, .int .i64 n1, .int .i64 n2]) (.agg [.lit (.int .i64 n0), .lit (.int .i64 n1), .lit (.int .i64 n2)]) [] := by
  have ht : Try.prog.underlying 51 = some (.array 3 3) := Try.underlying51
  have hC : Try.prog.cellsOf 51 = 3 := by kernel_rfl
  have hE : Try.prog.cellsOf 3 = 1 := by kernel_rfl
  have r3 : List.range 3 = [0, 1, 2] := rfl
  exact ⟨2, by simp [DataW.trod, ht, hC, hE, r3, Value.cells, Try.underlying3, w0, w1, w2]⟩
theorem open_rows2 {H : Type} {enc : TypeId × Value → H} {w : World} {base b0 : Nat} {sp : Nat → Bool} {held : Bool} {v : Value} {d : DataW H} {p : List MemPlace}
    (hv : Value.okWide Try.prog w .any b0 56 v) (h : DataW.Trod enc Try.prog w base sp held 56 v d p) :
    ∃ (a0 : Option Addr) (l0 c0 : Nat) (a1 : Option Addr) (l1 c1 : Nat), v = .agg #[.slice a0 l0 c0, .slice a1 l1 c1] ∧ ArgInts w a0 l0 c0 ∧ ArgInts w a1 l1 c1 := by
  have ht : Try.prog.underlying 56 = some (.array 2 22) := Try.underlying56
  have hC : Try.prog.cellsOf 56 = 2 := by kernel_rfl
  have hE : Try.prog.cellsOf 22 = 1 := by kernel_rfl
  simp only [Value.okWide, ht] at hv
  obtain ⟨cs, rfl, hsz, _⟩ := hv
  have hl2 := arr_size (hsz.trans hC)
  obtain ⟨cl⟩ := cs
  match cl, hl2 with
  | [v0, v1], _ =>
    obtain ⟨fuel, hf⟩ := h
    obtain ⟨xs, m, _, hx, _, hl, hel⟩ := DataW.trod_array ht hf
    rw [hE] at hel
    match xs, hl with
    | [x0, x1], _ =>
      have e0 := hel 0 (by omega)
      have e1 := hel 1 (by omega)
      simp [Value.cells] at e0 e1
      have sl : ∀ {u : Value} {x : DataW H × List MemPlace}, DataW.trod enc Try.prog w base sp held m 22 [u] = some x → ∃ a len cap, u = .slice a len cap ∧ ArgInts w a len cap := fun {u x} hu => by
        have hs : ∃ a len cap, u = .slice a len cap := by
          rcases Go.Deep.open_slice Try.underlying22 hu with ⟨hcs, _⟩ | ⟨y, l, c, m, n, D, Pl, hcs, _⟩
          · simp at hcs; exact ⟨_, _, _, hcs⟩
          · simp at hcs; exact ⟨_, _, _, hcs⟩
        obtain ⟨a, len, cap, rfl⟩ := hs
        exact ⟨a, len, cap, rfl, argInts_of Try.underlying22 Try.underlying3 (by kernel_rfl) hu⟩
      obtain ⟨a0, l0, c0, rfl, h0⟩ := sl e0
      obtain ⟨a1, l1, c1, rfl, h1⟩ := sl e1
      exact ⟨a0, l0, c0, a1, l1, c1, rfl, h0, h1⟩
end Go.Proofs.Ytcjcbbpolhpphaa.Qu
