/- Two messages that are the same. -/
import Derived.Test.YtnjabhjcnkbgpaaNetDuo
set_option maxRecDepth 20000
set_option linter.unusedSimpArgs false
set_option linter.unusedVariables false
namespace Go.Proofs.Ytnjabhjcnkbgpaa
open Go.RowKit

theorem meq_run (a b c : Int) (s : ByteArray) (d : Int) (w : World) : (Op.equalIn 10000 34 (.agg #[.int .i64 a, .int .i64 b, .int .i64 c, .string s, .int .i64 d]) (.agg #[.int .i64 a, .int .i64 b, .int .i64 c, .string s, .int .i64 d])).run Try.prog w = .ok true w := by
  have u3 := Try.underlying3
  have a3 := Try.isAgg3
  have z3 := Try.sizeOf3
  have u4 := Try.underlying9
  have a4 := Try.isAgg9
  have z4 := Try.sizeOf9
  rw [show (10000 : Nat) = 9999 + 1 from rfl, Op.equalIn]
  simp only [Sem.run_bind, run_underlying Try.underlying34, Result.andThen_ok]
  try simp only [Std.Legacy.Range.forIn_eq_forIn_range', Std.Legacy.Range.size, Nat.sub_zero, Nat.add_sub_cancel, Nat.div_one, List.range'_succ, List.range'_zero, List.forIn_cons, List.forIn_nil]
  go_simp
theorem meq_v (m : Ml) (w : World) : (Op.equalIn 10000 34 m.v m.v).run Try.prog w = .ok true w := meq_run _ _ _ _ _ w
theorem noM_eq (w : World) : (Op.equalIn 10000 34 noM noM).run Try.prog w = .ok true w := meq_run _ _ _ _ _ w
section
variable {w0 w : World} {b r : Nat} {S S' : NS} {R R' : RN} {hs : List (Nat × Obj)} {k : Nat}
/-- The call's own cells. -/
theorem Duo.box (h : Duo w0 w b r S R hs) (i : Nat) (ko ao bo : Int) (so : ByteArray) (hi : (i, .cells #[.int .i64 ko, .int .i64 ao, .int .i64 bo, .string so] 32) ∈ hs) : w.cell? ⟨i, 0, none⟩ = some (.int .i64 ko) ∧ w.cell? ⟨i, 1, none⟩ = some (.int .i64 ao) ∧ w.cell? ⟨i, 2, none⟩ = some (.int .i64 bo) ∧ w.cell? ⟨i, 3, none⟩ = some (.string so) :=
  have e := h.held hi
  ⟨cell_of e, cell_of e, cell_of e, cell_of e⟩
theorem Duo.mail (h : Duo w0 w b r S R hs) (i : Nat) (m : Ml) (hi : (i, .cells #[.int .i64 m.n, .int .i64 m.f, .int .i64 m.t, .string m.s, .int .i64 m.a] 34) ∈ hs) : w.cell? ⟨i, 0, none⟩ = some (.int .i64 m.n) ∧ w.cell? ⟨i, 1, none⟩ = some (.int .i64 m.f) ∧ w.cell? ⟨i, 2, none⟩ = some (.int .i64 m.t) ∧ w.cell? ⟨i, 3, none⟩ = some (.string m.s) ∧ w.cell? ⟨i, 4, none⟩ = some (.int .i64 m.a) :=
  have e := h.held hi
  ⟨cell_of e, cell_of e, cell_of e, cell_of e, cell_of e⟩
theorem take_two (x : Int) (hx : -9223372036854775808 ≤ x ∧ x ≤ 9223372036854775807) (h : Duo w0 w b r S R hs) : Calls Try.prog 11 #[.pointer (some ⟨b, 0, none⟩), .int .i64 x] w (DDone w0 b r (takeS S x) R hs (.tuple #[mailV (takeM S x), .bool (takeM S x).isSome]) w) := by
  rcases take_i (S := S) (x := x) with ⟨h0, e⟩ | ⟨i, m, e, hm, e1, e2⟩
  · have e1 : takeM S x = none := by unfold takeM; rw [e]
    have e2 : takeS S x = S := by unfold takeS; rw [e]
    rw [e1, e2]
    exact duo_prog h fun _ hN => take_none x hN h0
  · rw [e1, e2]
    exact duo_prog h fun _ hN => take_some x i m hx hN e hm
end
end Go.Proofs.Ytnjabhjcnkbgpaa
