/- The model's == of aggregates. -/
import Derived.Test.YtipjhlabcbkgjaaAggAt
set_option maxRecDepth 20000
namespace Go.Proofs.Ytipjhlabcbkgjaa.Ag
open Go.RowKit Go.Proofs.Ytipjhlabcbkgjaa Go.Proofs.Ytipjhlabcbkgjaa.Wd Go.Proofs.Ytipjhlabcbkgjaa.Vi Go.Proofs.Ytipjhlabcbkgjaa.Mk

theorem ite_okB (p : Prop) [Decidable p] (b : Bool) (w : World) : (if p then Result.ok b w else Result.ok false w) = Result.ok (decide p && b) w := by
  by_cases h : p <;> simp [h]
theorem ite_okV (p : Prop) [Decidable p] (b : Bool) (w : World) : (if p then Result.ok (Value.bool b) w else Result.ok (Value.bool false) w) = Result.ok (Value.bool (decide p && b)) w := by
  by_cases h : p <;> simp [h]
/-- The buckets are the same. -/
def B9 (f g : Nat → Int) : Prop := f 0 = g 0 ∧ f 1 = g 1 ∧ f 2 = g 2 ∧ f 3 = g 3 ∧ f 4 = g 4 ∧ f 5 = g 5 ∧ f 6 = g 6 ∧ f 7 = g 7 ∧ f 8 = g 8
instance (f g : Nat → Int) : Decidable (B9 f g) := by unfold B9; exact inferInstance
/-- The cells are the same. -/
def AgSame (a b : Ag) : Prop := a.n = b.n ∧ wh a.s = wh b.s ∧ wl a.s = wl b.s ∧ a.mn = b.mn ∧ a.mx = b.mx ∧ a.la = b.la ∧ a.st.c = b.st.c ∧ a.st.s = b.st.s ∧ a.st.q = b.st.q ∧ B9 a.b b.b
instance (a b : Ag) : Decidable (AgSame a b) := by unfold AgSame; exact inferInstance
theorem eqB9_run (d : Nat) (f g : Nat → Int) (w : World) : (Op.equalIn (d + 1 + 1) 27 (b9V f) (b9V g)).run Try.prog w = .ok (decide (B9 f g)) w := by
  unfold b9V B9
  rw [Op.equalIn]
  simp only [Sem.run_bind, run_underlying Try.underlying27, Result.andThen_ok, Std.Legacy.Range.forIn_eq_forIn_range', Std.Legacy.Range.size]
  simp [go_sem, List.range'_succ]
  simp only [ite_okB, Bool.and_true]
  refine congrArg (fun z => Result.ok z w) ?_
  rw [Bool.eq_iff_iff]
  simp
  exact decide_eq_true_iff.symm
theorem eqAg_run (a b : Ag) (w : World) : (binOp .eql 29 (agV a) (agV b)).run Try.prog w = .ok (.bool (decide (AgSame a b))) w := by
  have k := fun w => eqB9_run 9997 a.b b.b w
  unfold b9V at k
  unfold agV AgSame
  simp [go_sem, k]
  by_cases hB : B9 a.b b.b <;> simp [hB, ite_okV, Bool.decide_and]
theorem AgSame.refl (a : Ag) : AgSame a a := by simp [AgSame, B9]
theorem eqAg_self (a : Ag) (w : World) : (binOp .eql 29 (agV a) (agV a)).run Try.prog w = .ok (.bool true) w := by
  rw [eqAg_run, decide_eq_true (AgSame.refl a)]
theorem wh_wl_inj {s t : Int} (h1 : wh s = wh t) (h2 : wl s = wl t) : s = t := by unfold wh at h1; unfold wl at h2; omega
theorem AgSame.vals {a b : Ag} (h : AgSame a b) : agV a = agV b := by
  obtain ⟨h0, h1, h2, h3, h4, h5, h6, h7, h8, h9⟩ := h
  obtain ⟨g0, g1, g2, g3, g4, g5, g6, g7, g8⟩ := h9
  unfold agV
  rw [h0, h1, h2, h3, h4, h5, h6, h7, h8, g0, g1, g2, g3, g4, g5, g6, g7, g8]
theorem eqB9V_run (f g : Nat → Int) (w : World) : (binOp .eql 27 (b9V f) (b9V g)).run Try.prog w = .ok (.bool (decide (B9 f g))) w := by
  have k := fun w => eqB9_run 9998 f g w
  unfold b9V at k ⊢
  simp [go_sem, k]
theorem noGuardAg : Try.prog.eqGuardType Try.prog.depth 29 = false := by kernel_rfl
theorem noGuardB9 : Try.prog.eqGuardType Try.prog.depth 27 = false := by kernel_rfl
theorem guardAg (x y : Operand) (a b : Ag) (w : World) : (eqGuard .eql 29 x y (agV a) (agV b)).run Try.prog w = .ok () w := run_eqGuard_agg w .eql _ x y _ _ noGuardAg
theorem guardB9 (x y : Operand) (a b : Nat → Int) (w : World) : (eqGuard .eql 27 x y (b9V a) (b9V b)).run Try.prog w = .ok () w := run_eqGuard_agg w .eql _ x y _ _ noGuardB9
end Go.Proofs.Ytipjhlabcbkgjaa.Ag
