/- Proved: for every input that can be read as data, heliograph/heliographlaw04.MarkStamps returns true, and each argument reads afterwards as it read before.
   Conditions: none beside the form's own reach of a string. -/
import Derived.Test.YtkgagedjjjaofaaRows
import Derived.Test.YtkgagedjjjaofaaMarkStampsWalk
import Derived.ProofKit
import Derived.OpenShut
import Derived.ShutString
import Derived.ChangeOld
import Derived.Lib.SmallJoins
import Derived.Carry
namespace Go.Proofs.Ytkgagedjjjaofaa.markStamps
open Go.ChangeShapes Go.WideShapes Go.ChangeAt Go.RowKit Go.Joins Go.Proofs.Ytkgagedjjjaofaa Go.Proofs.Ytkgagedjjjaofaa.Vi
open Go.ChangeMaps (open_string shut_string)
theorem own : ownKnob Try.prog.godebug = none := by kernel_rfl
theorem cellsW : Try.prog.cellsOf 23 = 3 := by kernel_rfl
theorem stamp_reads {H : Type} {enc : TypeId × Value → H} (W : World) {base : Nat} {sp : Nat → Bool} {held : Bool} {c s q : Int} (w0 : (Lit.int .i64 c).wf = true) (w1 : (Lit.int .i64 s).wf = true) (w2 : (Lit.int .i64 q).wf = true) : DataW.Trod enc Try.prog W base sp held 23 (.agg #[.int .i64 c, .int .i64 s, .int .i64 q]) (.agg [.lit (.int .i64 c), .lit (.int .i64 s), .lit (.int .i64 q)]) [] :=
  shut_agg3 (y0 := (.lit (.int .i64 c), [])) (y1 := (.lit (.int .i64 s), [])) (y2 := (.lit (.int .i64 q), [])) Try.underlying23 (by kernel_rfl) cellsW ⟨1, by simp [DataW.trod, Try.underlying3, w0]⟩ ⟨1, by simp [DataW.trod, Try.underlying3, w1]⟩ ⟨1, by simp [DataW.trod, Try.underlying3, w2]⟩

set_option maxRecDepth 100000 in
theorem lifted (os : Os) (started : os.Started) (H : Type) (enc : TypeId × Value → H) :
    ReturnsInHanded {} Try.checked os 3 .any (Rows.markStampsSpec.pre6 enc Try.prog Try.f3 Rows.markStampsRow.domain false) (Rows.markStampsSpec.post enc Try.prog Try.f3 false true false false) := by
  refine returnsInHanded_of_change (C := Try.checked) own started (by kernel_rfl) Try.func3
    (ChangeSpec.witness6 (enc := enc) (C := Try.checked) false ⟨#[], #[.agg #[.int .i64 0, .int .i64 0, .int .i64 0], .agg #[.int .i64 0, .int .i64 0, .int .i64 0], .string ByteArray.empty], []⟩ 8 (by kernel_rfl) (by kernel_rfl) (by kernel_rfl) (by kernel_rfl)) ?_
  intro W base args ds gs before hval0 hW _ _
  have hval : ∀ (j : Nat) t v, Try.f3.params[j]? = some t → args[j]? = some v → Value.okWide Try.prog W .any base t v := hval0
  have hW' := hW
  obtain ⟨p, q, hA0, hV, rfl, hfz, hnd⟩ := hW
  have hA : DataW.TrodAll enc Try.prog W 0 (fun _ => true) true Try.f3.params.toList args.toList ds p := hA0
  rw [Try.params3] at hA hval
  obtain ⟨v0, vs0, d0, ds0, p0, q0, hargs, rfl, rfl, h0, r0⟩ := trodAll_cons hA
  obtain ⟨v1, vs1, d1, ds1, p1, q1, rfl, rfl, rfl, h1, r1⟩ := trodAll_cons r0
  obtain ⟨v2, vs2, d2, ds2, p2, q2, rfl, rfl, rfl, h2, r2⟩ := trodAll_cons r1
  obtain ⟨rfl, rfl, rfl⟩ := trodAll_nil r2
  obtain rfl : args = #[v0, v1, v2] := by cases args; simp_all
  obtain ⟨rfl, rfl⟩ := trodVars_none hV
  obtain ⟨x0a, x0b, x0c, y0a, y0b, y0c, m0, rfl, rfl, rfl, hy0a, hy0b, hy0c⟩ := open_agg3 Try.underlying23 (by kernel_rfl) cellsW (hval 0 23 v0 rfl rfl) h0
  obtain ⟨c0n, e0a, rfl, w0a⟩ := DataW.trod_int Try.underlying3 hy0a
  obtain ⟨s0n, e0b, rfl, w0b⟩ := DataW.trod_int Try.underlying3 hy0b
  obtain ⟨q0n, e0c, rfl, w0c⟩ := DataW.trod_int Try.underlying3 hy0c
  simp at e0a e0b e0c
  subst e0a e0b e0c
  obtain ⟨x1a, x1b, x1c, y1a, y1b, y1c, m1, rfl, rfl, rfl, hy1a, hy1b, hy1c⟩ := open_agg3 Try.underlying23 (by kernel_rfl) cellsW (hval 1 23 v1 rfl rfl) h1
  obtain ⟨c1n, e1a, rfl, w1a⟩ := DataW.trod_int Try.underlying3 hy1a
  obtain ⟨s1n, e1b, rfl, w1b⟩ := DataW.trod_int Try.underlying3 hy1b
  obtain ⟨q1n, e1c, rfl, w1c⟩ := DataW.trod_int Try.underlying3 hy1c
  simp at e1a e1b e1c
  subst e1a e1b e1c
  obtain ⟨s2, rfl, rfl, rfl, w2⟩ := open_string Try.underlying9 (hval 2 9 v2 rfl rfl) h2
  clear hA0 hval0
  refine (walk c0n s0n q0n c1n s1n q1n s2 W (bounds_i64 w0a) (bounds_i64 w0b) (bounds_i64 w0c) (bounds_i64 w1a) (bounds_i64 w1b) (bounds_i64 w1c) w2).mono fun e W' ⟨he, bel⟩ => ?_
  subst he
  exact ⟨_, rfl, _, _, _, [], _, [], hW', trodAll_mk1 (shut_bool Try.underlying4 _), (trodAll_cons_mk (stamp_reads W' w0a w0b w0c) (trodAll_cons_mk (stamp_reads W' w1a w1b w1c) (trodAll_cons_mk (shut_string Try.underlying9 w2) trodAll_mk0))), rfl, bel.frame _, fun h => by cases h⟩

theorem over : Rows.markStampsRow.holds Try.pinned (OpenSpec.ofChange Rows.markStampsSpec) :=
  OpenClaim.holds_of_wide 3 Try.f3 rfl rfl rfl rfl rfl rfl rfl ⟨rfl, rfl, rfl, rfl, rfl⟩ rfl rfl rfl rfl rfl (by kernel_rfl) Try.func3 (by kernel_rfl)
    (of_decide_eq_true (by kernel_rfl)) (by unfold Func.isWrapper; first | (rw [if_pos (by decide +kernel)]; kernel_rfl) | (rw [if_neg (by decide +kernel)]; exact ⟨rfl, rfl⟩))
    (fun os started H enc _ => lifted os started H enc)

/-- MarkStamps: for every input the law returns true, and each argument reads afterwards as before. -/
theorem said : Rows.MarkStampsSaid := over
end Go.Proofs.Ytkgagedjjjaofaa.markStamps
