/- Three points in a row; orders of points. For law SampleOrder. -/
import Derived.Test.YtjckphmkhikpaaaSampleAwake
import Derived.Test.YtjckphmkhikpaaaSampleFew
import Derived.BigQuiet
set_option maxRecDepth 20000
namespace Go.Proofs.Ytjckphmkhikpaaa.sampleOrder
open Go.RowKit Go.Proofs.Ytjckphmkhikpaaa Go.Proofs.Ytjckphmkhikpaaa.Vi Go.Proofs.Ytjckphmkhikpaaa.Mk

/-- Three points, one behind the other. -/
structure Tri (w : World) (g : Nat) (a b c : Pt) : Prop where
  x0 : w.cell? ⟨g, 0, none⟩ = some (.string a.s)
  x1 : w.cell? ⟨g, 1, none⟩ = some (.int .i64 a.t)
  x2 : w.cell? ⟨g, 2, none⟩ = some (.int .i64 a.v)
  x3 : w.cell? ⟨g, 3, none⟩ = some (.int .i64 a.st.c)
  x4 : w.cell? ⟨g, 4, none⟩ = some (.int .i64 a.st.s)
  x5 : w.cell? ⟨g, 5, none⟩ = some (.int .i64 a.st.q)
  y0 : w.cell? ⟨g, 6, none⟩ = some (.string b.s)
  y1 : w.cell? ⟨g, 7, none⟩ = some (.int .i64 b.t)
  y2 : w.cell? ⟨g, 8, none⟩ = some (.int .i64 b.v)
  y3 : w.cell? ⟨g, 9, none⟩ = some (.int .i64 b.st.c)
  y4 : w.cell? ⟨g, 10, none⟩ = some (.int .i64 b.st.s)
  y5 : w.cell? ⟨g, 11, none⟩ = some (.int .i64 b.st.q)
  z0 : w.cell? ⟨g, 12, none⟩ = some (.string c.s)
  z1 : w.cell? ⟨g, 13, none⟩ = some (.int .i64 c.t)
  z2 : w.cell? ⟨g, 14, none⟩ = some (.int .i64 c.v)
  z3 : w.cell? ⟨g, 15, none⟩ = some (.int .i64 c.st.c)
  z4 : w.cell? ⟨g, 16, none⟩ = some (.int .i64 c.st.s)
  z5 : w.cell? ⟨g, 17, none⟩ = some (.int .i64 c.st.q)
theorem Tri.room {w : World} {g : Nat} {a b c : Pt} (h : Tri w g a b c) : g < w.heap.size := World.block_lt_of_cell? w _ h.x0
theorem Tri.below {w w' : World} {g : Nat} {a b c : Pt} (h : Tri w g a b c) (k : Below w.heap.size w w') : Tri w' g a b c :=
  ⟨(k.cell (p := ⟨g, 0, none⟩) h.room).trans h.x0, (k.cell (p := ⟨g, 1, none⟩) h.room).trans h.x1, (k.cell (p := ⟨g, 2, none⟩) h.room).trans h.x2, (k.cell (p := ⟨g, 3, none⟩) h.room).trans h.x3, (k.cell (p := ⟨g, 4, none⟩) h.room).trans h.x4, (k.cell (p := ⟨g, 5, none⟩) h.room).trans h.x5, (k.cell (p := ⟨g, 6, none⟩) h.room).trans h.y0, (k.cell (p := ⟨g, 7, none⟩) h.room).trans h.y1, (k.cell (p := ⟨g, 8, none⟩) h.room).trans h.y2, (k.cell (p := ⟨g, 9, none⟩) h.room).trans h.y3, (k.cell (p := ⟨g, 10, none⟩) h.room).trans h.y4, (k.cell (p := ⟨g, 11, none⟩) h.room).trans h.y5, (k.cell (p := ⟨g, 12, none⟩) h.room).trans h.z0, (k.cell (p := ⟨g, 13, none⟩) h.room).trans h.z1, (k.cell (p := ⟨g, 14, none⟩) h.room).trans h.z2, (k.cell (p := ⟨g, 15, none⟩) h.room).trans h.z3, (k.cell (p := ⟨g, 16, none⟩) h.room).trans h.z4, (k.cell (p := ⟨g, 17, none⟩) h.room).trans h.z5⟩
theorem tri_of {w : World} {B : Nat} {v : Value} {a b c : Pt} (h : PRow w B v [a, b, c]) : ∃ g cap, v = .slice (some ⟨g, 0, none⟩) 3 cap ∧ Tri w g a b c := by
  have h0 := h
  rcases h.2 with ⟨hv, h0⟩ | ⟨g, cap, cur, hv, _⟩
  · simp at h0
  · refine ⟨g, cap, hv, ?_⟩
    subst hv
    obtain ⟨hE⟩ := h0.pts
    rcases hE with h | ⟨b', off, e, _, hc⟩
    · cases h
    · injection e with e
      injection e with e1 e2
      subst e1 e2
      obtain ⟨g0, g1, g2, g3, g4, g5⟩ := hc 0 (by simp)
      obtain ⟨k0, k1, k2, k3, k4, k5⟩ := hc 1 (by simp)
      obtain ⟨l0, l1, l2, l3, l4, l5⟩ := hc 2 (by simp)
      exact ⟨g0, g1, g2, g3, g4, g5, k0, k1, k2, k3, k4, k5, l0, l1, l2, l3, l4, l5⟩
/-- The row that the law hands few. -/
theorem few3 (a b c : Pt) (W : World) : Calls Try.prog 26 #[.slice (some ⟨W.heap.size, 0, none⟩) 3 3] (W.alloc (.cells #[.string a.s, .int .i64 a.t, .int .i64 a.v, .int .i64 a.st.c, .int .i64 a.st.s, .int .i64 a.st.q, .string b.s, .int .i64 b.t, .int .i64 b.v, .int .i64 b.st.c, .int .i64 b.st.s, .int .i64 b.st.q, .string c.s, .int .i64 c.t, .int .i64 c.v, .int .i64 c.st.c, .int .i64 c.st.s, .int .i64 c.st.q] 34)) (FewDone [a, b, c] (W.alloc (.cells #[.string a.s, .int .i64 a.t, .int .i64 a.v, .int .i64 a.st.c, .int .i64 a.st.s, .int .i64 a.st.q, .string b.s, .int .i64 b.t, .int .i64 b.v, .int .i64 b.st.c, .int .i64 b.st.s, .int .i64 b.st.q, .string c.s, .int .i64 c.t, .int .i64 c.v, .int .i64 c.st.c, .int .i64 c.st.s, .int .i64 c.st.q] 34))) := by
  have h : Pts (W.alloc (.cells #[.string a.s, .int .i64 a.t, .int .i64 a.v, .int .i64 a.st.c, .int .i64 a.st.s, .int .i64 a.st.q, .string b.s, .int .i64 b.t, .int .i64 b.v, .int .i64 b.st.c, .int .i64 b.st.s, .int .i64 b.st.q, .string c.s, .int .i64 c.t, .int .i64 c.v, .int .i64 c.st.c, .int .i64 c.st.s, .int .i64 c.st.q] 34)) (W.alloc (.cells #[.string a.s, .int .i64 a.t, .int .i64 a.v, .int .i64 a.st.c, .int .i64 a.st.s, .int .i64 a.st.q, .string b.s, .int .i64 b.t, .int .i64 b.v, .int .i64 b.st.c, .int .i64 b.st.s, .int .i64 b.st.q, .string c.s, .int .i64 c.t, .int .i64 c.v, .int .i64 c.st.c, .int .i64 c.st.s, .int .i64 c.st.q] 34)).heap.size (some ⟨W.heap.size, 0, none⟩) [a, b, c] := by
    refine ⟨Or.inr ⟨W.heap.size, 0, rfl, by simp, fun j hj => ?_⟩⟩
    simp at hj
    match j, hj with
    | 0, _ => constructor <;> simp [go_sem]
    | 1, _ => constructor <;> simp [go_sem]
    | 2, _ => constructor <;> simp [go_sem]
  exact few_is _ 3 [a, b, c] _ h (by simp)
structure OHeld (w : World) (g : Nat) (a b c : Pt) (w' : World) : Prop where
  tri : Tri w' g a b c
  bel : Below w.heap.size w w'
theorem OHeld.keep {w w1 w2 : World} {g : Nat} {a b c : Pt} (h : OHeld w g a b c w1) (k : Below w1.heap.size w1 w2) : OHeld w g a b c w2 := ⟨h.tri.below k, bel_next h.bel k⟩
theorem OHeld.drew {w w1 : World} {g : Nat} {a b c : Pt} (h : OHeld w g a b c w1) : OHeld w g a b c w1.drew := h.keep ((Below.refl _ _).drew)
theorem OHeld.drewN {w w1 : World} {g n : Nat} {a b c : Pt} (h : OHeld w g a b c w1) : OHeld w g a b c (w1.drewN n) := h.keep (below_drewN (Below.refl _ _) n)
/-- The law, once few has answered: a, b, c stand for the short ones. -/
def Rest (a b c : Pt) : Prop := ∀ (a0 b0 c0 : Pt) (w : World), fewL [a0, b0, c0] = [a, b, c] → Calls Try.prog 7 #[ptV a0, ptV b0, ptV c0] w fun e w' => e = .returned (.bool true) ∧ Below w.heap.size w w'
theorem before_s {a b : Pt} (h : a.s = b.s) : a.before b = decide (a.t < b.t) := by unfold Pt.before; rw [h, lessB_self]; simp
theorem before_ne {a b : Pt} (h : a.s ≠ b.s) : a.before b = lessB a.s b.s := by unfold Pt.before; simp [h]
theorem newer_no {a b : Pt} (h : ¬ (a.s = b.s ∧ a.t = b.t)) : a.newer b = false := by
  unfold Pt.newer
  by_cases h1 : a.s = b.s
  · have h2 : a.t ≠ b.t := fun e => h ⟨h1, e⟩
    simp [h2]
  · simp [h1]
theorem newer_same {a b : Pt} (h : a.s = b.s) (k : a.t = b.t) : a.newer b = b.st.lt a.st := by unfold Pt.newer; simp [h, k]
theorem before_trans {a b c : Pt} (h : a.before b = true) (k : b.before c = true) : a.before c = true := by
  by_cases h1 : a.s = b.s
  · rw [before_s h1] at h
    by_cases h2 : b.s = c.s
    · rw [before_s h2] at k
      rw [before_s (h1.trans h2)]
      have h := of_decide_eq_true h
      have k := of_decide_eq_true k
      exact decide_eq_true (by omega)
    · rw [before_ne h2] at k
      rw [before_ne (by rw [h1]; exact h2), h1]; exact k
  · rw [before_ne h1] at h
    by_cases h2 : b.s = c.s
    · rw [before_ne (by rw [← h2]; exact h1), ← h2]; exact h
    · rw [before_ne h2] at k
      have := lessB_trans h k
      rw [before_ne (lessB_ne this)]; exact this
theorem newer_trans {a b c : Pt} (h : a.newer b = true) (k : b.newer c = true) : a.newer c = true := by
  unfold Pt.newer at *
  simp only [Bool.and_eq_true, decide_eq_true_eq] at *
  exact ⟨⟨h.1.1.trans k.1.1, h.1.2.trans k.1.2⟩, St.lt_trans k.2 h.2⟩
theorem neq_run (a b : St) (w : World) : (binOp .neq 23 (.agg #[.int .i64 a.c, .int .i64 a.s, .int .i64 a.q]) (.agg #[.int .i64 b.c, .int .i64 b.s, .int .i64 b.q])).run Try.prog w = .ok (.bool (!decide (a = b))) w := by
  obtain ⟨a1, a2, a3⟩ := a
  obtain ⟨b1, b2, b3⟩ := b
  by_cases h1 : a1 = b1
  · by_cases h2 : a2 = b2
    · by_cases h3 : a3 = b3
      · subst h1 h2 h3; simp [go_sem]
      · subst h1 h2; simp [go_sem, h3]
    · subst h1; simp [go_sem, h2]
  · simp [go_sem, h1]
end Go.Proofs.Ytjckphmkhikpaaa.sampleOrder
