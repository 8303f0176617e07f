/- Three numbers in boxes side by side, and a comparison under a name of its own. -/
import Derived.Test.YtafgfpppemdedaaWideAwake
namespace Go.Proofs.Ytafgfpppemdedaa
open Go.RowKit Go.Proofs.Ytafgfpppemdedaa.Wd

/-- The cells of three numbers in the blocks b, b + 1, b + 1 + 1. -/
structure Tri (w : World) (b : Nat) (h1 l1 h2 l2 h3 l3 : Int) : Prop where
  a0 : w.cell? ⟨b, 0, none⟩ = some (.int .i64 h1)
  a1 : w.cell? ⟨b, 1, none⟩ = some (.int .u64 l1)
  b0 : w.cell? ⟨b + 1, 0, none⟩ = some (.int .i64 h2)
  b1 : w.cell? ⟨b + 1, 1, none⟩ = some (.int .u64 l2)
  c0 : w.cell? ⟨b + 1 + 1, 0, none⟩ = some (.int .i64 h3)
  c1 : w.cell? ⟨b + 1 + 1, 1, none⟩ = some (.int .u64 l3)
theorem Tri.below {w w' : World} {b : Nat} {h1 l1 h2 l2 h3 l3 : Int} (k : Tri w b h1 l1 h2 l2 h3 l3) (hb : Below w.heap.size w w') : Tri w' b h1 l1 h2 l2 h3 l3 := by
  have r1 := World.block_lt_of_cell? w _ k.a0
  have r2 := World.block_lt_of_cell? w _ k.b0
  have r3 := World.block_lt_of_cell? w _ k.c0
  exact ⟨(hb.cell (p := ⟨b, 0, none⟩) r1).trans k.a0, (hb.cell (p := ⟨b, 1, none⟩) r1).trans k.a1, (hb.cell (p := ⟨b + 1, 0, none⟩) r2).trans k.b0, (hb.cell (p := ⟨b + 1, 1, none⟩) r2).trans k.b1, (hb.cell (p := ⟨b + 1 + 1, 0, none⟩) r3).trans k.c0, (hb.cell (p := ⟨b + 1 + 1, 1, none⟩) r3).trans k.c1⟩
theorem Tri.room {w : World} {b : Nat} {h1 l1 h2 l2 h3 l3 : Int} (k : Tri w b h1 l1 h2 l2 h3 l3) : b < w.heap.size ∧ b + 1 < w.heap.size ∧ b + 1 + 1 < w.heap.size :=
  ⟨World.block_lt_of_cell? w _ k.a0, World.block_lt_of_cell? w _ k.b0, World.block_lt_of_cell? w _ k.c0⟩
theorem Tri.alloc {w : World} {b : Nat} {h1 l1 h2 l2 h3 l3 : Int} (k : Tri w b h1 l1 h2 l2 h3 l3) (o : Obj) : Tri (w.alloc o) b h1 l1 h2 l2 h3 l3 := by
  obtain ⟨r1, r2, r3⟩ := k.room
  obtain ⟨k1, k2, k3, k4, k5, k6⟩ := k
  exact ⟨by simp [go_sem, r1, k1], by simp [go_sem, r1, k2], by simp [go_sem, r2, k3], by simp [go_sem, r2, k4], by simp [go_sem, r3, k5], by simp [go_sem, r3, k6]⟩
theorem Tri.new (w : World) (h1 l1 h2 l2 h3 l3 : Int) : Tri (((w.alloc (.cells #[.int .i64 h1, .int .u64 l1] 24)).alloc (.cells #[.int .i64 h2, .int .u64 l2] 24)).alloc (.cells #[.int .i64 h3, .int .u64 l3] 24)) w.heap.size h1 l1 h2 l2 h3 l3 :=
  ⟨by simp [go_sem], by simp [go_sem], by simp [go_sem], by simp [go_sem], by simp [go_sem], by simp [go_sem]⟩
theorem tri_keep {w w1 w2 : World} {h1 l1 h2 l2 h3 l3 : Int} (hb : Below w1.heap.size w1 w2) (h : (fun w' => w'.cell? ⟨w.heap.size, 0, none⟩ = some (.int .i64 h1) ∧ w'.cell? ⟨w.heap.size, 1, none⟩ = some (.int .u64 l1) ∧ w'.cell? ⟨w.heap.size + 1, 0, none⟩ = some (.int .i64 h2) ∧ w'.cell? ⟨w.heap.size + 1, 1, none⟩ = some (.int .u64 l2) ∧ w'.cell? ⟨w.heap.size + 1 + 1, 0, none⟩ = some (.int .i64 h3) ∧ w'.cell? ⟨w.heap.size + 1 + 1, 1, none⟩ = some (.int .u64 l3) ∧ Below w.heap.size w w') w1) : (fun w' => w'.cell? ⟨w.heap.size, 0, none⟩ = some (.int .i64 h1) ∧ w'.cell? ⟨w.heap.size, 1, none⟩ = some (.int .u64 l1) ∧ w'.cell? ⟨w.heap.size + 1, 0, none⟩ = some (.int .i64 h2) ∧ w'.cell? ⟨w.heap.size + 1, 1, none⟩ = some (.int .u64 l2) ∧ w'.cell? ⟨w.heap.size + 1 + 1, 0, none⟩ = some (.int .i64 h3) ∧ w'.cell? ⟨w.heap.size + 1 + 1, 1, none⟩ = some (.int .u64 l3) ∧ Below w.heap.size w w') w2 := by
  obtain ⟨k1, k2, k3, k4, k5, k6, k7⟩ := h
  have T := Tri.below (b := w.heap.size) ⟨k1, k2, k3, k4, k5, k6⟩ hb
  exact ⟨T.a0, T.a1, T.b0, T.b1, T.c0, T.c1, below_on k7 hb⟩

theorem cmp_is (h1 l1 h2 l2 a b v : Int) (w : World) (A : Rep h1 l1 a) (B : Rep h2 l2 b) (hv : Hid (cmp a b = v)) :
    Calls Try.prog 10 #[.agg #[.int .i64 (h1), .int .u64 (l1)], .agg #[.int .i64 (h2), .int .u64 (l2)]] w fun e w' => e = .returned (.int .i64 v) ∧ Below w.heap.size w w' := by
  have := cmp_any h1 l1 h2 l2 a b w A B
  rwa [hv.out] at this
theorem cmp_neg {a b v : Int} (h : cmp a b = v) : v < 0 ↔ a < b := by
  unfold cmp at h
  split at h
  · omega
  · split at h <;> omega
theorem cmp_pos {a b v : Int} (h : cmp a b = v) : 0 < v ↔ b < a := by
  unfold cmp at h
  split at h
  · omega
  · split at h <;> omega
theorem cmp_zero {a b v : Int} (h : cmp a b = v) : v = 0 ↔ a = b := by
  unfold cmp at h
  split at h
  · omega
  · split at h <;> omega
theorem cmp_range {a b v : Int} (h : cmp a b = v) : -1 ≤ v ∧ v ≤ 1 := by
  unfold cmp at h
  split at h
  · omega
  · split at h <;> omega
/-- Two numbers' halves are the same just where the numbers are. -/
theorem same_is {h1 l1 h2 l2 a b : Int} (A : Rep h1 l1 a) (B : Rep h2 l2 b) : (decide (h1 = h2) && decide (l1 = l2)) = decide (a = b) := by
  obtain ⟨p1, p2, p3, p4, p5⟩ := A
  obtain ⟨q1, q2, q3, q4, q5⟩ := B
  rw [Bool.eq_iff_iff]; simp; omega

theorem eql_run (h1 l1 h2 l2 : Int) (w : World) : (binOp .eql 24 (.agg #[.int .i64 (h1), .int .u64 (l1)]) (.agg #[.int .i64 (h2), .int .u64 (l2)])).run Try.prog w = .ok (.bool (decide (h1 = h2) && decide (l1 = l2))) w := by
  by_cases e1 : h1 = h2
  · by_cases e2 : l1 = l2
    · subst e1; subst e2; simp [go_sem]
    · have e3 : (l1 == l2) = false := by simpa using e2
      subst e1; simp [go_sem, e2, e3]
  · have e3 : (h1 == h2) = false := by simpa using e1
    simp [go_sem, e1, e3]
/-- The test of two numbers under a name of its own. -/
theorem eql_is {h1 l1 h2 l2 a b : Int} (A : Rep h1 l1 a) (B : Rep h2 l2 b) (e : Bool) (he : Hid (decide (a = b) = e)) (w : World) : (binOp .eql 24 (.agg #[.int .i64 (h1), .int .u64 (l1)]) (.agg #[.int .i64 (h2), .int .u64 (l2)])).run Try.prog w = .ok (.bool e) w := by
  rw [eql_run, same_is A B, he.out]

/-- The same with a fourth number in block d. -/
theorem quad_keep {w w1 w2 : World} {d : Nat} {h1 l1 h2 l2 h3 l3 h4 l4 : Int} (hb : Below w1.heap.size w1 w2)
    (h : w1.cell? ⟨d, 0, none⟩ = some (.int .i64 h4) ∧ w1.cell? ⟨d, 1, none⟩ = some (.int .u64 l4) ∧ (fun w' => w'.cell? ⟨w.heap.size, 0, none⟩ = some (.int .i64 h1) ∧ w'.cell? ⟨w.heap.size, 1, none⟩ = some (.int .u64 l1) ∧ w'.cell? ⟨w.heap.size + 1, 0, none⟩ = some (.int .i64 h2) ∧ w'.cell? ⟨w.heap.size + 1, 1, none⟩ = some (.int .u64 l2) ∧ w'.cell? ⟨w.heap.size + 1 + 1, 0, none⟩ = some (.int .i64 h3) ∧ w'.cell? ⟨w.heap.size + 1 + 1, 1, none⟩ = some (.int .u64 l3) ∧ Below w.heap.size w w') w1) : w2.cell? ⟨d, 0, none⟩ = some (.int .i64 h4) ∧ w2.cell? ⟨d, 1, none⟩ = some (.int .u64 l4) ∧ (fun w' => w'.cell? ⟨w.heap.size, 0, none⟩ = some (.int .i64 h1) ∧ w'.cell? ⟨w.heap.size, 1, none⟩ = some (.int .u64 l1) ∧ w'.cell? ⟨w.heap.size + 1, 0, none⟩ = some (.int .i64 h2) ∧ w'.cell? ⟨w.heap.size + 1, 1, none⟩ = some (.int .u64 l2) ∧ w'.cell? ⟨w.heap.size + 1 + 1, 0, none⟩ = some (.int .i64 h3) ∧ w'.cell? ⟨w.heap.size + 1 + 1, 1, none⟩ = some (.int .u64 l3) ∧ Below w.heap.size w w') w2 := by
  obtain ⟨g1, g2, g⟩ := h
  have r := World.block_lt_of_cell? w1 _ g1
  exact ⟨(hb.cell (p := ⟨d, 0, none⟩) r).trans g1, (hb.cell (p := ⟨d, 1, none⟩) r).trans g2, tri_keep hb g⟩
end Go.Proofs.Ytafgfpppemdedaa
