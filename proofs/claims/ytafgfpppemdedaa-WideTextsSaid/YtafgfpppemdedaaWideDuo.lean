/- Two numbers in boxes side by side. -/
import Derived.Test.YtafgfpppemdedaaWideTri
namespace Go.Proofs.Ytafgfpppemdedaa
open Go.RowKit Go.Proofs.Ytafgfpppemdedaa.Wd

/-- The cells of two numbers in the blocks b, b + 1. -/
structure Duo (w : World) (b : Nat) (h1 l1 h2 l2 : Int) : Prop where
  a0 : w.cell? ⟨b, 0, none⟩ = some (.int .i64 h1)
  a1 : w.cell? ⟨b, 1, none⟩ = some (.int .u64 l1)
  b0 : w.cell? ⟨b + 1, 0, none⟩ = some (.int .i64 h2)
  b1 : w.cell? ⟨b + 1, 1, none⟩ = some (.int .u64 l2)
theorem Duo.below {w w' : World} {b : Nat} {h1 l1 h2 l2 : Int} (k : Duo w b h1 l1 h2 l2) (hb : Below w.heap.size w w') : Duo w' b h1 l1 h2 l2 := by
  have r1 := World.block_lt_of_cell? w _ k.a0
  have r2 := World.block_lt_of_cell? w _ k.b0
  exact ⟨(hb.cell (p := ⟨b, 0, none⟩) r1).trans k.a0, (hb.cell (p := ⟨b, 1, none⟩) r1).trans k.a1, (hb.cell (p := ⟨b + 1, 0, none⟩) r2).trans k.b0, (hb.cell (p := ⟨b + 1, 1, none⟩) r2).trans k.b1⟩
theorem Duo.room {w : World} {b : Nat} {h1 l1 h2 l2 : Int} (k : Duo w b h1 l1 h2 l2) : b < w.heap.size ∧ b + 1 < w.heap.size :=
  ⟨World.block_lt_of_cell? w _ k.a0, World.block_lt_of_cell? w _ k.b0⟩
theorem Duo.alloc {w : World} {b : Nat} {h1 l1 h2 l2 : Int} (k : Duo w b h1 l1 h2 l2) (o : Obj) : Duo (w.alloc o) b h1 l1 h2 l2 := by
  obtain ⟨r1, r2⟩ := k.room
  obtain ⟨k1, k2, k3, k4⟩ := k
  exact ⟨by simp [go_sem, r1, k1], by simp [go_sem, r1, k2], by simp [go_sem, r2, k3], by simp [go_sem, r2, k4]⟩
theorem Duo.new (w : World) (h1 l1 h2 l2 : Int) : Duo ((w.alloc (.cells #[.int .i64 h1, .int .u64 l1] 24)).alloc (.cells #[.int .i64 h2, .int .u64 l2] 24)) w.heap.size h1 l1 h2 l2 :=
  ⟨by simp [go_sem], by simp [go_sem], by simp [go_sem], by simp [go_sem]⟩
theorem duo_keep {w w1 w2 : World} {h1 l1 h2 l2 : Int} (hb : Below w1.heap.size w1 w2) (h : (fun w' => w'.cell? ⟨w.heap.size, 0, none⟩ = some (.int .i64 h1) ∧ w'.cell? ⟨w.heap.size, 1, none⟩ = some (.int .u64 l1) ∧ w'.cell? ⟨w.heap.size + 1, 0, none⟩ = some (.int .i64 h2) ∧ w'.cell? ⟨w.heap.size + 1, 1, none⟩ = some (.int .u64 l2) ∧ Below w.heap.size w w') w1) : (fun w' => w'.cell? ⟨w.heap.size, 0, none⟩ = some (.int .i64 h1) ∧ w'.cell? ⟨w.heap.size, 1, none⟩ = some (.int .u64 l1) ∧ w'.cell? ⟨w.heap.size + 1, 0, none⟩ = some (.int .i64 h2) ∧ w'.cell? ⟨w.heap.size + 1, 1, none⟩ = some (.int .u64 l2) ∧ Below w.heap.size w w') w2 := by
  obtain ⟨k1, k2, k3, k4, k5⟩ := h
  have T := Duo.below (b := w.heap.size) ⟨k1, k2, k3, k4⟩ hb
  exact ⟨T.a0, T.a1, T.b0, T.b1, below_on k5 hb⟩
/-- The same with a third number in block d. -/
theorem duo3_keep {w w1 w2 : World} {d : Nat} {h1 l1 h2 l2 h4 l4 : Int} (hb : Below w1.heap.size w1 w2)
    (h : w1.cell? ⟨d, 0, none⟩ = some (.int .i64 h4) ∧ w1.cell? ⟨d, 1, none⟩ = some (.int .u64 l4) ∧ (fun w' => w'.cell? ⟨w.heap.size, 0, none⟩ = some (.int .i64 h1) ∧ w'.cell? ⟨w.heap.size, 1, none⟩ = some (.int .u64 l1) ∧ w'.cell? ⟨w.heap.size + 1, 0, none⟩ = some (.int .i64 h2) ∧ w'.cell? ⟨w.heap.size + 1, 1, none⟩ = some (.int .u64 l2) ∧ Below w.heap.size w w') w1) : w2.cell? ⟨d, 0, none⟩ = some (.int .i64 h4) ∧ w2.cell? ⟨d, 1, none⟩ = some (.int .u64 l4) ∧ (fun w' => w'.cell? ⟨w.heap.size, 0, none⟩ = some (.int .i64 h1) ∧ w'.cell? ⟨w.heap.size, 1, none⟩ = some (.int .u64 l1) ∧ w'.cell? ⟨w.heap.size + 1, 0, none⟩ = some (.int .i64 h2) ∧ w'.cell? ⟨w.heap.size + 1, 1, none⟩ = some (.int .u64 l2) ∧ Below w.heap.size w w') w2 := by
  obtain ⟨g1, g2, g⟩ := h
  have r := World.block_lt_of_cell? w1 _ g1
  exact ⟨(hb.cell (p := ⟨d, 0, none⟩) r).trans g1, (hb.cell (p := ⟨d, 1, none⟩) r).trans g2, duo_keep hb g⟩
end Go.Proofs.Ytafgfpppemdedaa
