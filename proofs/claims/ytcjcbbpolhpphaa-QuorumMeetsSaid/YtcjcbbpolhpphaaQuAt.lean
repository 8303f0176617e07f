/- A write as it lies in memory. -/
import Derived.Test.YtcjcbbpolhpphaaQuMath
import Derived.Test.YtcjcbbpolhpphaaBlockLRow
import Derived.Test.YtcjcbbpolhpphaaBlockLooks
set_option maxRecDepth 20000
set_option linter.unusedSimpArgs false
set_option linter.unusedVariables false
namespace Go.Proofs.Ytcjcbbpolhpphaa.Qu
open Go.RowKit Go.Proofs.Ytcjcbbpolhpphaa.Vi

/-- The cells of a write at the head of block b, of type T. -/
structure WAt (w : World) (b : Nat) (T : TypeId) (S : QS) : Prop where
  big : ∃ cur : Array Value, w.heap[b]? = some (.cells cur T (0, 0))
  need : w.cell? ⟨b, 0, none⟩ = some (.int .i64 S.need)
  nd : ∀ i : Nat, i < 16 → w.cell? ⟨b, 1 + i, none⟩ = some (.bool (S.nd (i : Int)))
  hd : ∀ i : Nat, i < 16 → w.cell? ⟨b, 17 + i, none⟩ = some (.bool (S.hd (i : Int)))
  ok : -9223372036854775808 ≤ S.need ∧ S.need ≤ 9223372036854775807
theorem WAt.lt {w : World} {b : Nat} {T : TypeId} {S : QS} (h : WAt w b T S) : b < w.heap.size := by
  obtain ⟨cur, h⟩ := h.big
  exact (Array.getElem?_eq_some_iff.1 h).1
theorem WAt.of {w w' : World} {b : Nat} {T : TypeId} {S : QS} (h : WAt w b T S) (k : w'.heap[b]? = w.heap[b]?) : WAt w' b T S := by
  obtain ⟨⟨cur, h0⟩, h1, h2, h3, h4⟩ := h
  have hc : ∀ o, w'.cell? ⟨b, o, none⟩ = w.cell? ⟨b, o, none⟩ := fun o => World.cell?_of_block (w := w) k
  exact ⟨⟨cur, k.trans h0⟩, (hc _).trans h1, fun i hi => (hc _).trans (h2 i hi), fun i hi => (hc _).trans (h3 i hi), h4⟩
theorem WAt.later {w w' : World} {b : Nat} {T : TypeId} {S : QS} (h : WAt w b T S) (k : Below w.heap.size w w') : WAt w' b T S := h.of (k.block b h.lt)
theorem WAt.frozen {w : World} {b : Nat} {T : TypeId} {S : QS} (h : WAt w b T S) (o : Nat) : w.frozen? ⟨b, o, none⟩ = false := by
  obtain ⟨cur, h⟩ := h.big
  unfold World.frozen?
  simp [h]
/-- The world once a node has been heard of. -/
def hearW (w : World) (b : Nat) (S : QS) (n : Int) : World := if hearB S n = true then w.setCell ⟨b, 17 + n.toNat, none⟩ (.bool true) else w
theorem cell_off {w : World} {g o k : Nat} {v : Value} (h : o ≠ k) : (w.setCell ⟨g, o, none⟩ v).cell? ⟨g, k, none⟩ = w.cell? ⟨g, k, none⟩ :=
  World.cell?_setCell_other _ _ _ _ fun e => h (by injection e)
theorem set_heap {w : World} {g o : Nat} {cur : Array Value} {T : TypeId} (h : w.heap[g]? = some (.cells cur T (0, 0))) (v : Value) : (w.setCell ⟨g, o, none⟩ v).heap[g]? = some (.cells (cur.setIfInBounds o v) T (0, 0)) := Lib.heap_setCell_same h v
theorem WAt.hear {w : World} {b : Nat} {T : TypeId} {S : QS} (h : WAt w b T S) (n : Int) : WAt (hearW w b S n) b T (hearS S n) := by
  unfold hearW hearS
  by_cases hy : hearB S n = true
  · rw [if_pos hy, if_pos hy]
    obtain ⟨cur, h0⟩ := h.big
    unfold hearB at hy
    obtain ⟨k, hk, rfl⟩ := has_node (Bool.and_eq_true_iff.1 hy).1
    have e : (k : Int).toNat = k := by omega
    rw [e]
    refine ⟨⟨_, set_heap h0 _⟩, (cell_off (by omega)).trans h.need, fun i hi => (cell_off (by omega)).trans (h.nd i hi), fun i hi => ?_, h.ok⟩
    show _ = some (Value.bool (updB S.hd (k : Int) (i : Int)))
    unfold updB
    by_cases hik : i = k
    · subst hik
      rw [if_pos rfl]
      exact World.cell?_setCell_same _ _ _ (h.hd i hi)
    · rw [if_neg (by omega), cell_off (by omega)]
      exact h.hd i hi
  · rw [if_neg hy, if_neg hy]; exact h
theorem hearW_but (w : World) (b : Nat) (S : QS) (n : Int) : But b w (hearW w b S n) := by
  unfold hearW
  split
  · exact (But.refl b w).setCell _ _
  · exact But.refl b w
theorem hearW_size (w : World) (b : Nat) (S : QS) (n : Int) : (hearW w b S n).heap.size = w.heap.size := by
  unfold hearW
  split
  · simp
  · rfl
theorem hearW_off {w : World} {b : Nat} {S : QS} {n : Int} {o : Nat} (h : o < 17 ∨ 33 ≤ o) : (hearW w b S n).cell? ⟨b, o, none⟩ = w.cell? ⟨b, o, none⟩ := by
  unfold hearW
  by_cases hy : hearB S n = true
  · rw [if_pos hy]
    have hy2 := hy
    unfold hearB at hy2
    obtain ⟨k, hk, rfl⟩ := has_node (Bool.and_eq_true_iff.1 hy2).1
    exact cell_off (by omega)
  · rw [if_neg hy]
end Go.Proofs.Ytcjcbbpolhpphaa.Qu
