/- The rows of NetOnce: what was sent, what is owed. -/
import Derived.Test.YtnjabhjcnkbgpaaNetOrderWalk
import Derived.Test.YtnjabhjcnkbgpaaNetOnceMath
set_option maxRecDepth 20000
set_option linter.unusedSimpArgs false
set_option linter.unusedVariables false
namespace Go.Proofs.Ytnjabhjcnkbgpaa
open Go.RowKit

def ocells (x : Sn) : List Value := [.int .i64 x.k, .int .i64 x.f, .int .i64 x.t, .string x.s]
theorem infoO : (Try.prog.info? 32).map (fun i => (i.zero, i.size, i.bytes)) = some (some (.agg #[.int .i64 0, .int .i64 0, .int .i64 0, .string ⟨#[]⟩]), 4, 40) := by kernel_rfl
theorem oflat_len (l : List Sn) : (l.flatMap ocells).length = l.length * 4 := by
  induction l with
  | nil => rfl
  | cons m r ih => rw [List.flatMap_cons, List.length_append, ih]; simp [ocells]; omega
theorem oflat_at (l : List Sn) (i : Nat) (h : i < l.length) (r : Nat) (hr : r < 4) : (l.flatMap ocells)[i * 4 + r]? = (ocells l[i])[r]? := by
  induction l generalizing i with
  | nil => simp at h
  | cons m t ih =>
    rw [List.flatMap_cons]
    cases i with
    | zero => rw [List.getElem?_append_left (by simp [ocells]; omega)]; simp
    | succ i =>
      rw [List.getElem?_append_right (by simp [ocells]; omega)]
      have e : (i + 1) * 4 + r - (ocells m).length = i * 4 + r := by simp [ocells]; omega
      rw [e, ih i (by simpa using h)]; simp
theorem ocells_one {l : List Sn} {u : Value} (h : u ∈ l.flatMap ocells) : u.oneCell' = true := by
  obtain ⟨p, _, hu⟩ := List.mem_flatMap.1 h
  simp [ocells] at hu
  rcases hu with rfl | rfl | rfl | rfl <;> rfl
def ORow (w : World) (B : Nat) (v : Value) (l : List Sn) : Prop := w.ownsRow B 32 4 v l.length (l.flatMap ocells)
theorem ORow.slice {w : World} {B : Nat} {v : Value} {l : List Sn} (h : ORow w B v l) : ∃ a c, v = .slice a l.length c := ownsRow_slice h
theorem ORow.nil (w : World) (B : Nat) : ORow w B (.slice none 0 0) [] := World.ownsRow_nil _ _ _ _
theorem ORow.later {w w' : World} {B : Nat} {v : Value} {l : List Sn} (h : ORow w B v l) (k : Below w.heap.size w w') : ORow w' B v l := owns_later h k
structure OAt (w : World) (g o : Nat) (x : Sn) : Prop where
  c0 : w.cell? ⟨g, o, none⟩ = some (.int .i64 x.k)
  c1 : w.cell? ⟨g, o + 1, none⟩ = some (.int .i64 x.f)
  c2 : w.cell? ⟨g, o + 2, none⟩ = some (.int .i64 x.t)
  c3 : w.cell? ⟨g, o + 3, none⟩ = some (.string x.s)
theorem ORow.block {w : World} {B : Nat} {a : Option Addr} {n c : Nat} {l : List Sn} (h : ORow w B (.slice a n c) l) (h0 : 0 < l.length) : ∃ g, a = some ⟨g, 0, none⟩ ∧ g < w.heap.size ∧ ∀ j (hj : j < l.length), OAt w g (j * 4) l[j] := by
  rcases h.2 with ⟨hv, h2⟩ | ⟨g, cap, cur, hv, hg, hh, hn, hm, hs, ht⟩
  · omega
  · have h1 := h
    unfold ORow at h1
    rw [hv] at h1
    injection hv with e1 e2 e3
    subst e1 e2
    have e := World.ownsRow.cellAt h1
    refine ⟨g, rfl, (Array.getElem?_eq_some_iff.1 hh).1, fun j hj => ?_⟩
    have f : ∀ r, r < 4 → w.cell? ⟨g, j * 4 + r, none⟩ = (ocells l[j])[r]? := fun r hr => by rw [e (j * 4 + r) (by omega), oflat_at l j hj r hr]
    exact ⟨f 0 (by decide), f 1 (by decide), f 2 (by decide), f 3 (by decide)⟩
/-- A message's record appended. -/
theorem wpList_sent {w : World} {ops : Array Oper} {rest : List Oper} {o : Oper} {a : Act} {Q : Exit → Act → World → Prop} (hgd : o.guard = none) (sl x : Operand)
    (ho : o.op = .call { callee := .builtin .append, args := #[sl, x], argTypes := #[22, 22] })
    (B : Nat) (v : Value) (l : List Sn) (y : Sn) (hs : a.eval sl = v) (hx : a.eval x = .slice (some ⟨w.heap.size, 0, none⟩) 1 1) (hown : ORow w B v l) (hB : B ≤ w.heap.size) (hl : l.length ≤ 1000)
    (h : ∀ v' w', ORow w' B v' (l ++ [y]) → w.grownBy w' v.ownBlock → (∀ k, v'.ownBlock = some k → v.ownBlock = some k ∨ w.heap.size ≤ k) → wpList Try.prog ops Q rest (a.put o.dst v') w') : wpList Try.prog ops Q (o :: rest) a (w.alloc (.cells #[.int .i64 y.k, .int .i64 y.f, .int .i64 y.t, .string y.s] 32)) := by
  obtain ⟨i0, hi, hz0, hz1, hz2⟩ := info_parts infoO
  have hr := hown.later (bel_al w (.cells #[.int .i64 y.k, .int .i64 y.f, .int .i64 y.t, .string y.s] 32))
  refine wpList_append_own_at (w := w.alloc (.cells #[.int .i64 y.k, .int .i64 y.f, .int .i64 y.t, .string y.s] 32)) hgd sl x 22 ho B 32 i0 _ 4 40 Try.underlying22 hi hz0 hz1 hz2 rfl (by decide) v l.length _ hs hr ⟨w.heap.size, 0, none⟩ 1 1 (ocells y) hx rfl ?_ ?_ (by unfold maxLen; omega) (by omega) (by simp; omega) ?_
  · intro j u hj
    have hlt : j < 4 := (List.getElem?_eq_some_iff.1 hj).1
    rw [mat_add]
    match j, hlt with
    | 0, _ => simp [ocells] at hj; rw [← hj]; simp [go_sem]
    | 1, _ => simp [ocells] at hj; rw [← hj]; simp [go_sem]
    | 2, _ => simp [ocells] at hj; rw [← hj]; simp [go_sem]
    | 3, _ => simp [ocells] at hj; rw [← hj]; simp [go_sem]
  · intro u hu; exact ocells_one (l := [y]) (by simpa using hu)
  · intro v' w' h2 h3 _ h4
    refine h v' w' ?_ (World.grownBy.trans (World.grownBy_alloc w _ _) h3) fun k hk => ?_
    · unfold ORow
      rw [List.length_append, List.flatMap_append, List.flatMap_cons, List.flatMap_nil, List.append_nil]
      exact h2
    · rcases h4 with h4 | h4
      · rw [h4] at hk; exact Or.inl hk
      · rw [h4] at hk; injection hk with hk; right; simp at hk; omega
/-- A number of places (here: of what is owed) has turned. -/
theorem PRow.stored {w : World} {B g n c : Nat} {ps : List Nat} (h : PRow w B (.slice (some ⟨g, 0, none⟩) n c) ps) (hn : ps.length = n) (j y : Nat) : PRow (w.setCell ⟨g, j, none⟩ (.int .i64 (y : Int))) B (.slice (some ⟨g, 0, none⟩) n c) (ps.set j y) := by
  subst hn
  have := (World.ownsRow.stored (show w.ownsRow B 3 1 (.slice (some ⟨g, 0, none⟩) ps.length c) ps.length (ps.map fun i : Nat => Value.int .i64 (i : Int)) from h) j (.int .i64 (y : Int))).1
  unfold PRow
  rw [List.length_set, List.map_set]
  exact this
theorem PRow.heap {w : World} {B g n c : Nat} {ps : List Nat} (h : PRow w B (.slice (some ⟨g, 0, none⟩) n c) ps) : (∃ cur, w.heap[g]? = some (.cells cur 3 (0, 0))) ∧ B ≤ g ∧ ∀ j, w.frozen? ⟨g, j, none⟩ = false := by
  rcases h.2 with ⟨hv, _⟩ | ⟨g', cap, cur, hv, hg, hh, _⟩
  · cases hv
  · injection hv with e1 e2 e3
    injection e1 with e1
    injection e1 with e1
    subst e1
    exact ⟨⟨cur, hh⟩, hg, fun j => frozen_of hh⟩
/-- Rows of two types lie in no one block. -/
theorem row_ne {w : World} {B B' sz sz' n n' : Nat} {T T' : TypeId} {u v : Value} {xs ys : List Value} (h : w.ownsRow B T sz u n xs) (h' : w.ownsRow B' T' sz' v n' ys) (hT : T ≠ T') : Ap u v := fun k e e2 => by
  obtain ⟨c, h1⟩ := row_heap h e
  obtain ⟨c', h2⟩ := row_heap h' e2
  exact kinds_ne h1 h2 hT rfl
theorem set_last (os : List Nat) (x y n : Nat) (h : os.length = n) : (os ++ [x]).set n y = os ++ [y] := by
  subst h
  rw [List.set_append_right _ _ (Nat.le_refl _), Nat.sub_self]; rfl
theorem owed_last {w : World} {B n c k : Nat} {a : Option Addr} {os : List Nat} (h : PRow w B (.slice a n c) (os ++ [1])) (hk : os.length = k) (hn : k + 1 = n) : ∃ g, a = some ⟨g, 0, none⟩ ∧ w.cell? ⟨g, k, none⟩ = some (.int .i64 1) ∧ w.frozen? ⟨g, k, none⟩ = false ∧ (∃ cur, w.heap[g]? = some (.cells cur 3 (0, 0))) ∧ B ≤ g ∧ PRow (w.setCell ⟨g, k, none⟩ (.int .i64 2)) B (.slice a n c) (os ++ [2]) := by
  have hl : (os ++ [1]).length = n := by rw [List.length_append, hk]; exact hn
  obtain ⟨g, rfl, -, -, -, hpc⟩ := h.block (by omega)
  obtain ⟨h1, h2, h3⟩ := h.heap
  have c := hpc k (by omega)
  have e : (os ++ [1])[k]'(by omega) = 1 := by subst hk; simp
  rw [e] at c
  have hs := h.stored hl k 2
  rw [set_last os 1 2 k hk] at hs
  exact ⟨g, rfl, c, h3 k, h1, h2, hs⟩
theorem str_ne {a b : ByteArray} (h : ¬ a = b) : (a.toList == b.toList) = false := by
  rw [ByteArray.toList_eq, ByteArray.toList_eq]
  apply Bool.eq_false_iff.2
  intro e
  exact h (ByteArray.ext (Array.toList_inj.1 (eq_of_beq e)))
end Go.Proofs.Ytnjabhjcnkbgpaa
