/- Lists of records that a call makes; All. -/
import Derived.Test.YthifmfgnblecbaaOgLook
import Derived.Lib.AppendZeros
set_option maxRecDepth 20000
set_option linter.unusedSimpArgs false
set_option linter.unusedVariables false
namespace Go.Proofs.Ythifmfgnblecbaa.Og
open Go.RowKit Go.Proofs.Ythifmfgnblecbaa.Vi Go.Proofs.Ythifmfgnblecbaa.Mk

/-- v is a list of the records l that was made above B. -/
structure Rows (w : World) (B : Nat) (v : Value) (l : List Rec) : Prop where
  has : ∃ ys : List Rd, ORow w B v ys ∧ ys.map Rd.r = l ∧ ∀ y ∈ ys, Ns w y.dv y.r.d ∧ ∀ q, y.dv.ownBlock = some q → B ≤ q ∧ q < w.heap.size ∧ v.ownBlock ≠ some q
theorem Rows.nil (w : World) (B : Nat) : Rows w B (.slice none 0 0) [] := ⟨⟨[], ORow.nil _ _, rfl, fun y h => by cases h⟩⟩
theorem Rows.slice {w : World} {B : Nat} {v : Value} {l : List Rec} (h : Rows w B v l) : ∃ a c, v = .slice a l.length c := by
  obtain ⟨ys, h1, h2, -⟩ := h.has
  have := h1.slice
  rw [← h2, List.length_map]
  exact this
theorem Rows.lt {w : World} {B : Nat} {v : Value} {l : List Rec} (h : Rows w B v l) {k : Nat} (hk : v.ownBlock = some k) : B ≤ k ∧ k < w.heap.size := by
  obtain ⟨ys, h1, -, -⟩ := h.has; exact h1.lt hk
theorem Rows.other {w w' : World} {B : Nat} {v : Value} {l : List Rec} (h : Rows w B v l) (hs : w.heap.size ≤ w'.heap.size) (k : ∀ g, B ≤ g → g < w.heap.size → w'.heap[g]? = w.heap[g]?) : Rows w' B v l := by
  obtain ⟨ys, h1, h2, h3⟩ := h.has
  refine ⟨⟨ys, h1.other fun g hg => k g (h1.lt hg).1 (h1.lt hg).2, h2, fun y hy => ⟨Ns.other (h3 y hy).1 hs fun q hq hl => k q ((h3 y hy).2 q hq).1 hl, fun q hq => ?_⟩⟩⟩
  have := (h3 y hy).2 q hq
  exact ⟨this.1, by omega, this.2.2⟩
theorem Rows.later {w w' : World} {B : Nat} {v : Value} {l : List Rec} (h : Rows w B v l) (k : Below w.heap.size w w') : Rows w' B v l := h.other k.size fun g _ hg => k.block g hg
theorem Rows.base {w : World} {B B' : Nat} {v : Value} {l : List Rec} (h : Rows w B v l) (k : B' ≤ B) : Rows w B' v l := by
  obtain ⟨ys, h1, h2, h3⟩ := h.has
  refine ⟨⟨ys, h1.base k, h2, fun y hy => ⟨(h3 y hy).1, fun q hq => ?_⟩⟩⟩
  have := (h3 y hy).2 q hq
  exact ⟨by omega, this.2⟩
/-- append(l, y), y a copy. -/
theorem Rows.app {w : World} {B r : Nat} {v : Value} {l : List Rec} {x : Rd} (hr : Hid (l.length = r)) (h : Rows w B v l) (hx : Ns w x.dv x.r.d) (hq : ∀ q, x.dv.ownBlock = some q → B ≤ q ∧ q < w.heap.size ∧ v.ownBlock ≠ some q) (hlen : r + 1 ≤ 1000000) (hB : B ≤ w.heap.size) :
    ∃ a' c' w', (Builtin.append_ #[43, 43] 43 #[v, .slice (some ⟨w.heap.size, 0, none⟩) 1 1]).run Try.prog (w.alloc (box9 x)) = .ok (.slice a' (r + 1) c') w' ∧ Rows w' B (.slice a' (r + 1) c') (l ++ [x.r]) ∧ Below B w w' ∧ w.grownBy w' v.ownBlock := by
  obtain ⟨ys, h1, h2, h3⟩ := h.has
  have hal := (Below.refl w.heap.size w).alloc (Nat.le_refl _) (box9 x)
  obtain ⟨a', c', w', e1, e2, e3, e4⟩ := ORow.app (w := w.alloc (box9 x)) (r := r) (zs := ys) 43 (by have := hr.out; rw [← h2, List.length_map] at this; exact this) (h1.later hal) (R9.new w x) hlen (Nat.le_trans hB hal.size)
  have hg : w.grownBy w' v.ownBlock := ⟨e3.os.trans hal.os, e3.tape.trans hal.tape, e3.output.trans hal.output, Nat.le_trans hal.size e3.size, fun k hk hne => (e3.block k (Nat.lt_of_lt_of_le hk hal.size) hne).trans (hal.block k hk)⟩
  have hnew : ∀ q, q < w.heap.size → v.ownBlock ≠ some q → (Value.slice a' (r + 1) c').ownBlock ≠ some q := fun q hl hne e => by
    rcases e4 q e with k | k
    · exact hne k
    · simp only [World.size_alloc] at k; omega
  refine ⟨a', c', w', e1, ⟨⟨ys ++ [x], e2, by rw [List.map_append, h2]; rfl, fun y hy => ?_⟩⟩, ⟨hg.os, hg.tape, hg.output, hg.size, fun k hk => hg.block k (by omega) (fun e => by have := (h1.lt e.symm).1; omega)⟩, hg⟩
  have keep : ∀ z : Rd, Ns w z.dv z.r.d → (∀ q, z.dv.ownBlock = some q → B ≤ q ∧ q < w.heap.size ∧ v.ownBlock ≠ some q) → Ns w' z.dv z.r.d ∧ ∀ q, z.dv.ownBlock = some q → B ≤ q ∧ q < w'.heap.size ∧ (Value.slice a' (r + 1) c').ownBlock ≠ some q := fun z n1 n2 =>
    ⟨Ns.other n1 hg.size fun q hq hl => hg.block q hl (fun e => (n2 q hq).2.2 e.symm), fun q hq => ⟨(n2 q hq).1, Nat.lt_of_lt_of_le (n2 q hq).2.1 hg.size, hnew q (n2 q hq).2.1 (n2 q hq).2.2⟩⟩
  rcases List.mem_append.1 hy with hy | hy
  · exact keep y (h3 y hy).1 (h3 y hy).2
  · rw [List.mem_singleton] at hy; subst hy; exact keep _ hx hq
def AllDone (l : List Rec) (w : World) (e : Ending) (w' : World) : Prop := ∃ v, e = .returned v ∧ Rows w' w.heap.size v l ∧ Below w.heap.size w w'
structure AlJ (w wr : World) (L : List Rec) (k : Nat) (v : Value) : Prop where
  row : Rows wr w.heap.size v (L.take k)
  bel : Below w.heap.size w wr
end Go.Proofs.Ythifmfgnblecbaa.Og
