/- HintDrops: what is kept of each node's list, what is gone; sixteen slices of points in an array. -/
import Derived.Test.YtolmhlfegllfoaaHiAwake
set_option maxRecDepth 20000
set_option linter.unusedSimpArgs false
set_option linter.unusedVariables false
namespace Go.Proofs.Ytolmhlfegllfoaa.Qu.Hi
open Go.RowKit Go.Maps Go.Proofs.Ytolmhlfegllfoaa.Vi Go.Proofs.Ytolmhlfegllfoaa.Mk

def hadL (L : List Hk) (t n : Int) : List Pt := (forL L n 600).filter fun p => decide (t ≤ p.t)
theorem for_all {L : List Hk} {n : Int} (h : L.length ≤ 600) : forL L n 600 = srtO (ofL L n) := by
  unfold forL
  refine List.take_of_length_le ?_
  rw [srtO_len]
  exact Nat.le_trans (ofL_len L n) h
theorem of_drop (L : List Hk) (t n : Int) : ofL (dropL L t) n = (ofL L n).filter fun p => decide (t ≤ p.t) := by
  unfold ofL dropL
  induction L with
  | nil => rfl
  | cons x L ih => by_cases h1 : t ≤ x.p.t <;> by_cases h2 : x.n = n <;> simp [List.filter_cons, h1, h2, ih] at ih ⊢ <;> exact ih
theorem drop_len (L : List Hk) (t : Int) : (dropL L t).length ≤ L.length := List.length_filter_le _ _
theorem had_is {L : List Hk} {t n : Int} (h : L.length ≤ 600) : forL (dropL L t) n 600 = hadL L t n := by
  unfold hadL
  rw [for_all h, for_all (Nat.le_trans (drop_len L t) h), of_drop]
  exact (srtO_uniq ((srtO_perm _).filter _) ((srtO_pair _).filter _)).symm
theorem drop_drop (L : List Hk) (t : Int) : dropL (dropL L t) t = dropL L t := by
  unfold dropL; rw [List.filter_filter]; simp
def goneN (L : List Hk) (t : Int) (xs : List Int) : Nat := (L.filter fun x => decide (x.n ∈ xs) && !decide (t ≤ x.p.t)).length
theorem gone_nil (L : List Hk) (t : Int) : goneN L t [] = 0 := by unfold goneN; simp
theorem gone_of (L : List Hk) (t n : Int) : ((ofL L n).filter fun p => !decide (t ≤ p.t)).length = (L.filter fun x => decide (x.n = n) && !decide (t ≤ x.p.t)).length := by
  unfold ofL
  induction L with
  | nil => rfl
  | cons x L ih => by_cases h1 : t ≤ x.p.t <;> by_cases h2 : x.n = n <;> simp [List.filter_cons, h1, h2] at ih ⊢ <;> omega
theorem gone_snoc {L : List Hk} {t n : Int} {xs : List Int} (hn : n ∉ xs) (h : L.length ≤ 600) : goneN L t (xs ++ [n]) = goneN L t xs + ((forL L n 600).filter fun p => !decide (t ≤ p.t)).length := by
  rw [for_all h, ((srtO_perm (ofL L n)).filter _).length_eq, gone_of]
  unfold goneN
  clear h
  induction L with
  | nil => rfl
  | cons x L ih =>
    by_cases h1 : t ≤ x.p.t
    · simp [List.filter_cons, h1] at ih ⊢; exact ih
    · by_cases h2 : x.n = n
      · have h3 : x.n ∉ xs := by rw [h2]; exact hn
        simp [List.filter_cons, h1, h2, hn] at ih ⊢
        omega
      · by_cases h3 : x.n ∈ xs
        · simp [List.filter_cons, h1, h2, h3] at ih ⊢
          omega
        · simp [List.filter_cons, h1, h2, h3] at ih ⊢
          exact ih
theorem gone_end {L : List Hk} {t : Int} {xs : List Int} (h : ∀ x ∈ L, x.n ∈ xs) : goneN L t xs + (dropL L t).length = L.length := by
  unfold goneN dropL
  induction L with
  | nil => rfl
  | cons x L ih =>
    have h0 := h x (by simp)
    have ih := ih fun y hy => h y (List.mem_cons_of_mem _ hy)
    by_cases h1 : t ≤ x.p.t
    · simp [List.filter_cons, h1, h0] at ih ⊢
      omega
    · simp [List.filter_cons, h1, h0] at ih ⊢
      omega
/-- A beginning of a list, parted. -/
def keptK (M : List Pt) (t : Int) (k : Nat) : List Pt := (M.take k).filter fun p => decide (t ≤ p.t)
def goneK (M : List Pt) (t : Int) (k : Nat) : Nat := ((M.take k).filter fun p => !decide (t ≤ p.t)).length
theorem kept_yes {M : List Pt} {t : Int} {k : Nat} (h : k < M.length) (ht : t ≤ M[k].t) : keptK M t (k + 1) = keptK M t k ++ [M[k]] ∧ goneK M t (k + 1) = goneK M t k := by
  unfold keptK goneK
  rw [List.take_succ_eq_append_getElem h, List.filter_append, List.filter_append]
  simp [ht]
theorem kept_no {M : List Pt} {t : Int} {k : Nat} (h : k < M.length) (ht : ¬ t ≤ M[k].t) : keptK M t (k + 1) = keptK M t k ∧ goneK M t (k + 1) = goneK M t k + 1 := by
  unfold keptK goneK
  rw [List.take_succ_eq_append_getElem h, List.filter_append, List.filter_append]
  simp [ht]
theorem keptK_len (M : List Pt) (t : Int) (k : Nat) : (keptK M t k).length ≤ k := by
  unfold keptK
  refine Nat.le_trans (List.length_filter_le _ _) ?_
  rw [List.length_take]; omega
theorem goneK_len (M : List Pt) (t : Int) (k : Nat) : goneK M t k ≤ k := by
  unfold goneK
  refine Nat.le_trans (List.length_filter_le _ _) ?_
  rw [List.length_take]; omega
theorem for_len (L : List Hk) (n most : Int) : (forL L n most).length ≤ L.length := by
  unfold forL
  rw [List.length_take, srtO_len]
  have := ofL_len L n
  omega
theorem nodes_mem {l : List Int} {n : Int} : n ∈ nodesL l ↔ (0 ≤ n ∧ n < 16) ∧ n ∈ l := by
  rw [show nodesL l = pick (inL l) from rfl, pick_mem]
  unfold inL
  rw [decide_eq_true_eq]
theorem nodes_nodup (l : List Int) : (nodesL l).Nodup := pick_nodup (inL l)
theorem add_nodes {L : List Hk} {room : Int} {p : Pt} {l : List Int} (h : ∀ x ∈ L, x.n ∈ nodesL l) : ∀ x ∈ addL L room p l, x.n ∈ nodesL l := fun x hx => by
  unfold addL at hx
  split at hx
  · rcases List.mem_append.1 hx with hx | hx
    · exact h x hx
    · obtain ⟨-, h1, h2, -⟩ := fresh_mem.1 hx
      exact nodes_mem.2 ⟨h1, h2⟩
  · exact h x hx
theorem take_new {A : List Int} {i : Nat} (hA : A.Nodup) (h : i < A.length) : A[i] ∉ A.take i := fun hm => by
  obtain ⟨j, hj, e⟩ := List.getElem_of_mem hm
  rw [List.length_take] at hj
  rw [List.getElem_take] at e
  exact List.pairwise_iff_getElem.1 hA j i (by omega) h (by omega) e
theorem short_fits {p : Pt} (h : p.fits) : (Pt.short p).fits := ⟨by
  show (cutB p.s 60).size ≤ _
  have := cutB_len p.s 60
  omega, h.t, h.v⟩
theorem short_size (p : Pt) : (Pt.short p).s.size ≤ 60 := by
  exact cutB_len p.s 60
/-- append(l, y), as an equation. -/
theorem appP_run {w : World} {B r : Nat} {v : Value} {xs : List Pt} (y : Pt) (ty : TypeId) (hr : xs.length = r) (hR : PRow w B v xs) (hlen : r + 1 ≤ 1000000) (hB : B ≤ w.heap.size) :
    ∃ a' c' w', (Builtin.append_ #[PTT, PTT] ty #[v, .slice (some ⟨w.heap.size, 0, none⟩) 1 1]).run Try.prog (w.alloc (.cells #[.string y.s, .int .i64 y.t, .int .i64 y.v, .int .i64 y.st.c, .int .i64 y.st.s, .int .i64 y.st.q] 31)) = .ok (.slice a' (r + 1) c') w' ∧ PRow w' B (.slice a' (r + 1) c') (xs ++ [y]) ∧ w.grownBy w' v.ownBlock := by
  obtain ⟨i0, hi, hz0, hz1, hz2⟩ := info_parts infoP
  have hR2 : w.ownsRow B 31 6 v r (xs.flatMap cells6) := by have := hR; unfold PRow at this; rw [hr] at this; exact this
  have hl : (xs ++ [y]).length = r + 1 := by rw [List.length_append, hr]; rfl
  obtain ⟨v', w', hrun, h2, h3, -, -⟩ := run_append_own_at (P := Try.prog) (w.alloc (.cells #[.string y.s, .int .i64 y.t, .int .i64 y.v, .int .i64 y.st.c, .int .i64 y.st.s, .int .i64 y.st.q] 31)) B PTT ty 31 i0 (.agg #[.string ⟨#[]⟩, .int .i64 0, .int .i64 0, .int .i64 0, .int .i64 0, .int .i64 0]) 6 56 Try.underlying36 hi hz0 hz1 hz2 rfl (by decide) v r (xs.flatMap cells6) (hR2.alloc _) ⟨w.heap.size, 0, none⟩ 1 1 (cells6 y) (by simp [cells6]) (by
    intro j u hj
    have hjl : j < 6 := by have := (List.getElem?_eq_some_iff.1 hj).1; simpa [cells6] using this
    match j, hjl with
    | 0, _ | 1, _ | 2, _ | 3, _ | 4, _ | 5, _ => simp [cells6] at hj; subst hj; simp [Addr.add]) (fun u hu => cells6_one (l := [y]) (by simpa using hu)) (by unfold maxLen; omega) (by omega) (by simp; omega)
  have hR3 : PRow w' B v' (xs ++ [y]) := by
    unfold PRow
    rw [hl, List.flatMap_append]
    simpa using h2
  obtain ⟨a', c', e⟩ := hR3.slice
  rw [hl] at e
  subst e
  exact ⟨a', c', w', hrun, hR3, (World.grownBy_alloc w _ _).trans h3⟩
/-- Sixteen slices in an array. -/
structure Box16 (w : World) (A : Nat) (V : Nat → Value) : Prop where
  obj : ∃ cur, w.heap[A]? = some (.cells cur 63 (0, 0)) ∧ cur.size = 16 ∧ ∀ q, q < 16 → cur[q]? = some (V q)
theorem Box16.lt {w : World} {A : Nat} {V : Nat → Value} (h : Box16 w A V) : A < w.heap.size := by
  obtain ⟨cur, h1, -, -⟩ := h.obj
  exact (Array.getElem?_eq_some_iff.1 h1).1
theorem Box16.kept {w w' : World} {A : Nat} {V : Nat → Value} (h : Box16 w A V) (k : w'.heap[A]? = w.heap[A]?) : Box16 w' A V := by
  obtain ⟨cur, h1, h2, h3⟩ := h.obj
  exact ⟨⟨cur, k.trans h1, h2, h3⟩⟩
theorem Box16.later {w w' : World} {A : Nat} {V : Nat → Value} (h : Box16 w A V) (k : Below w.heap.size w w') : Box16 w' A V := h.kept (k.block _ h.lt)
theorem Box16.cell {w : World} {A q : Nat} {V : Nat → Value} (h : Box16 w A V) (hq : q < 16) : w.cell? ⟨A, q, none⟩ = some (V q) := by
  obtain ⟨cur, h1, h2, h3⟩ := h.obj
  unfold World.cell?
  dsimp only
  rw [h1]
  exact h3 q hq
theorem Box16.soft {w : World} {A : Nat} {V : Nat → Value} (h : Box16 w A V) (q : Nat) : w.frozen? ⟨A, q, none⟩ = false := by
  obtain ⟨cur, h1, -, -⟩ := h.obj
  unfold World.frozen?
  dsimp only
  rw [h1]
  simp
def updV (V : Nat → Value) (q : Nat) (v : Value) : Nat → Value := fun j => if j = q then v else V j
theorem Box16.set {w : World} {A q : Nat} {V : Nat → Value} (h : Box16 w A V) (hq : q < 16) (v : Value) : Box16 (w.setCell ⟨A, q, none⟩ v) A (updV V q v) := by
  obtain ⟨cur, h1, h2, h3⟩ := h.obj
  refine ⟨⟨cur.setIfInBounds q v, ?_, by simp [h2], fun j hj => ?_⟩⟩
  · unfold World.setCell
    dsimp only
    rw [Array.getElem?_modify, if_pos rfl, h1]
    rfl
  · unfold updV
    rw [Array.getElem?_setIfInBounds]
    by_cases e : j = q
    · subst e; simp [h2, hj]
    · rw [if_neg (fun k => e k.symm), if_neg e]; exact h3 j hj
theorem Box16.new (w : World) : Box16 (w.alloc (.cells #[.slice none 0 0, .slice none 0 0, .slice none 0 0, .slice none 0 0, .slice none 0 0, .slice none 0 0, .slice none 0 0, .slice none 0 0, .slice none 0 0, .slice none 0 0, .slice none 0 0, .slice none 0 0, .slice none 0 0, .slice none 0 0, .slice none 0 0, .slice none 0 0] 63)) w.heap.size fun _ => .slice none 0 0 :=
  ⟨⟨_, heap_alloc_new _ _, rfl, fun q hq => by
    obtain rfl | rfl | rfl | rfl | rfl | rfl | rfl | rfl | rfl | rfl | rfl | rfl | rfl | rfl | rfl | rfl : q = 0 ∨ q = 1 ∨ q = 2 ∨ q = 3 ∨ q = 4 ∨ q = 5 ∨ q = 6 ∨ q = 7 ∨ q = 8 ∨ q = 9 ∨ q = 10 ∨ q = 11 ∨ q = 12 ∨ q = 13 ∨ q = 14 ∨ q = 15 := by omega
    all_goals rfl⟩⟩
end Go.Proofs.Ytolmhlfegllfoaa.Qu.Hi
