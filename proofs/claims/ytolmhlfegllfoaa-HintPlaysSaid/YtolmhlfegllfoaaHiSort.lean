/- slices.SortFunc at points, slices.Sort at numbers, by the library's contracts. -/
import Derived.Test.YtolmhlfegllfoaaHiOrd
import Derived.Test.YtolmhlfegllfoaaHiLay
import Derived.Shelf.SlSortCmp.NoneTotal
import Derived.Shelf.Sort.Plain
import Derived.Shelf.Slices.In.SortNone
set_option maxRecDepth 20000
set_option linter.unusedSimpArgs false
set_option linter.unusedVariables false
namespace Go.Proofs.Ytolmhlfegllfoaa.Qu.Hi
open Go.RowKit Go.Proofs.Ytolmhlfegllfoaa.Vi Go.Proofs.Ytolmhlfegllfoaa.Mk Go.Shelf Go.Lib Go.Sort

instance : Inhabited Pt := ⟨Pt.zero⟩
theorem flatK_list (l : List Pt) : (flatK cells6 6 l.toArray).toList = l.flatMap cells6 := by
  apply List.ext_getElem?
  intro t
  by_cases ht : t < l.length * 6
  · have e : (flatK cells6 6 l.toArray).toList[t]? = some (cells6 l.toArray[t / 6]!)[t % 6]! := by
      have h := get_flatK cells6 6 l.toArray t (by simpa using ht)
      rw [Array.getElem?_toList, Array.getElem?_eq_getElem (by simpa using ht)]
      rw [getElem!_pos _ t (by simpa using ht)] at h
      rw [h]
    have hi : t / 6 < l.length := by omega
    have hr : t % 6 < 6 := Nat.mod_lt _ (by decide)
    have hg : l.toArray[t / 6]! = l[t / 6] := by simp [hi]
    have e2 : (l.flatMap cells6)[t]? = (l.flatMap cells6)[t / 6 * 6 + t % 6]? := congrArg (fun z => (l.flatMap cells6)[z]?) (by omega)
    rw [e, hg, e2, flat6_at l (t / 6) hi (t % 6) hr]
    rw [List.getElem?_eq_getElem (by simp [cells6]; omega), getElem!_pos _ _ (by simp [cells6]; omega)]
  · rw [List.getElem?_eq_none (by simp; omega), List.getElem?_eq_none (by rw [flat6_len]; omega)]
theorem holds_row {w : World} {B g n cap : Nat} {l : List Pt} (h : PRow w B (.slice (some ⟨g, 0, none⟩) n cap) l) : HoldsK cells6 6 w g 0 l.toArray := by
  intro j hj
  have hj' : j < l.length * 6 := by simpa using hj
  have h0 := h
  obtain ⟨a, c, e⟩ := h.slice
  injection e with e1 e2 e3
  subst e2 e3
  refine ⟨?_, ?_⟩
  · have := World.ownsRow.cellAt (show w.ownsRow B 31 6 _ l.length (l.flatMap cells6) from h0) j hj'
    rw [Nat.zero_add, this, ← flatK_list, Array.getElem?_toList, Array.getElem?_eq_getElem hj, getElem!_pos _ j hj]; rfl
  · have := World.ownsRow.frozenAt (show w.ownsRow B 31 6 _ l.length (l.flatMap cells6) from h0) j
    rw [Nat.zero_add]; exact this
theorem row_putRow {w : World} {B g n cap q : Nat} {l d : List Pt} (h : PRow w B (.slice (some ⟨g, 0, none⟩) n cap) l) (hd : d.length = l.length) : PRow (putRowK cells6 6 (Sort.ahead w q) g 0 d.toArray) B (.slice (some ⟨g, 0, none⟩) n cap) d := by
  rcases h.2 with ⟨e0, _⟩ | ⟨g', cap', cur, e0, hb, hg, hn, hm, hs, ht⟩
  · cases e0
  · injection e0 with e1 e2 e3
    injection e1 with e1
    injection e1 with e1
    subst e1 e2 e3
    unfold PRow
    refine ⟨by rw [flat6_len], .inr ⟨g, cap, putCells id 0 (flatK cells6 6 d.toArray) cur, by rw [hd], hb, ?_, by omega, hm, by simpa [putCells] using hs, ?_⟩⟩
    · simp [putRowK, putRow, mapBlock, Sort.ahead, Array.getElem?_modify, hg, onCells]
    · rw [← flatK_list]
      apply List.ext_getElem?
      intro j
      rw [List.getElem?_take, Array.getElem?_toList]
      by_cases hj : j < d.length * 6
      · have hjc : j < cur.size := by omega
        simp only [if_pos hj, putCells, Array.getElem?_mapIdx, Array.getElem?_eq_getElem hjc, Option.map_some]
        rw [if_pos (by simp; omega), Array.getElem?_toList, Array.getElem?_eq_getElem (by simpa using hj)]
        simp [getElem!_pos, hj]
      · rw [if_neg hj, List.getElem?_eq_none (by simp; omega)]
theorem grown_sort {w : World} {g q : Nat} {d : Array Pt} {os : Array Obj} : w.grownBy (sortWorldK cells6 6 w g 0 q d os) (some g) := by
  unfold sortWorldK
  refine ⟨rfl, rfl, rfl, ?_, fun k hk h => ?_⟩
  · rw [size_grow, size_putRowK]; exact Nat.le_add_right _ _
  · have hne : g ≠ k := fun e => h (by rw [e])
    rw [show (grow (putRowK cells6 6 (Sort.ahead w q) g 0 d) os).heap = (putRowK cells6 6 (Sort.ahead w q) g 0 d).heap ++ os from rfl, Array.getElem?_append_left (by rw [size_putRowK]; exact hk)]
    simp [putRowK, putRow, mapBlock, Sort.ahead, Array.getElem?_modify, hne]
theorem below_grow (w : World) (os : Array Obj) : Below w.heap.size w (grow w os) := ⟨rfl, rfl, rfl, by simp [grow], fun k hk => by rw [show (grow w os).heap = w.heap ++ os from rfl, Array.getElem?_append_left hk]⟩
theorem sortp_is (v : Value) (l : List Pt) (B : Nat) (w : World) (h : PRow w B v l) (hl : l.length ≤ 1000000) :
    Calls Try.prog 35 #[v, .func (.func 36) #[] #[]] w fun e w' => e = .returned (.tuple #[]) ∧ PRow w' B v (srtO l) ∧ w.grownBy w' v.ownBlock := by
  rcases h.2 with ⟨e0, h0⟩ | ⟨g, cap, cur, e0, hb, hg, hn, hm, hs, ht⟩
  · subst e0
    obtain rfl := List.eq_nil_of_length_eq_zero h0
    exact (AnyF.slices_SortFunc_none sortPts none 0 _ w).mono fun e w' ⟨he, hw⟩ => ⟨he, by subst hw; rw [show srtO [] = [] by simp [srtO]]; exact h, by subst hw; exact World.grownBy.refl _ _⟩
  · subst e0
    have hlt : g < w.heap.size := (Array.getElem?_eq_some_iff.1 hg).1
    have eg : ∀ args w, (callFunc 36 args).run Try.prog w = .ok (.enter 36 args) w := enters_of Try.func36 (by kernel_rfl) rfl
    have hcon := AnyQ.slices_SortFunc_total sortPts 6 Try.isAgg31 Try.sizeOf31 cells6 (fun _ => rfl) (fun x v hv => by simp [cells6] at hv; rcases hv with rfl | rfl | rfl | rfl | rfl | rfl <;> rfl) ordI swoO 36 #[] g 0 cap l.toArray w eg (fun _ _ _ _ x y => (order_g x y _).mono fun e w' h => ⟨h.1, h.2.grow⟩) (holds_row h) hlt (by simp; omega) antiO
    refine hcon.mono fun e w' ⟨he, n, os, hw⟩ => ⟨he, ?_, ?_⟩
    · subst hw
      have h1 := row_putRow (q := n) h (srtO_len l)
      rw [srtO_eq]
      exact h1.later (below_grow _ _)
    · subst hw
      exact grown_sort
/-- Numbers in order. -/
def srtI (l : List Int) : List Int := l.mergeSort fun x y => decide (x ≤ y)
theorem srtI_len (l : List Int) : (srtI l).length = l.length := (List.mergeSort_perm _ _).length_eq
theorem srtI_perm (l : List Int) : (srtI l).Perm l := List.mergeSort_perm _ _
theorem srtI_pair (l : List Int) : (srtI l).Pairwise (fun x y => x ≤ y) := by
  have := List.pairwise_mergeSort (le := fun x y : Int => decide (x ≤ y)) (fun a b c h1 h2 => by simp at *; omega) (fun a b => by simp; omega) l
  exact this.imp fun {a b} h => by simpa using h
theorem srtI_uniq {l m : List Int} (hp : m.Perm l) (hs : m.Pairwise (fun x y => x ≤ y)) : m = srtI l :=
  List.Perm.eq_of_pairwise (le := fun x y => x ≤ y) (fun a b _ _ h1 h2 => by omega) hs (srtI_pair l) (hp.trans (srtI_perm l).symm)
theorem holds_irow {w : World} {B g n cap : Nat} {l : List Int} (h : IRow w B (.slice (some ⟨g, 0, none⟩) n cap) l) : Holds (Value.int .i64) w g 0 l.toArray := by
  intro j hj
  have hj' : j < l.length := by simpa using hj
  obtain ⟨g', e, hn, -, hc⟩ := h.cell (by omega)
  subst hn
  injection e with e
  injection e with e
  subst e
  refine ⟨?_, ?_⟩
  · rw [Nat.zero_add, hc j hj', getElem!_pos _ j hj]; simp
  · have := World.ownsRow.frozenAt (show w.ownsRow B 3 1 _ l.length (l.map icell) from h) j
    rw [Nat.zero_add]; exact this
theorem irow_putRow {w : World} {B g n cap q : Nat} {l d : List Int} (h : IRow w B (.slice (some ⟨g, 0, none⟩) n cap) l) (hd : d.length = l.length) : IRow (putRow (Value.int .i64) (Sort.ahead w q) g 0 d.toArray) B (.slice (some ⟨g, 0, none⟩) n cap) d := by
  rcases h.2 with ⟨e0, _⟩ | ⟨g', cap', cur, e0, hb, hg, hn, hm, hs, ht⟩
  · cases e0
  · injection e0 with e1 e2 e3
    injection e1 with e1
    injection e1 with e1
    subst e1 e2 e3
    unfold IRow
    refine ⟨by simp, .inr ⟨g, cap, putCells (Value.int .i64) 0 d.toArray cur, by rw [hd], hb, ?_, by omega, hm, by simpa [putCells] using hs, ?_⟩⟩
    · simp [putRow, mapBlock, Sort.ahead, Array.getElem?_modify, hg, onCells]
    · apply List.ext_getElem?
      intro j
      rw [List.getElem?_take, Array.getElem?_toList]
      by_cases hj : j < d.length
      · have hjc : j < cur.size := by omega
        simp only [putCells, Array.getElem?_mapIdx, Array.getElem?_eq_getElem hjc, Option.map_some]
        rw [if_pos (by simp; omega), if_pos (by simp; omega)]
        simp [hj, icell]
      · rw [if_neg (by simp; omega), List.getElem?_eq_none (by simp; omega)]
theorem grown_sorti {w : World} {g q : Nat} {d : Array Int} {os : Array Obj} : w.grownBy (grow (putRow (Value.int .i64) (Sort.ahead w q) g 0 d) os) (some g) := by
  refine ⟨rfl, rfl, rfl, ?_, fun k hk h => ?_⟩
  · simp [grow, putRow, mapBlock, Sort.ahead]
  · have hne : g ≠ k := fun e => h (by rw [e])
    rw [show (grow (putRow (Value.int .i64) (Sort.ahead w q) g 0 d) os).heap = (putRow (Value.int .i64) (Sort.ahead w q) g 0 d).heap ++ os from rfl, Array.getElem?_append_left (by simp [putRow, mapBlock, Sort.ahead]; exact hk)]
    simp [putRow, mapBlock, Sort.ahead, Array.getElem?_modify, hne]
theorem sorti_is (v : Value) (l : List Int) (B : Nat) (w : World) (h : IRow w B v l) (hl : l.length ≤ 1000000) :
    Calls Try.prog 40 #[v] w fun e w' => e = .returned (.tuple #[]) ∧ IRow w' B v (srtI l) ∧ w.grownBy w' v.ownBlock := by
  rcases h.2 with ⟨e0, h0⟩ | ⟨g, cap, cur, e0, hb, hg, hn, hm, hs, ht⟩
  · subst e0
    obtain rfl := List.eq_nil_of_length_eq_zero h0
    exact (Any.slices_Sort_int_none sortInts none 0 w).mono fun e w' ⟨he, hw⟩ => ⟨he, by subst hw; rw [show srtI [] = [] by simp [srtI]]; exact h, by subst hw; exact World.grownBy.refl _ _⟩
  · subst e0
    have hlt : g < w.heap.size := (Array.getElem?_eq_some_iff.1 hg).1
    have hcon := Any.slices_Sort_int sortInts g 0 cap l w (holds_irow h) hlt (by omega)
    refine hcon.mono fun e w' ⟨he, n, os, hw⟩ => ⟨he, ?_, ?_⟩
    · subst hw
      exact (irow_putRow (q := n) h (srtI_len l)).later (below_grow _ _)
    · subst hw
      exact grown_sorti
end Go.Proofs.Ytolmhlfegllfoaa.Qu.Hi
