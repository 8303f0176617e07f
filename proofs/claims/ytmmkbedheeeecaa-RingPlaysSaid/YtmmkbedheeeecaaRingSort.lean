/- slices.SortFunc at points. -/
import Derived.Test.YtmmkbedheeeecaaRingCmp
import Derived.Test.YtmmkbedheeeecaaRingLay
set_option maxRecDepth 20000
namespace Go.Proofs.Ytmmkbedheeeecaa
open Go.RowKit Go.Shelf Go.Lib Go.Sort

theorem lt_is (x y : Pt) : ltOf cfP x y = decide (x.a < y.a ∨ (x.a = y.a ∧ x.n < y.n)) := by
  unfold ltOf cfP orI cmpI
  by_cases h1 : x.a < y.a
  · simp [h1]
  · by_cases h2 : y.a < x.a
    · have : ¬ x.a = y.a := by omega
      simp [h1, h2, this]
    · have e : x.a = y.a := by omega
      by_cases h3 : x.n < y.n
      · simp [e, h3]
      · by_cases h4 : y.n < x.n <;> simp [e, h3, h4]
theorem swoP : SWO (ltOf cfP) where
  irrefl x := by rw [lt_is]; simp
  trans x y z h1 h2 := by rw [lt_is] at *; simp only [decide_eq_true_eq] at *; omega
  ntrans x y z h1 h2 := by rw [lt_is] at *; simp only [decide_eq_false_iff_not] at *; omega
theorem antiP (x y : Pt) (h1 : ltOf cfP x y = false) (h2 : ltOf cfP y x = false) : x = y := by
  rw [lt_is] at *
  simp only [decide_eq_false_iff_not] at *
  exact Pt.eq (by omega) (by omega)
/-- The points in order. -/
def srt (l : List Pt) : List Pt := l.mergeSort fun x y => !(ltOf cfP) y x
theorem srt_len (l : List Pt) : (srt l).length = l.length := (List.mergeSort_perm _ _).length_eq
theorem flatK_list (l : List Pt) : (flatK cellsP 2 l.toArray).toList = l.flatMap cellsP := by
  apply List.ext_getElem?
  intro t
  by_cases ht : t < l.length * 2
  · have e : (flatK cellsP 2 l.toArray).toList[t]? = some (cellsP l.toArray[t / 2]!)[t % 2]! := by
      have h := get_flatK cellsP 2 l.toArray t (by simpa using ht)
      rw [Array.getElem?_toList, Array.getElem?_eq_getElem (by simpa using ht)]
      rw [getElem!_pos _ t (by simpa using ht)] at h
      rw [h]
    have hi : t / 2 < l.length := by omega
    have hg : l.toArray[t / 2]! = l[t / 2] := by simp [hi]
    rw [e, hg]
    obtain ⟨a1, a2⟩ := flatP_at l (t / 2) hi
    by_cases hr : t % 2 = 0
    · have e2 : (l.flatMap cellsP)[t]? = (l.flatMap cellsP)[t / 2 * 2]? := congrArg (fun z => (l.flatMap cellsP)[z]?) (by omega)
      rw [hr, e2, a1]; rfl
    · have e2 : (l.flatMap cellsP)[t]? = (l.flatMap cellsP)[t / 2 * 2 + 1]? := congrArg (fun z => (l.flatMap cellsP)[z]?) (by omega)
      rw [show t % 2 = 1 by omega, e2, a2]; rfl
  · rw [List.getElem?_eq_none (by simp; omega), List.getElem?_eq_none (by rw [flatP_len]; omega)]
theorem holds_row {w : World} {B g n cap : Nat} {T : TypeId} {l : List Pt} (h : PRow w B T (.slice (some ⟨g, 0, none⟩) n cap) l) : HoldsK cellsP 2 w g 0 l.toArray := by
  intro j hj
  have hj' : j < l.length * 2 := by simpa using hj
  have h0 := h
  obtain ⟨a, c, e⟩ := h.slice
  injection e with e1 e2 e3
  subst e2 e3
  refine ⟨?_, ?_⟩
  · have := World.ownsRow.cellAt (show w.ownsRow B T 2 _ l.length (l.flatMap cellsP) from h0) j hj'
    rw [Nat.zero_add, this, ← flatK_list, Array.getElem?_toList, Array.getElem?_eq_getElem hj, getElem!_pos _ j hj]; rfl
  · have := World.ownsRow.frozenAt (show w.ownsRow B T 2 _ l.length (l.flatMap cellsP) from h0) j
    rw [Nat.zero_add]; exact this
theorem row_putRow {w : World} {B g n cap q : Nat} {T : TypeId} {l d : List Pt} (h : PRow w B T (.slice (some ⟨g, 0, none⟩) n cap) l) (hd : d.length = l.length) : PRow (putRowK cellsP 2 (Sort.ahead w q) g 0 d.toArray) B T (.slice (some ⟨g, 0, none⟩) n cap) d := by
  rcases h.2 with ⟨e0, _⟩ | ⟨g', cap', cur, e0, hb, hg, hn, hm, hs, ht⟩
  · cases e0
  · injection e0 with e1 e2 e3
    injection e1 with e1
    injection e1 with e1
    subst e1 e2 e3
    unfold PRow
    refine ⟨by rw [flatP_len], .inr ⟨g, cap, putCells id 0 (flatK cellsP 2 d.toArray) cur, by rw [hd], hb, ?_, by omega, hm, by simpa [putCells] using hs, ?_⟩⟩
    · simp [putRowK, putRow, mapBlock, Sort.ahead, Array.getElem?_modify, hg, onCells]
    · rw [← flatK_list]
      apply List.ext_getElem?
      intro j
      rw [List.getElem?_take, Array.getElem?_toList]
      by_cases hj : j < d.length * 2
      · have hjc : j < cur.size := by omega
        simp only [if_pos hj, putCells, Array.getElem?_mapIdx, Array.getElem?_eq_getElem hjc, Option.map_some]
        rw [if_pos (by simp; omega), Array.getElem?_toList, Array.getElem?_eq_getElem (by simpa using hj)]
        simp [getElem!_pos, hj]
      · rw [if_neg hj, List.getElem?_eq_none (by simp; omega)]
theorem grown_sort {w : World} {g q : Nat} {d : Array Pt} {os : Array Obj} : w.grownBy (sortWorldK cellsP 2 w g 0 q d os) (some g) := by
  unfold sortWorldK
  refine ⟨rfl, rfl, rfl, ?_, fun k hk h => ?_⟩
  · rw [size_grow, size_putRowK]; exact Nat.le_add_right _ _
  · have hne : g ≠ k := fun e => h (by rw [e])
    rw [show (grow (putRowK cellsP 2 (Sort.ahead w q) g 0 d) os).heap = (putRowK cellsP 2 (Sort.ahead w q) g 0 d).heap ++ os from rfl, Array.getElem?_append_left (by rw [size_putRowK]; exact hk)]
    simp [putRowK, putRow, mapBlock, Sort.ahead, Array.getElem?_modify, hne]
theorem below_grow (w : World) (os : Array Obj) : Below w.heap.size w (grow w os) := ⟨rfl, rfl, rfl, by simp [grow], fun k hk => by rw [show (grow w os).heap = w.heap ++ os from rfl, Array.getElem?_append_left hk]⟩
theorem sort_is (v : Value) (l : List Pt) (B : Nat) (w : World) (h : PRow w B 61 v l) (hl : l.length ≤ 1000000) :
    Calls Try.prog 28 #[v, .func (.func 29) #[] #[]] w fun e w' => e = .returned (.tuple #[]) ∧ PRow w' B 61 v (srt l) ∧ w.grownBy w' v.ownBlock := by
  rcases h.2 with ⟨e0, h0⟩ | ⟨g, cap, cur, e0, hb, hg, hn, hm, hs, ht⟩
  · subst e0
    obtain rfl := List.eq_nil_of_length_eq_zero h0
    exact (AnyF.slices_SortFunc_none sortPts none 0 _ w).mono fun e w' ⟨he, hw⟩ => ⟨he, by subst hw; rw [show srt [] = [] by simp [srt]]; exact h, by subst hw; exact World.grownBy.refl _ _⟩
  · subst e0
    have hlt : g < w.heap.size := (Array.getElem?_eq_some_iff.1 hg).1
    have eg : ∀ args w, (callFunc 29 args).run Try.prog w = .ok (.enter 29 args) w := enters_of Try.func29 (by kernel_rfl) rfl
    have hcon := AnyQ.slices_SortFunc_total sortPts 2 Try.isAgg61 Try.sizeOf61 cellsP (fun _ => rfl) (fun x v hv => by simp [cellsP] at hv; rcases hv with rfl | rfl <;> rfl) cfP swoP 29 #[] g 0 cap l.toArray w eg (fun _ _ _ _ x y => new1_is x y _) (holds_row h) hlt (by simp; omega) antiP
    refine hcon.mono fun e w' ⟨he, n, os, hw⟩ => ⟨he, ?_, ?_⟩
    · subst hw
      have h1 := row_putRow (q := n) h (srt_len l)
      exact h1.later (below_grow _ _)
    · subst hw
      exact grown_sort
end Go.Proofs.Ytmmkbedheeeecaa
