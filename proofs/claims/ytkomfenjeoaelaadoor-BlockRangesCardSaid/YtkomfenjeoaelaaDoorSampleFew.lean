/- The contract of the laws' own few: at most 30 points, with short names. -/
import Derived.Test.YtkomfenjeoaelaaDoorSamplePts
import Derived.Test.YtkomfenjeoaelaaDoorSampleSmall
set_option maxRecDepth 20000
namespace Go.Proofs.YtkomfenjeoaelaaDoor
open Go.RowKit Go.Proofs.YtkomfenjeoaelaaDoor.Vi Go.Proofs.YtkomfenjeoaelaaDoor.Mk

def Pt.short (p : Pt) : Pt := { p with s := cutB p.s 60 }
def fewL (l : List Pt) : List Pt := (l.take 30).map Pt.short
theorem fewL_len (l : List Pt) : (fewL l).length ≤ 30 := by unfold fewL; rw [List.length_map, List.length_take]; omega
theorem cutB_len (s : ByteArray) (n : Nat) : (cutB s n).size ≤ n := by unfold cutB; split <;> (try simp [ByteArray.size_extract]) <;> omega
theorem fewL_short {l : List Pt} {p : Pt} (h : p ∈ fewL l) : p.s.size ≤ 60 := by
  obtain ⟨q, -, rfl⟩ := List.mem_map.1 (show p ∈ (l.take 30).map Pt.short from h)
  exact cutB_len _ _
theorem fewL_fits {l : List Pt} (hf : ∀ p ∈ l, p.fits) {p : Pt} (h : p ∈ fewL l) : p.fits := by
  obtain ⟨q, hq, rfl⟩ := List.mem_map.1 (show p ∈ (l.take 30).map Pt.short from h)
  have hq := hf q (List.mem_of_mem_take hq)
  exact ⟨by have := cutB_len q.s 60; show (cutB q.s 60).size ≤ _; omega, hq.t, hq.v⟩
theorem owns6_later {w w' : World} {B size n : Nat} {e : TypeId} {v : Value} {xs : List Value} (h : w.ownsRow B e size v n xs) (k : Below w.heap.size w w') : w'.ownsRow B e size v n xs := by
  obtain ⟨h1, h2⟩ := h
  refine ⟨h1, ?_⟩
  rcases h2 with h2 | ⟨g, cap, cur, e1, e2, e3, rest⟩
  · exact Or.inl h2
  · have hg : g < w.heap.size := (Array.getElem?_eq_some_iff.1 e3).1
    exact Or.inr ⟨g, cap, cur, e1, e2, (k.block g hg).trans e3, rest⟩
/-- What few's loop has put together. -/
structure FewRel (w wr : World) (l : List Pt) (o : Value) (k : Nat) : Prop where
  row : PRow wr w.heap.size o ((l.take k).map Pt.short)
  bel : Below w.heap.size w wr
theorem few_step {l : List Pt} {k : Nat} (h : k < l.length) : (l.take (k + 1)).map Pt.short = (l.take k).map Pt.short ++ [Pt.short l[k]] := by
  rw [List.take_succ_eq_append_getElem h, List.map_append]; rfl
theorem few_end {l : List Pt} {k : Nat} (h1 : k ≤ 30) (h : 30 ≤ k ∨ l.length ≤ k) : (l.take k).map Pt.short = fewL l := by
  unfold fewL
  rcases h with h | h
  · obtain rfl : k = 30 := by omega
    rfl
  · rw [List.take_of_length_le h, List.take_of_length_le (by omega)]
/-- What few answers. -/
def FewDone (l : List Pt) (w : World) (e : Ending) (w' : World) : Prop := ∃ v, e = .returned v ∧ PRow w' w.heap.size v (fewL l) ∧ Below w.heap.size w w'
end Go.Proofs.YtkomfenjeoaelaaDoor
