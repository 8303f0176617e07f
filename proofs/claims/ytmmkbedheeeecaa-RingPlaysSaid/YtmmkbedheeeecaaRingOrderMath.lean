/- What the order of points and the nodes that are met are. -/
import Derived.Test.YtmmkbedheeeecaaRingPrefer
set_option maxRecDepth 20000
namespace Go.Proofs.Ytmmkbedheeeecaa
open Go.RowKit Go.Shelf Go.Lib Go.Sort

def leP (x y : Pt) : Prop := (!(ltOf cfP) y x) = true
theorem leP_iff (x y : Pt) : leP x y ↔ (x.a < y.a ∨ (x.a = y.a ∧ x.n ≤ y.n)) := by
  unfold leP; rw [lt_is]; simp only [Bool.not_eq_true', decide_eq_false_iff_not]; omega
theorem srt_pair (l : List Pt) : (srt l).Pairwise leP := by
  refine List.pairwise_mergeSort ?_ ?_ _
  · intro a b c h1 h2
    have h1' := (leP_iff a b).1 h1
    have h2' := (leP_iff b c).1 h2
    exact (leP_iff a c).2 (by omega)
  · intro a b
    by_cases h : leP a b
    · have h' : (!(ltOf cfP) b a) = true := h
      rw [h']; rfl
    · have h2 : leP b a := (leP_iff b a).2 (by have := mt (leP_iff a b).2 h; omega)
      have h' : (!(ltOf cfP) a b) = true := h2
      rw [h']; simp
theorem srt_uniq {l m : List Pt} (hp : m.Perm l) (hs : m.Pairwise leP) : m = srt l := by
  refine List.Perm.eq_of_pairwise (le := leP) ?_ hs (srt_pair l) (hp.trans (List.mergeSort_perm _ _).symm)
  intro a b _ _ h1 h2
  have h1' := (leP_iff a b).1 h1
  have h2' := (leP_iff b a).1 h2
  exact Pt.eq (by omega) (by omega)
theorem srt_perm (l : List Pt) : (srt l).Perm l := List.mergeSort_perm _ _
theorem srt_rises (l : List Pt) : Rises (srt l) := by
  intro i j hi hj hij
  have := (List.pairwise_iff_getElem.1 (srt_pair l)) i j hi hj hij
  have := (leP_iff _ _).1 this
  omega
/-- The nodes, each where it is met first. -/
def ddN (M : List Int) (R : List Pt) : List Int := R.foldl (fun M p => if inL M p.n then M else M ++ [p.n]) M
theorem ddN_cons (M : List Int) (p : Pt) (R : List Pt) : ddN M (p :: R) = ddN (if inL M p.n then M else M ++ [p.n]) R := rfl
theorem inL_mem {l : List Int} {x : Int} : inL l x = true ↔ x ∈ l := by unfold inL; simp
theorem inL_nmem {l : List Int} {x : Int} : inL l x = false ↔ x ∉ l := by unfold inL; simp
theorem fold_take (m : Nat) : ∀ (R : List Pt) (M : List Int), foldF (m : Int) (M.take m) R = (ddN M R).take m
  | [], M => rfl
  | p :: R, M => by
    rw [ddN_cons]
    show foldF (m : Int) (stepF (m : Int) (M.take m) p) R = _
    by_cases h : p.n ∈ M
    · rw [if_pos (inL_mem.2 h), ← fold_take m R M]
      congr 1
      unfold stepF
      by_cases h2 : p.n ∈ M.take m
      · rw [if_neg (by rw [inL_nmem]; simp [h2])]
      · rw [if_neg]
        rintro ⟨-, h3⟩
        rw [List.length_take] at h3
        exact h2 (by rw [List.take_of_length_le (by omega)]; exact h)
    · rw [if_neg (by rw [inL_mem]; exact h), ← fold_take m R (M ++ [p.n])]
      congr 1
      unfold stepF
      have h2 : p.n ∉ M.take m := fun h2 => h (List.mem_of_mem_take h2)
      by_cases h3 : M.length < m
      · rw [if_pos ⟨inL_nmem.2 h2, by rw [List.length_take]; omega⟩, List.take_of_length_le (by omega), List.take_of_length_le (by simp; omega)]
      · rw [if_neg (by rw [List.length_take]; omega), List.take_append_of_le_length (by omega)]
theorem fold_neg {most : Int} (h : most ≤ 0) (R : List Pt) : foldF most [] R = [] := foldF_full (by simpa using h) R
theorem fold_any (most : Int) (R : List Pt) : foldF most [] R = (ddN [] R).take most.toNat := by
  by_cases h : most ≤ 0
  · rw [fold_neg h, show most.toNat = 0 by omega]; simp
  · have := fold_take most.toNat R []
    rw [List.take_nil, show ((most.toNat : Nat) : Int) = most by omega] at this
    exact this
theorem ddN_mem {x : Int} : ∀ (R : List Pt) (M : List Int), x ∈ ddN M R ↔ x ∈ M ∨ ∃ p ∈ R, p.n = x
  | [], M => by simp [ddN]
  | p :: R, M => by
    rw [ddN_cons, ddN_mem R]
    by_cases h : p.n ∈ M
    · rw [if_pos (inL_mem.2 h)]
      constructor
      · rintro (h1 | ⟨q, h1, h2⟩)
        · exact Or.inl h1
        · exact Or.inr ⟨q, List.mem_cons_of_mem _ h1, h2⟩
      · rintro (h1 | ⟨q, h1, h2⟩)
        · exact Or.inl h1
        · rcases List.mem_cons.1 h1 with rfl | h1
          · exact Or.inl (h2 ▸ h)
          · exact Or.inr ⟨q, h1, h2⟩
    · rw [if_neg (by rw [inL_mem]; exact h)]
      constructor
      · rintro (h1 | ⟨q, h1, h2⟩)
        · rcases List.mem_append.1 h1 with h1 | h1
          · exact Or.inl h1
          · rw [List.mem_singleton] at h1; exact Or.inr ⟨p, List.mem_cons_self, h1.symm⟩
        · exact Or.inr ⟨q, List.mem_cons_of_mem _ h1, h2⟩
      · rintro (h1 | ⟨q, h1, h2⟩)
        · exact Or.inl (List.mem_append_left _ h1)
        · rcases List.mem_cons.1 h1 with rfl | h1
          · exact Or.inl (List.mem_append_right _ (by simp [h2]))
          · exact Or.inr ⟨q, h1, h2⟩
theorem ddN_nodup : ∀ (R : List Pt) (M : List Int), M.Nodup → (ddN M R).Nodup
  | [], M, h => h
  | p :: R, M, h => by
    rw [ddN_cons]
    by_cases c : p.n ∈ M
    · rw [if_pos (inL_mem.2 c)]; exact ddN_nodup R M h
    · rw [if_neg (by rw [inL_mem]; exact c)]
      refine ddN_nodup R _ ?_
      rw [List.nodup_append]
      exact ⟨h, by simp, fun a ha b hb => by rw [List.mem_singleton] at hb; subst hb; exact fun e => c (e ▸ ha)⟩
theorem fromL_mem {P : List Pt} {h : Int} {p : Pt} : p ∈ fromL P h ↔ p ∈ P := by
  unfold fromL
  rw [List.mem_append, List.mem_filter, List.mem_filter]
  simp only [decide_eq_true_eq]
  by_cases c : h ≤ p.a
  · simp [c]
    intro h1 _; exact h1
  · have : p.a < h := by omega
    simp [c, this]
theorem nodesL_mem {l : List Int} {x : Int} : x ∈ nodesL l ↔ x ∈ l ∧ 0 ≤ x ∧ x ≤ 15 := by
  unfold nodesL nodesK
  rw [List.mem_filter, List.mem_map, inL_mem]
  constructor
  · rintro ⟨⟨i, hi, rfl⟩, h⟩
    have := List.mem_range.1 hi
    exact ⟨h, by omega, by omega⟩
  · rintro ⟨h, h1, h2⟩
    exact ⟨⟨x.toNat, List.mem_range.2 (by omega), by omega⟩, h⟩
theorem nodesL_congr {l m : List Int} (h : ∀ x, 0 ≤ x → x ≤ 15 → (x ∈ l ↔ x ∈ m)) : nodesL l = nodesL m := by
  unfold nodesL nodesK
  refine List.filter_congr fun x hx => ?_
  obtain ⟨i, hi, rfl⟩ := List.mem_map.1 hx
  have := List.mem_range.1 hi
  have hh := h (i : Int) (by omega) (by omega)
  unfold inL
  exact decide_eq_decide.2 hh
theorem pts_mem {N : List Int} {x : Int} : (∃ p ∈ srt (ptsL N), p.n = x) ↔ x ∈ N := by
  constructor
  · rintro ⟨p, hp, rfl⟩
    exact (ptsL_mem ((srt_perm _).mem_iff.1 hp)).1
  · intro h
    refine ⟨ptOf x 0, (srt_perm _).mem_iff.2 ?_, rfl⟩
    unfold ptsL
    exact List.mem_flatMap.2 ⟨x, h, by unfold ptsOf; exact List.mem_map.2 ⟨0, by simp, rfl⟩⟩
/-- All nodes, from a number on. -/
def allL (l : List Int) (h : Int) : List Int := ddN [] (fromL (srt (ptsL (nodesL l))) h)
theorem allL_mem {l : List Int} {h x : Int} : x ∈ allL l h ↔ x ∈ nodesL l := by
  unfold allL
  refine (ddN_mem _ _).trans (Iff.trans ?_ pts_mem)
  constructor
  · rintro (h1 | ⟨p, h1, h2⟩)
    · simp at h1
    · exact ⟨p, fromL_mem.1 h1, h2⟩
  · rintro ⟨p, h1, h2⟩
    exact Or.inr ⟨p, fromL_mem.2 h1, h2⟩
theorem allL_nodup (l : List Int) (h : Int) : (allL l h).Nodup := ddN_nodup _ _ (by simp)
theorem nodesL_nodup (l : List Int) : (nodesL l).Nodup := by
  unfold nodesL nodesK
  refine List.Nodup.sublist List.filter_sublist ?_
  exact List.pairwise_map.2 (List.nodup_range.imp fun h e => h (by omega))
theorem allL_perm (l : List Int) (h : Int) : (allL l h).Perm (nodesL l) := (List.perm_ext_iff_of_nodup (allL_nodup l h) (nodesL_nodup l)).2 fun _ => allL_mem
theorem prefer_all (l : List Int) (h most : Int) : preferL (srt (ptsL (nodesL l))) h most = (allL l h).take most.toNat := fold_any most _
end Go.Proofs.Ytmmkbedheeeecaa
