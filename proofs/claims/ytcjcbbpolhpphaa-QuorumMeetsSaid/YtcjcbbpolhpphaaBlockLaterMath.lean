/- Points with their places as numbers: no two stamps are the same. -/
import Derived.Test.YtcjcbbpolhpphaaBlockLooks
set_option maxRecDepth 20000
namespace Go.Proofs.Ytcjcbbpolhpphaa
open Go.RowKit Go.Proofs.Ytcjcbbpolhpphaa.Vi Go.Proofs.Ytcjcbbpolhpphaa.Mk

def Pt.seq (p : Pt) (i : Nat) : Pt := ⟨p.s, p.t, p.v, ⟨p.st.c, p.st.s, (i : Int)⟩⟩
def seqL (l : List Pt) : List Pt := l.mapIdx fun i p => p.seq i
theorem seqL_len (l : List Pt) : (seqL l).length = l.length := by unfold seqL; simp
theorem seqL_at {l : List Pt} {i : Nat} (h : i < (seqL l).length) : (seqL l)[i] = (l[i]'(by rw [seqL_len] at h; exact h)).seq i := by
  exact List.getElem_mapIdx (l := l) (f := fun i p => p.seq i) (i := i) (h := h)
theorem seqL_apart {l : List Pt} : ∀ x ∈ seqL l, ∀ y ∈ seqL l, x.st = y.st → x = y := by
  intro x hx y hy h
  obtain ⟨i, hi, rfl⟩ := List.getElem_of_mem hx
  obtain ⟨j, hj, rfl⟩ := List.getElem_of_mem hy
  have e : i = j := by
    have := congrArg St.q h
    rw [seqL_at hi, seqL_at hj] at this
    exact Int.ofNat.inj this
  subst e; rfl
theorem seqL_short {l : List Pt} {n : Nat} (h : ∀ p ∈ l, p.s.size ≤ n) : ∀ p ∈ seqL l, p.s.size ≤ n := by
  intro x hx
  obtain ⟨i, hi, rfl⟩ := List.getElem_of_mem hx
  rw [seqL_at hi]
  have hi2 : i < l.length := by rw [seqL_len] at hi; exact hi
  exact h (l[i]) (List.getElem_mem hi2)
/-- The point at q, once k of them have their number. -/
def sqP (l : List Pt) (k q : Nat) (h : q < l.length) : Pt := if q < k then (l[q]).seq q else l[q]
theorem srtR_rev {l : List Pt} (h : ∀ x ∈ l, ∀ y ∈ l, x.st = y.st → x = y) : srtR l.reverse = srtR l :=
  rep_uniq (fun _ hx _ hy => h _ (List.mem_reverse.1 hx) _ (List.mem_reverse.1 hy)) (fun _ => List.mem_reverse) (rep_srtR _) (rep_srtR _)
theorem srtR_left (a b : List Pt) : srtR (srtR a ++ b) = srtR (a ++ b) := by rw [srtR_append, srtR_self, ← srtR_append]
theorem srtR_right (a b : List Pt) : srtR (a ++ srtR b) = srtR (a ++ b) := by rw [srtR_append, srtR_self, ← srtR_append]
theorem srtR_swap {a b c : List Pt} (h : ∀ x ∈ a ++ b ++ c, ∀ y ∈ a ++ b ++ c, x.st = y.st → x = y) : srtR (a ++ (c ++ b)) = srtR (a ++ b ++ c) := by
  have e : ∀ x, x ∈ a ++ (c ++ b) ↔ x ∈ a ++ b ++ c := fun x => by
    simp only [List.mem_append]
    constructor
    · rintro (h | h | h)
      · exact Or.inl (Or.inl h)
      · exact Or.inr h
      · exact Or.inl (Or.inr h)
    · rintro ((h | h) | h)
      · exact Or.inl h
      · exact Or.inr (Or.inr h)
      · exact Or.inr (Or.inl h)
  exact rep_uniq (fun x hx y hy => h x ((e x).1 hx) y ((e y).1 hy)) e (rep_srtR _) (rep_srtR _)
/-- What is found where a point was: one that is not older. -/
theorem find_top {l : List Pt} {y : Pt} (hy : y ∈ l) : ∃ x, findL (srtR l) y.s y.t = (x, true) ∧ y.newer x = false := by
  have hr := rep_srtR l
  obtain ⟨x, hx, hxy⟩ := hr.all y hy
  have e : look (srtR l) (plc y.s y.t) = look (srtR l) y := by
    unfold look
    congr 1
  obtain ⟨z, hz⟩ := look_some hx hxy
  refine ⟨z, ?_, hr.top z (look_mem hz).1 y hy⟩
  unfold findL
  rw [e, hz]
theorem rev_step {l : List Pt} {j : Nat} (h : j < l.length) : (l.drop j).reverse = (l.drop (j + 1)).reverse ++ [l[j]] := by
  rw [List.drop_eq_getElem_cons h, List.reverse_cons]
end Go.Proofs.Ytcjcbbpolhpphaa
