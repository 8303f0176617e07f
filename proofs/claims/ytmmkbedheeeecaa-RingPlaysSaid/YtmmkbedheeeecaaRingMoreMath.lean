/- What is preferred with one node more; how many points a node has; the first one met. -/
import Derived.Test.YtmmkbedheeeecaaRingOrderMath
set_option maxRecDepth 20000
namespace Go.Proofs.Ytmmkbedheeeecaa
open Go.RowKit Go.Shelf Go.Lib Go.Sort

theorem ddN_len : ∀ (R : List Pt) (M : List Int), (ddN M R).length ≤ M.length + R.length
  | [], M => by simp [ddN]
  | p :: R, M => by
    rw [ddN_cons]
    have := ddN_len R (if inL M p.n then M else M ++ [p.n])
    split at this <;> simp at this ⊢ <;> simp_all <;> omega
theorem preferL_ok {P : List Pt} (h : POk P) (x most : Int) : (preferL P x most).length ≤ 128 ∧ ∀ n ∈ preferL P x most, 0 ≤ n ∧ n ≤ 15 := by
  unfold preferL
  rw [fold_any]
  refine ⟨?_, fun n hn => ?_⟩
  · have h1 := ddN_len (fromL P x) []
    rw [fromL_len] at h1
    have := h.1
    rw [List.length_take]
    simp at h1
    omega
  · rcases (ddN_mem _ _).1 (List.mem_of_mem_take hn) with h1 | ⟨p, h1, rfl⟩
    · simp at h1
    · exact (h.2 p (fromL_mem.1 h1)).2
/-- Not this one. -/
def nq (n : Int) (x : Int) : Bool := decide (x ≠ n)
def nqP (n : Int) (p : Pt) : Bool := nq n p.n
theorem ptsOf_n {m : Int} {p : Pt} (h : p ∈ ptsOf m) : p.n = m := by
  unfold ptsOf at h
  obtain ⟨k, -, rfl⟩ := List.mem_map.1 h
  rfl
theorem ptsL_cons (m : Int) (t : List Int) : ptsL (m :: t) = ptsOf m ++ ptsL t := by simp [ptsL]
theorem ptsL_filter (n : Int) : ∀ N : List Int, (ptsL N).filter (nqP n) = ptsL (N.filter (nq n))
  | [] => rfl
  | m :: t => by
    rw [ptsL_cons, List.filter_append, ptsL_filter n t]
    by_cases h : m = n
    · rw [List.filter_cons_of_neg (by simp [nq, h]), List.filter_eq_nil_iff.2 fun p hp => by simp [nqP, nq, ptsOf_n hp, h]]; rfl
    · rw [List.filter_cons_of_pos (by simp [nq, h]), List.filter_eq_self.2 fun p hp => by simp [nqP, nq, ptsOf_n hp, h], ptsL_cons]
theorem srt_filter (n : Int) (N : List Int) : (srt (ptsL N)).filter (nqP n) = srt (ptsL (N.filter (nq n))) := by
  refine srt_uniq ?_ ((srt_pair _).filter _)
  rw [← ptsL_filter]
  exact (srt_perm _).filter _
theorem fromL_filter (n : Int) (P : List Pt) (h : Int) : (fromL P h).filter (nqP n) = fromL (P.filter (nqP n)) h := by
  unfold fromL
  rw [List.filter_append, List.filter_filter, List.filter_filter, List.filter_filter, List.filter_filter]
  simp only [Bool.and_comm]
theorem nq_mem {n x : Int} {M : List Int} (h : x ≠ n) : x ∈ M.filter (nq n) ↔ x ∈ M := by
  rw [List.mem_filter]
  simp [nq, h]
theorem ddN_filter (n : Int) : ∀ (R : List Pt) (M : List Int), (ddN M R).filter (nq n) = ddN (M.filter (nq n)) (R.filter (nqP n))
  | [], M => rfl
  | p :: R, M => by
    rw [ddN_cons, ddN_filter n R]
    by_cases h : p.n = n
    · rw [List.filter_cons_of_neg (by simp [nqP, nq, h])]
      congr 1
      split
      · rfl
      · rw [List.filter_append, List.filter_cons_of_neg (by simp [nq, h])]; simp
    · rw [List.filter_cons_of_pos (by simp [nqP, nq, h]), ddN_cons]
      congr 1
      by_cases hm : p.n ∈ M
      · rw [if_pos (inL_mem.2 hm), if_pos (inL_mem.2 ((nq_mem h).2 hm))]
      · rw [if_neg (by rw [inL_mem]; exact hm), if_neg (by rw [inL_mem, nq_mem h]; exact hm), List.filter_append, List.filter_cons_of_pos (by simp [nq, h])]; rfl
theorem nodesL_filter {l m : List Int} {n : Int} (h : ∀ x, x ∈ l ↔ x ∈ m ∧ x ≠ n) : (nodesL m).filter (nq n) = nodesL l := by
  unfold nodesL nodesK
  rw [List.filter_filter]
  refine List.filter_congr fun x _ => ?_
  unfold inL nq
  by_cases h1 : x ∈ m <;> by_cases h2 : x = n <;> simp_all
/-- With one node more: without it all are met as ahead. -/
theorem allL_more {l m : List Int} {n : Int} (h : ∀ x, x ∈ l ↔ x ∈ m ∧ x ≠ n) (k : Int) : (allL m k).filter (nq n) = allL l k := by
  unfold allL
  rw [ddN_filter, fromL_filter, srt_filter, nodesL_filter h]; rfl
theorem filter_one (n : Int) : ∀ {l : List Int}, l.Nodup → l.length ≤ (l.filter (nq n)).length + 1
  | [], _ => by simp
  | a :: t, h => by
    obtain ⟨h1, h2⟩ := List.nodup_cons.1 h
    by_cases e : a = n
    · rw [List.filter_cons_of_neg (by simp [nq, e]), List.filter_eq_self.2 fun x hx => by simp [nq]; rintro rfl; exact h1 (e ▸ hx)]; simp
    · rw [List.filter_cons_of_pos (by simp [nq, e])]
      have := filter_one n h2
      simp; omega
/-- What the law asks of the preferred ones with one node more, x without it, y with it. -/
theorem moves_ok {l m : List Int} {n : Int} (h : ∀ x, x ∈ l ↔ x ∈ m ∧ x ≠ n) (k : Int) (q : Nat) {x y r : List Int} (hx : (allL l k).take q = x) (hy : (allL m k).take q = y) (hr : y.filter (nq n) = r) :
    r.length ≤ y.length ∧ y.length ≤ r.length + 1 ∧ r.length ≤ x.length ∧ x.length ≤ r.length + 1 ∧ x.take r.length = r := by
  have hm := allL_more h k
  have hn : y.Nodup := by rw [← hy]; exact (allL_nodup m k).sublist (List.take_sublist _ _)
  have h1 : r.length ≤ y.length := by rw [← hr]; exact List.length_filter_le _ _
  have h2 : y.length ≤ r.length + 1 := by rw [← hr]; exact filter_one n hn
  have hyl : y.length = min q (allL m k).length := by rw [← hy, List.length_take]
  have hxl : x.length = min q (allL l k).length := by rw [← hx, List.length_take]
  have hpre : allL l k = r ++ ((allL m k).drop q).filter (nq n) := by
    rw [← hm, ← hr, ← hy, ← List.filter_append, List.take_append_drop]
  have hll : (allL l k).length ≤ (allL m k).length := by rw [← hm]; exact List.length_filter_le _ _
  have hrl : r.length ≤ (allL l k).length := by rw [hpre, List.length_append]; omega
  refine ⟨h1, h2, by omega, by omega, ?_⟩
  rw [← hx, List.take_take, show min r.length q = r.length by omega, hpre, List.take_left]
/-- How many points of a list a node has. -/
def cntP (n : Int) (P : List Pt) : Nat := (P.filter fun p => decide (p.n = n)).length
theorem cntP_snoc (n : Int) (P : List Pt) (p : Pt) : cntP n (P ++ [p]) = cntP n P + if p.n = n then 1 else 0 := by
  unfold cntP
  rw [List.filter_append, List.length_append]
  by_cases h : p.n = n <;> simp [h]
theorem cntP_perm {n : Int} {P Q : List Pt} (h : P.Perm Q) : cntP n P = cntP n Q := (h.filter _).length_eq
theorem cntP_pts {n : Int} : ∀ {N : List Int}, N.Nodup → cntP n (ptsL N) = if n ∈ N then 8 else 0
  | [], _ => by simp [cntP, ptsL]
  | m :: t, h => by
    obtain ⟨h1, h2⟩ := List.nodup_cons.1 h
    have ih := cntP_pts (n := n) h2
    unfold cntP at ih ⊢
    rw [ptsL_cons, List.filter_append, List.length_append, ih]
    by_cases e : m = n
    · subst e
      rw [List.filter_eq_self.2 fun p hp => by simp [ptsOf_n hp], ptsOf_len, if_neg h1, if_pos List.mem_cons_self]
    · rw [List.filter_eq_nil_iff.2 fun p hp => by simp [ptsOf_n hp, e]]
      by_cases e2 : n ∈ t
      · rw [if_pos e2, if_pos (List.mem_cons_of_mem _ e2)]; rfl
      · rw [if_neg e2, if_neg (by rw [List.mem_cons]; rintro (h | h); exact e h.symm; exact e2 h)]; rfl
/-- The node of the first point that is not below a number; -1 if there is none. -/
def fstN (P : List Pt) (h : Int) : Int := match P.find? fun p => decide (h ≤ p.a) with | some p => p.n | none => -1
theorem fstN_nil (h : Int) : fstN [] h = -1 := rfl
theorem fstN_snoc_old {P : List Pt} {h : Int} (q : Pt) (h0 : 0 ≤ fstN P h) : fstN (P ++ [q]) h = fstN P h := by
  unfold fstN at h0 ⊢
  rw [List.find?_append]
  cases e : P.find? fun p => decide (h ≤ p.a) with
  | none => rw [e] at h0; exact absurd h0 (by decide)
  | some p => rfl
theorem fstN_snoc_new {P : List Pt} {h : Int} (q : Pt) (hP : ∀ p ∈ P, 0 ≤ p.n) (h0 : fstN P h < 0) : fstN P h = -1 ∧ fstN (P ++ [q]) h = if h ≤ q.a then q.n else -1 := by
  unfold fstN at h0 ⊢
  rw [List.find?_append]
  cases e : P.find? fun p => decide (h ≤ p.a) with
  | none =>
    refine ⟨rfl, ?_⟩
    by_cases c : h ≤ q.a <;> simp [c]
  | some p =>
    rw [e] at h0
    have := hP p (List.mem_of_find?_eq_some e)
    exact absurd h0 (by show ¬ p.n < 0; omega)
theorem ddN_first (p : Pt) (R : List Pt) : (ddN [] (p :: R)).take 1 = [p.n] := by
  rw [ddN_cons, if_neg (by simp [inL])]
  have key : ∀ (R : List Pt) (M : List Int), M.length ≥ 1 → (ddN M R).take 1 = M.take 1 := by
    intro R
    induction R with
    | nil => intro M _; rfl
    | cons q t ih =>
      intro M hM
      rw [ddN_cons, ih _ (by split <;> simp <;> omega)]
      split
      · rfl
      · rw [List.take_append_of_le_length hM]
  exact key R ([] ++ [p.n]) (by simp)
/-- The one that is preferred. -/
theorem prefer_one {P : List Pt} {h : Int} (hP : ∀ p ∈ P, 0 ≤ p.n) : preferL P h 1 = match P with
    | [] => []
    | p :: _ => [if fstN P h < 0 then p.n else fstN P h] := by
  unfold preferL
  rw [fold_any, show (1 : Int).toNat = 1 from rfl]
  cases P with
  | nil => rfl
  | cons p t =>
    unfold fromL fstN
    have e1 := List.head?_filter (p := fun q : Pt => decide (h ≤ q.a)) (l := p :: t)
    cases e : (p :: t).find? fun q => decide (h ≤ q.a) with
    | some q =>
      rw [e] at e1
      obtain ⟨r, hr⟩ : ∃ r, (p :: t).filter (fun q => decide (h ≤ q.a)) = q :: r := by
        cases e2 : (p :: t).filter (fun q => decide (h ≤ q.a)) with
        | nil => rw [e2] at e1; cases e1
        | cons a r => rw [e2] at e1; cases e1; exact ⟨r, rfl⟩
      rw [hr, List.cons_append, ddN_first]
      have := hP q (List.mem_of_find?_eq_some e)
      show [q.n] = [if q.n < 0 then p.n else q.n]
      rw [if_neg (by omega)]
    | none =>
      have hall := List.find?_eq_none.1 e
      rw [List.filter_eq_nil_iff.2 fun q hq => hall q hq, List.nil_append, List.filter_eq_self.2 fun q hq => by have := hall q hq; simp at this ⊢; omega, ddN_first]
      rfl
/-- The document's way to put a point where it belongs. -/
theorem ins_pair {O : List Pt} (hO : O.Pairwise leP) (p : Pt) (k : Nat) (hk : k ≤ O.length) (h1 : ∀ j (hj : j < O.length), j < k → leP O[j] p) (h2 : ∀ hj : k < O.length, ¬ leP O[k] p) :
    ((O.take k ++ [p]) ++ O.drop k).Pairwise leP := by
  have hto : ∀ a b c, leP a b → leP b c → leP a c := fun a b c x y => by
    have x' := (leP_iff a b).1 x
    have y' := (leP_iff b c).1 y
    exact (leP_iff a c).2 (by omega)
  have hge : ∀ b ∈ O.drop k, leP p b := by
    intro b hb
    obtain ⟨j, hj, rfl⟩ := List.getElem_of_mem hb
    rw [List.length_drop] at hj
    rw [List.getElem_drop]
    have h3 : leP p O[k] := by
      have := mt (leP_iff O[k] p).2 (h2 (by omega))
      exact (leP_iff p _).2 (by omega)
    by_cases e : j = 0
    · subst e; exact h3
    · exact hto _ _ _ h3 (List.pairwise_iff_getElem.1 hO k (k + j) (by omega) (by omega) (by omega))
  have hle : ∀ a ∈ O.take k, leP a p := by
    intro a ha
    obtain ⟨j, hj, rfl⟩ := List.getElem_of_mem ha
    rw [List.length_take] at hj
    rw [List.getElem_take]
    exact h1 j (by omega) (by omega)
  rw [List.pairwise_append, List.pairwise_append]
  refine ⟨⟨hO.sublist (List.take_sublist _ _), List.pairwise_singleton _ _, fun a ha b hb => ?_⟩, hO.sublist (List.drop_sublist _ _), fun a ha b hb => ?_⟩
  · rw [List.mem_singleton] at hb; subst hb; exact hle a ha
  · rcases List.mem_append.1 ha with ha | ha
    · exact hto _ _ _ (hle a ha) (hge b hb)
    · rw [List.mem_singleton] at ha; subst ha; exact hge b hb
theorem ins_perm (O : List Pt) (p : Pt) (k : Nat) : ((O.take k ++ [p]) ++ O.drop k).Perm (O ++ [p]) := by
  conv => rhs; rw [← List.take_append_drop k O]
  rw [List.append_assoc, List.append_assoc]
  exact List.Perm.append_left _ List.perm_append_comm
end Go.Proofs.Ytmmkbedheeeecaa
