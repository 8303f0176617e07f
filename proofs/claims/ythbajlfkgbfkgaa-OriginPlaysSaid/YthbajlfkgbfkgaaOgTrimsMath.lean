/- What OriginTrims and OriginTells say, as mathematics. -/
import Derived.Test.YthbajlfkgbfkgaaOgLaws
set_option maxRecDepth 20000
set_option linter.unusedSimpArgs false
set_option linter.unusedVariables false
namespace Go.Proofs.Ythbajlfkgbfkgaa.Og
open Go.RowKit Go.Proofs.Ythbajlfkgbfkgaa.Vi Go.Proofs.Ythbajlfkgbfkgaa.Mk

/-- The greatest clock. -/
def clk (l : List Rec) : Int := l.foldl (fun m r => max m r.st.c) 0
theorem clk_snoc (l : List Rec) (r : Rec) : clk (l ++ [r]) = max (clk l) r.st.c := by unfold clk; rw [List.foldl_append]; rfl
/-- A log that was made without a base, and to which was only added. -/
structure Grew0 (S : OS) (room : Int) (k : Nat) : Prop where
  rm : S.room = room
  base : S.base = []
  ck : S.clock = clk S.L
  len : S.L.length ≤ k
theorem Grew0.new {room : Int} (h : 0 ≤ room ∧ room ≤ 400) : Grew0 (newS room []) room 0 := ⟨by unfold newS; dsimp only; omega, by unfold newS; dsimp only; exact plain_nil, rfl, Nat.le_refl _⟩
theorem Grew0.add {S : OS} {room : Int} {k : Nat} (h : Grew0 S room k) (r : Rec) : Grew0 (addS S r) room (k + 1) := by
  by_cases e : addE S r = 0
  · rw [addS_yes e]
    exact ⟨h.rm, h.base, by dsimp only; rw [clk_snoc, h.ck], by dsimp only; rw [List.length_append, List.length_singleton]; have := h.len; omega⟩
  · rw [addS_no e]; exact ⟨h.rm, h.base, h.ck, by have := h.len; omega⟩
theorem site_in {r : Rec} (h : r.ok = true) : 0 ≤ r.st.s ∧ r.st.s ≤ 7 := by have := Rec.ok_parts h; exact ⟨this.2.2.1, this.2.2.2.1⟩
/-- What is known rises along a log. -/
theorem know_rise {v : List Int} {l : List Rec} (hc : chain v l) {i j : Nat} (hij : i ≤ j) {x : Int} (h : 0 ≤ x ∧ x ≤ 7) : atL (knowL v (l.take i)) x ≤ atL (knowL v (l.take j)) x := by
  have e : l.take j = l.take i ++ (l.take j).drop i := by
    have := List.take_append_drop i (l.take j)
    rw [List.take_take, Nat.min_eq_left hij] at this
    exact this.symm
  have hcj : chain v (l.take j) := by
    have := hc
    rw [← List.take_append_drop j l] at this
    exact ((chain_append _ _ _).1 this).1
  rw [e] at hcj
  have h2 := ((chain_append _ _ _).1 hcj).2
  rw [e, knowL_append]
  exact know_up h2 h
theorem bey_past {v : List Int} {l : List Rec} (hc : chain v l) {i j : Nat} (hj : j ≤ i) (h : i < l.length) : beyB (knowL v (l.take j)) l[i] = true := by
  obtain ⟨h1, h2, -⟩ := chain_at hc h
  have := know_rise hc hj (site_in h1)
  unfold beyB
  exact decide_eq_true (by omega)
theorem bey_known {v : List Int} {l : List Rec} (hc : chain v l) {i j : Nat} (hj : i < j) (h : i < l.length) : beyB (knowL v (l.take j)) l[i] = false := by
  obtain ⟨h1, h2, -⟩ := chain_at hc h
  have hp := Rec.ok_parts h1
  have h3 := know_rise hc (show i + 1 ≤ j from hj) (site_in h1)
  rw [know_step v l i h, atL_withI _ _ _ (site_in h1), if_pos rfl, cl_in (by omega) (by omega)] at h3
  unfold beyB
  exact decide_eq_false (by omega)
theorem filter_split {p : Rec → Bool} {l : List Rec} {j : Nat} (hj : j ≤ l.length) (h1 : ∀ i (h : i < l.length), i < j → p l[i] = false) (h2 : ∀ i (h : i < l.length), j ≤ i → p l[i] = true) : l.filter p = l.drop j := by
  have e : l.filter p = (l.take j).filter p ++ (l.drop j).filter p := by rw [← List.filter_append, List.take_append_drop]
  have a : (l.take j).filter p = [] := List.filter_eq_nil_iff.2 fun x hx => by
    obtain ⟨i, hi, rfl⟩ := List.getElem_of_mem hx
    rw [List.length_take] at hi
    rw [List.getElem_take, h1 i (by omega) (by omega)]; simp
  have b : (l.drop j).filter p = l.drop j := List.filter_eq_self.2 fun x hx => by
    obtain ⟨i, hi, rfl⟩ := List.getElem_of_mem hx
    rw [List.length_drop] at hi
    rw [List.getElem_drop]
    exact h2 (j + i) (by omega) (by omega)
  rw [e, a, b, List.nil_append]
/-- Told of who knows the first j records: the rest. -/
theorem aft_drop {v : List Int} {l : List Rec} (hc : chain v l) {j : Nat} (hj : j ≤ l.length) : aftL (knowL v (l.take j)) l = l.drop j :=
  filter_split hj (fun i h hi => bey_known hc hi h) (fun i h hi => bey_past hc hi h)
theorem aft_base {S : OS} (h : Good S) : aftL S.base S.L = S.L := by
  have := aft_drop h.ch (Nat.zero_le S.L.length)
  simpa [knowL] using this
theorem some_all {S : OS} (h : Good S) : someL S.base S.L 400 = S.L := by
  rw [someL_end (by rw [aft_base h]; have := h.l400; omega), aft_base h]
/-- What was trimmed is covered. -/
theorem cov_know {V v : List Int} {l : List Rec} (h0 : covL V v = true) (hs : ∀ r ∈ l, r.ok = true) (hb : ∀ r ∈ l, beyB V r = false) : covL V (knowL v l) = true := by
  induction l generalizing v with
  | nil => exact h0
  | cons r t ih =>
    refine ih (covL_iff.2 fun i hi => ?_) (fun x hx => hs x (List.mem_cons_of_mem _ hx)) (fun x hx => hb x (List.mem_cons_of_mem _ hx))
    have hr := hb r (List.mem_cons_self ..)
    have hp := Rec.ok_parts (hs r (List.mem_cons_self ..))
    rw [atL_with _ _ _ hi]
    split
    · rename_i e
      unfold beyB at hr
      have hr := of_decide_eq_false hr
      rw [cl_in (by omega) (by omega), e]; omega
    · exact covL_iff.1 h0 i hi
theorem cov_nil (V : List Int) : covL V [] = true := covL_iff.2 fun i _ => by rw [atL_nil]; exact (atL_bounds _ _).1
theorem trim_cov {S : OS} (h : Good S) (hb : S.base = []) (V : List Int) : covL V (trimS S V).base = true := by
  unfold trimS; dsimp only
  rw [hb]
  refine cov_know (cov_nil V) (fun r hr => h.ok r (List.mem_of_mem_take hr)) fun r hr => ?_
  obtain ⟨i, hi, rfl⟩ := List.getElem_of_mem hr
  rw [List.length_take] at hi
  rw [List.getElem_take]
  exact trimN_before (by omega) (by omega)
theorem trim_none_cov {S : OS} (h : Good S) (hb : S.base = []) (V : List Int) : covL [] (trimS S V).base = decide (trimN V S.L = 0) := by
  by_cases e : trimN V S.L = 0
  · rw [decide_eq_true e, trimS_none e, hb]; exact cov_nil _
  · rw [decide_eq_false e]
    have hle := trimN_le V S.L
    have h0 : 0 < S.L.length := by omega
    have hok := h.ok _ (List.getElem_mem h0)
    have hp := Rec.ok_parts hok
    obtain ⟨x, hx⟩ := Int.eq_ofNat_of_zero_le hp.2.2.1
    refine cov_no (i := x) (by omega) ?_
    unfold trimS; dsimp only
    have h1 := know_rise (v := S.base) h.ch (show 1 ≤ trimN V S.L by omega) (site_in hok)
    rw [know_step S.base S.L 0 h0, atL_withI _ _ _ (site_in hok), if_pos rfl, cl_in (by omega) (by omega)] at h1
    rw [hx] at h1
    rw [atL_nil]
    omega
end Go.Proofs.Ythbajlfkgbfkgaa.Og
