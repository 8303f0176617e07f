/- A buffer that is begun with what was out. -/
import Derived.Test.YthifmfgnblecbaaCbOrderMath
set_option maxRecDepth 20000
set_option linter.unusedSimpArgs false
set_option linter.unusedVariables false
namespace Go.Proofs.Ythifmfgnblecbaa.Og.Cb
open Go.RowKit Go.Proofs.Ythifmfgnblecbaa.Vi Go.Proofs.Ythifmfgnblecbaa.Mk

theorem chain_at9 {v : List Int} {l : List Rec} (h : chain v l) : ∀ {i : Nat} (hi : i < l.length), l[i].ok = true ∧ l[i].st.q = atL (knowL v (l.take i)) l[i].st.s + 1 ∧ covL (knowL v (l.take i)) l[i].d = true := by
  induction l generalizing v with
  | nil => intro i hi; simp at hi
  | cons a t ih =>
    intro i hi
    cases i with
    | zero => exact ⟨h.1, h.2.1, h.2.2.1⟩
    | succ i => exact ih h.2.2.2 (by simpa using hi)
theorem know_snoc9 (v : List Int) (l : List Rec) {i : Nat} (hi : i < l.length) : knowL v (l.take (i + 1)) = withL (knowL v (l.take i)) l[i].st.s l[i].st.q := by
  rw [List.take_succ_eq_append_getElem hi, knowL_append]; rfl
theorem chain_drop {v : List Int} {l : List Rec} (h : chain v l) (k : Nat) : chain (knowL v (l.take k)) (l.drop k) := by
  rw [← List.take_append_drop k l] at h
  exact ((chain_append _ _ _).1 h).2
theorem chain_take {v : List Int} {l : List Rec} (h : chain v l) (k : Nat) : chain v (l.take k) := by
  rw [← List.take_append_drop k l] at h
  exact ((chain_append _ _ _).1 h).1
/-- What was added is known. -/
theorem know_has {v : List Int} {l : List Rec} (h : chain v l) : ∀ r ∈ l, r.st.q ≤ atL (knowL v l) r.st.s := by
  induction l generalizing v with
  | nil => intro r hr; cases hr
  | cons a t ih =>
    intro r hr
    have hp := Rec.ok_parts h.1
    rcases List.mem_cons.1 hr with e | hr2
    · have h1 := know_up h.2.2.2 (x := a.st.s) ⟨by omega, by omega⟩
      rw [atL_withI _ _ _ ⟨by omega, by omega⟩, if_pos rfl, cl_in (by omega) (by omega)] at h1
      rw [e]; exact h1
    · exact ih h.2.2.2 r hr2
theorem know_nil_plain (l : List Rec) : plainL (knowL [] l) = knowL [] l := know_plain rfl l
/-- The buffer that has l's first k records out and holds those up to i. -/
def midS (l : List Rec) (k i : Nat) : CS := ⟨400, knowL [] (l.take k), (l.take i).drop k⟩
theorem mid_new (l : List Rec) : midS l 0 0 = newC 400 [] := rfl
theorem mid_begun (l : List Rec) (k i : Nat) (hi : i ≤ k) : newC 400 (knowL [] (l.take k)) = midS l k i := by
  unfold newC midS
  rw [know_nil_plain, List.drop_eq_nil_of_le (by rw [List.length_take]; omega)]
  rfl
theorem mid_same (l : List Rec) (k i : Nat) (hi : i ≤ k) : midS l k i = midS l k 0 := by
  unfold midS
  rw [List.drop_eq_nil_of_le (by rw [List.length_take]; omega), List.drop_eq_nil_of_le (by rw [List.length_take]; omega)]
theorem mid_inv {l : List Rec} (hc : chain [] l) (hl : l.length ≤ 40) {k : Nat} : ∀ i, i ≤ l.length → OInv l (midS l k i) ∧ ∀ j (hj : j < l.length), j < i → k ≤ j → Seen (midS l k i) l[j] := by
  intro i hi
  refine ⟨⟨hc, hl, rfl, ⟨by unfold midS; dsimp only; omega, know_nil_plain _, ?_, fun r hr => ?_, fun r hr => ?_, ?_⟩, fun r hr => ?_⟩, fun j hj h1 h2 => Or.inr ?_⟩
  · have h1 := chain_apart (chain_take (chain_drop hc k) (i - k))
    unfold midS
    dsimp only
    rw [List.drop_take]
    exact h1
  · exact chain_ok hc r (List.mem_of_mem_take (List.mem_of_mem_drop hr))
  · have h1 := chain_above (chain_drop hc k) r (by unfold midS at hr; dsimp only at hr; rw [List.drop_take] at hr; exact List.mem_of_mem_take hr)
    exact h1
  · have h1 := List.length_filter_le (fun r => !(dueB (midS l k i) r)) (midS l k i).L
    have h2 : (midS l k i).L.length ≤ 40 := by unfold midS; dsimp only; rw [List.length_drop, List.length_take]; omega
    show (((((midS l k i).L.filter fun r => !(dueB (midS l k i) r)).length : Nat) : Int)) ≤ 400
    omega
  · exact List.mem_of_mem_take (List.mem_of_mem_drop hr)
  · show l[j] ∈ (l.take i).drop k
    rw [List.mem_drop_iff_getElem]
    exact ⟨j - k, by rw [List.length_take]; omega, by simp only [List.getElem_take]; congr 1; omega⟩
theorem mid_off {l : List Rec} (hc : chain [] l) (hl : l.length ≤ 40) {k i : Nat} (hk : k ≤ l.length) (hi : i < l.length) : offE (midS l k i) l[i] = (if i < k then 1 else 0) ∧ offS (midS l k i) l[i] = midS l k (i + 1) := by
  obtain ⟨hok, hq, hcv⟩ := chain_at9 hc hi
  by_cases h : i < k
  · have h1 := know_has (chain_take hc k) l[i] (by rw [List.mem_take_iff_getElem]; exact ⟨i, by omega, rfl⟩)
    have h2 : offE (midS l k i) l[i] = 1 := offE_known hok (by
      unfold knownB midS
      dsimp only
      rw [decide_eq_true (by omega)]; rfl)
    rw [if_pos h]
    refine ⟨h2, ?_⟩
    rw [offS_no (by rw [h2]; decide), mid_same l k i (by omega), mid_same l k (i + 1) (by omega)]
  · have h1 := chain_above (chain_drop hc k) l[i] (by rw [List.mem_drop_iff_getElem]; exact ⟨i - k, by omega, by congr 1; omega⟩)
    have h2 : hasB (midS l k i).L l[i].st.s l[i].st.q = false := hasB_no.2 fun r hr e => by
      have h3 : r ∈ l.take i := List.mem_of_mem_drop hr
      have h4 := know_has (chain_take hc i) r h3
      rw [e.1, e.2, hq] at h4
      omega
    have h3 : offE (midS l k i) l[i] = 0 := offE_held hok (by
      unfold knownB
      rw [h2, Bool.or_false, decide_eq_false]
      show ¬ l[i].st.q < atL (knowL [] (l.take k)) l[i].st.s + 1
      omega) (fun f => by
      have h5 : (midS l k i).L.length ≤ 40 := by unfold midS; dsimp only; rw [List.length_drop, List.length_take]; omega
      have h6 := f.1
      change (400 : Int) ≤ _ at h6
      omega)
    rw [if_neg h]
    refine ⟨h3, ?_⟩
    rw [offS_yes h3]
    unfold midS
    dsimp only
    rw [List.take_succ_eq_append_getElem hi, List.drop_append_of_le_length (by rw [List.length_take]; omega)]
/-- The first k come out at once. -/
theorem mid_step {l : List Rec} (hc : chain [] l) (hl : l.length ≤ 40) {i : Nat} (hi : i < l.length) : offE (midS l i i) l[i] = 0 ∧ nextR (offS (midS l i i) l[i]) = some l[i] ∧ nextS (offS (midS l i i) l[i]) = midS l (i + 1) (i + 1) := by
  obtain ⟨h1, h2⟩ := mid_off hc hl (k := i) (i := i) (by omega) hi
  rw [if_neg (by omega)] at h1
  obtain ⟨hok, hq, hcv⟩ := chain_at9 hc hi
  have hp := Rec.ok_parts hok
  have hL : (midS l i (i + 1)).L = [l[i]] := by
    unfold midS
    dsimp only
    rw [List.take_succ_eq_append_getElem hi, List.drop_append_of_le_length (by rw [List.length_take]; omega), List.drop_eq_nil_of_le (by rw [List.length_take]; omega)]
    rfl
  have hinv := (mid_inv hc hl (k := i) (i + 1) (by omega)).1
  have hm : l[i] ∈ (midS l i (i + 1)).L := by rw [hL]; exact List.mem_singleton.2 rfl
  have hd : dueB (midS l i (i + 1)) l[i] = true := dueB_iff.2 ⟨hq, hcv⟩
  rw [h2]
  have hn : nextR (midS l i (i + 1)) = some l[i] := by
    cases e : nextR (midS l i (i + 1)) with
    | none => rw [nextR_none hinv.good.apart e hm ⟨by omega, by omega⟩] at hd; cases hd
    | some x =>
      have h3 := (nextR_some e).1
      rw [hL, List.mem_singleton] at h3
      rw [h3]
  refine ⟨h1, hn, ?_⟩
  rw [nextS_some hn, hL]
  unfold midS delL
  dsimp only
  rw [know_snoc9 _ _ hi, List.filter_cons, keyB_iff.2 ⟨rfl, rfl⟩]
  simp only [Bool.not_true, Bool.false_eq_true, if_false, List.filter_nil]
  rw [List.drop_eq_nil_of_le (by rw [List.length_take]; omega)]
/-- What is left comes out, one by one. -/
theorem OInv.goes {l : List Rec} {S : CS} (h : OInv l S) (hs : ∀ r ∈ l, Seen S r) (h0 : S.L ≠ []) : ∃ r, nextR S = some r := by
  cases e : nextR S with
  | some r => exact ⟨r, rfl⟩
  | none => exact absurd (h.fin e hs).2 h0
theorem none_empty {S : CS} (h : S.L = []) : nextR S = none := by
  cases e : nextR S with
  | none => rfl
  | some r => have := (nextR_some e).1; rw [h] at this; cases this
end Go.Proofs.Ythifmfgnblecbaa.Og.Cb
