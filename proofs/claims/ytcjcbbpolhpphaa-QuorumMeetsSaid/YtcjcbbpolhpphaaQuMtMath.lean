/- QuorumMeets' mathematics. -/
import Derived.Test.YtcjcbbpolhpphaaQuOrdAt
set_option maxRecDepth 20000
set_option linter.unusedSimpArgs false
set_option linter.unusedVariables false
namespace Go.Proofs.Ytcjcbbpolhpphaa.Qu
open Go.RowKit Go.Proofs.Ytcjcbbpolhpphaa.Vi

theorem and7 (n : Int) : bits .and .i64 n 7 = n % 8 := by
  have h15 : (BitVec.ofInt 64 7).toNat = 2 ^ 3 - 1 := by decide
  have key : (BitVec.ofInt 64 n &&& BitVec.ofInt 64 7).toNat = (n % ((2 ^ 64 : Nat) : Int)).toNat % 2 ^ 3 := by
    rw [BitVec.toNat_and, BitVec.toNat_ofInt, h15, Nat.and_two_pow_sub_one_eq_mod]
  show IntKind.i64.wrap ((BitVec.ofInt 64 n &&& BitVec.ofInt 64 7).toNat : Nat) = n % 8
  rw [key, IntKind.wrap_i64]
  omega
def eld (p : Pt) : Pt := ⟨p.s, p.t, 0, ⟨p.st.c - 1, p.st.s, p.st.q⟩⟩
def eldL (p : Pt) : List Pt := if 1 ≤ p.st.c - 1 then [eld p] else []
/-- What a node has stored. -/
def stL (p : Pt) (hd : Int → Bool) (n i : Nat) : List Pt := if i < n then (if hd (i : Int) = true then [p] else eldL p) else []
theorem eld_lt (p : Pt) : (eld p).st.lt p.st = true := by
  unfold eld St.lt
  simp
  omega
theorem eld_eqp (p : Pt) : p.eqp (eld p) = true := by rw [Pt.eqp_iff]; exact ⟨rfl, rfl⟩
theorem eld_ne (p : Pt) : p ≠ eld p := fun e => by
  have h1 : p.st.c = (eld p).st.c := congrArg (fun x : Pt => x.st.c) e
  have h2 : (eld p).st.c = p.st.c - 1 := rfl
  omega
theorem ins_eld (p : Pt) : ins p (eldL p) = [p] := by
  unfold eldL
  split
  · unfold ins
    have h1 : (eld p).before p = false := by
      cases h : (eld p).before p with
      | false => rfl
      | true =>
        have := bef_eqp h
        rw [Pt.eqp_symm (eld_eqp p)] at this
        cases this
    rw [h1, Pt.eqp_symm (eld_eqp p), newer_at (eld_eqp p), eld_lt]
    rfl
  · rfl
/-- A list of one point and its elder alone comes to the point. -/
theorem srt_mix {p : Pt} {L : List Pt} (h : ∀ x ∈ L, x = p ∨ x = eld p) (hp : p ∈ L) : srtR L = [p] := by
  refine rep_uniq (fun x hx y hy e => ?_) (fun _ => Iff.rfl) (rep_srtR L) ⟨rfl, fun x hx => ?_, fun x hx y hy => ?_, fun y hy => ⟨p, by simp, ?_⟩⟩
  · have hc : (eld p).st.c = p.st.c - 1 := rfl
    rcases h x hx with rfl | rfl <;> rcases h y hy with rfl | rfl
    · rfl
    · have := congrArg St.c e; omega
    · have := congrArg St.c e; omega
    · rfl
  · rw [List.mem_singleton] at hx; subst hx; exact hp
  · rw [List.mem_singleton] at hx; subst hx
    rcases h y hy with rfl | rfl
    · exact newer_no_self _
    · rw [newer_at (Pt.eqp_symm (eld_eqp x))]
      cases hq : x.st.lt (eld x).st with
      | false => rfl
      | true =>
        have := St.lt_trans hq (eld_lt x)
        rw [St.lt_self] at this; cases this
  · rcases h y hy with rfl | rfl
    · exact Pt.eqp_self _
    · exact eld_eqp p
theorem eldL_mem {p x : Pt} (h : x ∈ eldL p) : x = eld p := by
  unfold eldL at h
  split at h
  · exact List.mem_singleton.1 h
  · cases h
theorem stL_mem {p x : Pt} {hd : Int → Bool} {n i : Nat} (h : x ∈ stL p hd n i) : x = p ∨ x = eld p := by
  unfold stL at h
  split at h
  · split at h
    · exact Or.inl (List.mem_singleton.1 h)
    · exact Or.inr (eldL_mem h)
  · cases h
theorem stL_yes {p : Pt} {hd : Int → Bool} {n i : Nat} (hi : i < n) (h : hd (i : Int) = true) : stL p hd n i = [p] := by unfold stL; rw [if_pos hi, if_pos h]
theorem stL_no {p : Pt} {hd : Int → Bool} {n i : Nat} (h : p ∈ stL p hd n i) : i < n ∧ hd (i : Int) = true := by
  unfold stL at h
  split at h
  · rename_i hi
    split at h
    · rename_i hh; exact ⟨hi, hh⟩
    · exact absurd (eldL_mem h) (eld_ne p)
  · cases h
theorem eldL_len (p : Pt) : (eldL p).length ≤ 1 := by unfold eldL; split <;> simp
theorem stL_len (p : Pt) (hd : Int → Bool) (n i : Nat) : (stL p hd n i).length ≤ 1 := by
  unfold stL
  split
  · split
    · simp
    · exact eldL_len p
  · simp
theorem stL_short {p x : Pt} {hd : Int → Bool} {n i : Nat} (hp : p.s.size ≤ 60) (h : x ∈ stL p hd n i) : x.s.size ≤ 60 := by
  rcases stL_mem h with rfl | rfl
  · exact hp
  · exact hp
theorem stL_upd {p : Pt} {S : QS} {n k j : Nat} (hk : k < n) (hy : hearB S (k : Int) = true) : stL p (hearS S (k : Int)).hd n j = if j = k then ins p (stL p S.hd n j) else stL p S.hd n j := by
  rw [hear_yes hy]
  unfold hearB at hy
  have hno : S.hd (k : Int) = false := by
    have := (Bool.and_eq_true_iff.1 hy).2
    simpa using this
  by_cases e : j = k
  · subst e
    have hu : updB S.hd (j : Int) (j : Int) = true := by unfold updB; rw [if_pos rfl]
    have h2 : stL p S.hd n j = eldL p := by unfold stL; rw [if_pos hk, if_neg (by rw [hno]; decide)]
    rw [if_pos rfl, h2, ins_eld]
    exact stL_yes hk hu
  · rw [if_neg e]
    have hu : updB S.hd (k : Int) (j : Int) = S.hd (j : Int) := by unfold updB; rw [if_neg (by omega)]
    simp only [stL, hu]
/-- The nodes below n. -/
def ndN (n : Nat) : List Int := (List.range n).map fun i : Nat => (i : Int)
theorem ndN_in {n : Nat} {i : Nat} : inL (ndN n) (i : Int) = decide (i < n) := by
  unfold inL ndN
  by_cases h : i < n
  · rw [decide_eq_true h, decide_eq_true (List.mem_map.2 ⟨i, List.mem_range.2 h, rfl⟩)]
  · rw [decide_eq_false h, decide_eq_false fun hm => by
      obtain ⟨j, hj, e⟩ := List.mem_map.1 hm
      have := List.mem_range.1 hj
      omega]
theorem ndN_snoc (n : Nat) : ndN (n + 1) = ndN n ++ [(n : Int)] := by unfold ndN; rw [List.range_succ, List.map_append]; rfl
theorem ndN_len (n : Nat) : (ndN n).length = n := by unfold ndN; simp
theorem pick_ndN {n : Nat} (h : n ≤ 16) : (pickL (inL (ndN n))).length = n := by
  have key : ∀ m, m ≤ 16 → (pickK (inL (ndN n)) m).length = min m n := fun m hm => by
    induction m with
    | zero => simp [pickK]
    | succ m ih =>
      by_cases h : m < n
      · rw [pickK_yes (by rw [ndN_in, decide_eq_true h]), List.length_append, ih (by omega)]
        simp
        omega
      · rw [pickK_no (by rw [ndN_in, decide_eq_false h]), ih (by omega)]
        omega
  have := key 16 (Nat.le_refl _)
  unfold pickL
  omega
theorem two_filters (P Q : Int → Bool) : ∀ l : List Int, (∀ x ∈ l, ¬ (P x = true ∧ Q x = true)) → (l.filter P).length + (l.filter Q).length ≤ l.length := fun l => by
  induction l with
  | nil => intro _; simp
  | cons a t ih =>
    intro h
    have h1 := ih fun x hx => h x (List.mem_cons_of_mem _ hx)
    have h2 := h a (by simp)
    rw [List.filter_cons, List.filter_cons]
    by_cases hp : P a = true
    · by_cases hq : Q a = true
      · exact absurd ⟨hp, hq⟩ h2
      · rw [if_pos hp, if_neg hq]; simp only [List.length_cons]; omega
    · by_cases hq : Q a = true
      · rw [if_neg hp, if_pos hq]; simp only [List.length_cons]; omega
      · rw [if_neg hp, if_neg hq]; simp only [List.length_cons]; omega
/-- Writes and reads that meet have a common node. -/
theorem common {n : Nat} {A B : Int → Bool} (hn : n ≤ 8) (h : n < (pickL fun i => inL (ndN n) i && A i).length + (pickL fun i => inL (ndN n) i && B i).length) : ∃ i : Nat, i < n ∧ A (i : Int) = true ∧ B (i : Int) = true := by
  by_cases hex : ∃ i : Nat, i < n ∧ A (i : Int) = true ∧ B (i : Int) = true
  · exact hex
  · exfalso
    rw [← pick_filter, ← pick_filter] at h
    have := two_filters A B (pickL (inL (ndN n))) fun x hx hab => hex (by
      unfold pickL at hx
      obtain ⟨⟨h0, h16⟩, hin⟩ := pickK_mem.1 hx
      obtain ⟨j, rfl⟩ : ∃ j : Nat, x = (j : Int) := ⟨x.toNat, by omega⟩
      rw [ndN_in] at hin
      exact ⟨j, of_decide_eq_true hin, hab⟩)
    rw [pick_ndN (by omega)] at this
    omega
/-- The write, behind some acknowledgements. -/
structure WI (need : Int) (n : Nat) (S : QS) (t : Nat) : Prop where
  need : S.need = need
  nd : S.nd = inL (ndN n)
  tail : ∀ j : Nat, j < t → j < n → S.hd (j : Int) = true
theorem WI.new (need : Int) (n : Nat) : WI need n (newS need (ndN n)) 0 := ⟨rfl, rfl, fun j hj => absurd hj (Nat.not_lt_zero _)⟩
theorem WI.hear {need : Int} {n : Nat} {S : QS} {t : Nat} (h : WI need n S t) (x : Int) : WI need n (hearS S x) t := by
  refine ⟨(hear_need S x).trans h.need, (hear_nd S x).trans h.nd, fun j hj hn => ?_⟩
  unfold hearS
  split
  · show updB S.hd x (j : Int) = true
    unfold updB
    split
    · rfl
    · exact h.tail j hj hn
  · exact h.tail j hj hn
theorem hear_now {n : Nat} {S : QS} {k : Nat} (hn : S.nd = inL (ndN n)) (hk : k < n) (hn8 : n ≤ 8) : (hearS S (k : Int)).hd (k : Int) = true := by
  unfold hearS
  split
  · show updB S.hd (k : Int) (k : Int) = true
    unfold updB; rw [if_pos rfl]
  · rename_i hh
    cases hd : S.hd (k : Int) with
    | true => rfl
    | false =>
      exfalso
      refine hh ?_
      unfold hearB hasB nodeB
      rw [hn, ndN_in, decide_eq_true hk, hd, decide_eq_true (show (0 : Int) ≤ (k : Int) by omega), decide_eq_true (show (k : Int) < 16 by omega)]
      rfl
theorem WI.step {need : Int} {n : Nat} {S : QS} {t : Nat} (h : WI need n S t) (hn8 : n ≤ 8) : WI need n (hearS S (t : Int)) (t + 1) := by
  obtain ⟨h1, h2, h3⟩ := h.hear (t : Int)
  refine ⟨h1, h2, fun j hj hn => ?_⟩
  by_cases e : j = t
  · subst e; exact hear_now h.nd hn hn8
  · exact h3 j (by omega) hn
theorem WI.skip {need : Int} {n : Nat} {S : QS} {t : Nat} (h : WI need n S t) (ht : n ≤ t) : WI need n S (t + 1) := ⟨h.need, h.nd, fun j hj hn => h.tail j (by omega) hn⟩
theorem hear_lt {n : Nat} {S : QS} {k : Nat} (hn : S.nd = inL (ndN n)) (hy : hearB S (k : Int) = true) : k < n := by
  unfold hearB hasB at hy
  simp only [Bool.and_eq_true] at hy
  have := hy.1.2
  rw [hn, ndN_in] at this
  exact of_decide_eq_true this
/-- With all nodes heard of it is done. -/
theorem WI.done {need : Int} {n : Nat} {S : QS} {t : Nat} (h : WI need n S t) (ht : n ≤ t) (hn8 : n ≤ 8) (hneed : need ≤ (n : Int)) (hn1 : 1 ≤ n) : doneB S = true := by
  have e : repL S = pickL (inL (ndN n)) := by
    unfold repL pickL
    refine pickK_congr fun i hi => ?_
    show (S.nd (i : Int) && S.hd (i : Int)) = _
    rw [h.nd, ndN_in]
    by_cases hin : i < n
    · rw [h.tail i (by omega) hin, decide_eq_true hin]; rfl
    · rw [decide_eq_false hin]; rfl
  unfold doneB
  rw [e, pick_ndN (by omega), h.need]
  exact decide_eq_true (by omega)
/-- The read, behind some answers. -/
structure RI (p : Pt) (hd : Int → Bool) (n : Nat) (R : RS) : Prop where
  an : ∀ i : Nat, i < 16 → R.an (i : Int) = if (R.S.nd (i : Int) && R.S.hd (i : Int)) = true then srtR (stL p hd n i) else []
theorem RI.new (p : Pt) (hd : Int → Bool) (n : Nat) (need : Int) : RI p hd n (newR need (ndN n)) := ⟨fun i hi => by
  show [] = _
  rw [if_neg (by show ¬ (inL (ndN n) (i : Int) && false) = true; rw [Bool.and_false]; decide)]⟩
theorem RI.step {p : Pt} {hd : Int → Bool} {n : Nat} {R : RS} (h : RI p hd n R) {k : Nat} (hk : k < 16) : RI p hd n (ansS R (k : Int) (stL p hd n k)) := ⟨fun i hi => by
  unfold ansS
  by_cases hy : hearB R.S (k : Int) = true
  · rw [if_pos hy]
    dsimp only
    rw [hear_yes hy]
    dsimp only
    have hnd : R.S.nd (k : Int) = true := by
      unfold hearB hasB at hy
      simp only [Bool.and_eq_true] at hy
      exact hy.1.2
    by_cases e : (i : Int) = (k : Int)
    · obtain rfl : i = k := by omega
      have hu : updB R.S.hd (i : Int) (i : Int) = true := by unfold updB; rw [if_pos rfl]
      rw [if_pos rfl, if_pos (by rw [hnd, hu]; rfl)]
    · have hu : updB R.S.hd (k : Int) (i : Int) = R.S.hd (i : Int) := by unfold updB; rw [if_neg e]
      rw [if_neg e, h.an i hi]
      by_cases hb : (R.S.nd (i : Int) && R.S.hd (i : Int)) = true
      · rw [if_pos hb, if_pos (by rw [hu]; exact hb)]
      · rw [if_neg hb, if_neg (by rw [hu]; exact hb)]
  · rw [if_neg hy]
    exact h.an i hi⟩
theorem rep_nat {S : QS} {i : Int} (h : i ∈ repL S) : ∃ k : Nat, k < 16 ∧ i = (k : Int) ∧ (S.nd i && S.hd i) = true := by
  unfold repL pickL at h
  obtain ⟨⟨h0, h1⟩, h2⟩ := pickK_mem.1 h
  exact ⟨i.toNat, by omega, by omega, h2⟩
/-- A read that is done has the point of a write that is. -/
theorem meets {p : Pt} {n : Nat} {S : QS} {R : RS} {w r : Int} {t t' : Nat} (hn8 : n ≤ 8) (hS : WI w n S t) (hR : WI r n R.S t') (hi : RI p S.hd n R) (hw : doneB S = true) (hr : doneB R.S = true) (hm : (n : Int) < w + r) : mrgL R = [p] := by
  unfold doneB at hw hr
  have hw := of_decide_eq_true hw
  have hr := of_decide_eq_true hr
  rw [hS.need] at hw
  rw [hR.need] at hr
  obtain ⟨i, hin, hA, hB⟩ := common (n := n) (A := S.hd) (B := R.S.hd) hn8 (by
    have e1 : repL S = pickL fun i => inL (ndN n) i && S.hd i := by unfold repL; rw [hS.nd]
    have e2 : repL R.S = pickL fun i => inL (ndN n) i && R.S.hd i := by unfold repL; rw [hR.nd]
    rw [← e1, ← e2]
    omega)
  unfold mrgL ansL
  refine srt_mix (fun x hx => ?_) ?_
  · obtain ⟨l, hl, hx⟩ := List.mem_flatten.1 hx
    obtain ⟨j, hj, rfl⟩ := List.mem_map.1 hl
    obtain ⟨k, hk, rfl, hb⟩ := rep_nat hj
    rw [hi.an k hk, if_pos hb] at hx
    exact stL_mem (srtR_mem _ hx)
  · refine List.mem_flatten.2 ⟨R.an (i : Int), List.mem_map.2 ⟨(i : Int), ?_, rfl⟩, ?_⟩
    · unfold repL pickL
      refine pickK_mem.2 ⟨⟨by omega, by omega⟩, ?_⟩
      show (R.S.nd (i : Int) && R.S.hd (i : Int)) = true
      rw [hR.nd, ndN_in, decide_eq_true hin, hB]; rfl
    · rw [hi.an i (by omega), if_pos (by rw [hR.nd, ndN_in, decide_eq_true hin, hB]; rfl), stL_yes hin hA]
      show p ∈ srtR [p]
      rw [srt_mix (p := p) (fun x hx => Or.inl (List.mem_singleton.1 hx)) (by simp)]
      simp
/-- Behind its repair each node has the point. -/
theorem mended {p : Pt} {n : Nat} {S : QS} {R : RS} {r : Int} {t' i : Nat} (hn8 : n ≤ 8) (hR : WI r n R.S t') (hi : RI p S.hd n R) (hm : mrgL R = [p]) (hin : i < n) : srtR (stL p S.hd n i ++ rprL R (i : Int)) = [p] ∧ (rprL R (i : Int)).length ≤ 1 := by
  have hh : hasB R.S (i : Int) = true := by
    unfold hasB nodeB
    rw [hR.nd, ndN_in, decide_eq_true hin, decide_eq_true (show (0 : Int) ≤ (i : Int) by omega), decide_eq_true (show (i : Int) < 16 by omega)]; rfl
  have hr : rprL R (i : Int) = keepL [p] (inA (R.an (i : Int))) := by unfold rprL; rw [if_pos hh, hm]
  refine ⟨?_, by rw [hr]; exact keep_len _ _⟩
  rw [hr]
  refine srt_mix (fun x hx => ?_) ?_
  · rcases List.mem_append.1 hx with hx | hx
    · exact stL_mem hx
    · exact Or.inl (List.mem_singleton.1 (List.mem_filter.1 hx).1)
  · by_cases hp : p ∈ stL p S.hd n i
    · exact List.mem_append_left _ hp
    · refine List.mem_append_right _ (List.mem_filter.2 ⟨by simp, ?_⟩)
      have : ¬ p ∈ R.an (i : Int) := fun h => by
        rw [hi.an i (by omega)] at h
        split at h
        · exact hp (srtR_mem _ h)
        · cases h
      unfold inA
      rw [decide_eq_false this]; rfl
end Go.Proofs.Ytcjcbbpolhpphaa.Qu
