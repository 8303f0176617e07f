/- Plain mathematics of the windows of a span, one behind the other. -/
import Derived.Test.YtdkenokjdiamhaaDoorWindowWins
set_option maxRecDepth 20000
namespace Go.Proofs.YtdkenokjdiamhaaDoor
open Go.RowKit

/-- Where the last window ends; -1 if there is none. -/
def lastT (l : List Sp) : Int := (l.getLast?.map Sp.t).getD (-1)
theorem lastT_nil : lastT [] = -1 := rfl
theorem lastT_snoc (l : List Sp) (x : Sp) : lastT (l ++ [x]) = x.t := by unfold lastT; simp
theorem lastT_at (l : List Sp) (h : 0 < l.length) : lastT l = l[l.length - 1].t := by
  unfold lastT
  rw [List.getLast?_eq_getElem?, List.getElem?_eq_getElem (by omega)]
  rfl
theorem prefix_last {pre L : List Sp} {x : Sp} (h : pre ++ [x] <+: L) : ∃ hl : pre.length < L.length, x = L[pre.length] ∧ ∀ hp : 0 < pre.length, lastT pre = (L[pre.length - 1]'(by omega)).t := by
  have hlen := h.length_le
  rw [List.length_append, List.length_singleton] at hlen
  refine ⟨by omega, ?_, fun hp => ?_⟩
  · have := h.getElem (i := pre.length) (by simp)
    rw [← this]; simp
  · rw [lastT_at pre hp]
    have := h.getElem (i := pre.length - 1) (by simp; omega)
    rw [← this, List.getElem_append_left (by omega)]
theorem nth_f (c : Sp) (W : Int) (k : Nat) : (nthW c W k).f = c.f + (k : Int) * W := rfl
theorem nth_t (c : Sp) (W : Int) (k : Nat) : (nthW c W k).t = cutI (c.f + (k : Int) * W + W) := rfl
/-- What is known of a span's cover and its windows, for a tier of width W. -/
structure CovOk (s : Sp) (W : Int) (c : Sp) : Prop where
  lo : 0 ≤ c.f
  le : c.f ≤ s.f ∨ c.f = c.t
  up : c.t ≤ 1099511627777
  empty : s.f = s.t → c.f = c.t
  some_ : s.f < s.t → c.f ≤ s.f ∧ s.f < c.f + W ∧ s.t ≤ c.t ∧ (c.t = 1099511627777 ∨ c.t % W = 0) ∧ c.t ≤ s.t - 1 + W
  mod : c.f % W = 0
theorem cov_ok {s : Sp} {k : Int} (W : Int) (hW : wid k = W) (hW2 : W = 1 ∨ W = 10 ∨ W = 60 ∨ W = 3600) (hs : s.is = true) : CovOk s W (s.cover k) := by
  have h := Sp.is_iff.1 hs
  have hm : s.may k = true := by unfold Sp.may; rw [hs, hW]; simp; omega
  have e : s.cover k = if s.f = s.t then (if s.f = 1099511627777 then Sp.zero else ⟨s.f - s.f % W, s.f - s.f % W⟩) else ⟨s.f - s.f % W, cutI ((s.t - 1) - (s.t - 1) % W + W)⟩ := by
    unfold Sp.cover
    rw [if_neg (by rw [hm]; simp), hW]
  rw [e]
  rcases hW2 with rfl | rfl | rfl | rfl <;> (split; · split <;> (refine ⟨?_, ?_, ?_, ?_, ?_, ?_⟩ <;> (try unfold Sp.zero) <;> dsimp only <;> omega)) <;>
    (unfold cutI; refine ⟨?_, ?_, ?_, ?_, ?_, ?_⟩ <;> dsimp only <;> (try split) <;> omega)
theorem tier_wid {k : Int} (hk : 0 ≤ k ∧ k ≤ 3) : wid k = 1 ∨ wid k = 10 ∨ wid k = 60 ∨ wid k = 3600 := by
  have hc : k = 0 ∨ k = 1 ∨ k = 2 ∨ k = 3 := by omega
  rcases hc with rfl | rfl | rfl | rfl
  · exact Or.inl wid_0
  · exact Or.inr (Or.inl wid_1)
  · exact Or.inr (Or.inr (Or.inl wid_2))
  · exact Or.inr (Or.inr (Or.inr wid_3))
structure StepOk (s : Sp) (k : Int) (pre : List Sp) (x : Sp) : Prop where
  first : pre.length = 0 → x.f ≤ s.f ∧ s.f < x.t
  next : 0 < pre.length → x.f = lastT pre
  of_ : ofI x.f k = x
theorem parts_step {s x : Sp} {k : Int} {pre : List Sp} (hs : s.is = true) (hk : 0 ≤ k ∧ k ≤ 3) (h : pre ++ [x] <+: allW s k) : StepOk s k pre x := by
  obtain ⟨hl, hx, hp⟩ := prefix_last h
  have hci := count_iff s k
  have hno := nth_of s k
  have hag := allW_get s k
  rw [allW_length] at hl
  have hlt := (hci pre.length).1 hl
  rw [hag] at hx
  have hC := cov_ok (wid k) rfl (tier_wid hk) hs
  obtain ⟨W, hW⟩ : ∃ W, wid k = W := ⟨_, rfl⟩
  have hw := tier_wid hk
  obtain ⟨c, hc⟩ : ∃ c, s.cover k = c := ⟨_, rfl⟩
  rw [hW] at hw
  rw [hW, hc] at hlt hx hC
  obtain ⟨c1, c2, c3, c4, c5, c6⟩ := hC
  have hse := Sp.is_iff.1 hs
  have hof : ofI x.f k = x := by
    have := hno pre.length (by rw [hW, hc]; exact hlt)
    rw [hW, hc] at this
    rw [hx, nth_f]; exact this
  refine ⟨fun h0 => ?_, fun h0 => ?_, hof⟩
  · rw [h0] at hlt hx
    have hne : s.f ≠ s.t := fun e => by have := c4 e; simp at hlt; omega
    have c5 := c5 (by omega)
    rw [hx, nth_f, nth_t]
    unfold cutI
    simp only [Int.natCast_zero, Int.zero_mul, Int.add_zero]
    split <;> omega
  · rw [hp h0, hag, hW, hc, hx, nth_f, nth_t]
    have e : c.f + ((pre.length - 1 : Nat) : Int) * W + W = c.f + (pre.length : Int) * W := by
      have : (pre.length : Int) = ((pre.length - 1 : Nat) : Int) + 1 := by omega
      rw [this, Int.add_mul, Int.one_mul]; omega
    rw [e]
    unfold cutI
    split <;> omega
structure EndOk (s : Sp) (k : Int) (c inn : Sp) (N : Int) (T : Int) : Prop where
  lo : s.f ≤ inn.f
  hi : inn.t ≤ s.t
  al : c.aligned k = true
  empty : s.f = s.t → N = 0
  last : s.f < s.t → s.t ≤ T ∧ c.f ≤ s.f ∧ c.t = T
theorem mul_lit {W x : Int} (m : Int) (hw : W = 1 ∨ W = 10 ∨ W = 60 ∨ W = 3600) (h : m * W = x) : (W = 1 ∧ m * 1 = x) ∨ (W = 10 ∧ m * 10 = x) ∨ (W = 60 ∧ m * 60 = x) ∨ (W = 3600 ∧ m * 3600 = x) := by
  rcases hw with rfl | rfl | rfl | rfl <;> simp [h]
theorem parts_end {s : Sp} {k : Int} (hs : s.is = true) (hk : 0 ≤ k ∧ k ≤ 3) : EndOk s k (s.cover k) (s.inner k) (s.count k) (lastT (allW s k)) := by
  have hC := cov_ok (wid k) rfl (tier_wid hk) hs
  have hse := Sp.is_iff.1 hs
  have hw := tier_wid hk
  have hwb : 0 < wid k := by omega
  have hm : s.may k = true := by unfold Sp.may; rw [hs]; simp; omega
  have hcb := cover_bounds s k
  have hcnt := count_bounds s k
  have hci := count_iff s k
  have hag := allW_get s k
  have hal := allW_length s k
  have hN : s.count k = if (s.cover k).f = (s.cover k).t then 0 else ((s.cover k).t - (s.cover k).f + wid k - 1) / wid k := rfl
  have hin : s.inner k = if downI s.t (wid k) ≤ upI s.f (wid k) then ⟨s.f, s.f⟩ else ⟨upI s.f (wid k), downI s.t (wid k)⟩ := by
    unfold Sp.inner; rw [if_neg (by rw [hm]; simp)]
  have hCa : (s.cover k).may k = true := by
    unfold Sp.may
    rw [Bool.and_eq_true]
    exact ⟨Sp.is_iff.2 (by omega), by simpa using hwb⟩
  have hAl : (s.cover k).aligned k = ((s.cover k).may k && decide (((s.cover k).f % wid k = 0 ∨ (s.cover k).f = 1099511627777) ∧ ((s.cover k).t % wid k = 0 ∨ (s.cover k).t = 1099511627777))) := rfl
  obtain ⟨W, hW⟩ : ∃ W, wid k = W := ⟨_, rfl⟩
  obtain ⟨c, hc⟩ : ∃ c, s.cover k = c := ⟨_, rfl⟩
  obtain ⟨N, hNN⟩ : ∃ N, s.count k = N := ⟨_, rfl⟩
  rw [hW, hc] at hC
  rw [hc] at hcb hN hAl hCa
  rw [hNN] at hcnt hci hal hN
  rw [hW] at hN hin hAl hw hwb
  rw [hW, hc] at hci
  rw [hc, hNN]
  obtain ⟨c1, c2, c3, c4, c5, c6⟩ := hC
  have hu : s.f ≤ upI s.f W := by unfold upI; rcases hw with rfl | rfl | rfl | rfl <;> split <;> omega
  have hd : downI s.t W ≤ s.t := by unfold downI; rcases hw with rfl | rfl | rfl | rfl <;> split <;> omega
  refine ⟨?_, ?_, ?_, fun he => ?_, fun hlt => ?_⟩
  · rw [hin]
    split <;> dsimp only <;> omega
  · rw [hin]
    split <;> dsimp only <;> omega
  · rw [hAl, hCa, Bool.true_and, decide_eq_true_eq]
    refine ⟨Or.inl c6, ?_⟩
    by_cases he : s.f = s.t
    · rw [← c4 he]; exact Or.inl c6
    · have := (c5 (by omega)).2.2.2.1; omega
  · rw [hN, if_pos (c4 he)]
  · have c5 := c5 hlt
    have hne : c.f ≠ c.t := by omega
    rw [if_neg hne] at hN
    have hp : 0 < N := by rcases hw with rfl | rfl | rfl | rfl <;> omega
    have hL : 0 < (allW s k).length := by omega
    have e := lastT_at _ hL
    rw [hag, hW, hc, nth_t, hal] at e
    have hT : lastT (allW s k) = c.t := by
      rw [e]
      obtain ⟨m, hmm⟩ : ∃ m : Nat, N.toNat - 1 = m := ⟨_, rfl⟩
      rw [hmm]
      have hmN : (m : Int) = N - 1 := by omega
      unfold cutI
      rcases hw with rfl | rfl | rfl | rfl <;> split <;> omega
    rw [hT]
    omega
end Go.Proofs.YtdkenokjdiamhaaDoor
