/- Contracts of package frame's cut, measured and first, for a text and for a slice of bytes. -/
import Derived.Test.YteijmjbiaffcmaaGreatDoorFrameHead
import Derived.Test.YteijmjbiaffcmaaGreatDoorVintGet
namespace Go.Proofs.YteijmjbiaffcmaaGreatDoor
open Go.RowKit Go.Proofs.YteijmjbiaffcmaaGreatDoor.Vi Go.Proofs.YteijmjbiaffcmaaGreatDoor.Crc Go.Proofs.YteijmjbiaffcmaaGreatDoor.Fr

theorem tx_data (l : List UInt8) : (tx l).data.toList = l := by simp [tx]
theorem getR_zero (l : List UInt8) : getR l 0 = match getL 0 l with | none => (0, 0, 10) | some (v, m) => ((v : Int), (m : Int), 0) := by
  unfold getR
  rw [if_neg (by omega)]
  show (match getL 0 (l.drop 0) with | none => _ | some (v, m) => _) = _
  rw [List.drop_zero]
  cases getL 0 l with
  | none => rfl
  | some x => simp

set_option maxHeartbeats 1000000 in
theorem cut_is (h : List UInt8) (c : Bool) (w : World) (hl : h.length ≤ 10) (H : Hid (c = decide (getL 0 (h ++ [1]) ≠ none))) : Calls Tryz.prog 162 #[.string (tx h)] w fun e w' => e = .returned (.bool c) ∧ w = w' := by
  have e1 : tx h ++ (⟨#[1]⟩ : ByteArray) = tx (h ++ [1]) := by
    have : (⟨#[1]⟩ : ByteArray) = tx [1] := rfl
    rw [this, tx_app]
  obtain ⟨⟨v, p, e⟩, hx⟩ : ∃ x, getR (h ++ [1]) 0 = x := ⟨_, rfl⟩
  have hE : Hid (c = (e == 0)) := by
    show _ = _
    have hx' := hx
    rw [getR_zero] at hx'
    rw [H.out]
    cases hg : getL 0 (h ++ [1]) with
    | none => rw [hg] at hx'; simp at hx'; obtain ⟨_, _, rfl⟩ := hx'; rfl
    | some y => rw [hg] at hx'; simp at hx'; obtain ⟨_, _, rfl⟩ := hx'; rfl
  have hG := fun w => get_is (tx (h ++ [1])) 0 v p e w (by rw [tx_size]; unfold maxLen; simp; omega) (by omega) (by omega) (by rw [tx_data]; exact hx)
  have hz : (tx h).size + (⟨#[1]⟩ : ByteArray).size ≤ 9223372036854775807 := by rw [tx_size]; show _ + 1 ≤ _; omega
  obtain ⟨u, hu⟩ : ∃ u, tx (h ++ [1]) = u := ⟨_, rfl⟩
  rw [hu] at e1 hG
  obtain ⟨s, hs⟩ : ∃ s, tx h = s := ⟨_, rfl⟩
  rw [hs] at e1 hz ⊢
  clear hx hu hs H hl
  go_enter Tryz.func162, Tryz.ntmps162
  go_wp2_with (go_at_call 161; (with_reducible refine (hG _).mono ?_); rintro r w' ⟨rfl, rfl⟩)
  go_ret
  exact ⟨by rw [hE.out]; rfl, rfl⟩

set_option maxHeartbeats 1000000 in
theorem measured_is (h : List UInt8) (b f st : Int) (w : World) (hl : h.length ≤ 10) (H : Hid (measL h = (b, f, st))) : Calls Tryz.prog 137 #[.string (tx h)] w fun e w' => e = .returned (.tuple #[.int .i64 b, .int .i64 f, .int .i64 st]) ∧ w = w' := by
  obtain ⟨⟨v, p, g⟩, hx⟩ : ∃ x, getR h 0 = x := ⟨_, rfl⟩
  have hG := fun w => get_is (tx h) 0 v p g w (by rw [tx_size]; unfold maxLen; omega) (by omega) (by omega) (by rw [tx_data]; exact hx)
  obtain ⟨c, hc⟩ : ∃ c, c = decide (getL 0 (h ++ [1]) ≠ none) := ⟨_, rfl⟩
  have hC := fun w => cut_is h c w hl hc
  have hm := H.out
  unfold measL at hm
  rw [getR_zero] at hx
  obtain ⟨s, hs⟩ : ∃ s, tx h = s := ⟨_, rfl⟩
  rw [hs] at hG hC ⊢
  clear hs H
  cases hg : getL 0 h with
  | none =>
    rw [hg] at hx hm
    simp only at hx hm
    injection hx with e1 hx
    injection hx with e2 e3
    subst e1 e2 e3
    by_cases hn : getL 0 (h ++ [1]) = none
    · rw [if_pos hn] at hm
      obtain rfl : c = false := by rw [hc]; simp [hn]
      injection hm with e1 hm
      injection hm with e2 e3
      subst e1 e2 e3
      clear hg hn hc hl
      go_enter Tryz.func137, Tryz.ntmps137
      go_wp2_with (first
        | (go_at_call 161; (with_reducible refine (hG _).mono ?_); rintro r w' ⟨rfl, rfl⟩)
        | (go_at_call 162; (with_reducible refine (hC _).mono ?_); rintro r w' ⟨rfl, rfl⟩))
      go_ret3
      exact ⟨rfl, rfl⟩
    · rw [if_neg hn] at hm
      obtain rfl : c = true := by rw [hc]; simp [hn]
      injection hm with e1 hm
      injection hm with e2 e3
      subst e1 e2 e3
      clear hg hn hc hl
      go_enter Tryz.func137, Tryz.ntmps137
      go_wp2_with (first
        | (go_at_call 161; (with_reducible refine (hG _).mono ?_); rintro r w' ⟨rfl, rfl⟩)
        | (go_at_call 162; (with_reducible refine (hC _).mono ?_); rintro r w' ⟨rfl, rfl⟩))
      go_ret3
      exact ⟨rfl, rfl⟩
  | some y =>
    obtain ⟨n, m⟩ := y
    obtain ⟨h1, -, h3, -⟩ := getL_some h 0 n m (by omega) hg
    have hn := enc_len10 n (by simpa using h1)
    rw [← h3] at hn
    rw [hg] at hx hm
    simp only at hx hm
    injection hx with e1 hx
    injection hx with e2 e3
    subst e1 e2 e3
    clear h1 h3 hg hc hl hC
    by_cases h7 : 70000 < n
    · rw [if_pos h7] at hm
      injection hm with e1 hm
      injection hm with e2 e3
      subst e1 e2 e3
      have h8 : (70000 : Int) < (n : Int) := by omega
      clear h7
      go_enter Tryz.func137, Tryz.ntmps137
      go_wp2_with (first
        | (go_at_call 161; (with_reducible refine (hG _).mono ?_); rintro r w' ⟨rfl, rfl⟩))
      go_ret3
      exact ⟨rfl, rfl⟩
    · rw [if_neg h7] at hm
      injection hm with e1 hm
      injection hm with e2 e3
      subst e1 e2 e3
      have h8 : ¬ (70000 : Int) < (n : Int) := by omega
      go_enter Tryz.func137, Tryz.ntmps137
      go_wp2_with (first
        | (go_at_call 161; (with_reducible refine (hG _).mono ?_); rintro r w' ⟨rfl, rfl⟩))
      go_ret3
      exact ⟨by rw [show ((m + n + 4 : Nat) : Int) = (m : Int) + (n : Int) + 4 by omega]; rfl, rfl⟩

/-- The answer of what reads the head. -/
structure IsG (s : List UInt8) (body : ByteArray) (n st : Int) : Prop where
  body : tx (getF s).body = body
  len : ((getF s).len : Int) = n
  w : ((getF s).w : Int) = st
theorem IsG.of {s : List UInt8} {body : ByteArray} {n st : Int} {k m : Nat} {l : List UInt8} (h : IsG s body n st) (e : getF s = ⟨k, l, m⟩) : body = tx l ∧ n = (m : Int) ∧ st = (k : Int) := by
  obtain ⟨h1, h2, h3⟩ := h
  rw [e] at h1 h2 h3
  exact ⟨h1.symm, h2.symm, h3.symm⟩
def FDone (body : ByteArray) (n st : Int) (w : World) (e : Ending) (w' : World) : Prop := e = .returned (.tuple #[.string body, .int .i64 n, .int .i64 st]) ∧ Below w.heap.size w w'
theorem tx_part (s : List UInt8) (l r : Nat) : (tx s).extract l r = tx ((s.drop l).take (r - l)) := by
  apply ByteArray.ext
  apply Array.toList_inj.1
  simp [tx]

set_option maxHeartbeats 1000000 in
theorem first_str (s : List UInt8) (body : ByteArray) (n st : Int) (w : World) (hs : s.length ≤ 1000000000) (ht : Tab w) (H : Hid (IsG s body n st)) : Calls Tryz.prog 119 #[.string (tx s)] w (FDone body n st w) := by
  have hz := tx_size s
  by_cases h0 : s = []
  · subst h0
    obtain ⟨rfl, rfl, rfl⟩ := H.out.of getF_nil
    clear H hs
    go_enter Tryz.func119, Tryz.ntmps119
    go_wp2
    go_ret3
    exact ⟨rfl, Below.refl _ _⟩
  · obtain ⟨L, hL⟩ : ∃ L, s.length = L := ⟨_, rfl⟩
    rw [hL] at hs hz
    obtain ⟨⟨b, f, g⟩, hx⟩ : ∃ x, measL (s.take 10) = x := ⟨_, rfl⟩
    have hM := fun w => measured_is (s.take 10) b f g w (by rw [List.length_take]; omega) hx
    have hu10 : (tx s).extract 0 (min L 10) = tx (s.take 10) := by
      apply ByteArray.ext
      subst hL
      simp [tx, Nat.min_comm]
    obtain ⟨u, hu2⟩ : ∃ u, tx (s.take 10) = u := ⟨_, rfl⟩
    rw [hu2] at hM hu10
    clear hu2
    obtain ⟨q1, q2, q3, q4⟩ := measL_bounds hx
    have hpos : 0 < L := by cases s with | nil => exact absurd rfl h0 | cons => simp at hL; omega
    have hsplit : (L : Int) ≤ 10 ∧ min L 10 = L ∨ ¬ (L : Int) ≤ 10 ∧ min L 10 = 10 := by omega
    by_cases hg : g = 0
    · subst hg
      obtain ⟨N, m, hb, hf, h1, h2, h3, h4⟩ := head_good hx
      obtain ⟨E, hE⟩ : ∃ E, m + N + 4 = E := ⟨_, rfl⟩
      rw [hE] at hf h4
      rw [hL] at h3 h4
      subst hb hf
      by_cases hLE : L < E
      · rw [if_pos hLE] at h4
        obtain ⟨rfl, rfl, rfl⟩ := H.out.of h4
        have hLE2 : (L : Int) < (E : Int) := by omega
        generalize tx s = S at *
        clear H hx hL h0 hs q1 q2 q3 q4 h1 h2 h3 h4 hE hLE
        rcases hsplit with ⟨h10, hm10⟩ | ⟨h10, hm10⟩
        all_goals
          rw [hm10] at hu10
          clear hm10
          go_enter Tryz.func119, Tryz.ntmps119
          go_wp2_with (go_at_call 137; (with_reducible refine (hM _).mono ?_); rintro r w' ⟨rfl, rfl⟩)
          go_ret3
          exact ⟨rfl, Below.refl _ _⟩
      · rw [if_neg hLE] at h4
        have hl4 : ((s.drop m).take (N + 4)).length = N + 4 := by rw [List.length_take, List.length_drop]; omega
        have htk : ((s.drop m).take (N + 4)).take N = (s.drop m).take N := by rw [List.take_take, Nat.min_eq_left (by omega)]
        have hT : (tx s).extract m E = tx ((s.drop m).take (N + 4)) := by rw [tx_part, show E - m = N + 4 by omega]
        have hmE : (m : Int) ≤ (E : Int) := by omega
        have hEL : (E : Int) ≤ (L : Int) := by omega
        have hLE2 : ¬ (L : Int) < (E : Int) := by omega
        by_cases hq : sealed ((s.drop m).take N) = (s.drop m).take (N + 4)
        · rw [if_pos hq] at h4
          obtain ⟨rfl, rfl, rfl⟩ := H.out.of h4
          obtain ⟨ho, hbo⟩ := open_yes _ N hl4 (by rw [htk]; exact hq)
          have hO := fun w ht => open_is (tx ((s.drop m).take (N + 4))) _ _ w hbo ho (by rw [tx_size, hl4]; omega) ht
          rw [htk] at hO
          generalize tx ((s.drop m).take (N + 4)) = T at *
          generalize tx ((s.drop m).take N) = R at *
          generalize tx s = S at *
          clear H hx hL h0 hs q1 q2 q3 q4 h1 h2 h3 h4 hE hLE hq ho hbo hl4 htk
          rcases hsplit with ⟨h10, hm10⟩ | ⟨h10, hm10⟩
          all_goals
            rw [hm10] at hu10
            clear hm10
            go_enter Tryz.func119, Tryz.ntmps119
            go_wp2_with (first | (go_at_call 137; (with_reducible refine (hM _).mono ?_); rintro r w' ⟨rfl, rfl⟩) | (go_at_call 138; (with_reducible refine (hO _ (by assumption)).mono ?_); rintro r w' ⟨rfl, hw⟩))
            go_ret3
            exact ⟨rfl, hw⟩
        · rw [if_neg hq] at h4
          obtain ⟨rfl, rfl, rfl⟩ := H.out.of h4
          obtain ⟨ho, hbo⟩ := open_no _ N hl4 (by rw [htk]; exact hq)
          have hO := fun w ht => open_is (tx ((s.drop m).take (N + 4))) _ _ w hbo ho (by rw [tx_size, hl4]; omega) ht
          generalize tx ((s.drop m).take (N + 4)) = T at *
          generalize tx s = S at *
          clear H hx hL h0 hs q1 q2 q3 q4 h1 h2 h3 h4 hE hLE hq ho hbo hl4 htk
          rcases hsplit with ⟨h10, hm10⟩ | ⟨h10, hm10⟩
          all_goals
            rw [hm10] at hu10
            clear hm10
            go_enter Tryz.func119, Tryz.ntmps119
            go_wp2_with (first | (go_at_call 137; (with_reducible refine (hM _).mono ?_); rintro r w' ⟨rfl, rfl⟩) | (go_at_call 138; (with_reducible refine (hO _ (by assumption)).mono ?_); rintro r w' ⟨rfl, hw⟩))
            go_ret3
            exact ⟨rfl, hw⟩
    · obtain ⟨rfl, rfl, rfl⟩ := H.out.of (head_bad h0 hx hg)
      have hg2 : (g == 0) = false := by simpa using hg
      have hto : ((g.toNat : Nat) : Int) = g := by omega
      generalize tx s = S at *
      clear H hx hL h0 hs q1 q2 q3
      rcases hsplit with ⟨h10, hm10⟩ | ⟨h10, hm10⟩
      all_goals
        rw [hm10] at hu10
        clear hm10
        go_enter Tryz.func119, Tryz.ntmps119
        go_wp2_with (go_at_call 137; (with_reducible refine (hM _).mono ?_); rintro r w' ⟨rfl, rfl⟩)
        go_ret3
        exact ⟨by rw [hto]; rfl, Below.refl _ _⟩

end Go.Proofs.YteijmjbiaffcmaaGreatDoor
