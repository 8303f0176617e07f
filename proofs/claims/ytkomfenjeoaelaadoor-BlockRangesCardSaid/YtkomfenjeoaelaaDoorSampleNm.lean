/- The contracts of the program's letter, digit, isTime and Name. -/
import Derived.Test.YtkomfenjeoaelaaDoorSampleName
set_option maxRecDepth 20000
namespace Go.Proofs.YtkomfenjeoaelaaDoor
open Go.RowKit Go.Proofs.YtkomfenjeoaelaaDoor.Vi

theorem letter_is (b : UInt8) (z : Bool) (w : World) (H : Hid (decide (97 ≤ b.toNat ∧ b.toNat ≤ 122) = z)) : Calls Tryd.prog 97 #[.int .u8 (b.toNat : Int)] w fun e w' => e = .returned (.bool z) ∧ w = w' := by
  by_cases h0 : 97 ≤ b.toNat
  · have g0 : (97 : Int) ≤ (b.toNat : Int) := by omega
    by_cases h1 : b.toNat ≤ 122
    · have g1 : (b.toNat : Int) ≤ 122 := by omega
      have HZ : Hid (z = true) := by show _ = _; rw [← H.out]; exact decide_eq_true ⟨h0, h1⟩
      go_enter Tryd.func97, Tryd.ntmps97
      go_wp2
      go_ret
      exact ⟨by rw [HZ.out]; rfl, rfl⟩
    · have g1 : ¬ (b.toNat : Int) ≤ 122 := by omega
      have HZ : Hid (z = false) := by show _ = _; rw [← H.out]; exact decide_eq_false fun h => h1 h.2
      go_enter Tryd.func97, Tryd.ntmps97
      go_wp2
      go_ret
      exact ⟨by rw [HZ.out]; rfl, rfl⟩
  · have g0 : ¬ (97 : Int) ≤ (b.toNat : Int) := by omega
    have HZ : Hid (z = false) := by show _ = _; rw [← H.out]; exact decide_eq_false fun h => h0 h.1
    go_enter Tryd.func97, Tryd.ntmps97
    go_wp2
    go_ret
    exact ⟨by rw [HZ.out]; rfl, rfl⟩
theorem digit_is (b : UInt8) (z : Bool) (w : World) (H : Hid (decide (48 ≤ b.toNat ∧ b.toNat ≤ 57) = z)) : Calls Tryd.prog 98 #[.int .u8 (b.toNat : Int)] w fun e w' => e = .returned (.bool z) ∧ w = w' := by
  by_cases h0 : 48 ≤ b.toNat
  · have g0 : (48 : Int) ≤ (b.toNat : Int) := by omega
    by_cases h1 : b.toNat ≤ 57
    · have g1 : (b.toNat : Int) ≤ 57 := by omega
      have HZ : Hid (z = true) := by show _ = _; rw [← H.out]; exact decide_eq_true ⟨h0, h1⟩
      go_enter Tryd.func98, Tryd.ntmps98
      go_wp2
      go_ret
      exact ⟨by rw [HZ.out]; rfl, rfl⟩
    · have g1 : ¬ (b.toNat : Int) ≤ 57 := by omega
      have HZ : Hid (z = false) := by show _ = _; rw [← H.out]; exact decide_eq_false fun h => h1 h.2
      go_enter Tryd.func98, Tryd.ntmps98
      go_wp2
      go_ret
      exact ⟨by rw [HZ.out]; rfl, rfl⟩
  · have g0 : ¬ (48 : Int) ≤ (b.toNat : Int) := by omega
    have HZ : Hid (z = false) := by show _ = _; rw [← H.out]; exact decide_eq_false fun h => h0 h.1
    go_enter Tryd.func98, Tryd.ntmps98
    go_wp2
    go_ret
    exact ⟨by rw [HZ.out]; rfl, rfl⟩
theorem time_is (t : Int) (z : Bool) (w : World) (H : Hid (decide (0 ≤ t ∧ t ≤ 1099511627776) = z)) : Calls Tryd.prog 73 #[.int .i64 t] w fun e w' => e = .returned (.bool z) ∧ w = w' := by
  by_cases h0 : 0 ≤ t
  · by_cases h1 : t ≤ 1099511627776
    · have HZ : Hid (z = true) := by show _ = _; rw [← H.out]; exact decide_eq_true ⟨h0, h1⟩
      go_enter Tryd.func73, Tryd.ntmps73
      go_wp2
      go_ret
      exact ⟨by rw [HZ.out]; rfl, rfl⟩
    · have HZ : Hid (z = false) := by show _ = _; rw [← H.out]; exact decide_eq_false fun h => h1 h.2
      go_enter Tryd.func73, Tryd.ntmps73
      go_wp2
      go_ret
      exact ⟨by rw [HZ.out]; rfl, rfl⟩
  · have HZ : Hid (z = false) := by show _ = _; rw [← H.out]; exact decide_eq_false fun h => h0 h.1
    go_enter Tryd.func73, Tryd.ntmps73
    go_wp2
    go_ret
    exact ⟨by rw [HZ.out]; rfl, rfl⟩

set_option maxHeartbeats 2000000 in
theorem name_is (s : ByteArray) (c : Bool) (w : World) (hs : s.size ≤ 1000000000) (H : Hid (nameB s = c)) : Calls Tryd.prog 72 #[.string s] w fun e w' => e = .returned (.bool c) ∧ w = w' := by
  have hl : s.data.toList.length = s.size := by simp
  by_cases h0 : s.size = 0
  · have e0 : s = ⟨#[]⟩ := ByteArray.ext (Array.toList_inj.1 (List.eq_nil_of_length_eq_zero (by rw [hl]; exact h0)))
    have HF : Hid (false = c) := by show _ = _; rw [← H.out]; exact (nameL_short (by rw [hl]; omega)).symm
    subst e0
    clear H h0 hl
    go_enter Tryd.func72, Tryd.ntmps72
    go_wp2
    go_ret
    exact ⟨by rw [← HF.out]; rfl, rfl⟩
  have hne : (s.toList == []) = false := by
    apply Bool.eq_false_iff.2
    intro e
    have e := eq_of_beq e
    rw [ByteArray.toList_eq] at e
    exact h0 (by rw [← hl, e]; rfl)
  by_cases h40 : 40 < s.size
  · have HF : Hid (false = c) := by show _ = _; rw [← H.out]; exact (nameL_short (by rw [hl]; omega)).symm
    have h2 : (40 : Int) < (s.size : Int) := by omega
    clear H h0 hl
    go_enter Tryd.func72, Tryd.ntmps72
    go_wp2
    go_ret
    exact ⟨by rw [← HF.out]; rfl, rfl⟩
  have h2 : ¬ (40 : Int) < (s.size : Int) := by omega
  obtain ⟨b0, hb0⟩ : ∃ b, s[0]'(by omega) = b := ⟨_, rfl⟩
  have hb0L : s.data.toList[0]'(by rw [hl]; omega) = b0 := by rw [← hb0]; rfl
  have hz0 : 0 < s.size := by omega
  have hz1 : (0 : Int) < (s.size : Int) := by omega
  by_cases hfirst : 97 ≤ b0.toNat ∧ b0.toNat ≤ 122
  · have kl := fun w => letter_is b0 true w (Lib.hid (decide_eq_true hfirst))
    have HYES := Lib.hid (fun hc => nameL_yes (s := s.data.toList) (by rw [hl]; omega) (by rw [hl]; omega) (by rw [hb0L]; exact hfirst) hc)
    clear hb0L hfirst
    go_enter Tryd.func72, Tryd.ntmps72
    go_wp2_with (go_at_call 97; (with_reducible refine (kl _).mono ?_); rintro e w1 ⟨rfl, rfl⟩)
    go_loop [19] (fun i => ∃ k : Nat, k ≤ s.size ∧ i = .int .i64 (k : Int) ∧ Hid (∀ j (hj : j < s.data.toList.length), j < k → nameC s.data.toList[j] = true)) (fun i => s.size - (intOf i).toNat)
    case atStart => exact ⟨0, Nat.zero_le _, rfl, Lib.hid fun j _ hj => absurd hj (Nat.not_lt_zero _)⟩
    case round =>
      obtain ⟨k, hk, rfl, hall⟩ := hrel
      clear hb0
      by_cases hlt : k < s.size
      · obtain ⟨b, hb⟩ : ∃ b, s[k] = b := ⟨_, rfl⟩
        have hbL : s.data.toList[k]'(by rw [hl]; exact hlt) = b := by rw [← hb]; rfl
        have hbb := b.toNat_lt
        have hlti : (k : Int) < (s.size : Int) := by omega
        have HNO := Lib.hid (fun (h : nameC b = false) => show false = c by rw [← H.out]; exact (nameL_no (k := k) (by rw [hl]; exact hlt) (by rw [hbL]; exact h)).symm)
        have HGO := Lib.hid (fun (h : nameC b = true) => show ∀ j (hj : j < s.data.toList.length), j < k + 1 → nameC s.data.toList[j] = true from fun j hj hjk => by
          by_cases e : j = k
          · subst e; rw [hbL]; exact h
          · exact hall.out j hj (by omega))
        have kl2 := fun w => letter_is b _ w (Lib.hid rfl)
        have kd2 := fun w => digit_is b _ w (Lib.hid rfl)
        clear hbL hall kl
        cases hL : decide (97 ≤ b.toNat ∧ b.toNat ≤ 122) with
        | true =>
          rw [hL] at kl2
          have hg : nameC b = true := by unfold nameC; rw [hL]; rfl
          have HH := Lib.hid (HGO.out hg)
          clear hg HGO HNO hL kd2
          go_wp2_with (go_at_call 97; (with_reducible refine (kl2 _).mono ?_); rintro e w1 ⟨rfl, rfl⟩)
          go_round
          case rel => exact ⟨k + 1, by omega, by go_num, HH⟩
          case measure => simp [intOf]; omega
        | false =>
          cases hD : decide (48 ≤ b.toNat ∧ b.toNat ≤ 57) with
          | true =>
            rw [hL] at kl2
            rw [hD] at kd2
            have hg : nameC b = true := by unfold nameC; rw [hD]; simp
            have HH := Lib.hid (HGO.out hg)
            clear hg HGO HNO hL hD
            go_wp2_with (first
              | (go_at_call 97; (with_reducible refine (kl2 _).mono ?_); rintro e w1 ⟨rfl, rfl⟩)
              | (go_at_call 98; (with_reducible refine (kd2 _).mono ?_); rintro e w1 ⟨rfl, rfl⟩))
            go_round
            case rel => exact ⟨k + 1, by omega, by go_num, HH⟩
            case measure => simp [intOf]; omega
          | false =>
            have three : b.toNat = 95 ∨ (b.toNat ≠ 95 ∧ b.toNat = 46) ∨ (b.toNat ≠ 95 ∧ b.toNat ≠ 46) := by omega
            rcases three with g | ⟨g, g'⟩ | ⟨g, g'⟩
            · have h5 : ((b.toNat : Int) == 95) = true := by simp; omega
              have h5' : ((b.toNat : Int) != 95) = false := by simp; omega
              rw [hL] at kl2
              rw [hD] at kd2
              have hg : nameC b = true := by unfold nameC; simp; omega
              have HH := Lib.hid (HGO.out hg)
              clear hg HGO HNO hL hD g
              go_wp2_with (first
                | (go_at_call 97; (with_reducible refine (kl2 _).mono ?_); rintro e w1 ⟨rfl, rfl⟩)
                | (go_at_call 98; (with_reducible refine (kd2 _).mono ?_); rintro e w1 ⟨rfl, rfl⟩))
              go_round
              case rel => exact ⟨k + 1, by omega, by go_num, HH⟩
              case measure => simp [intOf]; omega
            · have h5 : ((b.toNat : Int) == 95) = false := by simp; omega
              have h5' : ((b.toNat : Int) != 95) = true := by simp; omega
              have h6 : ((b.toNat : Int) == 46) = true := by simp; omega
              have h6' : ((b.toNat : Int) != 46) = false := by simp; omega
              rw [hL] at kl2
              rw [hD] at kd2
              have hg : nameC b = true := by unfold nameC; simp; omega
              have HH := Lib.hid (HGO.out hg)
              clear hg HGO HNO hL hD g g'
              go_wp2_with (first
                | (go_at_call 97; (with_reducible refine (kl2 _).mono ?_); rintro e w1 ⟨rfl, rfl⟩)
                | (go_at_call 98; (with_reducible refine (kd2 _).mono ?_); rintro e w1 ⟨rfl, rfl⟩))
              go_round
              case rel => exact ⟨k + 1, by omega, by go_num, HH⟩
              case measure => simp [intOf]; omega
            · have h5 : ((b.toNat : Int) == 95) = false := by simp; omega
              have h5' : ((b.toNat : Int) != 95) = true := by simp; omega
              have h6 : ((b.toNat : Int) == 46) = false := by simp; omega
              have h6' : ((b.toNat : Int) != 46) = true := by simp; omega
              have hg : nameC b = false := by unfold nameC; rw [hL, hD]; simp; omega
              rw [hL] at kl2
              rw [hD] at kd2
              have HH := Lib.hid (HNO.out hg)
              clear hg HGO HNO hL hD g g'
              go_wp2_with (first
                | (go_at_call 97; (with_reducible refine (kl2 _).mono ?_); rintro e w1 ⟨rfl, rfl⟩)
                | (go_at_call 98; (with_reducible refine (kd2 _).mono ?_); rintro e w1 ⟨rfl, rfl⟩))
              go_ret
              exact ⟨by rw [← HH.out]; rfl, rfl⟩
      · have hlti : ¬ (k : Int) < (s.size : Int) := by omega
        have HE : Hid (true = c) := by show _ = _; rw [← H.out]; exact (HYES.out fun j hj => hall.out j hj (by rw [hl] at hj; omega)).symm
        clear hall
        go_wp2
        go_ret
        exact ⟨by rw [← HE.out]; rfl, rfl⟩
  · have kl := fun w => letter_is b0 false w (Lib.hid (decide_eq_false hfirst))
    have HF : Hid (false = c) := by show _ = _; rw [← H.out]; exact (nameL_first (s := s.data.toList) (by rw [hl]; omega) (by rw [hb0L]; exact hfirst)).symm
    clear hb0L hfirst H
    go_enter Tryd.func72, Tryd.ntmps72
    go_wp2_with (go_at_call 97; (with_reducible refine (kl _).mono ?_); rintro e w1 ⟨rfl, rfl⟩)
    go_ret
    exact ⟨by rw [← HF.out]; rfl, rfl⟩
end Go.Proofs.YtkomfenjeoaelaaDoor
