/- Names and times: what they are, and the contracts of the document's Name and time. -/
import Derived.Test.YtcjcbbpolhpphaaVintA
import Derived.WalkMore
set_option maxRecDepth 20000
namespace Go.Proofs.Ytcjcbbpolhpphaa
open Go.RowKit Go.Proofs.Ytcjcbbpolhpphaa.Vi

/-- A byte that a name may have; a name. -/
def nameC (b : UInt8) : Bool := decide (97 ≤ b.toNat ∧ b.toNat ≤ 122) || decide (48 ≤ b.toNat ∧ b.toNat ≤ 57) || decide (b.toNat = 95) || decide (b.toNat = 46)
def nameL (s : List UInt8) : Bool := match s with
  | [] => false
  | b :: t => decide (t.length < 40) && decide (97 ≤ b.toNat ∧ b.toNat ≤ 122) && (b :: t).all nameC
def nameB (s : ByteArray) : Bool := nameL s.data.toList
theorem nameL_short {s : List UInt8} (h : s.length < 1 ∨ 40 < s.length) : nameL s = false := by
  cases s with
  | nil => rfl
  | cons b t =>
    simp at h
    show (decide (t.length < 40) && decide (97 ≤ b.toNat ∧ b.toNat ≤ 122) && (b :: t).all nameC) = false
    have : decide (t.length < 40) = false := by simp; omega
    rw [this]; rfl
theorem nameL_first {s : List UInt8} (h : 0 < s.length) (hb : ¬ (97 ≤ s[0].toNat ∧ s[0].toNat ≤ 122)) : nameL s = false := by
  cases s with
  | nil => rfl
  | cons b t =>
    have hb : ¬ (97 ≤ b.toNat ∧ b.toNat ≤ 122) := hb
    show (decide (t.length < 40) && decide (97 ≤ b.toNat ∧ b.toNat ≤ 122) && (b :: t).all nameC) = false
    rw [decide_eq_false hb]; simp
theorem nameL_no {s : List UInt8} {k : Nat} (h : k < s.length) (hb : nameC s[k] = false) : nameL s = false := by
  cases s with
  | nil => rfl
  | cons b t =>
    show (decide (t.length < 40) && decide (97 ≤ b.toNat ∧ b.toNat ≤ 122) && (b :: t).all nameC) = false
    have : (b :: t).all nameC = false := List.all_eq_false.2 ⟨_, List.getElem_mem h, by rw [hb]; simp⟩
    rw [this, Bool.and_false]
theorem nameL_yes {s : List UInt8} (h1 : 0 < s.length) (h2 : s.length ≤ 40) (hb : 97 ≤ s[0].toNat ∧ s[0].toNat ≤ 122) (hc : ∀ k (h : k < s.length), nameC s[k] = true) : nameL s = true := by
  cases s with
  | nil => simp at h1
  | cons b t =>
    have hb : 97 ≤ b.toNat ∧ b.toNat ≤ 122 := hb
    show (decide (t.length < 40) && decide (97 ≤ b.toNat ∧ b.toNat ≤ 122) && (b :: t).all nameC) = true
    rw [decide_eq_true hb, decide_eq_true (by simp at h2; omega)]
    simp only [Bool.and_true, Bool.true_and]
    exact List.all_eq_true.2 fun x hx => by
      obtain ⟨k, hk, rfl⟩ := List.getElem_of_mem hx
      exact hc k hk

theorem rtime_is (t : Int) (z : Bool) (w : World) (H : Hid (decide (0 ≤ t ∧ t ≤ 1099511627776) = z)) : Calls Try.prog 49 #[.int .i64 t] w fun e w' => e = .returned (.bool z) ∧ w = w' := by
  by_cases h0 : 0 ≤ t
  · by_cases h1 : t ≤ 1099511627776
    · have HZ : Hid (z = true) := by show _ = _; rw [← H.out]; exact decide_eq_true ⟨h0, h1⟩
      go_enter Try.func49, Try.ntmps49
      go_wp2
      go_ret
      exact ⟨by rw [HZ.out]; rfl, rfl⟩
    · have HZ : Hid (z = false) := by show _ = _; rw [← H.out]; exact decide_eq_false fun h => h1 h.2
      go_enter Try.func49, Try.ntmps49
      go_wp2
      go_ret
      exact ⟨by rw [HZ.out]; rfl, rfl⟩
  · have HZ : Hid (z = false) := by show _ = _; rw [← H.out]; exact decide_eq_false fun h => h0 h.1
    go_enter Try.func49, Try.ntmps49
    go_wp2
    go_ret
    exact ⟨by rw [HZ.out]; rfl, rfl⟩

set_option maxHeartbeats 2000000 in
theorem rname_is (s : ByteArray) (c : Bool) (w : World) (hs : s.size ≤ 1000000000) (H : Hid (nameB s = c)) : Calls Try.prog 48 #[.string s] w fun e w' => e = .returned (.bool c) ∧ w = w' := by
  have hl : s.data.toList.length = s.size := by simp
  by_cases hshort : s.size < 1 ∨ 40 < s.size
  · have HF : Hid (false = c) := by show _ = _; rw [← H.out]; exact (nameL_short (by rw [hl]; exact hshort)).symm
    clear H
    rcases hshort with h | h
    · have h1 : (s.size : Int) < 1 := by omega
      go_enter Try.func48, Try.ntmps48
      go_wp2
      go_ret
      exact ⟨by rw [← HF.out]; rfl, rfl⟩
    · have h1 : ¬ (s.size : Int) < 1 := by omega
      have h2 : (40 : Int) < (s.size : Int) := by omega
      go_enter Try.func48, Try.ntmps48
      go_wp2
      go_ret
      exact ⟨by rw [← HF.out]; rfl, rfl⟩
  · have h1 : ¬ (s.size : Int) < 1 := by omega
    have h2 : ¬ (40 : Int) < (s.size : Int) := by omega
    obtain ⟨b0, hb0⟩ : ∃ b, s[0]'(by omega) = b := ⟨_, rfl⟩
    have hb0L : s.data.toList[0]'(by rw [hl]; omega) = b0 := by rw [← hb0]; rfl
    by_cases hfirst : 97 ≤ b0.toNat ∧ b0.toNat ≤ 122
    · have f1 : ¬ (b0.toNat : Int) < 97 := by omega
      have f2 : ¬ (122 : Int) < (b0.toNat : Int) := by omega
      have HYES := Lib.hid (fun hc => nameL_yes (s := s.data.toList) (by rw [hl]; omega) (by rw [hl]; omega) (by rw [hb0L]; exact hfirst) hc)
      clear hb0L hfirst
      go_enter Try.func48, Try.ntmps48
      go_wp2
      go_loop [3] (fun i => ∃ k : Nat, k ≤ s.size ∧ i = .int .i64 (k : Int) ∧ Hid (∀ j (hj : j < s.data.toList.length), j < k → nameC s.data.toList[j] = true)) (fun i => s.size - (intOf i).toNat)
      case atStart => exact ⟨0, Nat.zero_le _, rfl, Lib.hid fun j _ hj => absurd hj (Nat.not_lt_zero _)⟩
      case round =>
        obtain ⟨k, hk, rfl, hall⟩ := hrel
        clear hb0 f1 f2
        by_cases hlt : k < s.size
        · obtain ⟨b, hb⟩ : ∃ b, s[k] = b := ⟨_, rfl⟩
          have hbL : s.data.toList[k]'(by rw [hl]; exact hlt) = b := by rw [← hb]; rfl
          have hbb := b.toNat_lt
          have HNO := Lib.hid (fun (h : nameC b = false) => show false = c by rw [← H.out]; exact (nameL_no (k := k) (by rw [hl]; exact hlt) (by rw [hbL]; exact h)).symm)
          have HGO := Lib.hid (fun (h : nameC b = true) => show ∀ j (hj : j < s.data.toList.length), j < k + 1 → nameC s.data.toList[j] = true from fun j hj hjk => by
            by_cases e : j = k
            · subst e; rw [hbL]; exact h
            · exact hall.out j hj (by omega))
          clear hbL hall
          have case1 : (97 ≤ b.toNat ∧ b.toNat ≤ 122) ∨ (b.toNat < 48 ∧ b.toNat ≠ 46) ∨ b.toNat = 46 ∨ (48 ≤ b.toNat ∧ b.toNat ≤ 57) ∨ (57 < b.toNat ∧ b.toNat < 97 ∧ b.toNat ≠ 95) ∨ b.toNat = 95 ∨ 122 < b.toNat := by omega
          rcases case1 with ⟨g1, g2⟩ | ⟨g1, g2⟩ | g1 | ⟨g1, g2⟩ | ⟨g1, g2, g3⟩ | g1 | g1
          · skip
            have h3 : (97 : Int) ≤ (b.toNat : Int) := by omega
            have h4 : (b.toNat : Int) ≤ 122 := by omega
            have hg : nameC b = true := by unfold nameC; simp; omega
            have HH := Lib.hid (HGO.out hg)
            clear hg HGO HNO g1 g2
            go_wp2
            go_round
            case rel => exact ⟨k + 1, by omega, by go_num, HH⟩
            case measure => simp [intOf]; omega
          · skip
            have h3 : ¬ (97 : Int) ≤ (b.toNat : Int) := by omega
            have h4 : ¬ (48 : Int) ≤ (b.toNat : Int) := by omega
            have h5 : ((b.toNat : Int) == 95) = false := by simp; omega
            have h6 : ((b.toNat : Int) == 46) = false := by simp; omega
            have hg : nameC b = false := by unfold nameC; simp; omega
            have HH := Lib.hid (HNO.out hg)
            clear hg HGO HNO g1 g2
            go_wp2
            go_ret
            exact ⟨by rw [← HH.out]; rfl, rfl⟩
          · skip
            have h3 : ¬ (97 : Int) ≤ (b.toNat : Int) := by omega
            have h4 : ¬ (48 : Int) ≤ (b.toNat : Int) := by omega
            have h5 : ((b.toNat : Int) == 95) = false := by simp; omega
            have h6 : ((b.toNat : Int) == 46) = true := by simp; omega
            have hg : nameC b = true := by unfold nameC; simp; omega
            have HH := Lib.hid (HGO.out hg)
            clear hg HGO HNO g1
            go_wp2
            go_round
            case rel => exact ⟨k + 1, by omega, by go_num, HH⟩
            case measure => simp [intOf]; omega
          · skip
            have h3 : ¬ (97 : Int) ≤ (b.toNat : Int) := by omega
            have h4 : (48 : Int) ≤ (b.toNat : Int) := by omega
            have h5 : (b.toNat : Int) ≤ 57 := by omega
            have hg : nameC b = true := by unfold nameC; simp; omega
            have HH := Lib.hid (HGO.out hg)
            clear hg HGO HNO g1 g2
            go_wp2
            go_round
            case rel => exact ⟨k + 1, by omega, by go_num, HH⟩
            case measure => simp [intOf]; omega
          · skip
            have h3 : ¬ (97 : Int) ≤ (b.toNat : Int) := by omega
            have h4 : (48 : Int) ≤ (b.toNat : Int) := by omega
            have h5 : ¬ (b.toNat : Int) ≤ 57 := by omega
            have h6 : ((b.toNat : Int) == 95) = false := by simp; omega
            have h7 : ((b.toNat : Int) == 46) = false := by simp; omega
            have hg : nameC b = false := by unfold nameC; simp; omega
            have HH := Lib.hid (HNO.out hg)
            clear hg HGO HNO g1 g2 g3
            go_wp2
            go_ret
            exact ⟨by rw [← HH.out]; rfl, rfl⟩
          · skip
            have h3 : ¬ (97 : Int) ≤ (b.toNat : Int) := by omega
            have h4 : (48 : Int) ≤ (b.toNat : Int) := by omega
            have h5 : ¬ (b.toNat : Int) ≤ 57 := by omega
            have h6 : ((b.toNat : Int) == 95) = true := by simp; omega
            have hg : nameC b = true := by unfold nameC; simp; omega
            have HH := Lib.hid (HGO.out hg)
            clear hg HGO HNO g1
            go_wp2
            go_round
            case rel => exact ⟨k + 1, by omega, by go_num, HH⟩
            case measure => simp [intOf]; omega
          · skip
            have h3 : (97 : Int) ≤ (b.toNat : Int) := by omega
            have h4 : ¬ (b.toNat : Int) ≤ 122 := by omega
            have h5 : (48 : Int) ≤ (b.toNat : Int) := by omega
            have h6 : ¬ (b.toNat : Int) ≤ 57 := by omega
            have h7 : ((b.toNat : Int) == 95) = false := by simp; omega
            have h8 : ((b.toNat : Int) == 46) = false := by simp; omega
            have hg : nameC b = false := by unfold nameC; simp; omega
            have HH := Lib.hid (HNO.out hg)
            clear hg HGO HNO g1
            go_wp2
            go_ret
            exact ⟨by rw [← HH.out]; rfl, rfl⟩
        · have HE : Hid (true = c) := by show _ = _; rw [← H.out]; exact (HYES.out fun j hj => hall.out j hj (by rw [hl] at hj; omega)).symm
          clear hall
          go_wp2
          go_ret
          exact ⟨by rw [← HE.out]; rfl, rfl⟩
    · have HF : Hid (false = c) := by show _ = _; rw [← H.out]; exact (nameL_first (s := s.data.toList) (by rw [hl]; omega) (by rw [hb0L]; exact hfirst)).symm
      have f0 : (b0.toNat : Int) < 97 ∨ (¬ (b0.toNat : Int) < 97 ∧ (122 : Int) < (b0.toNat : Int)) := by omega
      clear hb0L hfirst H
      rcases f0 with f1 | ⟨f1, f2⟩
      all_goals
        go_enter Try.func48, Try.ntmps48
        go_wp2
        go_ret
        exact ⟨by rw [← HF.out]; rfl, rfl⟩
end Go.Proofs.Ytcjcbbpolhpphaa
