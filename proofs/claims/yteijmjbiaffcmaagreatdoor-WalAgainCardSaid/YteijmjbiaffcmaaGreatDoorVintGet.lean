/- The contract of package vint's Get. -/
import Derived.Test.YteijmjbiaffcmaaGreatDoorVintAll
import Derived.WalkMore
namespace Go.Proofs.YteijmjbiaffcmaaGreatDoor
open Go.RowKit Go.Proofs.YteijmjbiaffcmaaGreatDoor.Vi

/-- The number at a place, the place behind it, and whether there is one. -/
def getR (l : List UInt8) (at_ : Int) : Int × Int × Int :=
  if at_ < 0 then (0, 0, 10) else match getL 0 (l.drop at_.toNat) with
    | none => (0, 0, 10)
    | some (v, m) => ((v : Int), at_ + (m : Int), 0)
/-- The same where k groups have been read, which say acc. -/
def GetAt (l : List UInt8) (a k acc : Nat) (v p e : Int) : Prop :=
  match getL k (l.drop (a + k)) with
    | none => v = 0 ∧ p = 0 ∧ e = 10
    | some (u, m) => v = ((acc + 2 ^ (7 * k) * u : Nat) : Int) ∧ p = ((a + k + m : Nat) : Int) ∧ e = 0
theorem GetAt.start {l : List UInt8} {a : Nat} {v p e : Int} (h : getR l (a : Int) = (v, p, e)) : GetAt l a 0 0 v p e := by
  unfold getR at h
  unfold GetAt
  rw [if_neg (by omega), Int.toNat_natCast] at h
  rw [Nat.add_zero]
  cases hg : getL 0 (l.drop a) with
  | none => rw [hg] at h; simpa [eq_comm] using h
  | some x =>
    rw [hg] at h
    simp at h
    obtain ⟨rfl, rfl, rfl⟩ := h
    exact ⟨by simp, by omega, rfl⟩
theorem getR_neg {l : List UInt8} {a v p e : Int} (h : getR l a = (v, p, e)) (ha : a < 0) : v = 0 ∧ p = 0 ∧ e = 10 := by
  unfold getR at h
  rw [if_pos ha] at h
  simpa [eq_comm] using h
theorem GetAt.short {l : List UInt8} {a k acc : Nat} {v p e : Int} (h : GetAt l a k acc v p e) (hl : l.length ≤ a + k) : v = 0 ∧ p = 0 ∧ e = 10 := by
  unfold GetAt at h
  rwa [List.drop_of_length_le hl] at h
theorem drop_at {l : List UInt8} {n : Nat} (h : n < l.length) : l.drop n = l[n] :: l.drop (n + 1) := List.drop_eq_getElem_cons h
theorem GetAt.bad {l : List UInt8} {a k acc : Nat} {v p e : Int} (h : GetAt l a k acc v p e) (hl : a + k < l.length) (hb : (l[a + k].toNat = 0 ∧ 0 < k) ∨ (1 < l[a + k].toNat ∧ k = 9)) : v = 0 ∧ p = 0 ∧ e = 10 := by
  unfold GetAt at h
  rw [drop_at hl, getL] at h
  rcases hb with hb | hb
  · rwa [if_pos hb] at h
  · by_cases h0 : l[a + k].toNat = 0 ∧ 0 < k
    · rwa [if_pos h0] at h
    · rwa [if_neg h0, if_pos hb] at h
theorem GetAt.last {l : List UInt8} {a k acc : Nat} {v p e : Int} (h : GetAt l a k acc v p e) (hl : a + k < l.length) (h1 : ¬ (l[a + k].toNat = 0 ∧ 0 < k)) (h2 : ¬ (1 < l[a + k].toNat ∧ k = 9)) (h3 : l[a + k].toNat < 128) :
    v = ((acc + 2 ^ (7 * k) * l[a + k].toNat : Nat) : Int) ∧ p = ((a + k + 1 : Nat) : Int) ∧ e = 0 := by
  unfold GetAt at h
  rw [drop_at hl, getL, if_neg h1, if_neg h2, if_pos h3] at h
  exact h
theorem GetAt.next {l : List UInt8} {a k acc : Nat} {v p e : Int} (h : GetAt l a k acc v p e) (hl : a + k < l.length) (h2 : ¬ (1 < l[a + k].toNat ∧ k = 9)) (h3 : ¬ l[a + k].toNat < 128) :
    GetAt l a (k + 1) (acc + 2 ^ (7 * k) * (l[a + k].toNat % 128)) v p e := by
  unfold GetAt at h ⊢
  rw [drop_at hl, getL, if_neg (by omega), if_neg h2, if_neg h3] at h
  rw [show a + (k + 1) = a + k + 1 by omega]
  cases hg : getL (k + 1) (l.drop (a + k + 1)) with
  | none => rw [hg] at h; exact h
  | some x =>
    rw [hg] at h
    obtain ⟨h4, h5, h6⟩ := h
    refine ⟨?_, by rw [h5]; congr 1; omega, h6⟩
    rw [h4, show 7 * (k + 1) = 7 * k + 7 by omega, Nat.pow_add, Nat.mul_add, Nat.add_assoc, ← Nat.mul_assoc]

theorem low_bits : ∀ x : Fin 256, x.val &&& (255 - 128) = x.val % 128 := by decide +kernel
theorem byte_low (b : UInt8) : bits .andNot .u8 (b.toNat : Int) 128 = ((b.toNat % 128 : Nat) : Int) := by
  have hb := b.toNat_lt
  have := u8_andNot_nat b.toNat 128 hb (by omega)
  rw [show ((128 : Nat) : Int) = (128 : Int) from rfl] at this
  rw [this, low_bits ⟨b.toNat, hb⟩]
theorem or_add (k acc c : Nat) (h1 : acc < 2 ^ (7 * k)) (h2 : 2 ^ (7 * k) * c + 2 ^ (7 * k) ≤ 18446744073709551616) :
    bits .or .u64 (acc : Int) (IntKind.u64.wrap ((c : Int) * 2 ^ (7 * k))) = ((acc + 2 ^ (7 * k) * c : Nat) : Int) := by
  obtain ⟨m, hm⟩ : ∃ m, 2 ^ (7 * k) * c = m := ⟨_, rfl⟩
  have e : (c : Int) * 2 ^ (7 * k) = ((2 ^ (7 * k) * c : Nat) : Int) := by
    rw [Int.natCast_mul, Int.mul_comm, Int.natCast_pow]; rfl
  have hor := Nat.two_pow_add_eq_or_of_lt h1 c
  rw [hm] at h2 e hor
  have e2 : IntKind.u64.wrap (m : Int) = (m : Int) := by rw [IntKind.wrap_u64]; omega
  rw [e, e2, hm, u64_or_nat acc m (by omega) (by omega), Nat.or_comm, ← hor, Nat.add_comm]
theorem pow_le {k : Nat} (h : k ≤ 8) : 2 ^ (7 * k) ≤ 72057594037927936 := by
  have := Nat.pow_le_pow_right (n := 2) (by omega) (show 7 * k ≤ 56 by omega)
  rwa [show 2 ^ 56 = 72057594037927936 by decide] at this

set_option maxRecDepth 20000 in
set_option maxHeartbeats 1000000 in
theorem get_is (s : ByteArray) (at_ v p e : Int) (w : World) (hs : s.size ≤ maxLen) (ha0 : -9223372036854775808 ≤ at_) (ha1 : at_ ≤ 9223372036854775807) (H : Hid (getR s.data.toList at_ = (v, p, e))) :
    Calls Tryz.prog 161 #[.string s, .int .i64 at_] w fun r w' => r = .returned (.tuple #[.int .u64 v, .int .i64 p, .int .i64 e]) ∧ w = w' := by
  unfold maxLen at hs
  by_cases hneg : at_ < 0
  · obtain ⟨rfl, rfl, rfl⟩ := getR_neg H.out hneg
    clear H
    go_enter Tryz.func161, Tryz.ntmps161
    go_wp2
    go_step3
    go_wp2
    rw [Exit.noGoto_ret]
    go_ret3
    exact ⟨rfl, rfl⟩
  · obtain ⟨a, rfl⟩ := Int.eq_ofNat_of_zero_le (show 0 ≤ at_ by omega)
    have hst := Lib.hid (GetAt.start H.out)
    clear H
    go_enter Tryz.func161, Tryz.ntmps161
    go_wp2
    go_step3
    go_wp2
    go_step3
    go_wp2
    go_loop [7, 8, 9] (fun n x h => ∃ (k acc : Nat), n = .int .u64 (acc : Int) ∧ x = .int .i64 ((a : Int) + (k : Int)) ∧ h = .int .i64 (7 * (k : Int)) ∧ k ≤ 9 ∧ Hid (acc < 2 ^ (7 * k)) ∧ (0 < k → a + k ≤ s.size) ∧ Hid (GetAt s.data.toList a k acc v p e)) (fun _ _ h => 70 - (intOf h).toNat)
    case atStart => exact ⟨0, 0, rfl, by simp, rfl, by omega, Lib.hid (by simp), by omega, hst⟩
    case round =>
      obtain ⟨k, acc, rfl, rfl, rfl, hk, hacc, hin, hG⟩ := hrel
      clear hst
      by_cases hend : s.size ≤ a + k
      · obtain ⟨rfl, rfl, rfl⟩ := hG.out.short (by simpa using hend)
        clear hG hin
        have hend2 : ¬ (a : Int) + (k : Int) < (s.size : Int) := by omega
        go_wp2
        go_ret3
        exact ⟨rfl, rfl⟩
      · have hlt : a + k < s.data.toList.length := by simp; omega
        obtain ⟨b, hb⟩ : ∃ b, s[a + k]'(by omega) = b := ⟨_, rfl⟩
        have hbL : s.data.toList[a + k] = b := by rw [← hb]; rfl
        have hend2 : (a : Int) + (k : Int) < (s.size : Int) := by omega
        have hbl := byte_low b
        have hbb := b.toNat_lt
        have hto : ((a : Int) + (k : Int)).toNat = a + k := by omega
        have hG1 := hG.out.bad hlt
        have hG2 := hG.out.last hlt
        have hG3 := hG.out.next hlt
        rw [hbL] at hG1 hG2 hG3
        clear hG hin hbL hlt
        by_cases hA : (b.toNat = 0 ∧ 0 < k) ∨ (1 < b.toNat ∧ k = 9)
        · obtain ⟨rfl, rfl, rfl⟩ := hG1 hA
          clear hG1 hG2 hG3
          rcases hA with ⟨h1, h2⟩ | ⟨h1, h2⟩
          · have h3 : ((b.toNat : Int) == 0) = true := by rw [h1]; rfl
            have h4 : (0 : Int) < 7 * (k : Int) := by omega
            clear h1 h2
            go_wp2
            all_goals (go_ret3; exact ⟨rfl, rfl⟩)
          · have h3 : ((b.toNat : Int) == 0) = false := by simp; omega
            have h4 : (1 : Int) < (b.toNat : Int) := by omega
            have h6 : (7 * (k : Int) == 63) = true := by simp; omega
            clear h1 h2
            go_wp2
            all_goals (go_ret3; exact ⟨rfl, rfl⟩)
        · have hA1 : ¬ (b.toNat = 0 ∧ 0 < k) := fun h => hA (Or.inl h)
          have hA2 : ¬ (1 < b.toNat ∧ k = 9) := fun h => hA (Or.inr h)
          have h9 : k = 9 → b.toNat ≤ 1 := by omega
          have hpw : 2 ^ (7 * k) * (b.toNat % 128) + 2 ^ (7 * k) ≤ 18446744073709551616 := by
            by_cases h : k = 9
            · have := h9 h
              subst h
              rw [show 2 ^ (7 * 9) = 9223372036854775808 by decide]; omega
            · have h1 := pow_le (show k ≤ 8 by omega)
              have h2 := Nat.mul_le_mul_left (2 ^ (7 * k)) (show b.toNat % 128 ≤ 127 by omega)
              omega
          have hor := or_add k acc (b.toNat % 128) hacc.out hpw
          obtain ⟨y, hy⟩ : ∃ y, acc + 2 ^ (7 * k) * (b.toNat % 128) = y := ⟨_, rfl⟩
          rw [hy] at hor
          rw [show (((b.toNat % 128 : Nat) : Int)) = (b.toNat : Int) % 128 by omega] at hor
          have hylt : y < 2 ^ (7 * (k + 1)) := by
            rw [← hy, show 7 * (k + 1) = 7 * k + 7 by omega, Nat.pow_add]
            have h2 := Nat.mul_le_mul_left (2 ^ (7 * k)) (show b.toNat % 128 ≤ 127 by omega)
            have := hacc.out
            omega
          have HY := Lib.hid hylt
          clear hacc hpw hylt hA
          by_cases hlow : b.toNat < 128
          · obtain ⟨e1, e2, e3⟩ := hG2 hA1 hA2 hlow
            rw [show b.toNat = b.toNat % 128 by omega, hy] at e1
            subst e1 e2 e3
            clear hG1 hG2 hG3 hy HY
            have h5 : (b.toNat : Int) < 128 := by omega
            by_cases hb0 : b.toNat = 0
            · have h3 : ((b.toNat : Int) == 0) = true := by rw [hb0]; rfl
              have h4 : ¬ (0 : Int) < 7 * (k : Int) := by omega
              have h7 : ¬ (1 : Int) < (b.toNat : Int) := by omega
              clear hA1 hA2 h9 hb0
              go_wp2
              go_ret3
              exact ⟨by rw [show ((a + k + 1 : Nat) : Int) = (a : Int) + (k : Int) + 1 by omega]; rfl, rfl⟩
            · have h3 : ((b.toNat : Int) == 0) = false := by simp; omega
              by_cases h9k : k = 9
              · have h7 : ¬ (1 : Int) < (b.toNat : Int) := by omega
                have h6 : (7 * (k : Int) == 63) = true := by simp; omega
                clear hA1 hA2 h9 hb0 h9k
                go_wp2
                go_ret3
                exact ⟨by rw [show ((a + k + 1 : Nat) : Int) = (a : Int) + (k : Int) + 1 by omega]; rfl, rfl⟩
              · have h6 : (7 * (k : Int) == 63) = false := by simp; omega
                clear hA1 hA2 h9 hb0 h9k
                go_wp2
                all_goals
                  go_ret3
                  exact ⟨by rw [show ((a + k + 1 : Nat) : Int) = (a : Int) + (k : Int) + 1 by omega]; rfl, rfl⟩
          · have hN := Lib.hid (hy ▸ hG3 hA2 hlow)
            clear hG1 hG2 hG3 hy
            have h3 : ((b.toNat : Int) == 0) = false := by simp; omega
            have h5 : ¬ (b.toNat : Int) < 128 := by omega
            have h6 : (7 * (k : Int) == 63) = false := by simp; omega
            have hk8 : k ≤ 8 := by omega
            clear hA1 hA2 h9
            go_wp2
            all_goals
              go_round
              case rel => exact ⟨k + 1, y, rfl, by go_num, by go_num, by omega, HY, by omega, hN⟩
              case measure => simp [intOf]; omega
end Go.Proofs.YteijmjbiaffcmaaGreatDoor
