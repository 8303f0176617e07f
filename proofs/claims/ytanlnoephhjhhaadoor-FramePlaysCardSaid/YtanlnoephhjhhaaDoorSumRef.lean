/- Contracts of the document's answers for package sum (heliographref01), over the seat's translation. -/
import Derived.Test.YtanlnoephhjhhaaDoorSumFns
namespace Go.Proofs.YtanlnoephhjhhaaDoor
open Go.RowKit Go.Proofs.YtanlnoephhjhhaaDoor.Crc

/-- One step as the document's answer takes it. -/
theorem step_odd (y : BitVec 32) (h : y.getLsbD 0 = true) : ∃ z : BitVec 32, (y.toNat : Int) % 2 = 1 ∧ (y.toNat : Int) / 2 = (z.toNat : Int) ∧ bits .xor .u32 (z.toNat : Int) 2197175160 = ((Crc.step y).toNat : Int) := by
  refine ⟨y >>> 1, ?_, ?_, ?_⟩
  · have : y.toNat % 2 = 1 := by
      rw [BitVec.getLsbD, Nat.testBit_zero] at h
      simpa using h
    omega
  · rw [BitVec.toNat_ushiftRight, Nat.shiftRight_eq_div_pow]; simp
  · have := xor_is (y >>> 1) 2197175160#32
    rw [show ((2197175160#32 : BitVec 32).toNat : Int) = 2197175160 from rfl] at this
    rw [this]; unfold Crc.step; rw [h]; rfl
theorem step_notodd (y : BitVec 32) (h : y.getLsbD 0 = false) : (y.toNat : Int) % 2 = 0 ∧ (y.toNat : Int) / 2 = ((Crc.step y).toNat : Int) := by
  constructor
  · have : y.toNat % 2 = 0 := by
      rw [BitVec.getLsbD, Nat.testBit_zero] at h
      simpa using h
    omega
  · rw [step_even y h, BitVec.toNat_ushiftRight, Nat.shiftRight_eq_div_pow]; simp

set_option maxHeartbeats 800000 in
theorem refOf_any (s : ByteArray) (w : World) (hs : s.size ≤ maxLen) :
    Calls Tryd.prog 26 #[.string s] w fun e w' => e = .returned (.int .u32 ((crc s.data.toList).toNat : Int)) ∧ w = w' := by
  unfold maxLen at hs
  have HE : Hid (crc s.data.toList = ~~~ (st 4294967295#32 (s.data.toList.take s.size))) := by
    show _ = _
    rw [List.take_of_length_le (by simp)]; rfl
  go_enter Tryd.func26, Tryd.ntmps26
  go_wp2
  go_loop [3, 4] (fun t i => ∃ k : Nat, k ≤ s.size ∧ i = .int .i64 k ∧ t = .int .u32 ((st 4294967295#32 (s.data.toList.take k)).toNat : Int)) (fun _ i => s.size - (intOf i).toNat)
  case atStart => exact ⟨0, Nat.zero_le _, rfl, rfl⟩
  case round =>
    obtain ⟨k, hk, rfl, rfl⟩ := hrel
    by_cases hlt : k < s.size
    · have HS : Hid (st 4294967295#32 (s.data.toList.take (k + 1)) = steps 8 (st 4294967295#32 (s.data.toList.take k) ^^^ w8 s[k])) := by
        show _ = _
        rw [take_snoc s k hlt, st_snoc]; rfl
      generalize st 4294967295#32 (s.data.toList.take k) = a at *
      obtain ⟨x, hx⟩ : ∃ x, x = a ^^^ w8 s[k] := ⟨_, rfl⟩
      rw [← hx] at HS
      have e0 : bits .xor .u32 (a.toNat : Int) ((s[k].toNat : Int) % 4294967296) = (x.toNat : Int) := by
        have := (s[k]).toNat_lt
        rw [Int.emod_eq_of_lt (by omega) (by omega), hx, ← xor_is, w8_toNat]
      clear hx
      go_wp2
      go_loop [3, 5] (fun t i => ∃ j : Nat, j ≤ 8 ∧ i = .int .i64 j ∧ t = .int .u32 ((steps j x).toNat : Int)) (fun _ i => 8 - (intOf i).toNat)
      case atStart => exact ⟨0, Nat.zero_le _, rfl, rfl⟩
      case round =>
        obtain ⟨j, hj, rfl, rfl⟩ := hrel
        clear e0
        by_cases hlj : j < 8
        · have HJ : Hid (steps (j + 1) x = Crc.step (steps j x)) := steps_succ' j x
          generalize steps j x = y at *
          cases hb : y.getLsbD 0
          · obtain ⟨e1, e2⟩ := step_notodd y hb
            clear hb
            go_wp2
            go_round
            case rel => exact ⟨j + 1, by omega, by go_num, by rw [HJ.out]⟩
            case measure => simp [intOf]; omega
          · obtain ⟨z, e1, e2, e3⟩ := step_odd y hb
            clear hb
            go_wp2
            go_round
            case rel => exact ⟨j + 1, by omega, by go_num, by rw [HJ.out]⟩
            case measure => simp [intOf]; omega
        · have HJ : Hid (st 4294967295#32 (s.data.toList.take (k + 1)) = steps j x) := by
            show _ = _
            rw [HS.out, show j = 8 by omega]
          clear HS
          go_wp2
          go_round
          case rel => exact ⟨k + 1, by omega, by go_num, by rw [HJ.out]⟩
          case measure => simp [intOf]; omega
    · have hks : s.size = k := by omega
      rw [hks] at HE
      clear hks
      generalize st 4294967295#32 (s.data.toList.take k) = a at *
      obtain ⟨d, hd⟩ : ∃ d, d = ~~~a := ⟨_, rfl⟩
      have h1 : bits .xor .u32 IntKind.u32.max (a.toNat : Int) = (d.toNat : Int) := by rw [hd]; exact not_is a
      rw [← hd] at HE
      clear hd
      go_wp2
      go_ret
      exact ⟨by rw [HE.out]; rfl, rfl⟩

end Go.Proofs.YtanlnoephhjhhaaDoor
