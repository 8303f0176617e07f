/- Contracts of the document's answers for package sum (heliographref01), over the seat's translation. -/
import Derived.Test.YtibjnfllagaplaaDoorSumFns
namespace Go.Proofs.YtibjnfllagaplaaDoor
open Go.RowKit Go.Proofs.YtibjnfllagaplaaDoor.Crc

/-- One step as the document's answer takes it. -/
theorem step_odd (y : BitVec 32) (h : y.getLsbD 0 = true) : ∃ z : BitVec 32, (y.toNat : Int) % 2 = 1 ∧ (y.toNat : Int) / 2 = (z.toNat : Int) ∧ bits .xor .u32 (z.toNat : Int) 2197175160 = ((Crc.step y).toNat : Int) := by
  refine ⟨y >>> 1, ?_, ?_, ?_⟩
  · have : y.toNat % 2 = 1 := by
      rw [BitVec.getLsbD, Nat.testBit_zero] at h
      simpa using h
    omega
  · rw [BitVec.toNat_ushiftRight, Nat.shiftRight_eq_div_pow]; simp
  · have := xor_is (y >>> 1) 2197175160#32
    rw [show ((2197175160#32 : BitVec 32).toNat : Int) = 2197175160 from rfl] at this
    rw [this]; unfold Crc.step; rw [h]; rfl
theorem step_notodd (y : BitVec 32) (h : y.getLsbD 0 = false) : (y.toNat : Int) % 2 = 0 ∧ (y.toNat : Int) / 2 = ((Crc.step y).toNat : Int) := by
  constructor
  · have : y.toNat % 2 = 0 := by
      rw [BitVec.getLsbD, Nat.testBit_zero] at h
      simpa using h
    omega
  · rw [step_even y h, BitVec.toNat_ushiftRight, Nat.shiftRight_eq_div_pow]; simp

set_option maxHeartbeats 800000 in
theorem refOf_any (s : ByteArray) (w : World) (hs : s.size ≤ maxLen) :
    Calls Tryd.prog 12 #[.string s] w fun e w' => e = .returned (.int .u32 ((crc s.data.toList).toNat : Int)) ∧ w = w' := by
  unfold maxLen at hs
  have HE : Hid (crc s.data.toList = ~~~ (st 4294967295#32 (s.data.toList.take s.size))) := by
    show _ = _
    rw [List.take_of_length_le (by simp)]; rfl
  go_enter Tryd.func12, Tryd.ntmps12
  go_wp2
  go_loop [3, 4] (fun t i => ∃ k : Nat, k ≤ s.size ∧ i = .int .i64 k ∧ t = .int .u32 ((st 4294967295#32 (s.data.toList.take k)).toNat : Int)) (fun _ i => s.size - (intOf i).toNat)
  case atStart => exact ⟨0, Nat.zero_le _, rfl, rfl⟩
  case round =>
    obtain ⟨k, hk, rfl, rfl⟩ := hrel
    by_cases hlt : k < s.size
    · have HS : Hid (st 4294967295#32 (s.data.toList.take (k + 1)) = steps 8 (st 4294967295#32 (s.data.toList.take k) ^^^ w8 s[k])) := by
        show _ = _
        rw [take_snoc s k hlt, st_snoc]; rfl
      generalize st 4294967295#32 (s.data.toList.take k) = a at *
      obtain ⟨x, hx⟩ : ∃ x, x = a ^^^ w8 s[k] := ⟨_, rfl⟩
      rw [← hx] at HS
      have e0 : bits .xor .u32 (a.toNat : Int) ((s[k].toNat : Int) % 4294967296) = (x.toNat : Int) := by
        have := (s[k]).toNat_lt
        rw [Int.emod_eq_of_lt (by omega) (by omega), hx, ← xor_is, w8_toNat]
      clear hx
      go_wp2
      go_loop [3, 5] (fun t i => ∃ j : Nat, j ≤ 8 ∧ i = .int .i64 j ∧ t = .int .u32 ((steps j x).toNat : Int)) (fun _ i => 8 - (intOf i).toNat)
      case atStart => exact ⟨0, Nat.zero_le _, rfl, rfl⟩
      case round =>
        obtain ⟨j, hj, rfl, rfl⟩ := hrel
        clear e0
        by_cases hlj : j < 8
        · have HJ : Hid (steps (j + 1) x = Crc.step (steps j x)) := steps_succ' j x
          generalize steps j x = y at *
          cases hb : y.getLsbD 0
          · obtain ⟨e1, e2⟩ := step_notodd y hb
            clear hb
            go_wp2
            go_round
            case rel => exact ⟨j + 1, by omega, by go_num, by rw [HJ.out]⟩
            case measure => simp [intOf]; omega
          · obtain ⟨z, e1, e2, e3⟩ := step_odd y hb
            clear hb
            go_wp2
            go_round
            case rel => exact ⟨j + 1, by omega, by go_num, by rw [HJ.out]⟩
            case measure => simp [intOf]; omega
        · have HJ : Hid (st 4294967295#32 (s.data.toList.take (k + 1)) = steps j x) := by
            show _ = _
            rw [HS.out, show j = 8 by omega]
          clear HS
          go_wp2
          go_round
          case rel => exact ⟨k + 1, by omega, by go_num, by rw [HJ.out]⟩
          case measure => simp [intOf]; omega
    · have hks : s.size = k := by omega
      rw [hks] at HE
      clear hks
      generalize st 4294967295#32 (s.data.toList.take k) = a at *
      obtain ⟨d, hd⟩ : ∃ d, d = ~~~a := ⟨_, rfl⟩
      have h1 : bits .xor .u32 IntKind.u32.max (a.toNat : Int) = (d.toNat : Int) := by rw [hd]; exact not_is a
      rw [← hd] at HE
      clear hd
      go_wp2
      go_ret
      exact ⟨by rw [HE.out]; rfl, rfl⟩

set_option maxHeartbeats 400000 in
theorem refSealed_any (s : ByteArray) (w : World) (hs : s.size ≤ 100000) :
    Calls Tryd.prog 16 #[.string s] w fun e w' => e = .returned (.string (sealedB s)) ∧ Below w.heap.size w w' := by
  have hs' : s.size ≤ maxLen := by unfold maxLen; omega
  obtain ⟨c, hcc⟩ : ∃ c, crc s.data.toList = c := ⟨_, rfl⟩
  have HCC := Lib.hid hcc
  clear hcc
  have hk := be_back Tryd.prog 39 9 5 Tryd.underlying39 Tryd.underlying5 Tryd.underlying9 c w w.heap.size rfl
  obtain ⟨t4, ht4⟩ : ∃ t4 : ByteArray, t4 = ⟨(be c).toArray⟩ := ⟨_, rfl⟩
  have hz4 : s.size + t4.size ≤ 9223372036854775807 := by
    rw [ht4]; show s.size + 4 ≤ _; omega
  rw [← ht4] at hk
  have HT4 := Lib.hid ht4
  clear ht4
  go_enter Tryd.func16, Tryd.ntmps16
  go_wp2_with (go_at_call 12; refine (refOf_any s _ hs').mono ?_; rw [HCC.out]; rintro e w' ⟨rfl, rfl⟩)
  go_ret
  exact ⟨by rw [← sealedB_eq s c HCC, ← HT4.out]; rfl, (Below.refl _ _).alloc (Nat.le_refl _) _⟩

set_option maxHeartbeats 400000 in
theorem refOpen_any (t : ByteArray) (w : World) (hs : t.size ≤ 100000) :
    Calls Tryd.prog 14 #[.string t] w fun e w' => e = .returned (.tuple #[.string (bodyOf t), .bool (opens t)]) ∧ Below w.heap.size w w' := by
  by_cases h4 : t.size < 4
  · have ho : opens t = false := by unfold opens; simp; omega
    have hb : bodyOf t = ⟨#[]⟩ := by unfold bodyOf; rw [ho]; rfl
    have HO := Lib.hid ho
    have HB := Lib.hid hb
    clear ho hb
    go_enter Tryd.func14, Tryd.ntmps14
    go_wp2
    go_ret2
    exact ⟨by rw [HO.out, HB.out]; rfl, Below.refl _ _⟩
  · obtain ⟨x, hx⟩ : ∃ x, x = t.extract 0 (t.size - 4) := ⟨_, rfl⟩
    have hxs : x.size ≤ 100000 := by rw [hx]; simp; omega
    by_cases he : sealedB x = t
    · have ho : opens t = true := by unfold opens; rw [← hx]; simp [he]; omega
      have hb : bodyOf t = x := by unfold bodyOf; rw [ho, hx]; rfl
      have HO := Lib.hid ho
      have HB := Lib.hid hb
      clear ho hb
      have hx2 := hx.symm
      clear hx
      go_enter Tryd.func14, Tryd.ntmps14
      go_wp2_with (go_at_call 16; refine (refSealed_any x _ hxs).mono ?_; rintro e w' ⟨rfl, hw⟩)
      go_ret2
      exact ⟨by rw [HO.out, HB.out]; rfl, hw⟩
    · have ho : opens t = false := by unfold opens; rw [← hx]; simp [he]
      have hne := str_ne he
      have hb : bodyOf t = ⟨#[]⟩ := by unfold bodyOf; rw [ho]; rfl
      have HO := Lib.hid ho
      have HB := Lib.hid hb
      clear ho hb
      have hx2 := hx.symm
      clear hx
      go_enter Tryd.func14, Tryd.ntmps14
      go_wp2_with (go_at_call 16; refine (refSealed_any x _ hxs).mono ?_; rintro e w' ⟨rfl, hw⟩)
      go_ret2
      exact ⟨by rw [HO.out, HB.out]; rfl, hw⟩
end Go.Proofs.YtibjnfllagaplaaDoor
