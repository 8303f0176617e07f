/- Joined: SumRef, FrameRef. -/
import Derived.Test.YteijmjbiaffcmaaGreatDoorSumFns
import Derived.Test.YteijmjbiaffcmaaGreatDoorFramePut
import Derived.Test.YteijmjbiaffcmaaGreatDoorVintB
import Derived.Deep.RegionWith
/- Contracts of the document's answers for package sum (heliographref01), over the seat's translation. -/
namespace Go.Proofs.YteijmjbiaffcmaaGreatDoor
open Go.RowKit Go.Proofs.YteijmjbiaffcmaaGreatDoor.Crc

/-- One step as the document's answer takes it. -/
theorem step_odd (y : BitVec 32) (h : y.getLsbD 0 = true) : ∃ z : BitVec 32, (y.toNat : Int) % 2 = 1 ∧ (y.toNat : Int) / 2 = (z.toNat : Int) ∧ bits .xor .u32 (z.toNat : Int) 2197175160 = ((Crc.step y).toNat : Int) := by
  refine ⟨y >>> 1, ?_, ?_, ?_⟩
  · have : y.toNat % 2 = 1 := by
      rw [BitVec.getLsbD, Nat.testBit_zero] at h
      simpa using h
    omega
  · rw [BitVec.toNat_ushiftRight, Nat.shiftRight_eq_div_pow]; simp
  · have := xor_is (y >>> 1) 2197175160#32
    rw [show ((2197175160#32 : BitVec 32).toNat : Int) = 2197175160 from rfl] at this
    rw [this]; unfold Crc.step; rw [h]; rfl
theorem step_notodd (y : BitVec 32) (h : y.getLsbD 0 = false) : (y.toNat : Int) % 2 = 0 ∧ (y.toNat : Int) / 2 = ((Crc.step y).toNat : Int) := by
  constructor
  · have : y.toNat % 2 = 0 := by
      rw [BitVec.getLsbD, Nat.testBit_zero] at h
      simpa using h
    omega
  · rw [step_even y h, BitVec.toNat_ushiftRight, Nat.shiftRight_eq_div_pow]; simp

set_option maxHeartbeats 800000 in
theorem refOf_any (s : ByteArray) (w : World) (hs : s.size ≤ maxLen) :
    Calls Tryz.prog 82 #[.string s] w fun e w' => e = .returned (.int .u32 ((crc s.data.toList).toNat : Int)) ∧ w = w' := by
  unfold maxLen at hs
  have HE : Hid (crc s.data.toList = ~~~ (st 4294967295#32 (s.data.toList.take s.size))) := by
    show _ = _
    rw [List.take_of_length_le (by simp)]; rfl
  go_enter Tryz.func82, Tryz.ntmps82
  go_wp2
  go_loop [3, 4] (fun t i => ∃ k : Nat, k ≤ s.size ∧ i = .int .i64 k ∧ t = .int .u32 ((st 4294967295#32 (s.data.toList.take k)).toNat : Int)) (fun _ i => s.size - (intOf i).toNat)
  case atStart => exact ⟨0, Nat.zero_le _, rfl, rfl⟩
  case round =>
    obtain ⟨k, hk, rfl, rfl⟩ := hrel
    by_cases hlt : k < s.size
    · have HS : Hid (st 4294967295#32 (s.data.toList.take (k + 1)) = steps 8 (st 4294967295#32 (s.data.toList.take k) ^^^ w8 s[k])) := by
        show _ = _
        rw [take_snoc s k hlt, st_snoc]; rfl
      generalize st 4294967295#32 (s.data.toList.take k) = a at *
      obtain ⟨x, hx⟩ : ∃ x, x = a ^^^ w8 s[k] := ⟨_, rfl⟩
      rw [← hx] at HS
      have e0 : bits .xor .u32 (a.toNat : Int) ((s[k].toNat : Int) % 4294967296) = (x.toNat : Int) := by
        have := (s[k]).toNat_lt
        rw [Int.emod_eq_of_lt (by omega) (by omega), hx, ← xor_is, w8_toNat]
      clear hx
      go_wp2
      go_loop [3, 5] (fun t i => ∃ j : Nat, j ≤ 8 ∧ i = .int .i64 j ∧ t = .int .u32 ((steps j x).toNat : Int)) (fun _ i => 8 - (intOf i).toNat)
      case atStart => exact ⟨0, Nat.zero_le _, rfl, rfl⟩
      case round =>
        obtain ⟨j, hj, rfl, rfl⟩ := hrel
        clear e0
        by_cases hlj : j < 8
        · have HJ : Hid (steps (j + 1) x = Crc.step (steps j x)) := steps_succ' j x
          generalize steps j x = y at *
          cases hb : y.getLsbD 0
          · obtain ⟨e1, e2⟩ := step_notodd y hb
            clear hb
            go_wp2
            go_round
            case rel => exact ⟨j + 1, by omega, by go_num, by rw [HJ.out]⟩
            case measure => simp [intOf]; omega
          · obtain ⟨z, e1, e2, e3⟩ := step_odd y hb
            clear hb
            go_wp2
            go_round
            case rel => exact ⟨j + 1, by omega, by go_num, by rw [HJ.out]⟩
            case measure => simp [intOf]; omega
        · have HJ : Hid (st 4294967295#32 (s.data.toList.take (k + 1)) = steps j x) := by
            show _ = _
            rw [HS.out, show j = 8 by omega]
          clear HS
          go_wp2
          go_round
          case rel => exact ⟨k + 1, by omega, by go_num, by rw [HJ.out]⟩
          case measure => simp [intOf]; omega
    · have hks : s.size = k := by omega
      rw [hks] at HE
      clear hks
      generalize st 4294967295#32 (s.data.toList.take k) = a at *
      obtain ⟨d, hd⟩ : ∃ d, d = ~~~a := ⟨_, rfl⟩
      have h1 : bits .xor .u32 IntKind.u32.max (a.toNat : Int) = (d.toNat : Int) := by rw [hd]; exact not_is a
      rw [← hd] at HE
      clear hd
      go_wp2
      go_ret
      exact ⟨by rw [HE.out]; rfl, rfl⟩

end Go.Proofs.YteijmjbiaffcmaaGreatDoor

/- Contracts of the document's Put, early and Get for package frame. -/
set_option maxRecDepth 50000
namespace Go.Proofs.YteijmjbiaffcmaaGreatDoor
open Go.RowKit Go.Proofs.YteijmjbiaffcmaaGreatDoor.Vi Go.Proofs.YteijmjbiaffcmaaGreatDoor.Crc Go.Proofs.YteijmjbiaffcmaaGreatDoor.Fr

/-- The four bytes of a sum in a block of their own, made into a text, later on. -/
theorem be_later (c : BitVec 32) (x1 x2 x3 x4 : Int) (h1 : (c.toNat : Int) / 16777216 = x1) (h2 : (c.toNat : Int) / 65536 % 256 = x2) (h3 : (c.toNat : Int) / 256 % 256 = x3) (h4 : (c.toNat : Int) % 256 = x4) (w w' : World) (h : Below (w.heap.size + 1) (w.alloc (.cells #[.int .u8 x1, .int .u8 x2, .int .u8 x3, .int .u8 x4] 5)) w') :
    (convert 57 9 (.slice (some ⟨w.heap.size, 0, none⟩) 4 4)).run Tryz.prog w' = .ok (.string ⟨(be c).toArray⟩) w' := by
  subst h1 h2 h3 h4
  have hc := c.isLt
  refine run_convert_bytes_back (P := Tryz.prog) _ 57 9 5 ⟨w.heap.size, 0, none⟩ 4 (be c) Tryz.underlying57 Tryz.underlying5 Tryz.underlying9 fun j hj => ?_
  have hj4 : j < 4 := hj
  rw [add_off, Nat.zero_add, h.cell (p := ⟨w.heap.size, j, none⟩) (Nat.lt_succ_self _), World.cell?_alloc_mark]
  have e0 : ((c.toNat / 16777216 % 256 : Nat) : Int) = (c.toNat : Int) / 16777216 := by omega
  match j, hj4 with
  | 0, _ =>
    show some (Value.int IntKind.u8 _) = some (Value.int IntKind.u8 (((UInt8.ofNat (c.toNat / 16777216)).toNat : Nat) : Int))
    rw [UInt8.toNat_ofNat', ← e0]
  | 1, _ => simp [be]
  | 2, _ => simp [be]
  | 3, _ => simp [be]

theorem be_after (c : BitVec 32) (x1 x2 x3 x4 : Int) (h1 : (c.toNat : Int) / 16777216 = x1) (h2 : (c.toNat : Int) / 65536 % 256 = x2) (h3 : (c.toNat : Int) / 256 % 256 = x3) (h4 : (c.toNat : Int) % 256 = x4) (w w' : World) (h : Below ((w.alloc (.cells #[.int .u8 x1, .int .u8 x2, .int .u8 x3, .int .u8 x4] 5)).drew).heap.size ((w.alloc (.cells #[.int .u8 x1, .int .u8 x2, .int .u8 x3, .int .u8 x4] 5)).drew) w') :
    (convert 57 9 (.slice (some ⟨w.heap.size, 0, none⟩) 4 4)).run Tryz.prog w' = .ok (.string ⟨(be c).toArray⟩) w' :=
  be_later c x1 x2 x3 x4 h1 h2 h3 h4 w w' (((Below.refl _ _).drew).trans (h.mono (by simp)))

set_option maxHeartbeats 2000000 in
theorem rput_yes (s t : ByteArray) (w : World) (hs : s.size ≤ 70000) (H : Hid (tx (fr s.data.toList) = t)) :
    Calls Tryz.prog 47 #[.string s] w fun e w' => e = .returned (.tuple #[.string t, .int .i64 0]) ∧ Below w.heap.size w w' := by
  obtain ⟨c, hcc⟩ : ∃ c, crc s.data.toList = c := ⟨_, rfl⟩
  have hO := fun w => refOf_any s w (by unfold maxLen; omega)
  rw [hcc] at hO
  have hP := fun w => refPut_is s.size _ w (by omega) (Lib.hid (rfl : tx (enc s.size) = tx (enc s.size)))
  have he10 := enc_len10 s.size (by omega)
  obtain ⟨p, hp⟩ : ∃ p, tx (enc s.size) = p := ⟨_, rfl⟩
  have hps : p.size ≤ 10 := by rw [← hp, tx_size]; exact he10
  rw [hp] at hP
  have hcl := c.isLt
  obtain ⟨y1, hy1⟩ : ∃ y : Int, (c.toNat : Int) / 16777216 = y := ⟨_, rfl⟩
  obtain ⟨y2, hy2⟩ : ∃ y : Int, (c.toNat : Int) / 65536 % 256 = y := ⟨_, rfl⟩
  obtain ⟨y3, hy3⟩ : ∃ y : Int, (c.toNat : Int) / 256 % 256 = y := ⟨_, rfl⟩
  obtain ⟨y4, hy4⟩ : ∃ y : Int, (c.toNat : Int) % 256 = y := ⟨_, rfl⟩
  have hL := fun w w' h => be_later c y1 y2 y3 y4 hy1 hy2 hy3 hy4 w w' h
  have hA := fun w w' h => be_after c y1 y2 y3 y4 hy1 hy2 hy3 hy4 w w' h
  have hv1 : IntKind.u8.wrap y1 = y1 := by rw [IntKind.wrap_u8]; omega
  have hv2 : IntKind.u8.wrap ((c.toNat : Int) / 65536) = y2 := by rw [IntKind.wrap_u8]; omega
  have hv3 : IntKind.u8.wrap ((c.toNat : Int) / 256) = y3 := by rw [IntKind.wrap_u8]; omega
  have hv4 : IntKind.u8.wrap (c.toNat : Int) = y4 := by rw [IntKind.wrap_u8]; omega
  obtain ⟨t4, ht4⟩ : ∃ t4 : ByteArray, t4 = ⟨(be c).toArray⟩ := ⟨_, rfl⟩
  have hz4 : t4.size = 4 := by rw [ht4]; rfl
  rw [← ht4] at hL hA
  have hI := fun w => hL w _ (Below.refl _ _)
  have hI2 := fun w => hA w _ (Below.refl _ _)
  have HT : Hid (p ++ s ++ t4 = t) := by
    show _ = _
    rw [← H.out, ← hp, ht4]
    apply ByteArray.ext
    apply Array.toList_inj.1
    simp [tx, fr, sealed, hcc]
  obtain ⟨x1, hx1⟩ : ∃ x, p ++ s = x := ⟨_, rfl⟩
  have hzx : x1.size = p.size + s.size := by rw [← hx1]; simp
  have hq1 : p.size + s.size ≤ 9223372036854775807 := by omega
  have hq2 : x1.size + t4.size ≤ 9223372036854775807 := by omega
  rw [hx1] at HT
  have hs2 : ¬ (70000 : Int) < (s.size : Int) := by omega
  have hu64 : IntKind.u64.wrap (s.size : Int) = (s.size : Int) := by rw [IntKind.wrap_u64]; omega
  have HA := Lib.hid hA
  clear hp ht4 H hcc hL hA
  go_enter Tryz.func47, Tryz.ntmps47
  go_wp2_with (first | (go_at_call 82; (with_reducible refine (hO _).mono ?_); rintro e w1 ⟨rfl, rfl⟩))
  go_region_with (first
    | (go_at_call 48; (with_reducible refine (hP _).mono ?_); rintro e w1 ⟨rfl, hb1⟩; first | have hk2 := HA.out _ _ hb1 | skip))
  all_goals
    go_wp2_with fail
    go_ret2
    refine ⟨by rw [← HT.out]; rfl, ?_⟩
    first
      | exact bel_new (bel_next ((Below.refl _ _).drew) hb1) _
      | exact bel_next (((Below.refl _ w).alloc (Nat.le_refl _) _).drew) hb1
end Go.Proofs.YteijmjbiaffcmaaGreatDoor
