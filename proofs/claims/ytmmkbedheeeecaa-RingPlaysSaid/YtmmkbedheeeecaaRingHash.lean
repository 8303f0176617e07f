/- The hash, the program's and the document's. -/
import Derived.Test.YtmmkbedheeeecaaProg
import Derived.Test.YtmmkbedheeeecaaRingMath
import Derived.Outline
set_option linter.unusedSimpArgs false
set_option maxRecDepth 20000
namespace Go.Proofs.Ytmmkbedheeeecaa
open Go.RowKit

theorem mixed_is (x : Int) (w : World) (_ : 0 ≤ x ∧ x < 18446744073709551616) : Calls Try.prog 25 #[.int .u64 x] w fun e w' => e = .returned (.int .u64 (mixI x)) ∧ w = w' := by
  obtain ⟨a, ha⟩ : ∃ a, bits .xor .u64 x (x / 8589934592) = a := ⟨_, rfl⟩
  obtain ⟨b, hb⟩ : ∃ b, IntKind.u64.wrap (a * 18397679294719823053) = b := ⟨_, rfl⟩
  obtain ⟨c, hc⟩ : ∃ c, bits .xor .u64 b (b / 8589934592) = c := ⟨_, rfl⟩
  obtain ⟨d, hd⟩ : ∃ d, IntKind.u64.wrap (c * 14181476777654086739) = d := ⟨_, rfl⟩
  obtain ⟨z, hz⟩ : ∃ z, bits .xor .u64 d (d / 8589934592) = z := ⟨_, rfl⟩
  have HZ : Hid (mixI x = z) := by show _ = _; unfold mixI f33; rw [ha, hb, hc, hd, hz]
  go_enter Try.func25, Try.ntmps25
  go_wp2
  go_ret
  exact ⟨by rw [HZ.out]; rfl, rfl⟩

set_option maxHeartbeats 400000 in
theorem hash_is (s : ByteArray) (w : World) (hs : s.size ≤ maxLen) : Calls Try.prog 10 #[.string s] w fun e w' => e = .returned (.int .u64 (hashI s)) ∧ w = w' := by
  unfold maxLen at hs
  have HE : Hid (rawI (s.data.toList.take s.size) = rawI s.data.toList) := by show _ = _; rw [List.take_of_length_le (by simp)]
  have HM := Lib.hid (show hashI s = mixI (rawI s.data.toList) from rfl)
  have hm := fun x h w => mixed_is x w h
  go_enter Try.func10, Try.ntmps10
  go_wp2
  go_loop [3, 7] (fun t i => ∃ k : Nat, k ≤ s.size ∧ i = .int .i64 k ∧ t = .int .u64 (rawI (s.data.toList.take k))) (fun _ i => s.size - (intOf i).toNat)
  case atStart => exact ⟨0, Nat.zero_le _, rfl, rfl⟩
  case round =>
    obtain ⟨k, hk, rfl, rfl⟩ := hrel
    by_cases hlt : k < s.size
    · have HS : Hid (rawI (s.data.toList.take (k + 1)) = hstep (rawI (s.data.toList.take k)) s[k]) := by
        show _ = _
        rw [take_snoc s k hlt, rawI_snoc]
      generalize rawI (s.data.toList.take k) = a at *
      have h8 := (s[k]).toNat_lt
      have e0 : bits .xor .u64 a (s[k].toNat : Int) = bits .xor .u64 a (s[k].toNat : Int) := rfl
      go_wp2
      go_round
      case rel => exact ⟨k + 1, by omega, by go_num, by rw [HS.out]; rfl⟩
      case measure => simp [intOf]; omega
    · have hks : s.size = k := by omega
      rw [hks] at HE
      rw [HE.out]
      have hf := rawI_fit s.data.toList
      generalize rawI s.data.toList = a at *
      have hma := hm a hf
      generalize mixI a = z at *
      clear hks HE
      go_wp2_with (go_at_call 25; (with_reducible refine (hma _).mono ?_); rintro e w1 ⟨rfl, rfl⟩)
      go_ret
      exact ⟨by rw [HM.out]; rfl, rfl⟩

set_option maxHeartbeats 400000 in
theorem rhash_is (s : ByteArray) (w : World) (hs : s.size ≤ maxLen) : Calls Try.prog 11 #[.string s] w fun e w' => e = .returned (.int .u64 (hashI s)) ∧ w = w' := by
  unfold maxLen at hs
  have HE : Hid (rawI (s.data.toList.take s.size) = rawI s.data.toList) := by show _ = _; rw [List.take_of_length_le (by simp)]
  have HM := Lib.hid (show hashI s = mixI (rawI s.data.toList) from rfl)
  go_enter Try.func11, Try.ntmps11
  go_wp2
  go_loop [3, 4] (fun t i => ∃ k : Nat, k ≤ s.size ∧ i = .int .i64 k ∧ t = .int .u64 (rawI (s.data.toList.take k))) (fun _ i => s.size - (intOf i).toNat)
  case atStart => exact ⟨0, Nat.zero_le _, rfl, rfl⟩
  case round =>
    obtain ⟨k, hk, rfl, rfl⟩ := hrel
    by_cases hlt : k < s.size
    · have HS : Hid (rawI (s.data.toList.take (k + 1)) = hstep (rawI (s.data.toList.take k)) s[k]) := by
        show _ = _
        rw [take_snoc s k hlt, rawI_snoc]
      generalize rawI (s.data.toList.take k) = a at *
      go_wp2
      go_round
      case rel => exact ⟨k + 1, by omega, by go_num, by rw [HS.out]; unfold hstep; rw [show IntKind.u64.wrap (s[k].toNat : Int) = s[k].toNat from by rw [IntKind.wrap_u64]; have := s[k].toNat_lt; omega]⟩
      case measure => simp [intOf]; omega
    · have hks : s.size = k := by omega
      rw [hks] at HE
      rw [HE.out]
      have hf := rawI_fit s.data.toList
      generalize rawI s.data.toList = x at *
      obtain ⟨a, ha⟩ : ∃ a, bits .xor .u64 x (x / 8589934592) = a := ⟨_, rfl⟩
      obtain ⟨b, hb⟩ : ∃ b, IntKind.u64.wrap (a * 18397679294719823053) = b := ⟨_, rfl⟩
      obtain ⟨c, hc⟩ : ∃ c, bits .xor .u64 b (b / 8589934592) = c := ⟨_, rfl⟩
      obtain ⟨d, hd⟩ : ∃ d, IntKind.u64.wrap (c * 14181476777654086739) = d := ⟨_, rfl⟩
      obtain ⟨z, hz⟩ : ∃ z, bits .xor .u64 d (d / 8589934592) = z := ⟨_, rfl⟩
      have HZ : Hid (mixI x = z) := by show _ = _; unfold mixI f33; rw [ha, hb, hc, hd, hz]
      clear hks HE
      go_wp2
      go_ret
      exact ⟨by rw [HM.out, HZ.out]; rfl, rfl⟩
end Go.Proofs.Ytmmkbedheeeecaa
