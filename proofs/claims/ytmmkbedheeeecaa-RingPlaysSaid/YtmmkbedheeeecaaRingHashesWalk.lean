/- The walk of RingHashes. -/
import Derived.Test.YtmmkbedheeeecaaRingAwake
set_option maxRecDepth 20000
set_option linter.unusedSimpArgs false
namespace Go.Proofs.Ytmmkbedheeeecaa
open Go.RowKit

def cutB (s : ByteArray) (n : Nat) : ByteArray := if n < s.size then s.extract 0 n else s
theorem cutB_size (s : ByteArray) (n : Nat) (h : s.size ≤ maxLen) : (cutB s n).size ≤ maxLen := by
  unfold cutB
  split
  · rw [ByteArray.size_extract]; omega
  · exact h
theorem short_is (s t : ByteArray) (n : Nat) (m : Int) (w : World) (hm : m = (n : Int)) (hn : n ≤ 2000) (ht : Hid (cutB s n = t)) : Calls Try.prog 9 #[.string s, .int .i64 m] w fun e w' => e = .returned (.string t) ∧ w = w' := by
  by_cases h : n < s.size
  · have H := Lib.hid (show s.extract 0 n = t by rw [← ht.out]; exact (if_pos h).symm)
    subst hm
    go_enter Try.func9, Try.ntmps9
    go_wp2
    go_ret
    exact ⟨by rw [← H.out]; rfl, rfl⟩
  · have H := Lib.hid (show s = t by rw [← ht.out]; exact (if_neg h).symm)
    subst hm
    go_enter Try.func9, Try.ntmps9
    go_wp2
    go_ret
    exact ⟨by rw [← H.out]; rfl, rfl⟩
namespace ringHashes
set_option maxHeartbeats 1000000 in
theorem walk (s : ByteArray) (w : World) (hs : s.size ≤ maxLen) : Calls Try.prog 3 #[.string s] w fun e w' => e = .returned (.bool true) ∧ Below w.heap.size w w' := by
  have ka := awake_is w
  obtain ⟨t, ht⟩ : ∃ t, cutB s 300 = t := ⟨_, rfl⟩
  have ks := fun w => short_is s t 300 300 w rfl (by omega) (Lib.hid ht)
  have htm : t.size ≤ maxLen := by rw [← ht]; exact cutB_size s 300 hs
  have k1 := fun w => hash_is t w htm
  have k2 := fun w => rhash_is t w htm
  generalize hashI t = z at *
  clear ht hs htm
  have hz : (z == z) = true := by simp
  go_enter Try.func3, Try.ntmps3
  go_wp2_with (first
    | (go_at_call 8; (with_reducible refine ka.mono ?_); rintro e w1 ⟨rfl, hB⟩; (have HB := Lib.hid hB); clear hB)
    | (go_at_call 9; (with_reducible refine (ks _).mono ?_); rintro e w2 ⟨rfl, rfl⟩)
    | (go_at_call 10; (with_reducible refine (k1 _).mono ?_); rintro e w2 ⟨rfl, rfl⟩)
    | (go_at_call 11; (with_reducible refine (k2 _).mono ?_); rintro e w2 ⟨rfl, rfl⟩))
  go_ret
  exact ⟨rfl, HB.out⟩
end ringHashes
end Go.Proofs.Ytmmkbedheeeecaa
