/- Contracts of package frame's Get and Scan. -/
import Derived.Test.YteijmjbiaffcmaaGreatDoorFrameFirst
import Derived.WalkMore
namespace Go.Proofs.YteijmjbiaffcmaaGreatDoor
open Go.RowKit Go.Proofs.YteijmjbiaffcmaaGreatDoor.Vi Go.Proofs.YteijmjbiaffcmaaGreatDoor.Crc Go.Proofs.YteijmjbiaffcmaaGreatDoor.Fr

/-- What stands at a place: the body, the place behind it, the status. -/
def getG (s : List UInt8) (at_ : Int) : List UInt8 × Int × Int :=
  if at_ < 0 ∨ (s.length : Int) < at_ then ([], 0, 1) else ((getF (s.drop at_.toNat)).body, at_ + ((getF (s.drop at_.toNat)).len : Int), ((getF (s.drop at_.toNat)).w : Int))
theorem getG_at (s : List UInt8) (k : Nat) (hk : k ≤ s.length) : getG s (k : Int) = ((getF (s.drop k)).body, ((k + (getF (s.drop k)).len : Nat) : Int), ((getF (s.drop k)).w : Int)) := by
  unfold getG; rw [if_neg (by omega), Int.toNat_natCast]; congr

set_option maxHeartbeats 1000000 in
theorem get_g (s : List UInt8) (at_ : Int) (body : ByteArray) (n st : Int) (w : World) (hs : s.length ≤ 1000000000) (ha : -9223372036854775808 ≤ at_ ∧ at_ ≤ 9223372036854775807) (ht : Tab w)
    (hb : Hid (tx (getG s at_).1 = body)) (hn : Hid ((getG s at_).2.1 = n)) (hw : Hid ((getG s at_).2.2 = st)) : Calls Tryz.prog 97 #[.string (tx s), .int .i64 at_] w (FDone body n st w) := by
  have hz := tx_size s
  by_cases h0 : at_ < 0 ∨ (s.length : Int) < at_
  · have e : getG s at_ = ([], 0, 1) := if_pos h0
    rw [e] at hb hn hw
    obtain rfl : tx [] = body := hb.out
    obtain rfl : (0 : Int) = n := hn.out
    obtain rfl : (1 : Int) = st := hw.out
    obtain ⟨L, hL⟩ : ∃ L, s.length = L := ⟨_, rfl⟩
    rw [hL] at h0 hz
    generalize tx s = S at *
    clear hb hn hw hs hL e
    rcases h0 with h0 | h0
    · go_enter Tryz.func97, Tryz.ntmps97
      go_wp2
      go_ret3
      exact ⟨rfl, Below.refl _ _⟩
    · have h1 : ¬ at_ < 0 := by omega
      go_enter Tryz.func97, Tryz.ntmps97
      go_wp2
      go_ret3
      exact ⟨rfl, Below.refl _ _⟩
  · obtain ⟨k, rfl⟩ := Int.eq_ofNat_of_zero_le (show 0 ≤ at_ by omega)
    rw [getG_at s k (by omega)] at hb hn hw
    have hF := fun w ht => first_str (s.drop k) body ((getF (s.drop k)).len : Int) st w (by rw [List.length_drop]; omega) ht ⟨hb.out, rfl, hw.out⟩
    have hlen : ((getF (s.drop k)).len : Int) ≤ 1000000000 := by
      by_cases h : (getF (s.drop k)).w = 0
      · have := (getF_len h).2
        rw [List.length_drop] at this; omega
      · rw [(getF_not h).2]; omega
    obtain ⟨m, hm⟩ : ∃ m : Nat, (getF (s.drop k)).len = m := ⟨_, rfl⟩
    rw [hm] at hn hF hlen
    have HN : Hid ((k : Int) + (m : Int) = n) := by show _ = _; rw [← hn.out]; simp
    have hx : (tx s).extract k s.length = tx (s.drop k) := by
      rw [tx_part, List.take_of_length_le (by simp)]
    obtain ⟨L, hL⟩ : ∃ L, s.length = L := ⟨_, rfl⟩
    rw [hL] at h0 hz hx hs
    have hkL : (k : Int) ≤ (L : Int) := by omega
    generalize tx (s.drop k) = T at *
    generalize tx s = S at *
    clear hb hn hw hL hm h0
    go_enter Tryz.func97, Tryz.ntmps97
    go_wp2_with (go_at_call 119; (with_reducible refine (hF _ ht).mono ?_); rintro e w1 ⟨rfl, hb1⟩)
    go_ret3
    exact ⟨by rw [← HN.out]; rfl, hb1⟩

/-- A list of texts is a list of lists of bytes. -/
def txL (l : List (List UInt8)) : List ByteArray := l.map tx
theorem txL_length (l : List (List UInt8)) : (txL l).length = l.length := by unfold txL; simp
/-- What Scan leaves. -/
def ScanDone (l : List ByteArray) (n st : Int) (w : World) (e : Ending) (w' : World) : Prop := ∃ v, e = .returned (.tuple #[v, .int .i64 n, .int .i64 st]) ∧ SRow w' w.heap.size v l ∧ Below w.heap.size w w'
/-- What has been read up to k: a body each, and what is left to be. -/
def Upto (s : List UInt8) (k : Nat) (xs : List (List UInt8)) : Prop := k ≤ s.length ∧ xs.length ≤ k ∧ (scan s).1 = xs ++ (scan (s.drop k)).1 ∧ (scan s).2.1 = k + (scan (s.drop k)).2.1 ∧ (scan s).2.2 = (scan (s.drop k)).2.2
theorem Upto.zero (s : List UInt8) : Upto s 0 [] := ⟨Nat.zero_le _, Nat.le_refl _, by simp, by simp, by simp⟩
theorem Upto.step {s : List UInt8} {k : Nat} {xs : List (List UInt8)} (h : Upto s k xs) (hw : (getF (s.drop k)).w = 0) : Upto s (k + (getF (s.drop k)).len) (xs ++ [(getF (s.drop k)).body]) := by
  obtain ⟨h1, h2, h3, h4, h5⟩ := h
  obtain ⟨g1, g2⟩ := getF_len hw
  rw [List.length_drop] at g2
  have e := scan_step hw
  rw [List.drop_drop] at e
  rw [e] at h3 h4 h5
  refine ⟨by omega, by rw [List.length_append]; simp; omega, ?_, ?_, h5⟩
  · rw [h3]; simp
  · rw [h4]; simp only; omega
theorem Upto.stop {s : List UInt8} {k : Nat} {xs : List (List UInt8)} (h : Upto s k xs) (hw : (getF (s.drop k)).w ≠ 0) : (scan s).1 = xs ∧ (scan s).2.1 = k ∧ (scan s).2.2 = (getF (s.drop k)).w := by
  obtain ⟨h1, h2, h3, h4, h5⟩ := h
  rw [scan_stop hw] at h3 h4 h5
  exact ⟨by simpa using h3, by simpa using h4, h5⟩

end Go.Proofs.YteijmjbiaffcmaaGreatDoor
