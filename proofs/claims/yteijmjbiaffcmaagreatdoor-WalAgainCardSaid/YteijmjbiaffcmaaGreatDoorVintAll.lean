/- Contracts of package vint's All and Text, of the document's answers for them, and of the law's cutting of a text. -/
import Derived.Test.YteijmjbiaffcmaaGreatDoorVintPut
namespace Go.Proofs.YteijmjbiaffcmaaGreatDoor
open Go.RowKit Go.Proofs.YteijmjbiaffcmaaGreatDoor.Vi

/-- Numbers with signs, one behind the other. -/
def encs (l : List Int) : List UInt8 := l.flatMap fun n => enc (zig n).toNat
theorem encs_snoc (l : List Int) (k : Nat) (h : k < l.length) : encs (l.take (k + 1)) = encs (l.take k) ++ enc (zig l[k]).toNat := by
  unfold encs; rw [List.take_succ_eq_append_getElem h, List.flatMap_append]; simp
theorem encs_len (l : List Int) (hb : ∀ n ∈ l, -9223372036854775808 ≤ n ∧ n ≤ 9223372036854775807) : (encs l).length ≤ 10 * l.length := by
  induction l with
  | nil => simp [encs]
  | cons a t ih =>
    have h1 := ih fun n hn => hb n (List.mem_cons_of_mem _ hn)
    obtain ⟨h2, h3⟩ := hb a (List.mem_cons_self ..)
    obtain ⟨h4, h5⟩ := zig_bounds a h2 h3
    have h6 := enc_len10 (zig a).toNat (by omega)
    have : encs (a :: t) = enc (zig a).toNat ++ encs t := by simp [encs]
    rw [this, List.length_append, List.length_cons]; omega
theorem encs_take_len (l : List Int) (k : Nat) (hl : l.length ≤ 40) (hb : ∀ n ∈ l, -9223372036854775808 ≤ n ∧ n ≤ 9223372036854775807) : (encs (l.take k)).length ≤ 400 := by
  have := encs_len (l.take k) fun n hn => hb n (List.mem_of_mem_take hn)
  have h2 : (l.take k).length ≤ l.length := List.length_take_le' ..
  omega

theorem encs_one (n : Int) : encs [n] = enc (zig n).toNat := by simp [encs]
theorem encs_two (n m : Int) : encs [n, m] = enc (zig n).toNat ++ enc (zig m).toNat := by simp [encs]

/-- A text with its length ahead. -/
def ahead (s : ByteArray) : ByteArray := tx (enc s.size ++ s.data.toList)
theorem ahead_eq (s : ByteArray) : ahead s = tx (enc s.size) ++ s := by
  unfold ahead; rw [← tx_app, tx_list]
set_option maxHeartbeats 400000 in
theorem text_is (s t : ByteArray) (w : World) (hz : s.size ≤ 1000000) (ht : Hid (ahead s = t)) : Calls Tryz.prog 46 #[.string s] w (TextDone t w) := by
  obtain ⟨p, hp⟩ : ∃ p, tx (enc s.size) = p := ⟨_, rfl⟩
  have hps : p.size ≤ 10 := by rw [← hp, tx_size]; exact enc_len10 _ (by omega)
  have hk := fun w => put_is s.size p w (by omega) (Lib.hid hp)
  have hsum : p.size + s.size ≤ 9223372036854775807 := by omega
  have H := Lib.hid (show p ++ s = t by rw [← ht.out, ahead_eq, hp])
  clear hp
  go_enter Tryz.func46, Tryz.ntmps46
  go_wp2_with (go_at_call 45; (with_reducible refine (hk _).mono ?_); rintro e w2 ⟨rfl, hb⟩; have HB2 := Lib.hid hb; clear hb)
  go_ret
  exact ⟨by rw [← H.out]; rfl, HB2.out⟩
set_option maxHeartbeats 400000 in
theorem refText_is (s t : ByteArray) (w : World) (hz : s.size ≤ 1000000) (ht : Hid (ahead s = t)) : Calls Tryz.prog 49 #[.string s] w (TextDone t w) := by
  obtain ⟨p, hp⟩ : ∃ p, tx (enc s.size) = p := ⟨_, rfl⟩
  have hps : p.size ≤ 10 := by rw [← hp, tx_size]; exact enc_len10 _ (by omega)
  have hk := fun w => refPut_is s.size p w (by omega) (Lib.hid hp)
  have hsum : p.size + s.size ≤ 9223372036854775807 := by omega
  have H := Lib.hid (show p ++ s = t by rw [← ht.out, ahead_eq, hp])
  clear hp
  go_enter Tryz.func49, Tryz.ntmps49
  go_wp2_with (go_at_call 48; (with_reducible refine (hk _).mono ?_); rintro e w2 ⟨rfl, hb⟩; have HB2 := Lib.hid hb; clear hb)
  go_ret
  exact ⟨by rw [← H.out]; rfl, HB2.out⟩

/-- A text is cut to at most n bytes. -/
def cutB (s : ByteArray) (n : Nat) : ByteArray := if n < s.size then s.extract 0 n else s
theorem cutB_size (s : ByteArray) (n : Nat) : (cutB s n).size ≤ n ∧ (cutB s n).size ≤ s.size := by
  unfold cutB; split
  · simp; omega
  · omega
end Go.Proofs.YteijmjbiaffcmaaGreatDoor
