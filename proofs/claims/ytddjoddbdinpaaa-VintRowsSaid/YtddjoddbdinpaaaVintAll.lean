/- Contracts of package vint's All and Text, of the document's answers for them, and of the law's cutting of a text. -/
import Derived.Test.YtddjoddbdinpaaaVintPut
namespace Go.Proofs.Ytddjoddbdinpaaa
open Go.RowKit Go.Proofs.Ytddjoddbdinpaaa.Vi

/-- Numbers with signs, one behind the other. -/
def encs (l : List Int) : List UInt8 := l.flatMap fun n => enc (zig n).toNat
theorem encs_snoc (l : List Int) (k : Nat) (h : k < l.length) : encs (l.take (k + 1)) = encs (l.take k) ++ enc (zig l[k]).toNat := by
  unfold encs; rw [List.take_succ_eq_append_getElem h, List.flatMap_append]; simp
theorem encs_len (l : List Int) (hb : ∀ n ∈ l, -9223372036854775808 ≤ n ∧ n ≤ 9223372036854775807) : (encs l).length ≤ 10 * l.length := by
  induction l with
  | nil => simp [encs]
  | cons a t ih =>
    have h1 := ih fun n hn => hb n (List.mem_cons_of_mem _ hn)
    obtain ⟨h2, h3⟩ := hb a (List.mem_cons_self ..)
    obtain ⟨h4, h5⟩ := zig_bounds a h2 h3
    have h6 := enc_len10 (zig a).toNat (by omega)
    have : encs (a :: t) = enc (zig a).toNat ++ encs t := by simp [encs]
    rw [this, List.length_append, List.length_cons]; omega
theorem encs_take_len (l : List Int) (k : Nat) (hl : l.length ≤ 40) (hb : ∀ n ∈ l, -9223372036854775808 ≤ n ∧ n ≤ 9223372036854775807) : (encs (l.take k)).length ≤ 400 := by
  have := encs_len (l.take k) fun n hn => hb n (List.mem_of_mem_take hn)
  have h2 : (l.take k).length ≤ l.length := List.length_take_le' ..
  omega

theorem all_nil (a : Option Addr) (cap : Nat) (w : World) : Calls Try.prog 18 #[.slice a 0 cap] w (TextDone (tx []) w) := by
  have hb := row_back (Row.nil w w.heap.size)
  go_enter Try.func18, Try.ntmps18
  go_wp2
  go_rounds 1
  go_wp2
  go_ret
  exact ⟨rfl, Below.refl _ _⟩
theorem refAll_nil (a : Option Addr) (cap : Nat) (w : World) : Calls Try.prog 19 #[.slice a 0 cap] w (TextDone (tx []) w) := by
  go_enter Try.func19, Try.ntmps19
  go_wp2
  go_rounds 1
  go_ret
  exact ⟨rfl, Below.refl _ _⟩

set_option maxHeartbeats 1000000 in
theorem all_is (b o cap : Nat) (l : List Int) (s : ByteArray) (w : World) (hl : l.length ≤ 40) (hc : ∀ j (h : j < l.length), w.cell? ⟨b, o + j, none⟩ = some (.int .i64 l[j]))
    (hb : ∀ n ∈ l, -9223372036854775808 ≤ n ∧ n ≤ 9223372036854775807) (hs : Hid (tx (encs l) = s)) :
    Calls Try.prog 18 #[.slice (some ⟨b, o, none⟩) l.length cap] w (TextDone s w) := by
  have HC := Lib.hid hc
  have HB := Lib.hid hb
  have hT := fun k => encs_take_len l k hl hb
  have HT := Lib.hid hT
  have HE : Hid (encs (l.take l.length) = encs l) := Lib.hid (by rw [List.take_length])
  clear hc hb hT
  go_enter Try.func18, Try.ntmps18
  go_wp2
  go_loopw [3, 8] (fun a i wr => ∃ k : Nat, k ≤ l.length ∧ i = .int .i64 (k : Int) ∧ Row wr w.heap.size a (encs (l.take k)) ∧ Below w.heap.size w wr) (fun _ i _ => l.length - (intOf i).toNat)
  case atStart => exact ⟨0, Nat.zero_le _, rfl, Row.nil _ _, Below.refl _ _⟩
  case round =>
    obtain ⟨k, hk, rfl, hR, hbel⟩ := hrel
    have hw := hbel.size
    by_cases hlt : k < l.length
    · obtain ⟨n, hn⟩ : ∃ n, n = l[k] := ⟨_, rfl⟩
      have hcell : wr.cell? ⟨b, o + k, none⟩ = some (.int .i64 n) := by
        have := HC.out k hlt
        rw [← hn] at this
        exact (hbel.cell (p := ⟨b, o + k, none⟩) (World.block_lt_of_cell? w _ this)).trans this
      have HN := Lib.hid (show encs (l.take (k + 1)) = encs (l.take k) ++ enc (zig n).toNat by rw [encs_snoc l k hlt, hn])
      obtain ⟨b1, b2⟩ := HB.out n (by rw [hn]; exact List.getElem_mem _)
      obtain ⟨z1, z2⟩ := zig_bounds n b1 b2
      have hlen := HT.out k
      have hz := fun w => zig_any n w b1 b2
      obtain ⟨z, hzz⟩ : ∃ z : Nat, zig n = (z : Int) := ⟨(zig n).toNat, by omega⟩
      rw [hzz] at hz z2 HN
      rw [Int.toNat_natCast] at HN
      have ha := appended_any w.heap.size _ (encs (l.take k)) z wr hw hR (by omega) (by omega)
      clear hn hzz z1 hR hlen
      have HBel := Lib.hid hbel
      clear hbel
      go_wp2_with (first
        | (go_at_call 14; (with_reducible refine (hz _).mono ?_); rintro e w1 ⟨rfl, rfl⟩)
        | (go_at_call 37; (with_reducible refine ha.mono ?_); rintro e w2 ⟨v, rfl, hR, hb⟩; have HR := Lib.hid hR; have HB2 := Lib.hid hb; clear hR hb))
      go_roundw
      case rel => exact ⟨k + 1, by omega, by go_num, by rw [HN.out]; exact HR.out, HBel.out.trans HB2.out⟩
      case measure => simp [intOf]; omega
    · have hks : l.length = k := by omega
      have hbk := row_back hR
      have HF := Lib.hid (show tx (encs (l.take k)) = s by rw [← hks, HE.out, hs.out])
      clear hks
      have HBel := Lib.hid hbel
      obtain ⟨ad, cp, rfl⟩ := hR.slice
      clear hbel hR
      go_wp2
      go_ret
      exact ⟨by rw [← HF.out]; rfl, HBel.out⟩

set_option maxHeartbeats 1000000 in
theorem refAll_is (b o cap : Nat) (l : List Int) (s : ByteArray) (w : World) (hl : l.length ≤ 40) (hc : ∀ j (h : j < l.length), w.cell? ⟨b, o + j, none⟩ = some (.int .i64 l[j]))
    (hb : ∀ n ∈ l, -9223372036854775808 ≤ n ∧ n ≤ 9223372036854775807) (hs : Hid (tx (encs l) = s)) :
    Calls Try.prog 19 #[.slice (some ⟨b, o, none⟩) l.length cap] w (TextDone s w) := by
  have HC := Lib.hid hc
  have HB := Lib.hid hb
  have hT := fun k => encs_take_len l k hl hb
  have HT := Lib.hid hT
  have HE : Hid (encs (l.take l.length) = encs l) := Lib.hid (by rw [List.take_length])
  clear hc hb hT
  go_enter Try.func19, Try.ntmps19
  go_wp2
  go_loopw [3, 4] (fun a i wr => ∃ k : Nat, k ≤ l.length ∧ i = .int .i64 (k : Int) ∧ a = .string (tx (encs (l.take k))) ∧ Below w.heap.size w wr) (fun _ i _ => l.length - (intOf i).toNat)
  case atStart => exact ⟨0, Nat.zero_le _, rfl, rfl, Below.refl _ _⟩
  case round =>
    obtain ⟨k, hk, rfl, rfl, hbel⟩ := hrel
    have hw := hbel.size
    by_cases hlt : k < l.length
    · obtain ⟨n, hn⟩ : ∃ n, n = l[k] := ⟨_, rfl⟩
      have hcell : wr.cell? ⟨b, o + k, none⟩ = some (.int .i64 n) := by
        have := HC.out k hlt
        rw [← hn] at this
        exact (hbel.cell (p := ⟨b, o + k, none⟩) (World.block_lt_of_cell? w _ this)).trans this
      have hN := encs_snoc l k hlt
      rw [← hn] at hN
      obtain ⟨b1, b2⟩ := HB.out n (by rw [hn]; exact List.getElem_mem _)
      obtain ⟨z1, z2⟩ := zig_bounds n b1 b2
      have hlen := HT.out k
      have hz := fun w => refZig_any n w b1 b2
      obtain ⟨z, hzz⟩ : ∃ z : Nat, zig n = (z : Int) := ⟨(zig n).toNat, by omega⟩
      rw [hzz] at hz z2 hN
      rw [Int.toNat_natCast] at hN
      have hzl := enc_len10 z (by omega)
      obtain ⟨t, ht⟩ : ∃ t, tx (enc z) = t := ⟨_, rfl⟩
      have hp := fun w => refPut_is z t w (by omega) (Lib.hid ht)
      obtain ⟨s0, hs0⟩ : ∃ s0, tx (encs (l.take k)) = s0 := ⟨_, rfl⟩
      have HN := Lib.hid (show tx (encs (l.take (k + 1))) = s0 ++ t by rw [hN, ← tx_app, ht, hs0])
      have hsz : s0.size + t.size ≤ 9223372036854775807 := by rw [← hs0, ← ht, tx_size, tx_size]; omega
      rw [hs0]
      clear hn hzz z1 hlen ht hs0 hN
      have HBel := Lib.hid hbel
      clear hbel
      go_wp2_with (first
        | (go_at_call 15; (with_reducible refine (hz _).mono ?_); rintro e w1 ⟨rfl, rfl⟩)
        | (go_at_call 13; (with_reducible refine (hp _).mono ?_); rintro e w2 ⟨rfl, hb⟩; have HB2 := Lib.hid hb; clear hb))
      go_roundw
      case rel => exact ⟨k + 1, by omega, by go_num, by rw [HN.out], HBel.out.trans (HB2.out.mono hw)⟩
      case measure => simp [intOf]; omega
    · have hks : l.length = k := by omega
      have HF := Lib.hid (show tx (encs (l.take k)) = s by rw [← hks, HE.out, hs.out])
      clear hks
      have HBel := Lib.hid hbel
      clear hbel
      go_wp2
      go_ret
      exact ⟨by rw [← HF.out]; rfl, HBel.out⟩

theorem all_one (b cap : Nat) (n : Int) (s : ByteArray) (w : World) (hc : w.cell? ⟨b, 0, none⟩ = some (.int .i64 n)) (hn : -9223372036854775808 ≤ n ∧ n ≤ 9223372036854775807) (hs : Hid (tx (encs [n]) = s)) :
    Calls Try.prog 18 #[.slice (some ⟨b, 0, none⟩) 1 cap] w (TextDone s w) :=
  all_is b 0 cap [n] s w (by simp) (fun j h => by
    obtain rfl : j = 0 := by simpa using h
    exact hc) (fun m hm => by
    obtain rfl : m = n := by simpa using hm
    exact hn) hs
theorem all_two (b cap : Nat) (n m : Int) (s : ByteArray) (w : World) (hc : w.cell? ⟨b, 0, none⟩ = some (.int .i64 n)) (hd : w.cell? ⟨b, 1, none⟩ = some (.int .i64 m)) (hn : -9223372036854775808 ≤ n ∧ n ≤ 9223372036854775807)
    (hm : -9223372036854775808 ≤ m ∧ m ≤ 9223372036854775807) (hs : Hid (tx (encs [n, m]) = s)) :
    Calls Try.prog 18 #[.slice (some ⟨b, 0, none⟩) 2 cap] w (TextDone s w) :=
  all_is b 0 cap [n, m] s w (by simp) (fun j h => by
    match j, h with
    | 0, _ => exact hc
    | 1, _ => exact hd) (fun q hq => by
    rcases List.mem_cons.1 hq with rfl | hq
    · exact hn
    · obtain rfl : q = m := by simpa using hq
      exact hm) hs
theorem encs_one (n : Int) : encs [n] = enc (zig n).toNat := by simp [encs]
theorem encs_two (n m : Int) : encs [n, m] = enc (zig n).toNat ++ enc (zig m).toNat := by simp [encs]

/-- A text with its length ahead. -/
def ahead (s : ByteArray) : ByteArray := tx (enc s.size ++ s.data.toList)
theorem ahead_eq (s : ByteArray) : ahead s = tx (enc s.size) ++ s := by
  unfold ahead; rw [← tx_app, tx_list]
set_option maxHeartbeats 400000 in
theorem text_is (s t : ByteArray) (w : World) (hz : s.size ≤ 1000000) (ht : Hid (ahead s = t)) : Calls Try.prog 20 #[.string s] w (TextDone t w) := by
  obtain ⟨p, hp⟩ : ∃ p, tx (enc s.size) = p := ⟨_, rfl⟩
  have hps : p.size ≤ 10 := by rw [← hp, tx_size]; exact enc_len10 _ (by omega)
  have hk := fun w => put_is s.size p w (by omega) (Lib.hid hp)
  have hsum : p.size + s.size ≤ 9223372036854775807 := by omega
  have H := Lib.hid (show p ++ s = t by rw [← ht.out, ahead_eq, hp])
  clear hp
  go_enter Try.func20, Try.ntmps20
  go_wp2_with (go_at_call 12; (with_reducible refine (hk _).mono ?_); rintro e w2 ⟨rfl, hb⟩; have HB2 := Lib.hid hb; clear hb)
  go_ret
  exact ⟨by rw [← H.out]; rfl, HB2.out⟩
set_option maxHeartbeats 400000 in
theorem refText_is (s t : ByteArray) (w : World) (hz : s.size ≤ 1000000) (ht : Hid (ahead s = t)) : Calls Try.prog 21 #[.string s] w (TextDone t w) := by
  obtain ⟨p, hp⟩ : ∃ p, tx (enc s.size) = p := ⟨_, rfl⟩
  have hps : p.size ≤ 10 := by rw [← hp, tx_size]; exact enc_len10 _ (by omega)
  have hk := fun w => refPut_is s.size p w (by omega) (Lib.hid hp)
  have hsum : p.size + s.size ≤ 9223372036854775807 := by omega
  have H := Lib.hid (show p ++ s = t by rw [← ht.out, ahead_eq, hp])
  clear hp
  go_enter Try.func21, Try.ntmps21
  go_wp2_with (go_at_call 13; (with_reducible refine (hk _).mono ?_); rintro e w2 ⟨rfl, hb⟩; have HB2 := Lib.hid hb; clear hb)
  go_ret
  exact ⟨by rw [← H.out]; rfl, HB2.out⟩

/-- A text is cut to at most n bytes. -/
def cutB (s : ByteArray) (n : Nat) : ByteArray := if n < s.size then s.extract 0 n else s
theorem cutB_size (s : ByteArray) (n : Nat) : (cutB s n).size ≤ n ∧ (cutB s n).size ≤ s.size := by
  unfold cutB; split
  · simp; omega
  · omega
theorem short_is (s t : ByteArray) (n : Nat) (m : Int) (w : World) (hm : m = (n : Int)) (hn : n ≤ 2000) (ht : Hid (cutB s n = t)) : Calls Try.prog 11 #[.string s, .int .i64 m] w fun e w' => e = .returned (.string t) ∧ w = w' := by
  by_cases h : n < s.size
  · have H := Lib.hid (show s.extract 0 n = t by rw [← ht.out]; exact (if_pos h).symm)
    subst hm
    go_enter Try.func11, Try.ntmps11
    go_wp2
    go_ret
    exact ⟨by rw [← H.out]; rfl, rfl⟩
  · have H := Lib.hid (show s = t by rw [← ht.out]; exact (if_neg h).symm)
    subst hm
    go_enter Try.func11, Try.ntmps11
    go_wp2
    go_ret
    exact ⟨by rw [← H.out]; rfl, rfl⟩
end Go.Proofs.Ytddjoddbdinpaaa
