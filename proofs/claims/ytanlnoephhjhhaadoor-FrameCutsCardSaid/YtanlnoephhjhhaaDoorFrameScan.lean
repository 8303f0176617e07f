/- Contracts of package frame's Get and Scan. -/
import Derived.Test.YtanlnoephhjhhaaDoorFrameFirst
import Derived.WalkMore
namespace Go.Proofs.YtanlnoephhjhhaaDoor
open Go.RowKit Go.Proofs.YtanlnoephhjhhaaDoor.Vi Go.Proofs.YtanlnoephhjhhaaDoor.Crc Go.Proofs.YtanlnoephhjhhaaDoor.Fr

/-- What stands at a place: the body, the place behind it, the status. -/
def getG (s : List UInt8) (at_ : Int) : List UInt8 × Int × Int :=
  if at_ < 0 ∨ (s.length : Int) < at_ then ([], 0, 1) else ((getF (s.drop at_.toNat)).body, at_ + ((getF (s.drop at_.toNat)).len : Int), ((getF (s.drop at_.toNat)).w : Int))
theorem getG_at (s : List UInt8) (k : Nat) (hk : k ≤ s.length) : getG s (k : Int) = ((getF (s.drop k)).body, ((k + (getF (s.drop k)).len : Nat) : Int), ((getF (s.drop k)).w : Int)) := by
  unfold getG; rw [if_neg (by omega), Int.toNat_natCast]; congr

set_option maxHeartbeats 1000000 in
theorem get_g (s : List UInt8) (at_ : Int) (body : ByteArray) (n st : Int) (w : World) (hs : s.length ≤ 1000000000) (ha : -9223372036854775808 ≤ at_ ∧ at_ ≤ 9223372036854775807) (ht : Tab w)
    (hb : Hid (tx (getG s at_).1 = body)) (hn : Hid ((getG s at_).2.1 = n)) (hw : Hid ((getG s at_).2.2 = st)) : Calls Tryd.prog 16 #[.string (tx s), .int .i64 at_] w (FDone body n st w) := by
  have hz := tx_size s
  by_cases h0 : at_ < 0 ∨ (s.length : Int) < at_
  · have e : getG s at_ = ([], 0, 1) := if_pos h0
    rw [e] at hb hn hw
    obtain rfl : tx [] = body := hb.out
    obtain rfl : (0 : Int) = n := hn.out
    obtain rfl : (1 : Int) = st := hw.out
    obtain ⟨L, hL⟩ : ∃ L, s.length = L := ⟨_, rfl⟩
    rw [hL] at h0 hz
    generalize tx s = S at *
    clear hb hn hw hs hL e
    rcases h0 with h0 | h0
    · go_enter Tryd.func16, Tryd.ntmps16
      go_wp2
      go_ret3
      exact ⟨rfl, Below.refl _ _⟩
    · have h1 : ¬ at_ < 0 := by omega
      go_enter Tryd.func16, Tryd.ntmps16
      go_wp2
      go_ret3
      exact ⟨rfl, Below.refl _ _⟩
  · obtain ⟨k, rfl⟩ := Int.eq_ofNat_of_zero_le (show 0 ≤ at_ by omega)
    rw [getG_at s k (by omega)] at hb hn hw
    have hF := fun w ht => first_str (s.drop k) body ((getF (s.drop k)).len : Int) st w (by rw [List.length_drop]; omega) ht ⟨hb.out, rfl, hw.out⟩
    have hlen : ((getF (s.drop k)).len : Int) ≤ 1000000000 := by
      by_cases h : (getF (s.drop k)).w = 0
      · have := (getF_len h).2
        rw [List.length_drop] at this; omega
      · rw [(getF_not h).2]; omega
    obtain ⟨m, hm⟩ : ∃ m : Nat, (getF (s.drop k)).len = m := ⟨_, rfl⟩
    rw [hm] at hn hF hlen
    have HN : Hid ((k : Int) + (m : Int) = n) := by show _ = _; rw [← hn.out]; simp
    have hx : (tx s).extract k s.length = tx (s.drop k) := by
      rw [tx_part, List.take_of_length_le (by simp)]
    obtain ⟨L, hL⟩ : ∃ L, s.length = L := ⟨_, rfl⟩
    rw [hL] at h0 hz hx hs
    have hkL : (k : Int) ≤ (L : Int) := by omega
    generalize tx (s.drop k) = T at *
    generalize tx s = S at *
    clear hb hn hw hL hm h0
    go_enter Tryd.func16, Tryd.ntmps16
    go_wp2_with (go_at_call 30; (with_reducible refine (hF _ ht).mono ?_); rintro e w1 ⟨rfl, hb1⟩)
    go_ret3
    exact ⟨by rw [← HN.out]; rfl, hb1⟩

/-- A list of texts is a list of lists of bytes. -/
def txL (l : List (List UInt8)) : List ByteArray := l.map tx
theorem txL_length (l : List (List UInt8)) : (txL l).length = l.length := by unfold txL; simp
/-- What Scan leaves. -/
def ScanDone (l : List ByteArray) (n st : Int) (w : World) (e : Ending) (w' : World) : Prop := ∃ v, e = .returned (.tuple #[v, .int .i64 n, .int .i64 st]) ∧ SRow w' w.heap.size v l ∧ Below w.heap.size w w'
/-- What has been read up to k: a body each, and what is left to be. -/
def Upto (s : List UInt8) (k : Nat) (xs : List (List UInt8)) : Prop := k ≤ s.length ∧ xs.length ≤ k ∧ (scan s).1 = xs ++ (scan (s.drop k)).1 ∧ (scan s).2.1 = k + (scan (s.drop k)).2.1 ∧ (scan s).2.2 = (scan (s.drop k)).2.2
theorem Upto.zero (s : List UInt8) : Upto s 0 [] := ⟨Nat.zero_le _, Nat.le_refl _, by simp, by simp, by simp⟩
theorem Upto.step {s : List UInt8} {k : Nat} {xs : List (List UInt8)} (h : Upto s k xs) (hw : (getF (s.drop k)).w = 0) : Upto s (k + (getF (s.drop k)).len) (xs ++ [(getF (s.drop k)).body]) := by
  obtain ⟨h1, h2, h3, h4, h5⟩ := h
  obtain ⟨g1, g2⟩ := getF_len hw
  rw [List.length_drop] at g2
  have e := scan_step hw
  rw [List.drop_drop] at e
  rw [e] at h3 h4 h5
  refine ⟨by omega, by rw [List.length_append]; simp; omega, ?_, ?_, h5⟩
  · rw [h3]; simp
  · rw [h4]; simp only; omega
theorem Upto.stop {s : List UInt8} {k : Nat} {xs : List (List UInt8)} (h : Upto s k xs) (hw : (getF (s.drop k)).w ≠ 0) : (scan s).1 = xs ∧ (scan s).2.1 = k ∧ (scan s).2.2 = (getF (s.drop k)).w := by
  obtain ⟨h1, h2, h3, h4, h5⟩ := h
  rw [scan_stop hw] at h3 h4 h5
  exact ⟨by simpa using h3, by simpa using h4, h5⟩

set_option maxHeartbeats 2000000 in
theorem scan_is (s : List UInt8) (l : List ByteArray) (n st : Int) (w : World) (hs : s.length ≤ 1000000) (ht : Tab w) (hl : Hid (txL (scan s).1 = l)) (hn : Hid (((scan s).2.1 : Int) = n)) (hst : Hid (((scan s).2.2 : Int) = st)) : Calls Tryd.prog 18 #[.string (tx s)] w (ScanDone l n st w) := by
  obtain ⟨i0, hi, hz0, hz1, hz2⟩ := info_parts infoS
  have HT := Lib.hid ht
  have HS := Lib.hid hs
  clear ht hs
  have hget := fun (k : Nat) (hk : k ≤ s.length) w ht => get_g s (k : Int) _ _ _ w (by have := HS.out; omega) (by have := HS.out; omega) ht (Lib.hid (rfl : tx (getG s k).1 = _)) (Lib.hid (rfl : (getG s k).2.1 = _)) (Lib.hid (rfl : (getG s k).2.2 = _))
  have HG := Lib.hid hget
  clear hget
  obtain ⟨S, hS⟩ : ∃ S, tx s = S := ⟨_, rfl⟩
  have HSS := Lib.hid hS
  rw [hS]
  clear hS
  go_enter Tryd.func18, Tryd.ntmps18
  go_wp2
  go_step3
  go_wp2
  go_step3
  go_wp2
  go_loopw [5, 6] (fun o i wr => ∃ (k : Nat) (xs : List (List UInt8)), i = .int .i64 (k : Int) ∧ Upto s k xs ∧ SRow wr w.heap.size o (txL xs) ∧ Below w.heap.size w wr) (fun _ i _ => 1000000 - (intOf i).toNat)
  case atStart => exact ⟨0, [], rfl, Upto.zero s, SRow.nil _ _, Below.refl _ _⟩
  case round =>
    obtain ⟨k, xs, rfl, hU, hR, hbel⟩ := hrel
    have hk := hU.1
    have hxl := hU.2.1
    have hcall := HG.out k hk wr (HT.out.below hbel HT.out.room)
    rw [getG_at s k hk] at hcall
    simp only at hcall
    have hSs := HS.out
    by_cases h0 : (getF (s.drop k)).w = 0
    · have HU := Lib.hid (hU.step h0)
      have hkn := (hU.step h0).1
      have hpos := (getF_len h0).1
      rw [h0] at hcall
      obtain ⟨m, hm⟩ : ∃ m, (getF (s.drop k)).len = m := ⟨_, rfl⟩
      obtain ⟨b, hb⟩ : ∃ b, (getF (s.drop k)).body = b := ⟨_, rfl⟩
      rw [hm, hb] at hcall HU
      rw [hm] at hkn hpos
      obtain ⟨y, hy⟩ : ∃ y, tx b = y := ⟨_, rfl⟩
      rw [hy, HSS.out] at hcall
      have HY := Lib.hid hy
      have HB := Lib.hid hbel
      have hBr : w.heap.size ≤ wr.heap.size := hbel.size
      obtain ⟨a1, c1, rfl⟩ := hR.slice
      have HR := Lib.hid hR
      obtain ⟨q, hq⟩ : ∃ q, (txL xs).length = q := ⟨_, rfl⟩
      have hq2 : q ≤ k := by rw [← hq, txL_length]; exact hxl
      unfold SRow at hR
      rw [hq] at hR ⊢
      have HQ := Lib.hid hq
      clear hU h0 hm hb hy hbel hq hxl
      go_wp2_with (first
        | (go_at_call 16; (with_reducible refine hcall.mono ?_); rintro e w1 ⟨rfl, hb1⟩; have hR1 := owns_later hR hb1; have HB1 := Lib.hid (HB.out.trans (hb1.mono hBr)); have hB1 := HB1.out.size; have hne : ∀ p, (Value.slice a1 q c1).ownBlock = some p → w.heap.size ≤ p := fun p hp => (World.ownsRow.lt hR1 p hp).1; clear hR hb1)
        | (at_builtin; refine wpList_append_own _ rfl _ _ 22 rfl w.heap.size 9 i0 (.string ⟨#[]⟩) 1 16 Tryd.underlying22 hi hz0 hz1 hz2 rfl (by decide) _ _ _ rfl (hR1.alloc _) ⟨w1.heap.size, 0, none⟩ 1 1 [.string y] rfl rfl ?c1 ?c2 ?c3 ?c4 ?c5 ?_))
      case c1 =>
        intro j u hj
        match j, hj with
        | 0, hj => simp at hj; subst hj; simp [Addr.add]
      case c2 => intro u hu; simp at hu; subst hu; rfl
      case c3 => unfold maxLen; omega
      case c4 => omega
      case c5 => simp; omega
      intro v' w3 hown3 hgrow _
      have hB3 : Below w.heap.size w1 w3 := ((Below.refl w.heap.size w1).alloc hB1 _).grown hgrow (by simp; omega) hne
      have hR3 : SRow w3 w.heap.size v' (txL (xs ++ [b])) := by
        unfold SRow txL
        unfold txL at HQ
        have hl2 : ((xs ++ [b]).map tx).length = q + 1 := by rw [← HQ.out]; simp
        rw [hl2, List.map_append, List.map_append]
        simp only [List.map_cons, List.map_nil, HY.out]
        exact hown3
      have HR3 := Lib.hid hR3
      have HB3 := Lib.hid (HB1.out.trans hB3)
      clear hown3 hgrow hR3 hB3 hR1 hne HR HB HB1
      go_wp2
      go_roundw
      case rel => exact ⟨k + m, xs ++ [b], by first | rfl | (push_cast; rfl), HU.out, HR3.out, HB3.out⟩
      case measure => simp [intOf]; omega
    · obtain ⟨e1, e2, e3⟩ := hU.stop h0
      obtain ⟨e4, e5⟩ := getF_not h0
      rw [e4, e5, HSS.out] at hcall
      obtain ⟨q, hq⟩ : ∃ q, (getF (s.drop k)).w = q := ⟨_, rfl⟩
      rw [hq] at hcall h0 e3
      have hq2 : ((q : Int) == 0) = false := by simpa using h0
      obtain ⟨a1, c1, rfl⟩ := hR.slice
      have HR := Lib.hid hR
      have HB := Lib.hid hbel
      have HE : Hid (txL xs = l) := by show _ = _; rw [← hl.out, e1]
      have HN : Hid ((k : Int) = n) := by show _ = _; rw [← hn.out, e2]
      have HST : Hid ((q : Int) = st) := by show _ = _; rw [← hst.out, e3]
      rw [Nat.add_zero] at hcall
      generalize (txL xs).length = z at *
      clear hU h0 hq e1 e2 e3 e4 e5 hR hbel hxl hl hn hst
      go_wp2_with (go_at_call 16; (with_reducible refine hcall.mono ?_); rintro e w1 ⟨rfl, hb1⟩)
      go_ret3
      exact ⟨_, by rw [← HN.out, ← HST.out]; rfl, by rw [← HE.out]; exact owns_later HR.out hb1, HB.out.trans (hb1.mono HB.out.size)⟩
end Go.Proofs.YtanlnoephhjhhaaDoor
