/- The contract of the document's Scan for package frame. -/
import Derived.Test.YtanlnoephhjhhaaDoorFrameRGet
namespace Go.Proofs.YtanlnoephhjhhaaDoor
open Go.RowKit Go.Proofs.YtanlnoephhjhhaaDoor.Vi Go.Proofs.YtanlnoephhjhhaaDoor.Crc Go.Proofs.YtanlnoephhjhhaaDoor.Fr

set_option maxHeartbeats 2000000 in
theorem rscan_is (s : List UInt8) (l : List ByteArray) (n st : Int) (w : World) (hs : s.length ≤ 1000000) (hl : Hid (txL (scan s).1 = l)) (hn : Hid (((scan s).2.1 : Int) = n)) (hst : Hid (((scan s).2.2 : Int) = st)) : Calls Tryd.prog 19 #[.string (tx s)] w (ScanDone l n st w) := by
  obtain ⟨i0, hi, hz0, hz1, hz2⟩ := info_parts infoS
  have HS := Lib.hid hs
  clear hs
  have hget := fun (k : Nat) (hk : k ≤ s.length) w => rget_g s (k : Int) _ _ _ w (by have := HS.out; omega) (by have := HS.out; omega) (Lib.hid (rfl : tx (getG s k).1 = _)) (Lib.hid (rfl : (getG s k).2.1 = _)) (Lib.hid (rfl : (getG s k).2.2 = _))
  have HG := Lib.hid hget
  clear hget
  obtain ⟨S, hS⟩ : ∃ S, tx s = S := ⟨_, rfl⟩
  have HSS := Lib.hid hS
  rw [hS]
  clear hS
  go_enter Tryd.func19, Tryd.ntmps19
  go_wp2
  go_loopw [5, 6] (fun o i wr => ∃ (k : Nat) (xs : List (List UInt8)), i = .int .i64 (k : Int) ∧ Upto s k xs ∧ SRow wr w.heap.size o (txL xs) ∧ Below w.heap.size w wr) (fun _ i _ => 1000000 - (intOf i).toNat)
  case atStart => exact ⟨0, [], rfl, Upto.zero s, SRow.nil _ _, Below.refl _ _⟩
  case round =>
    obtain ⟨k, xs, rfl, hU, hR, hbel⟩ := hrel
    have hk := hU.1
    have hxl := hU.2.1
    have hcall := HG.out k hk wr
    rw [getG_at s k hk] at hcall
    simp only at hcall
    have hSs := HS.out
    by_cases h0 : (getF (s.drop k)).w = 0
    · have HU := Lib.hid (hU.step h0)
      have hkn := (hU.step h0).1
      have hpos := (getF_len h0).1
      rw [h0] at hcall
      obtain ⟨m, hm⟩ : ∃ m, (getF (s.drop k)).len = m := ⟨_, rfl⟩
      obtain ⟨b, hb⟩ : ∃ b, (getF (s.drop k)).body = b := ⟨_, rfl⟩
      rw [hm, hb] at hcall HU
      rw [hm] at hkn hpos
      obtain ⟨y, hy⟩ : ∃ y, tx b = y := ⟨_, rfl⟩
      rw [hy, HSS.out] at hcall
      have HY := Lib.hid hy
      have HB := Lib.hid hbel
      have hBr : w.heap.size ≤ wr.heap.size := hbel.size
      obtain ⟨a1, c1, rfl⟩ := hR.slice
      have HR := Lib.hid hR
      obtain ⟨q, hq⟩ : ∃ q, (txL xs).length = q := ⟨_, rfl⟩
      have hq2 : q ≤ k := by rw [← hq, txL_length]; exact hxl
      unfold SRow at hR
      rw [hq] at hR ⊢
      have HQ := Lib.hid hq
      clear hU h0 hm hb hy hbel hq hxl
      go_wp2_with (first
        | (go_at_call 17; (with_reducible refine hcall.mono ?_); rintro e w1 ⟨rfl, hb1⟩; have hR1 := owns_later hR hb1; have HB1 := Lib.hid (HB.out.trans (hb1.mono hBr)); have hB1 := HB1.out.size; have hne : ∀ p, (Value.slice a1 q c1).ownBlock = some p → w.heap.size ≤ p := fun p hp => (World.ownsRow.lt hR1 p hp).1; clear hR hb1)
        | (at_builtin; refine wpList_append_own _ rfl _ _ 22 rfl w.heap.size 9 i0 (.string ⟨#[]⟩) 1 16 Tryd.underlying22 hi hz0 hz1 hz2 rfl (by decide) _ _ _ rfl (hR1.alloc _) ⟨w1.heap.size, 0, none⟩ 1 1 [.string y] rfl rfl ?c1 ?c2 ?c3 ?c4 ?c5 ?_))
      case c1 =>
        intro j u hj
        match j, hj with
        | 0, hj => simp at hj; subst hj; simp [Addr.add]
      case c2 => intro u hu; simp at hu; subst hu; rfl
      case c3 => unfold maxLen; omega
      case c4 => omega
      case c5 => simp; omega
      intro v' w3 hown3 hgrow _
      have hB3 : Below w.heap.size w1 w3 := ((Below.refl w.heap.size w1).alloc hB1 _).grown hgrow (by simp; omega) hne
      have hR3 : SRow w3 w.heap.size v' (txL (xs ++ [b])) := by
        unfold SRow txL
        unfold txL at HQ
        have hl2 : ((xs ++ [b]).map tx).length = q + 1 := by rw [← HQ.out]; simp
        rw [hl2, List.map_append, List.map_append]
        simp only [List.map_cons, List.map_nil, HY.out]
        exact hown3
      have HR3 := Lib.hid hR3
      have HB3 := Lib.hid (HB1.out.trans hB3)
      clear hown3 hgrow hR3 hB3 hR1 hne HR HB HB1
      go_wp2
      go_roundw
      case rel => exact ⟨k + m, xs ++ [b], by first | rfl | (push_cast; rfl), HU.out, HR3.out, HB3.out⟩
      case measure => simp [intOf]; omega
    · obtain ⟨e1, e2, e3⟩ := hU.stop h0
      obtain ⟨e4, e5⟩ := getF_not h0
      rw [e4, e5, HSS.out] at hcall
      obtain ⟨q, hq⟩ : ∃ q, (getF (s.drop k)).w = q := ⟨_, rfl⟩
      rw [hq] at hcall h0 e3
      have hq2 : ((q : Int) == 0) = false := by simpa using h0
      obtain ⟨a1, c1, rfl⟩ := hR.slice
      have HR := Lib.hid hR
      have HB := Lib.hid hbel
      have HE : Hid (txL xs = l) := by show _ = _; rw [← hl.out, e1]
      have HN : Hid ((k : Int) = n) := by show _ = _; rw [← hn.out, e2]
      have HST : Hid ((q : Int) = st) := by show _ = _; rw [← hst.out, e3]
      rw [Nat.add_zero] at hcall
      generalize (txL xs).length = z at *
      clear hU h0 hq e1 e2 e3 e4 e5 hR hbel hxl hl hn hst
      go_wp2_with (go_at_call 17; (with_reducible refine hcall.mono ?_); rintro e w1 ⟨rfl, hb1⟩)
      go_ret3
      exact ⟨_, by rw [← HN.out, ← HST.out]; rfl, by rw [← HE.out]; exact owns_later HR.out hb1, HB.out.trans (hb1.mono HB.out.size)⟩
end Go.Proofs.YtanlnoephhjhhaaDoor
