/- The walk of law VintRows: it returns true and turns nothing that was there. -/
import Derived.Test.YtddjoddbdinpaaaVintAwake
import Derived.Test.YtddjoddbdinpaaaVintArgs
import Derived.Test.YtddjoddbdinpaaaVintRowsMath
import Derived.Deep.RegionHeld3
import Derived.Deep.CutRange
import Derived.Test.YtddjoddbdinpaaaVintPlace
namespace Go.Proofs.Ytddjoddbdinpaaa.vintRows
open Go.RowKit Go.Proofs.Ytddjoddbdinpaaa Go.Proofs.Ytddjoddbdinpaaa.Vi

theorem undrew {w w' : World} (h : Below w.drew.heap.size w.drew w') : Below w.heap.size w w' := ⟨h.os, h.tape, h.output, h.size, h.block⟩
theorem all_at (n : Int) (s : ByteArray) (hn : -9223372036854775808 ≤ n ∧ n ≤ 9223372036854775807) (hs : Hid (tx (encs [n]) = s)) (W w' : World) (hB : Below (W.alloc (.cells #[.int .i64 n] 2)).heap.size (W.alloc (.cells #[.int .i64 n] 2)) w') :
    Calls Try.prog 18 #[.slice (some ⟨W.heap.size, 0, none⟩) 1 1] w' (TextDone s w') :=
  all_one W.heap.size 1 n s w' ((hB.cell (p := ⟨W.heap.size, 0, none⟩) (by simp)).trans (by simp [go_sem])) hn hs

/-- What the k-th round reads: a number and a text, which is cut. -/
structure It (w : World) (a0 a1 : Option Addr) (k : Nat) (x : Int × ByteArray) (b off b2 off2 : Nat) (g : ByteArray) : Prop where
  ha : a0 = some ⟨b, off, none⟩
  ha2 : a1 = some ⟨b2, off2, none⟩
  hb : b < w.heap.size
  hb2 : b2 < w.heap.size
  c1 : w.cell? ⟨b, off + k, none⟩ = some (.int .i64 x.1)
  c2 : w.cell? ⟨b2, off2 + k, none⟩ = some (.string g)
  cut : cutB g 60 = x.2
  lo : -9223372036854775808 ≤ x.1
  hi : x.1 ≤ 9223372036854775807
theorem It.size {w : World} {a0 a1 : Option Addr} {k : Nat} {x : Int × ByteArray} {b off b2 off2 : Nat} {g : ByteArray} (h : It w a0 a1 k x b off b2 off2 g) : x.2.size ≤ 60 := by
  rw [← h.cut]; exact (cutB_size g 60).1
/-- All that the rounds read. -/
def Its (w : World) (a0 a1 : Option Addr) (its : List (Int × ByteArray)) : Prop := ∀ k (h : k < its.length), ∃ b off b2 off2 g, It w a0 a1 k its[k] b off b2 off2 g
theorem its_of {w : World} {a0 a1 : Option Addr} {len0 cap0 len1 cap1 : Nat} (h0 : ArgInts w a0 len0 cap0) (h1 : ArgStrs w a1 len1 cap1) : ∃ its : List (Int × ByteArray), its.length = min (min len0 len1) 20 ∧ Its w a0 a1 its := by
  rcases h0 with rfl | ⟨b, off, l, rfl, rfl, _, _, hc, hb⟩
  · exact ⟨[], by simp, fun k h => (by simp at h)⟩
  · rcases h1 with rfl | ⟨b2, off2, ts, rfl, rfl, _, _, hc2, _⟩
    · exact ⟨[], by simp, fun k h => (by simp at h)⟩
    · refine ⟨(List.range (min (min l.length ts.length) 20)).map fun k => (l.getD k 0, cutB (ts.getD k ⟨#[]⟩) 60), by simp, fun k h => ?_⟩
      rw [List.length_map, List.length_range] at h
      have e1 : l.getD k 0 = l[k] := by rw [List.getD_eq_getElem?_getD, List.getElem?_eq_getElem (by omega)]; rfl
      have e2 : ts.getD k ⟨#[]⟩ = ts[k] := by rw [List.getD_eq_getElem?_getD, List.getElem?_eq_getElem (by omega)]; rfl
      have hm := hb _ (List.getElem_mem (show k < l.length by omega))
      refine ⟨b, off, b2, off2, ts[k], rfl, rfl, World.block_lt_of_cell? w _ (hc k (by omega)), World.block_lt_of_cell? w _ (hc2 k (by omega)), ?_, hc2 k (by omega), ?_, ?_, ?_⟩
      · rw [List.getElem_map, List.getElem_range]; show _ = some (Value.int .i64 (l.getD k 0)); rw [e1]; exact hc k (by omega)
      · rw [List.getElem_map, List.getElem_range]; show _ = cutB (ts.getD k ⟨#[]⟩) 60; rw [e2]
      · rw [List.getElem_map, List.getElem_range]; show _ ≤ l.getD k 0; rw [e1]; exact hm.1
      · rw [List.getElem_map, List.getElem_range]; show l.getD k 0 ≤ _; rw [e1]; exact hm.2
theorem Its.len {w : World} {a0 a1 : Option Addr} {its : List (Int × ByteArray)} (h : Its w a0 a1 its) : ∀ m, m ≤ its.length → (encI (its.take m)).length ≤ 80 * m := by
  intro m
  induction m with
  | zero => intro _; simp [encI]
  | succ m ih =>
    intro hm
    obtain ⟨b, off, b2, off2, g, hx⟩ := h m (by omega)
    have h1 := ih (by omega)
    obtain ⟨z1, z2⟩ := zig_bounds _ hx.lo hx.hi
    have h2 := enc_len10 (zig its[m].1).toNat (by omega)
    have h3 := enc_len10 its[m].2.size (by have := hx.size; omega)
    have h4 := hx.size
    have h5 : its[m].2.data.toList.length = its[m].2.size := by simp
    rw [encI_snoc its m (by omega), List.length_append]
    unfold item
    rw [List.length_append, List.length_append]
    omega
/-- What a round puts behind. -/
theorem piece (x : Int × ByteArray) (s : ByteArray) (l : List UInt8) (h : tx l = s) : s ++ tx (encs [x.1]) ++ ahead x.2 = tx (l ++ item x) := by
  rw [← h, tx_app, ahead, tx_app, encs_one, List.append_assoc]; rfl

theorem textQ_size' {r r' : ByteArray} {br br' : Bool} {v : ByteArray} (H : textQ r br = (v, r', br')) : r'.size ≤ r.size := by
  unfold textQ at H
  split at H
  · simp at H; obtain ⟨rfl, rfl, rfl⟩ := H; exact Nat.le_refl _
  · split at H
    · simp at H; obtain ⟨rfl, rfl, rfl⟩ := H; exact Nat.zero_le _
    · rename_i u r1 hf
      have := (numF_bounds hf).2
      split at H
      · simp at H; obtain ⟨rfl, rfl, rfl⟩ := H; rw [restB_size]; omega
      · simp at H; obtain ⟨rfl, rfl, rfl⟩ := H; exact Nat.zero_le _

set_option maxHeartbeats 16000000 in
set_option maxRecDepth 20000 in
theorem core (its : List (Int × ByteArray)) (N : Nat) (hN : its.length = N) (a0 a1 : Option Addr) (len0 cap0 len1 cap1 : Nat) (n2 : Int) (w : World) (hlen : N = min (min len0 len1) 20) (hI : Its w a0 a1 its) (h2 : -9223372036854775808 ≤ n2 ∧ n2 ≤ 9223372036854775807)
    (hm0 : len0 ≤ 9223372036854775807) (hm1 : len1 ≤ 9223372036854775807) :
    Calls Try.prog 7 #[.slice a0 len0 cap0, .slice a1 len1 cap1, .int .i64 n2] w fun e w' => e = .returned (.bool true) ∧ Below w.heap.size w w' := by
  have HN := Lib.hid hN
  have HI := Lib.hid hI
  have hN20 : N ≤ 20 := by omega
  have hNl0 : N ≤ len0 := by omega
  have hNl1 : N ≤ len1 := by omega
  have hL := fun m hm => hI.len m hm
  have HL := Lib.hid hL
  clear hN hI hL
  go_enter Try.func7, Try.ntmps7
  go_wp2_with (first
    | (go_at_call 10; (with_reducible refine (awake_any _).mono ?_); rintro e w1 ⟨rfl, hb1⟩))
  go_loopw [8, 9, 10] (fun s n i wr => ∃ k : Nat, k ≤ N ∧ i = .int .i64 (k : Int) ∧ n = .int .i64 (k : Int) ∧ s = .string (tx (encI (its.take k))) ∧ Below w.heap.size w wr) (fun _ _ i _ => 60 - (intOf i).toNat)
  case atStart => exact ⟨0, Nat.zero_le _, rfl, rfl, rfl, hb1⟩
  case round =>
    obtain ⟨k, hk, rfl, rfl, rfl, hbel⟩ := hrel
    clear hb1
    by_cases hgo : k < N
    · have hkl : k < its.length := by rw [HN.out]; exact hgo
      obtain ⟨b, off, b2, off2, g, hx⟩ := HI.out k hkl
      obtain ⟨⟨n, t⟩, hnt⟩ : ∃ x, its[k] = x := ⟨_, rfl⟩
      rw [hnt] at hx
      have hts := hx.size
      have hlo := hx.lo
      have hhi := hx.hi
      have hc01 := hx.c1
      have hc02 := hx.c2
      have hbw := hx.hb
      have hbw2 := hx.hb2
      have hcut := hx.cut
      obtain rfl := hx.ha
      obtain rfl := hx.ha2
      simp only at hts hlo hhi hc01 hcut
      have hSof : ∀ w', Below w.heap.size w w' → (fun w' => w'.cell? ⟨b, off + k, none⟩ = some (.int .i64 n) ∧ w'.cell? ⟨b2, off2 + k, none⟩ = some (.string g) ∧ Below w.heap.size w w') w' := fun w' h => ⟨(h.cell (p := ⟨b, off + k, none⟩) hbw).trans hc01, (h.cell (p := ⟨b2, off2 + k, none⟩) hbw2).trans hc02, h⟩
      obtain ⟨hc1, hc2, -⟩ := hSof _ hbel
      have hl1 := HL.out k (by omega)
      obtain ⟨s0, hs0⟩ : ∃ s, tx (encI (its.take k)) = s := ⟨_, rfl⟩
      obtain ⟨e1, he1⟩ : ∃ s, tx (encs [n]) = s := ⟨_, rfl⟩
      obtain ⟨tt, htt0⟩ : ∃ s, ahead t = s := ⟨_, rfl⟩
      obtain ⟨x1, hx1⟩ : ∃ s, s0 ++ e1 = s := ⟨_, rfl⟩
      obtain ⟨x2, hx2⟩ : ∃ s, x1 ++ tt = s := ⟨_, rfl⟩
      have HK1 : Hid (tx (encI (its.take (k + 1))) = x2) := Lib.hid (by
        have := piece (n, t) s0 _ hs0
        rw [encI_snoc its k hkl, hnt, ← this]
        show s0 ++ tx (encs [n]) ++ ahead t = x2
        rw [he1, htt0, hx1, hx2])
      have hz0 : s0.size ≤ 1600 := by rw [← hs0, tx_size]; omega
      have hze : e1.size ≤ 10 := by
        obtain ⟨z1, z2⟩ := zig_bounds n hlo hhi
        rw [← he1, tx_size, encs_one]; exact enc_len10 _ (by omega)
      have hz1 : s0.size + e1.size ≤ 9223372036854775807 := by omega
      have hztt : tt.size ≤ 70 := by
        have := enc_len10 t.size (by omega)
        have h5 : t.data.toList.length = t.size := by simp
        rw [← htt0]; unfold ahead
        rw [tx_size, List.length_append]; omega
      have hzx : x1.size = s0.size + e1.size := by rw [← hx1]; simp
      have hz2 : x1.size + tt.size ≤ 9223372036854775807 := by omega
      have hq1 : ¬ 9223372036854775807 < s0.size + e1.size := by omega
      have hq2 : ¬ 9223372036854775807 < x1.size + tt.size := by omega
      have hAll := all_at n e1 ⟨hlo, hhi⟩ (Lib.hid he1)
      have hsh := fun w => short_is g t 60 60 w rfl (by omega) (Lib.hid hcut)
      have htt := fun w => text_is t tt w (by omega) (Lib.hid htt0)
      have hg0 : (k : Int) < (len0 : Int) := by omega
      have hg1 : (k : Int) < (len1 : Int) := by omega
      have hg2 : (k : Int) < 20 := by omega
      rw [hs0]
      clear hzx hcut hc01 hc02 hs0 he1 htt0 hnt hx hl1
      go_wp2_with fail
      refine wp_region_held_drew (S := (fun w' => w'.cell? ⟨b, off + k, none⟩ = some (.int .i64 n) ∧ w'.cell? ⟨b2, off2 + k, none⟩ = some (.string g) ∧ Below w.heap.size w w')) (by kernel_rfl) ⟨hc1, hc2, hbel.drew⟩ (fun hHeld => ?_)
      refine wpAnyH_take (i := 0) (oi := ?oa1o) (v := ?oa1v) ?oa1h (by kernel_rfl) (by kernel_rfl) (by kernel_rfl) ?oa1q ?oa1y hHeld ?oa1r
      case oa1h => (simp only [List.getElem?_toArray, List.getElem?_cons_zero]; rfl)
      case oa1q => exact fun _ _ _ h => h
      case oa1y => (refine Or.inl ⟨by first | kernel_rfl | rfl, ?_⟩; intro w hSw; (try dsimp only at hSw); go_simp <;> (try with_reducible rfl))
      try simp only [Act.put, List.setIfInBounds_toArray, List.set_cons_zero, List.set_cons_succ]
      refine wpAnyH_take (i := 1) (oi := ?oa2o) (v := ?oa2v) ?oa2h (by kernel_rfl) (by kernel_rfl) (by kernel_rfl) ?oa2q ?oa2y hHeld ?oa2r
      case oa2h => (simp only [List.getElem?_toArray, List.getElem?_cons_succ, List.getElem?_cons_zero]; rfl)
      case oa2q => exact fun _ _ _ h => h
      case oa2y => (refine Or.inl ⟨by first | kernel_rfl | rfl, ?_⟩; intro w hSw; (try dsimp only at hSw); go_simp <;> (try with_reducible rfl))
      try simp only [Act.put, List.setIfInBounds_toArray, List.set_cons_zero, List.set_cons_succ]
      refine wpAnyH_take (i := 2) (oi := ?oa3o) (v := ?oa3v) ?oa3h (by kernel_rfl) (by kernel_rfl) (by kernel_rfl) ?oa3q ?oa3y hHeld ?oa3r
      case oa3h => (simp only [List.getElem?_toArray, List.getElem?_cons_succ, List.getElem?_cons_zero]; rfl)
      case oa3q => exact fun _ _ _ h => h
      case oa3y => (refine Or.inl ⟨by first | kernel_rfl | rfl, ?_⟩; intro w hSw; (try dsimp only at hSw); go_simp <;> (try with_reducible rfl))
      try simp only [Act.put, List.setIfInBounds_toArray, List.set_cons_zero, List.set_cons_succ]
      refine wpAnyH_take (i := 3) (oi := ?oa4o) (v := ?oa4v) ?oa4h (by kernel_rfl) (by kernel_rfl) (by kernel_rfl) ?oa4q ?oa4y hHeld ?oa4r
      case oa4h => (simp only [List.getElem?_toArray, List.getElem?_cons_succ, List.getElem?_cons_zero]; rfl)
      case oa4q => exact fun _ _ _ h => h
      case oa4y => (refine Or.inl ⟨by first | kernel_rfl | rfl, ?_⟩; intro w hSw; (try dsimp only at hSw); go_simp <;> (try with_reducible rfl))
      try simp only [Act.put, List.setIfInBounds_toArray, List.set_cons_zero, List.set_cons_succ]
      refine wpAnyH_take (i := 4) (oi := ?oa5o) (v := ?oa5v) ?oa5h (by kernel_rfl) (by kernel_rfl) (by kernel_rfl) ?oa5q ?oa5y hHeld ?oa5r
      case oa5h => (simp only [List.getElem?_toArray, List.getElem?_cons_succ, List.getElem?_cons_zero]; rfl)
      case oa5q => exact fun _ _ _ h => h
      case oa5y => (refine Or.inl ⟨by first | kernel_rfl | rfl, ?_⟩; intro w hSw; (try dsimp only at hSw); go_simp <;> (try with_reducible rfl))
      try simp only [Act.put, List.setIfInBounds_toArray, List.set_cons_zero, List.set_cons_succ]
      refine wpAnyH_take (i := 8) (oi := ?oa6o) (v := ?oa6v) ?oa6h (by kernel_rfl) (by kernel_rfl) (by kernel_rfl) ?oa6q ?oa6y hHeld ?oa6r
      case oa6h => (simp only [List.getElem?_toArray, List.getElem?_cons_succ, List.getElem?_cons_zero]; rfl)
      case oa6q => exact fun _ _ _ h => h
      case oa6y => (refine Or.inl ⟨by first | kernel_rfl | rfl, ?_⟩; intro w hSw; (try dsimp only at hSw); go_simp <;> (try with_reducible rfl))
      try simp only [Act.put, List.setIfInBounds_toArray, List.set_cons_zero, List.set_cons_succ]
      refine wpAnyH_take (i := 9) (oi := ?oa7o) (v := ?oa7v) ?oa7h (by kernel_rfl) (by kernel_rfl) (by kernel_rfl) ?oa7q ?oa7y hHeld ?oa7r
      case oa7h => (simp only [List.getElem?_toArray, List.getElem?_cons_succ, List.getElem?_cons_zero]; rfl)
      case oa7q => exact fun _ _ _ h => h
      case oa7y => (refine Or.inl ⟨by first | kernel_rfl | rfl, ?_⟩; intro w hSw; (try dsimp only at hSw); go_simp <;> (try with_reducible rfl))
      try simp only [Act.put, List.setIfInBounds_toArray, List.set_cons_zero, List.set_cons_succ]
      refine wpAnyH_take (i := 10) (oi := ?oa8o) (v := ?oa8v) ?oa8h (by kernel_rfl) (by kernel_rfl) (by kernel_rfl) ?oa8q ?oa8y hHeld ?oa8r
      case oa8h => (simp only [List.getElem?_toArray, List.getElem?_cons_succ, List.getElem?_cons_zero]; rfl)
      case oa8q => exact fun _ _ _ h => h
      case oa8y => (refine Or.inl ⟨by first | kernel_rfl | rfl, ?_⟩; intro w hSw; (try dsimp only at hSw); go_simp <;> (try with_reducible rfl))
      try simp only [Act.put, List.setIfInBounds_toArray, List.set_cons_zero, List.set_cons_succ]
      refine wpAnyH_take (i := 11) (oi := ?oa9o) (v := ?oa9v) ?oa9h (by kernel_rfl) (by kernel_rfl) (by kernel_rfl) ?oa9q ?oa9y hHeld ?oa9r
      case oa9h => (simp only [List.getElem?_toArray, List.getElem?_cons_succ, List.getElem?_cons_zero]; rfl)
      case oa9q => exact fun _ _ _ h => h
      case oa9y => (refine Or.inl ⟨by first | kernel_rfl | rfl, ?_⟩; intro w hSw; (try dsimp only at hSw); go_simp <;> (try with_reducible rfl))
      try simp only [Act.put, List.setIfInBounds_toArray, List.set_cons_zero, List.set_cons_succ]
      refine wpAnyH_ready (rs := [5]) (by kernel_rfl) (by simp) ?_
      refine (AllReadyH.cons rfl (fun K hK => ?_) AllReadyH.nil)
      go_simp
      skip
      refine hK.out _ _ (hSof _ (hHeld.2.2.alloc hHeld.2.2.size _)) (fun hHeld => ?_)
      clear hK K
      try simp only [Act.put, List.setIfInBounds_toArray, List.set_cons_zero, List.set_cons_succ]
      refine wpAnyH_ready (rs := [6]) (by kernel_rfl) (by simp) ?_
      refine (AllReadyH.cons rfl (fun K hK => ?_) AllReadyH.nil)
      go_simp
      (go_at_call 18; first | ((with_reducible refine (hAll _ _ (Below.refl _ _)).mono ?_); rintro e w6 ⟨rfl, hb6⟩) | ((with_reducible refine (hAll _ _ (Below.refl _ _).drew).mono ?_); rintro e w6 ⟨rfl, hb6⟩) | ((with_reducible refine (hAll _ _ (undrew hb13)).mono ?_); rintro e w6 ⟨rfl, hb6⟩) | ((with_reducible refine (hAll _ _ hb13).mono ?_); rintro e w6 ⟨rfl, hb6⟩))
      refine hK.out _ _ (hSof _ (hHeld.2.2.trans (hb6.mono hHeld.2.2.size))) (fun hHeld => ?_)
      clear hK K
      try simp only [Act.put, List.setIfInBounds_toArray, List.set_cons_zero, List.set_cons_succ]
      refine wpAnyH_take (i := 7) (oi := ?oa10o) (v := ?oa10v) ?oa10h (by kernel_rfl) (by kernel_rfl) (by kernel_rfl) ?oa10q ?oa10y hHeld ?oa10r
      case oa10h => (simp only [List.getElem?_toArray, List.getElem?_cons_succ, List.getElem?_cons_zero]; rfl)
      case oa10q => exact fun _ _ _ h => h
      case oa10y => (refine Or.inl ⟨by first | kernel_rfl | rfl, ?_⟩; intro w hSw; (try dsimp only at hSw); go_simp <;> (try with_reducible rfl))
      try simp only [Act.put, List.setIfInBounds_toArray, List.set_cons_zero, List.set_cons_succ]
      refine wpAnyH_ready (rs := [12]) (by kernel_rfl) (by simp) ?_
      refine (AllReadyH.cons rfl (fun K hK => ?_) AllReadyH.nil)
      go_simp
      (go_at_call 11; (with_reducible refine (hsh _).mono ?_); rintro e w12 ⟨rfl, rfl⟩)
      refine hK.out _ _ (hHeld) (fun hHeld => ?_)
      clear hK K
      try simp only [Act.put, List.setIfInBounds_toArray, List.set_cons_zero, List.set_cons_succ]
      refine wpAnyH_ready (rs := [13]) (by kernel_rfl) (by simp) ?_
      refine (AllReadyH.cons rfl (fun K hK => ?_) AllReadyH.nil)
      go_simp
      (go_at_call 20; (with_reducible refine (htt _).mono ?_); rintro e w13 ⟨rfl, hb13⟩)
      refine hK.out _ _ (hSof _ (hHeld.2.2.trans (hb13.mono hHeld.2.2.size))) (fun hHeld => ?_)
      clear hK K
      try simp only [Act.put, List.setIfInBounds_toArray, List.set_cons_zero, List.set_cons_succ]
      refine wpAnyH_take (i := 14) (oi := ?oa11o) (v := ?oa11v) ?oa11h (by kernel_rfl) (by kernel_rfl) (by kernel_rfl) ?oa11q ?oa11y hHeld ?oa11r
      case oa11h => (simp only [List.getElem?_toArray, List.getElem?_cons_succ, List.getElem?_cons_zero]; rfl)
      case oa11q => exact fun _ _ _ h => h
      case oa11y => (refine Or.inl ⟨by first | kernel_rfl | rfl, ?_⟩; intro w hSw; (try dsimp only at hSw); go_simp <;> (try with_reducible rfl))
      try simp only [Act.put, List.setIfInBounds_toArray, List.set_cons_zero, List.set_cons_succ]
      refine wpAnyH_take (i := 15) (oi := ?oa12o) (v := ?oa12v) ?oa12h (by kernel_rfl) (by kernel_rfl) (by kernel_rfl) ?oa12q ?oa12y hHeld ?oa12r
      case oa12h => (simp only [List.getElem?_toArray, List.getElem?_cons_succ, List.getElem?_cons_zero]; rfl)
      case oa12q => exact fun _ _ _ h => h
      case oa12y => (refine Or.inl ⟨by first | kernel_rfl | rfl, ?_⟩; intro w hSw; (try dsimp only at hSw); go_simp <;> (try with_reducible rfl))
      try simp only [Act.put, List.setIfInBounds_toArray, List.set_cons_zero, List.set_cons_succ]
      refine wpAnyH_done (by kernel_rfl) ?_ _
      have hbl := Lib.hid hHeld.2.2
      clear hHeld
      go_wp2
      go_roundw
      case rel => exact ⟨k + 1, by omega, by go_num, by go_num, by rw [HK1.out], hbl.out⟩
      case measure => simp [intOf]; omega
    · obtain rfl : N = k := by omega
      have hkN := hlen
      go_upto_region 5 with fail
      go_cut [30] from 17 to 49 (fun v wx => v = .bool false ∧ wx = wr)
      case first =>
        by_cases g0 : (N : Int) < (len0 : Int)
        · by_cases g1 : (N : Int) < (len1 : Int)
          · have g2 : ¬ (N : Int) < 20 := by omega
            clear hlen hkN hgo
            (go_wp2_with fail; go_meet; exact ⟨rfl, rfl⟩)
          · clear hlen hkN hgo
            (go_wp2_with fail; go_meet; exact ⟨rfl, rfl⟩)
        · clear hlen hkN hgo
          (go_wp2_with fail; go_meet; exact ⟨rfl, rfl⟩)
      case rest =>
        obtain ⟨rfl, rfl⟩ := hcut
        clear hlen hkN hgo
        have htake : its.take N = its := List.take_of_length_le (by rw [HN.out]; exact Nat.le_refl _)
        rw [htake]
        have hM := HL.out N (by rw [HN.out]; exact Nat.le_refl _)
        rw [htake] at hM
        obtain ⟨s, hs⟩ : ∃ s, tx (encI its) = s := ⟨_, rfl⟩
        have hsz : s.size ≤ 1600 := by rw [← hs, tx_size]; omega
        have hss : s.size = (encI its).length := by rw [← hs, tx_size]
        have hSS := Lib.hid hss
        have hSe := Lib.hid hs
        rw [hs]
        clear htake hM hss hs
        go_wp2_with (go_at_call 24; (with_reducible refine (read_is _ _).mono ?_); rintro e w2 ⟨rfl, hA, hb2, hz2⟩)
        have hpb := hbel.size
        have hbel2 : Below w.heap.size w w2 := hbel.trans (hb2.mono hpb)
        generalize wc.heap.size = pb at hA hpb hz2 hb2 ⊢
        clear hb2 hbel
        have hA0 : RA w2 pb (tx (encI (its.drop 0))) false := by rw [List.drop_zero, hSe.out]; exact hA
        go_loopw [12] (fun i wr => ∃ k : Nat, k ≤ N ∧ i = .int .i64 (k : Int) ∧ RA wr pb (tx (encI (its.drop k))) false ∧ Below w.heap.size w wr) (fun i _ => 60 - (intOf i).toNat)
        case atStart => exact ⟨0, Nat.zero_le _, rfl, hA0, hbel2⟩
        case round =>
          obtain ⟨k, hk, rfl, hA, hbel⟩ := hrel
          clear hA0 hbel2
          by_cases hgo : k < N
          · have hkl : k < its.length := by rw [HN.out]; exact hgo
            obtain ⟨b, off, b2, off2, g, hx⟩ := HI.out k hkl
            obtain ⟨⟨n, t⟩, hnt⟩ : ∃ x, its[k] = x := ⟨_, rfl⟩
            rw [hnt] at hx
            have hts := hx.size
            have hlo := hx.lo
            have hhi := hx.hi
            have hc01 := hx.c1
            have hc02 := hx.c2
            have hbw := hx.hb
            have hbw2 := hx.hb2
            have hcut := hx.cut
            obtain rfl := hx.ha
            obtain rfl := hx.ha2
            simp only at hts hlo hhi hc01 hcut
            have hSof : ∀ w', Below w.heap.size w w' → (fun w' => w'.cell? ⟨b, off + k, none⟩ = some (.int .i64 n) ∧ w'.cell? ⟨b2, off2 + k, none⟩ = some (.string g) ∧ Below w.heap.size w w') w' := fun w' h => ⟨(h.cell (p := ⟨b, off + k, none⟩) hbw).trans hc01, (h.cell (p := ⟨b2, off2 + k, none⟩) hbw2).trans hc02, h⟩
            obtain ⟨hc1, hc2, -⟩ := hSof _ hbel
            have hlen3 : (encI (its.drop k)).length ≤ 1600 := by
              have h := congrArg List.length (show encI its = encI (its.take k) ++ encI (its.drop k) by unfold encI; rw [← List.flatMap_append, List.take_append_drop])
              rw [List.length_append, ← hSS.out] at h
              omega
            rw [encI_drop its k hkl, hnt] at hA hlen3
            unfold item at hA hlen3
            rw [List.append_assoc, List.append_assoc] at hA hlen3
            simp only at hA hlen3
            obtain ⟨z1, z2⟩ := zig_bounds n hlo hhi
            have hz64 : (zig n).toNat < 18446744073709551616 := by omega
            have hn1 := numQ_enc (zig n).toNat hz64 (enc t.size ++ (t.data.toList ++ encI (its.drop (k + 1))))
            have ht1 := textQ_enc t (by omega) (encI (its.drop (k + 1)))
            have hzg : zag ((zig n).toNat : Int) = n := by rw [show (((zig n).toNat : Nat) : Int) = zig n by omega, zag_zig]
            obtain ⟨r0, hr0⟩ : ∃ r, tx (enc (zig n).toNat ++ (enc t.size ++ (t.data.toList ++ encI (its.drop (k + 1))))) = r := ⟨_, rfl⟩
            obtain ⟨r1, hr1⟩ : ∃ r, tx (enc t.size ++ (t.data.toList ++ encI (its.drop (k + 1)))) = r := ⟨_, rfl⟩
            have hr0z : r0.size ≤ 1600 := by rw [← hr0, tx_size]; exact hlen3
            have hr1z : r1.size ≤ 1600 := by
              rw [← hr1, tx_size]
              rw [List.length_append] at hlen3; omega
            rw [hr0] at hA hn1
            rw [hr1] at hn1 ht1
            have hint := fun w h => int_is pb r0 r1 false false _ n w (by unfold maxLen; omega) (Lib.hid hn1) (Lib.hid hzg) h
            have htxt := fun w h => text_is' pb r1 _ false false t w (by omega) (Lib.hid ht1) h
            have hsh := fun w => short_is g t 60 60 w rfl (by omega) (Lib.hid hcut)
            have hAd := hA.below ((Below.refl wr.heap.size wr).drew)
            have hg1 : (k : Int) < (N : Int) := by omega
            have hi0 : (k : Int) < (len0 : Int) := by omega
            have hi1 : (k : Int) < (len1 : Int) := by omega
            clear hn1 ht1 hzg hr0 hr1 hcut hc01 hc02 hnt hx hlen3 z1 z2 hz64
            go_wp2_with fail
            refine wp_region_held_drew (S := (fun w' => w'.cell? ⟨b, off + k, none⟩ = some (.int .i64 n) ∧ w'.cell? ⟨b2, off2 + k, none⟩ = some (.string g) ∧ Below w.heap.size w w')) (by kernel_rfl) ⟨hc1, hc2, hbel.drew⟩ (fun hHeld => ?_)
            refine wpAnyH_take (i := 0) (oi := ?ob1o) (v := ?ob1v) ?ob1h (by kernel_rfl) (by kernel_rfl) (by kernel_rfl) ?ob1q ?ob1y hHeld ?ob1r
            case ob1h => (simp only [List.getElem?_toArray, List.getElem?_cons_zero]; rfl)
            case ob1q => exact fun _ _ _ h => h
            case ob1y => (refine Or.inl ⟨by first | kernel_rfl | rfl, ?_⟩; intro w hSw; (try dsimp only at hSw); go_simp <;> (try with_reducible rfl))
            try simp only [Act.put, List.setIfInBounds_toArray, List.set_cons_zero, List.set_cons_succ]
            refine wpAnyH_take (i := 2) (oi := ?ob2o) (v := ?ob2v) ?ob2h (by kernel_rfl) (by kernel_rfl) (by kernel_rfl) ?ob2q ?ob2y hHeld ?ob2r
            case ob2h => (simp only [List.getElem?_toArray, List.getElem?_cons_succ, List.getElem?_cons_zero]; rfl)
            case ob2q => exact fun _ _ _ h => h
            case ob2y => (refine Or.inl ⟨by first | kernel_rfl | rfl, ?_⟩; intro w hSw; (try dsimp only at hSw); go_simp <;> (try with_reducible rfl))
            try simp only [Act.put, List.setIfInBounds_toArray, List.set_cons_zero, List.set_cons_succ]
            refine wpAnyH_take (i := 3) (oi := ?ob3o) (v := ?ob3v) ?ob3h (by kernel_rfl) (by kernel_rfl) (by kernel_rfl) ?ob3q ?ob3y hHeld ?ob3r
            case ob3h => (simp only [List.getElem?_toArray, List.getElem?_cons_succ, List.getElem?_cons_zero]; rfl)
            case ob3q => exact fun _ _ _ h => h
            case ob3y => (refine Or.inl ⟨by first | kernel_rfl | rfl, ?_⟩; intro w hSw; (try dsimp only at hSw); go_simp <;> (try with_reducible rfl))
            try simp only [Act.put, List.setIfInBounds_toArray, List.set_cons_zero, List.set_cons_succ]
            refine wpAnyH_take (i := 4) (oi := ?ob4o) (v := ?ob4v) ?ob4h (by kernel_rfl) (by kernel_rfl) (by kernel_rfl) ?ob4q ?ob4y hHeld ?ob4r
            case ob4h => (simp only [List.getElem?_toArray, List.getElem?_cons_succ, List.getElem?_cons_zero]; rfl)
            case ob4q => exact fun _ _ _ h => h
            case ob4y => (refine Or.inl ⟨by first | kernel_rfl | rfl, ?_⟩; intro w hSw; (try dsimp only at hSw); go_simp <;> (try with_reducible rfl))
            try simp only [Act.put, List.setIfInBounds_toArray, List.set_cons_zero, List.set_cons_succ]
            refine wpAnyH_take (i := 5) (oi := ?ob5o) (v := ?ob5v) ?ob5h (by kernel_rfl) (by kernel_rfl) (by kernel_rfl) ?ob5q ?ob5y hHeld ?ob5r
            case ob5h => (simp only [List.getElem?_toArray, List.getElem?_cons_succ, List.getElem?_cons_zero]; rfl)
            case ob5q => exact fun _ _ _ h => h
            case ob5y => (refine Or.inl ⟨by first | kernel_rfl | rfl, ?_⟩; intro w hSw; (try dsimp only at hSw); go_simp <;> (try with_reducible rfl))
            try simp only [Act.put, List.setIfInBounds_toArray, List.set_cons_zero, List.set_cons_succ]
            refine wpAnyH_ready (rs := [1]) (by kernel_rfl) (by simp) ?_
            refine (AllReadyH.cons rfl (fun K hK => ?_) AllReadyH.nil)
            go_simp
            (go_at_call 27; (with_reducible refine (hint _ hAd).mono ?_); rintro e w21 ⟨rfl, hA1, hB1⟩)
            refine hK.out _ _ (hSof _ (hHeld.2.2.trans (hB1.below hpb hHeld.2.2.size))) (fun hHeld => ?_)
            clear hK K
            try simp only [Act.put, List.setIfInBounds_toArray, List.set_cons_zero, List.set_cons_succ]
            refine wpAnyH_take (i := 6) (oi := ?ob6o) (v := ?ob6v) ?ob6h (by kernel_rfl) (by kernel_rfl) (by kernel_rfl) ?ob6q ?ob6y hHeld ?ob6r
            case ob6h => (simp only [List.getElem?_toArray, List.getElem?_cons_succ, List.getElem?_cons_zero]; rfl)
            case ob6q => exact fun _ _ _ h => h
            case ob6y => (refine Or.inl ⟨by first | kernel_rfl | rfl, ?_⟩; intro w hSw; (try dsimp only at hSw); go_simp <;> (try with_reducible rfl))
            try simp only [Act.put, List.setIfInBounds_toArray, List.set_cons_zero, List.set_cons_succ]
            refine wpAnyH_take (i := 7) (oi := ?ob7o) (v := ?ob7v) ?ob7h (by kernel_rfl) (by kernel_rfl) (by kernel_rfl) ?ob7q ?ob7y hHeld ?ob7r
            case ob7h => (simp only [List.getElem?_toArray, List.getElem?_cons_succ, List.getElem?_cons_zero]; rfl)
            case ob7q => exact fun _ _ _ h => h
            case ob7y => (refine Or.inl ⟨by first | kernel_rfl | rfl, ?_⟩; intro w hSw; (try dsimp only at hSw); go_simp <;> (try with_reducible rfl))
            try simp only [Act.put, List.setIfInBounds_toArray, List.set_cons_zero, List.set_cons_succ]
            refine wpAnyH_take (i := 8) (oi := ?ob8o) (v := ?ob8v) ?ob8h (by kernel_rfl) (by kernel_rfl) (by kernel_rfl) ?ob8q ?ob8y hHeld ?ob8r
            case ob8h => (simp only [List.getElem?_toArray, List.getElem?_cons_succ, List.getElem?_cons_zero]; rfl)
            case ob8q => exact fun _ _ _ h => h
            case ob8y => (refine Or.inl ⟨by first | kernel_rfl | rfl, ?_⟩; intro w hSw; (try dsimp only at hSw); go_simp <;> (try with_reducible rfl))
            try simp only [Act.put, List.setIfInBounds_toArray, List.set_cons_zero, List.set_cons_succ]
            refine wpAnyH_take (i := 10) (oi := ?ob9o) (v := ?ob9v) ?ob9h (by kernel_rfl) (by kernel_rfl) (by kernel_rfl) ?ob9q ?ob9y hHeld ?ob9r
            case ob9h => (simp only [List.getElem?_toArray, List.getElem?_cons_succ, List.getElem?_cons_zero]; rfl)
            case ob9q => exact fun _ _ _ h => h
            case ob9y => (refine Or.inl ⟨by first | kernel_rfl | rfl, ?_⟩; intro w hSw; (try dsimp only at hSw); go_simp <;> (try with_reducible rfl))
            try simp only [Act.put, List.setIfInBounds_toArray, List.set_cons_zero, List.set_cons_succ]
            refine wpAnyH_take (i := 11) (oi := ?ob10o) (v := ?ob10v) ?ob10h (by kernel_rfl) (by kernel_rfl) (by kernel_rfl) ?ob10q ?ob10y hHeld ?ob10r
            case ob10h => (simp only [List.getElem?_toArray, List.getElem?_cons_succ, List.getElem?_cons_zero]; rfl)
            case ob10q => exact fun _ _ _ h => h
            case ob10y => (refine Or.inl ⟨by first | kernel_rfl | rfl, ?_⟩; intro w hSw; (try dsimp only at hSw); go_simp <;> (try with_reducible rfl))
            try simp only [Act.put, List.setIfInBounds_toArray, List.set_cons_zero, List.set_cons_succ]
            refine wpAnyH_take (i := 12) (oi := ?ob11o) (v := ?ob11v) ?ob11h (by kernel_rfl) (by kernel_rfl) (by kernel_rfl) ?ob11q ?ob11y hHeld ?ob11r
            case ob11h => (simp only [List.getElem?_toArray, List.getElem?_cons_succ, List.getElem?_cons_zero]; rfl)
            case ob11q => exact fun _ _ _ h => h
            case ob11y => (refine Or.inl ⟨by first | kernel_rfl | rfl, ?_⟩; intro w hSw; (try dsimp only at hSw); go_simp <;> (try with_reducible rfl))
            try simp only [Act.put, List.setIfInBounds_toArray, List.set_cons_zero, List.set_cons_succ]
            refine wpAnyH_take (i := 13) (oi := ?ob12o) (v := ?ob12v) ?ob12h (by kernel_rfl) (by kernel_rfl) (by kernel_rfl) ?ob12q ?ob12y hHeld ?ob12r
            case ob12h => (simp only [List.getElem?_toArray, List.getElem?_cons_succ, List.getElem?_cons_zero]; rfl)
            case ob12q => exact fun _ _ _ h => h
            case ob12y => (refine Or.inl ⟨by first | kernel_rfl | rfl, ?_⟩; intro w hSw; (try dsimp only at hSw); go_simp <;> (try with_reducible rfl))
            try simp only [Act.put, List.setIfInBounds_toArray, List.set_cons_zero, List.set_cons_succ]
            refine wpAnyH_ready (rs := [9]) (by kernel_rfl) (by simp) ?_
            refine (AllReadyH.cons rfl (fun K hK => ?_) AllReadyH.nil)
            go_simp
            (go_at_call 31; (with_reducible refine (htxt _ hA1).mono ?_); rintro e w29 ⟨rfl, hA2, hB2⟩)
            refine hK.out _ _ (hSof _ (hHeld.2.2.trans (hB2.below hpb hHeld.2.2.size))) (fun hHeld => ?_)
            clear hK K
            try simp only [Act.put, List.setIfInBounds_toArray, List.set_cons_zero, List.set_cons_succ]
            refine wpAnyH_ready (rs := [14]) (by kernel_rfl) (by simp) ?_
            refine (AllReadyH.cons rfl (fun K hK => ?_) AllReadyH.nil)
            go_simp
            (go_at_call 11; (with_reducible refine (hsh _).mono ?_); rintro e w12 ⟨rfl, rfl⟩)
            refine hK.out _ _ (hHeld) (fun hHeld => ?_)
            clear hK K
            try simp only [Act.put, List.setIfInBounds_toArray, List.set_cons_zero, List.set_cons_succ]
            refine wpAnyH_take (i := 15) (oi := ?ob13o) (v := ?ob13v) ?ob13h (by kernel_rfl) (by kernel_rfl) (by kernel_rfl) ?ob13q ?ob13y hHeld ?ob13r
            case ob13h => (simp only [List.getElem?_toArray, List.getElem?_cons_succ, List.getElem?_cons_zero]; rfl)
            case ob13q => exact fun _ _ _ h => h
            case ob13y => (refine Or.inl ⟨by first | kernel_rfl | rfl, ?_⟩; intro w hSw; (try dsimp only at hSw); go_simp <;> (try with_reducible rfl))
            try simp only [Act.put, List.setIfInBounds_toArray, List.set_cons_zero, List.set_cons_succ]
            refine wpAnyH_take (i := 16) (oi := ?ob14o) (v := ?ob14v) ?ob14h (by kernel_rfl) (by kernel_rfl) (by kernel_rfl) ?ob14q ?ob14y hHeld ?ob14r
            case ob14h => (simp only [List.getElem?_toArray, List.getElem?_cons_succ, List.getElem?_cons_zero]; rfl)
            case ob14q => exact fun _ _ _ h => h
            case ob14y => (refine Or.inl ⟨by first | kernel_rfl | rfl, ?_⟩; intro w hSw; (try dsimp only at hSw); go_simp <;> (try with_reducible rfl))
            try simp only [Act.put, List.setIfInBounds_toArray, List.set_cons_zero, List.set_cons_succ]
            refine wpAnyH_done (by kernel_rfl) ?_ _
            have hbl := Lib.hid hHeld.2.2
            clear hHeld
            go_wp2
            go_roundw
            case rel => exact ⟨k + 1, by omega, by go_num, hA2, hbl.out⟩
            case measure => simp [intOf]; omega
          · obtain rfl : N = k := by omega
            have hdrop : its.drop N = [] := List.drop_of_length_le (by rw [HN.out]; exact Nat.le_refl _)
            rw [hdrop, encI_nil] at hA
            have hE := fun w h => end_is pb (tx []) false 0 w h (Lib.hid (by decide))
            have hLf := fun w h => left_is pb (tx []) false w h
            have hLz : (tx []).size = 0 := rfl
            rw [hLz] at hLf
            by_cases hN0 : N = 0
            · have hn0 : ((N : Int) == 0) = true := by rw [hN0]; rfl
              have hg1 : ¬ (N : Int) < (N : Int) := by omega
              clear hN0 hgo hdrop hLz
              go_wp2_with (first
                | (go_at_call 35; (with_reducible refine (hE _ hA).mono ?_); rintro e w3 ⟨rfl, rfl⟩)
                | (go_at_call 33; (with_reducible refine (hLf _ hA).mono ?_); rintro e w3 ⟨rfl, rfl⟩))
              go_ret
              exact ⟨rfl, hbel⟩
            · have hn0 : ((N : Int) == 0) = false := by simp; omega
              have hpos : 0 < s.size := by
                rw [hSS.out]
                have h := encI_drop its 0 (by rw [HN.out]; omega)
                rw [List.drop_zero] at h
                rw [h, List.length_append]
                unfold item
                rw [List.length_append]
                have := enc_len_pos (zig (its[0]'(by rw [HN.out]; omega)).1).toNat
                omega
              obtain ⟨p, hp, hp1, hp2⟩ := place n2 s.size hpos
              obtain ⟨c0, hc0⟩ : ∃ c, s.extract 0 p = c := ⟨_, rfl⟩
              have hc0z : c0.size ≤ 1600 := by rw [← hc0]; simp; omega
              have hcut0 : Cut c0 false (encI its) := by
                refine Or.inr ⟨rfl, (encI its).drop p, ?_, ?_⟩
                · intro e
                  have := congrArg List.length e
                  rw [List.length_drop, ← hSS.out] at this
                  simp at this; omega
                · have e : c0.data.toList = (encI its).take p := by
                    rw [← hc0, ← hSe.out]
                    simp [ByteArray.data_extract, tx]
                  rw [e, List.take_append_drop]
              have hg1 : ¬ (N : Int) < (N : Int) := by omega
              have hplt : (p : Int) < (s.size : Int) := by omega
              have hsz2 : s.size ≤ 9223372036854775807 := by omega
              have HC0 := Lib.hid hcut0
              clear hN0 hgo hdrop hLz hcut0
              obtain ⟨hlo2, hhi2⟩ := h2
              by_cases hn2 : 0 ≤ n2
              · have hPP := hp1 hn2
                have hp2x := hp2
                have hp1x := hp1
                clear hp1 hp2
                clear hp2x hp1x
                go_wp2_with (first
                  | (go_at_call 35; (with_reducible refine (hE _ hA).mono ?_); rintro e w3 ⟨rfl, rfl⟩)
                  | (go_at_call 33; (with_reducible refine (hLf _ hA).mono ?_); rintro e w3 ⟨rfl, rfl⟩)
                  | (go_at_call 24; (with_reducible refine (read_is _ _).mono ?_); rintro e w4 ⟨rfl, hA4, hb4, hz4⟩))
                have hpc := hbel.size
                have hbel4 : Below w.heap.size w w4 := hbel.trans (hb4.mono hpc)
                generalize wr.heap.size = pc at hA4 hpc hz4 hb4 ⊢
                clear hb4 hbel hA hE hLf hc0 hPP
                have hC1 : Hid (Cut c0 false (encI (its.drop 0))) := Lib.hid (by rw [List.drop_zero]; exact HC0.out)
                go_loopw [15] (fun i wr => ∃ (k : Nat) (r : ByteArray) (br : Bool), k ≤ N ∧ i = .int .i64 (k : Int) ∧ RA wr pc r br ∧ r.size ≤ 1600 ∧ Hid (Cut r br (encI (its.drop k))) ∧ Below w.heap.size w wr) (fun i _ => 60 - (intOf i).toNat)
                case atStart => exact ⟨0, c0, false, Nat.zero_le _, rfl, hA4, hc0z, hC1, hbel4⟩
                case round =>
                  obtain ⟨k, r, br, hk, rfl, hA, hrz, hC, hbel⟩ := hrel
                  clear hA4 hbel4 hC1 HC0 hz4
                  by_cases hgo : k < N
                  · have hkl : k < its.length := by rw [HN.out]; exact hgo
                    obtain ⟨b, off, b2, off2, g, hx⟩ := HI.out k hkl
                    obtain ⟨⟨n, t⟩, hnt⟩ : ∃ x, its[k] = x := ⟨_, rfl⟩
                    rw [hnt] at hx
                    have hts := hx.size
                    have hlo := hx.lo
                    have hhi := hx.hi
                    simp only at hts hlo hhi
                    have hC2 := hC.out
                    rw [encI_drop its k hkl, hnt] at hC2
                    unfold item at hC2
                    rw [List.append_assoc, List.append_assoc] at hC2
                    simp only at hC2
                    obtain ⟨z1, z2⟩ := zig_bounds n hlo hhi
                    obtain ⟨⟨v1, r1, b1⟩, hN1⟩ : ∃ x, numQ r br = x := ⟨_, rfl⟩
                    obtain ⟨⟨v2, r2, bb2⟩, hT1⟩ : ∃ x, textQ r1 b1 = x := ⟨_, rfl⟩
                    obtain ⟨z3, hz3⟩ : ∃ z, zag v1 = z := ⟨_, rfl⟩
                    have hC3 := (cut_num (by omega) hC2 hN1).1
                    have h5 : t.data.toList.length = t.size := by simp
                    rw [← h5] at hC3
                    have hC4 := Lib.hid (cut_text (by omega) hC3 hT1)
                    have s1 : r1.size ≤ 1600 := by have := (numQ_bounds hN1).2.2; omega
                    have s2 : r2.size ≤ 1600 := by have := textQ_size' hT1; omega
                    have hint := fun w h => int_is pc r r1 br b1 v1 z3 w (by unfold maxLen; omega) (Lib.hid hN1) (Lib.hid hz3) h
                    have htxt := fun w h => text_is' pc r1 r2 b1 bb2 v2 w (by omega) (Lib.hid hT1) h
                    have hg1 : (k : Int) < (N : Int) := by omega
                    clear hN1 hT1 hz3 hC2 hC3 h5 hC hx hnt hkl z1 z2
                    go_wp2_with (first
                      | (go_at_call 27; (with_reducible refine (hint _ hA).mono ?_); rintro e w21 ⟨rfl, hA1, hB1⟩)
                      | (go_at_call 31; (with_reducible refine (htxt _ hA1).mono ?_); rintro e w29 ⟨rfl, hA2, hB2⟩))
                    have hbl := (hbel.trans (hB1.below hpc hbel.size)).trans (hB2.below hpc (Nat.le_trans hbel.size hB1.size))
                    go_roundw
                    case rel => exact ⟨k + 1, r2, bb2, by omega, by go_num, hA2, s2, hC4, hbl⟩
                    case measure => simp [intOf]; omega
                  · obtain rfl : N = k := by omega
                    have hC2 := hC.out
                    rw [List.drop_of_length_le (by rw [HN.out]; exact Nat.le_refl _), encI_nil] at hC2
                    obtain rfl := cut_end hC2
                    have hE := fun w h => end_is pc r true 10 w h (Lib.hid rfl)
                    clear hgo hC hC2
                    go_wp2_with (go_at_call 35; (with_reducible refine (hE _ hA).mono ?_); rintro e w3 ⟨rfl, rfl⟩)
                    go_ret
                    exact ⟨rfl, hbel⟩
              · have hn3 : n2 < 0 := by omega
                have hPP := hp2 hn3
                have hp2x := hp2
                have hp1x := hp1
                clear hp1 hp2 hn2
                clear hp2x hp1x
                go_wp2_with (first
                  | (go_at_call 35; (with_reducible refine (hE _ hA).mono ?_); rintro e w3 ⟨rfl, rfl⟩)
                  | (go_at_call 33; (with_reducible refine (hLf _ hA).mono ?_); rintro e w3 ⟨rfl, rfl⟩)
                  | (go_at_call 24; (with_reducible refine (read_is _ _).mono ?_); rintro e w4 ⟨rfl, hA4, hb4, hz4⟩))
                have hpc := hbel.size
                have hbel4 : Below w.heap.size w w4 := hbel.trans (hb4.mono hpc)
                generalize wr.heap.size = pc at hA4 hpc hz4 hb4 ⊢
                clear hb4 hbel hA hE hLf hc0 hPP
                have hC1 : Hid (Cut c0 false (encI (its.drop 0))) := Lib.hid (by rw [List.drop_zero]; exact HC0.out)
                go_loopw [15] (fun i wr => ∃ (k : Nat) (r : ByteArray) (br : Bool), k ≤ N ∧ i = .int .i64 (k : Int) ∧ RA wr pc r br ∧ r.size ≤ 1600 ∧ Hid (Cut r br (encI (its.drop k))) ∧ Below w.heap.size w wr) (fun i _ => 60 - (intOf i).toNat)
                case atStart => exact ⟨0, c0, false, Nat.zero_le _, rfl, hA4, hc0z, hC1, hbel4⟩
                case round =>
                  obtain ⟨k, r, br, hk, rfl, hA, hrz, hC, hbel⟩ := hrel
                  clear hA4 hbel4 hC1 HC0 hz4
                  by_cases hgo : k < N
                  · have hkl : k < its.length := by rw [HN.out]; exact hgo
                    obtain ⟨b, off, b2, off2, g, hx⟩ := HI.out k hkl
                    obtain ⟨⟨n, t⟩, hnt⟩ : ∃ x, its[k] = x := ⟨_, rfl⟩
                    rw [hnt] at hx
                    have hts := hx.size
                    have hlo := hx.lo
                    have hhi := hx.hi
                    simp only at hts hlo hhi
                    have hC2 := hC.out
                    rw [encI_drop its k hkl, hnt] at hC2
                    unfold item at hC2
                    rw [List.append_assoc, List.append_assoc] at hC2
                    simp only at hC2
                    obtain ⟨z1, z2⟩ := zig_bounds n hlo hhi
                    obtain ⟨⟨v1, r1, b1⟩, hN1⟩ : ∃ x, numQ r br = x := ⟨_, rfl⟩
                    obtain ⟨⟨v2, r2, bb2⟩, hT1⟩ : ∃ x, textQ r1 b1 = x := ⟨_, rfl⟩
                    obtain ⟨z3, hz3⟩ : ∃ z, zag v1 = z := ⟨_, rfl⟩
                    have hC3 := (cut_num (by omega) hC2 hN1).1
                    have h5 : t.data.toList.length = t.size := by simp
                    rw [← h5] at hC3
                    have hC4 := Lib.hid (cut_text (by omega) hC3 hT1)
                    have s1 : r1.size ≤ 1600 := by have := (numQ_bounds hN1).2.2; omega
                    have s2 : r2.size ≤ 1600 := by have := textQ_size' hT1; omega
                    have hint := fun w h => int_is pc r r1 br b1 v1 z3 w (by unfold maxLen; omega) (Lib.hid hN1) (Lib.hid hz3) h
                    have htxt := fun w h => text_is' pc r1 r2 b1 bb2 v2 w (by omega) (Lib.hid hT1) h
                    have hg1 : (k : Int) < (N : Int) := by omega
                    clear hN1 hT1 hz3 hC2 hC3 h5 hC hx hnt hkl z1 z2
                    go_wp2_with (first
                      | (go_at_call 27; (with_reducible refine (hint _ hA).mono ?_); rintro e w21 ⟨rfl, hA1, hB1⟩)
                      | (go_at_call 31; (with_reducible refine (htxt _ hA1).mono ?_); rintro e w29 ⟨rfl, hA2, hB2⟩))
                    have hbl := (hbel.trans (hB1.below hpc hbel.size)).trans (hB2.below hpc (Nat.le_trans hbel.size hB1.size))
                    go_roundw
                    case rel => exact ⟨k + 1, r2, bb2, by omega, by go_num, hA2, s2, hC4, hbl⟩
                    case measure => simp [intOf]; omega
                  · obtain rfl : N = k := by omega
                    have hC2 := hC.out
                    rw [List.drop_of_length_le (by rw [HN.out]; exact Nat.le_refl _), encI_nil] at hC2
                    obtain rfl := cut_end hC2
                    have hE := fun w h => end_is pc r true 10 w h (Lib.hid rfl)
                    clear hgo hC hC2
                    go_wp2_with (go_at_call 35; (with_reducible refine (hE _ hA).mono ?_); rintro e w3 ⟨rfl, rfl⟩)
                    go_ret
                    exact ⟨rfl, hbel⟩

theorem walk (a0 : Option Addr) (len0 cap0 : Nat) (a1 : Option Addr) (len1 cap1 : Nat) (n2 : Int) (w : World) (h0 : ArgInts w a0 len0 cap0) (h1 : ArgStrs w a1 len1 cap1) (h2 : -9223372036854775808 ≤ n2 ∧ n2 ≤ 9223372036854775807) :
    Calls Try.prog 7 #[.slice a0 len0 cap0, .slice a1 len1 cap1, .int .i64 n2] w fun e w' => e = .returned (.bool true) ∧ Below w.heap.size w w' := by
  obtain ⟨its, hlen, hI⟩ := its_of h0 h1
  have hm0 : len0 ≤ 9223372036854775807 := by
    rcases h0 with h | ⟨b, off, l, _, _, h1, h2, _⟩
    · omega
    · unfold maxLen at h2; omega
  have hm1 : len1 ≤ 9223372036854775807 := by
    rcases h1 with h | ⟨b, off, l, _, _, h1, h2, _⟩
    · omega
    · unfold maxLen at h2; omega
  exact core its its.length rfl a0 a1 len0 cap0 len1 cap1 n2 w hlen hI h2 hm0 hm1
end Go.Proofs.Ytddjoddbdinpaaa.vintRows
