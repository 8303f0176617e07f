/- The document's Answer, Merged and Repair. -/
import Derived.Test.YtcjcbbpolhpphaaQuRef
set_option maxRecDepth 20000
set_option linter.unusedSimpArgs false
set_option linter.unusedVariables false
namespace Go.Proofs.Ytcjcbbpolhpphaa.Qu
open Go.RowKit Go.Proofs.Ytcjcbbpolhpphaa.Vi

theorem ne_int {w : World} {b g : Nat} {cur cur' : Array Value} (h : w.heap[b]? = some (.cells cur 38 (0, 0))) (k : w.heap[g]? = some (.cells cur' 3 (0, 0))) : g ≠ b := by
  rintro rfl
  rw [h] at k
  injection k with k
  injection k with _ k
  exact absurd k (by decide)
theorem ne_pt {w : World} {b g : Nat} {cur cur' : Array Value} (h : w.heap[b]? = some (.cells cur 38 (0, 0))) (k : w.heap[g]? = some (.cells cur' 55 (0, 0))) : g ≠ b := by
  rintro rfl
  rw [h] at k
  injection k with k
  injection k with _ k
  exact absurd k (by decide)
theorem set_blk (w : World) (d o g : Nat) (v : Value) (hg : g < w.heap.size) (h : g ≠ d) : (w.setCell ⟨d, o, none⟩ v).heap[g]? = w.heap[g]? := ((But.refl d w).setCell o v).block g hg h
theorem DAt.hear {w : World} {B d k : Nat} {R : RS} (h : DAt w B d R) (hk : k < 16) : DAt (w.setCell ⟨d, 2 + k, none⟩ (.bool true)) B d ⟨⟨R.S.need, R.S.nd, updB R.S.hd (k : Int)⟩, R.an, R.cnt⟩ := by
  obtain ⟨cur, h0⟩ := h.big
  have kp : ∀ (g : Nat) (cur : Array Value), w.heap[g]? = some (.cells cur 55 (0, 0)) → (w.setCell ⟨d, 2 + k, none⟩ (.bool true)).heap[g]? = w.heap[g]? := fun g cur hg => set_blk w d _ g _ (Array.getElem?_eq_some_iff.1 hg).1 (ne_pt h0 hg)
  have ki : ∀ (g : Nat) (cur : Array Value), w.heap[g]? = some (.cells cur 3 (0, 0)) → (w.setCell ⟨d, 2 + k, none⟩ (.bool true)).heap[g]? = w.heap[g]? := fun g cur hg => set_blk w d _ g _ (Array.getElem?_eq_some_iff.1 hg).1 (ne_int h0 hg)
  obtain ⟨v, h2, h2'⟩ := h.nodes
  refine ⟨⟨_, set_heap h0 _⟩, (cell_off (by omega)).trans h.need, ⟨v, (cell_off (by omega)).trans h2, irow_other h2' ki⟩, fun i hi => ?_, fun i hi => (h.got i hi).imp fun a h => h.imp fun c h => ⟨(cell_off (by omega)).trans h.1, prow_other h.2 kp⟩, h.lo, h.ok, h.len⟩
  show _ = some (Value.bool (updB R.S.hd (k : Int) (i : Int)))
  unfold updB
  by_cases hik : i = k
  · subst hik
    rw [if_pos rfl]
    exact World.cell?_setCell_same _ _ _ (h.hd i hi)
  · rw [if_neg (by omega), cell_off (by omega)]
    exact h.hd i hi
theorem DAt.put {w : World} {B d k : Nat} {R : RS} (h : DAt w B d R) (hk : k < 16) (l : List Pt) (a : Option Addr) (c : Nat) (hr : PRow w B (.slice a l.length c) l) (hl : l.length ≤ 1000) : DAt (w.setCell ⟨d, 18 + k, none⟩ (.slice a l.length c)) B d ⟨R.S, fun i => if i = (k : Int) then l else R.an i, R.cnt + 1⟩ := by
  obtain ⟨cur, h0⟩ := h.big
  have kp : ∀ (g : Nat) (cur : Array Value), w.heap[g]? = some (.cells cur 55 (0, 0)) → (w.setCell ⟨d, 18 + k, none⟩ (.slice a l.length c)).heap[g]? = w.heap[g]? := fun g cur hg => set_blk w d _ g _ (Array.getElem?_eq_some_iff.1 hg).1 (ne_pt h0 hg)
  have ki : ∀ (g : Nat) (cur : Array Value), w.heap[g]? = some (.cells cur 3 (0, 0)) → (w.setCell ⟨d, 18 + k, none⟩ (.slice a l.length c)).heap[g]? = w.heap[g]? := fun g cur hg => set_blk w d _ g _ (Array.getElem?_eq_some_iff.1 hg).1 (ne_int h0 hg)
  obtain ⟨v, h2, h2'⟩ := h.nodes
  refine ⟨⟨_, set_heap h0 _⟩, (cell_off (by omega)).trans h.need, ⟨v, (cell_off (by omega)).trans h2, irow_other h2' ki⟩, fun i hi => (cell_off (by omega)).trans (h.hd i hi), fun i hi => ?_, h.lo, h.ok, fun i => ?_⟩
  · dsimp only
    by_cases hik : i = k
    · subst hik
      rw [if_pos rfl]
      obtain ⟨a0, c0, hc, -⟩ := h.got i hi
      exact ⟨a, c, World.cell?_setCell_same _ _ _ hc, prow_other hr kp⟩
    · rw [if_neg (by omega)]
      obtain ⟨a0, c0, hc, hp⟩ := h.got i hi
      exact ⟨a0, c0, (cell_off (by omega)).trans hc, prow_other hp kp⟩
  · show (if i = (k : Int) then l else R.an i).length ≤ 1000
    split
    · exact hl
    · exact h.len i
def RAns (w : World) (B d : Nat) (R : RS) (n : Int) (l : List Pt) (e : Ending) (w' : World) : Prop := e = .returned (.bool (hearB R.S n)) ∧ DAt w' B d (ansS R n l) ∧ ButP (fun k => k = d) w w'
set_option maxHeartbeats 4000000 in
theorem rans_is {w : World} {B d : Nat} {R : RS} (n : Int) (a0 : Option Addr) (c0 : Nat) (l : List Pt) (h : DAt w B d R) (hB : B ≤ w.heap.size) (hL : Lst w w.heap.size a0 c0 l) (hl : l.length ≤ 100) : Calls Try.prog 13 #[.pointer (some ⟨d, 0, none⟩), .int .i64 n, .slice a0 l.length c0] w (RAns w B d R n l) := by
  obtain ⟨vn, cn, hns⟩ := h.nds
  have ki := in_is vn (pickL R.S.nd) n w hns
  obtain ⟨an, pn, rfl⟩ := hns.slice
  rw [in_has] at ki
  have hpl := pick_16 R.S.nd
  obtain ⟨pl, hpl2⟩ : ∃ pl, (pickL R.S.nd).length = pl := ⟨_, rfl⟩
  rw [hpl2] at cn ki hpl
  have H := Lib.hid h
  have hdw := h.lt
  obtain ⟨z, hz⟩ : ∃ z, hasB R.S n = z := ⟨_, rfl⟩
  rw [hz] at ki
  obtain ⟨q, hq⟩ : ∃ q, l.length = q := ⟨_, rfl⟩
  cases z with
  | false =>
    have HY := Lib.hid (show hearB R.S n = false by unfold hearB; rw [hz]; rfl)
    rw [hq]
    clear hz h hL hns hpl2 hq hl
    go_enter Try.func13, Try.ntmps13
    go_wp2_with (go_at_call 38; (with_reducible refine ki.mono ?_); rintro e w1 ⟨rfl, rfl⟩)
    go_ret
    exact ⟨by rw [HY.out]; rfl, by unfold ansS; rw [HY.out]; exact H.out, ButP.refl _ _⟩
  | true =>
    obtain ⟨k, hk, rfl⟩ := has_node hz
    have ch := h.hd k hk
    have hk2 : (k : Int) < 16 := by omega
    obtain ⟨y, hy⟩ : ∃ y, R.S.hd (k : Int) = y := ⟨_, rfl⟩
    rw [hy] at ch
    cases y with
    | true =>
      have HY := Lib.hid (show hearB R.S (k : Int) = false by unfold hearB; rw [hz, hy]; rfl)
      rw [hq]
      clear hz h hL hns hpl2 hq hl hy
      go_enter Try.func13, Try.ntmps13
      go_wp2_with (go_at_call 38; (with_reducible refine ki.mono ?_); rintro e w1 ⟨rfl, rfl⟩)
      go_ret
      exact ⟨by rw [HY.out]; rfl, by unfold ansS; rw [HY.out]; exact H.out, ButP.refl _ _⟩
    | false =>
      have HY := Lib.hid (show hearB R.S (k : Int) = true by unfold hearB; rw [hz, hy]; rfl)
      have hD := h.hear hk
      have hL2 := lst_set hL ch (Or.inl ⟨_, rfl⟩) (.bool true)
      have fh := h.frozen (2 + k)
      obtain ⟨W, hW⟩ : ∃ W, w.setCell ⟨d, 2 + k, none⟩ (.bool true) = W := ⟨_, rfl⟩
      rw [hW] at hD hL2
      have hws : W.heap.size = w.heap.size := by rw [← hW]; simp
      have hL3 : Lst W.drew W.drew.heap.size a0 c0 l := (hL2.mono (B' := W.heap.size) (by omega)).later (Below.refl _ _).drew
      have ks := rsort_is a0 c0 l W.drew hL3 (by omega)
      rw [hq] at ks ⊢
      have HD := Lib.hid hD
      have HW := Lib.hid hW
      have HQ := Lib.hid (Nat.le_trans (srtR_len l) (by omega : l.length ≤ 1000))
      have HAN := Lib.hid (show ansS R (k : Int) l = ⟨⟨R.S.need, R.S.nd, updB R.S.hd (k : Int)⟩, fun i => if i = (k : Int) then srtR l else R.an i, R.cnt + 1⟩ by unfold ansS; rw [if_pos HY.out, hear_yes HY.out])
      obtain ⟨sl, hsl⟩ : ∃ sl, srtR l = sl := ⟨_, rfl⟩
      rw [hsl] at ks HQ HAN
      clear hz h hL hns hpl2 hq hy hD hL2 hL3 hsl hl
      go_enter Try.func13, Try.ntmps13
      go_wp2_with (go_at_call 38; (with_reducible refine ki.mono ?_); rintro e w1 ⟨rfl, rfl⟩)
      refine wp_region_held_drew (S := (fun _ => True)) (by kernel_rfl) trivial (fun hHeld => ?_)
      refine wpAnyH_take (i := 0) (oi := ?a1o) (v := ?a1v) ?a1h (by kernel_rfl) (by kernel_rfl) (by kernel_rfl) ?a1q ?a1y hHeld ?a1r
      case a1h => (simp only [List.getElem?_toArray, List.getElem?_cons_zero]; rfl)
      case a1q => exact fun _ _ _ h => h
      case a1y => (refine Or.inl ⟨by first | kernel_rfl | rfl, ?_⟩; intro w hSw; (try dsimp only at hSw); go_simp <;> (try with_reducible rfl))
      try simp only [Act.put, List.setIfInBounds_toArray, List.set_cons_zero, List.set_cons_succ]
      refine wpAnyH_take (i := 1) (oi := ?a2o) (v := ?a2v) ?a2h (by kernel_rfl) (by kernel_rfl) (by kernel_rfl) ?a2q ?a2y hHeld ?a2r
      case a2h => (simp only [List.getElem?_toArray, List.getElem?_cons_succ, List.getElem?_cons_zero]; rfl)
      case a2q => exact fun _ _ _ h => h
      case a2y => (refine Or.inl ⟨by first | kernel_rfl | rfl, ?_⟩; intro w hSw; (try dsimp only at hSw); go_simp <;> (try with_reducible rfl))
      try simp only [Act.put, List.setIfInBounds_toArray, List.set_cons_zero, List.set_cons_succ]
      refine wpAnyH_take (i := 2) (oi := ?a3o) (v := ?a3v) ?a3h (by kernel_rfl) (by kernel_rfl) (by kernel_rfl) ?a3q ?a3y hHeld ?a3r
      case a3h => (simp only [List.getElem?_toArray, List.getElem?_cons_succ, List.getElem?_cons_zero]; rfl)
      case a3q => exact fun _ _ _ h => h
      case a3y => (refine Or.inl ⟨by first | kernel_rfl | rfl, ?_⟩; intro w hSw; (try dsimp only at hSw); go_simp <;> (try with_reducible rfl))
      try simp only [Act.put, List.setIfInBounds_toArray, List.set_cons_zero, List.set_cons_succ]
      refine wpAnyH_take (i := 4) (oi := ?a4o) (v := ?a4v) ?a4h (by kernel_rfl) (by kernel_rfl) (by kernel_rfl) ?a4q ?a4y hHeld ?a4r
      case a4h => (simp only [List.getElem?_toArray, List.getElem?_cons_succ, List.getElem?_cons_zero]; rfl)
      case a4q => exact fun _ _ _ h => h
      case a4y => (refine Or.inl ⟨by first | kernel_rfl | rfl, ?_⟩; intro w hSw; (try dsimp only at hSw); go_simp <;> (try with_reducible rfl))
      try simp only [Act.put, List.setIfInBounds_toArray, List.set_cons_zero, List.set_cons_succ]
      refine wpAnyH_take (i := 5) (oi := ?a5o) (v := ?a5v) ?a5h (by kernel_rfl) (by kernel_rfl) (by kernel_rfl) ?a5q ?a5y hHeld ?a5r
      case a5h => (simp only [List.getElem?_toArray, List.getElem?_cons_succ, List.getElem?_cons_zero]; rfl)
      case a5q => exact fun _ _ _ h => h
      case a5y => (refine Or.inl ⟨by first | kernel_rfl | rfl, ?_⟩; intro w hSw; (try dsimp only at hSw); go_simp <;> (try with_reducible rfl))
      try simp only [Act.put, List.setIfInBounds_toArray, List.set_cons_zero, List.set_cons_succ]
      refine wpAnyH_ready (rs := [3]) (by kernel_rfl) (by simp) ?_
      refine (AllReadyH.cons rfl (fun K hK => ?_) AllReadyH.nil)
      go_simp
      (go_at_call 33; (with_reducible refine ks.mono ?_); rintro e w4 ⟨v4, rfl, hR4, hb4⟩; (obtain ⟨a4, c4, rfl⟩ := hR4.slice); (have hb5 := (Below.refl W.heap.size W).drew.trans hb4); (have HD4 := Lib.hid (HD.out.later hb5)); (have HB4 := Lib.hid hb5); (have HR4 := Lib.hid hR4); (obtain ⟨a9, c9, x9, -⟩ := HD4.out.got k hk); (have f9 := HD4.out.frozen (18 + k)); clear hR4 hb4 hb5)
      refine hK.out _ _ (trivial) (fun hHeld => ?_)
      clear hK K
      try simp only [Act.put, List.setIfInBounds_toArray, List.set_cons_zero, List.set_cons_succ]
      refine wpAnyH_take (i := 6) (oi := ?a6o) (v := ?a6v) ?a6h (by kernel_rfl) (by kernel_rfl) (by kernel_rfl) ?a6q ?a6y hHeld ?a6r
      case a6h => (simp only [List.getElem?_toArray, List.getElem?_cons_succ, List.getElem?_cons_zero]; rfl)
      case a6q => exact fun _ _ _ h => h
      case a6y => (refine Or.inl ⟨by first | kernel_rfl | rfl, ?_⟩; intro w hSw; (try dsimp only at hSw); go_simp <;> (try with_reducible rfl))
      try simp only [Act.put, List.setIfInBounds_toArray, List.set_cons_zero, List.set_cons_succ]
      refine wpAnyH_ready (rs := [7]) (by kernel_rfl) (by simp) ?_
      refine (AllReadyH.cons rfl (fun K hK => ?_) AllReadyH.nil)
      go_simp
      skip
      refine hK.out _ _ (trivial) (fun hHeld => ?_)
      clear hK K
      try simp only [Act.put]
      refine wpAnyH_done (by kernel_rfl) ?_ _
      go_wp2
      go_ret
      refine ⟨by rw [HY.out]; rfl, ?_, ?_⟩
      · rw [HAN.out]
        exact HD4.out.put hk sl a4 c4 (HR4.out.base (by show B ≤ W.heap.size; omega)) HQ.out
      · have hB0 : ButP (fun k => k = d) w W := by rw [← HW.out]; exact (ButP.refl _ w).setCell d _ _ (Or.inl rfl)
        exact (hB0.ofB HB4.out (by omega)).setCell d _ _ (Or.inl rfl)
theorem rmerged_is {w : World} {B d : Nat} {R : RS} (h : DAt w B d R) (hg : Good R) : Calls Try.prog 24 #[.pointer (some ⟨d, 0, none⟩)] w (OwnDone (mrgL R) w) := by
  have H := Lib.hid h
  have HE := Lib.hid (allK_good hg)
  have HLN := Lib.hid (allK_len h.len)
  clear h hg
  go_enter Try.func24, Try.ntmps24
  go_wp2
  go_loopw [3, 4] (fun o i wr => ∃ (k r : Nat) (a : Option Addr) (c : Nat), k ≤ 16 ∧ i = .int .i64 (k : Int) ∧ o = .slice a r c ∧ Hid ((allK R k).length = r) ∧ PRow wr w.heap.size (.slice a r c) (allK R k) ∧ Below w.heap.size w wr) (fun _ i _ => 16 - (intOf i).toNat)
  case atStart => exact ⟨0, 0, none, 0, by omega, rfl, rfl, Lib.hid rfl, PRow.nil _ _, Below.refl _ _⟩
  case round =>
    obtain ⟨k, r, a3, d3, hk, rfl, rfl, HR, hrow, hB⟩ := hrel
    obtain ⟨w2, hw2⟩ : ∃ w2, w2 = wr := ⟨_, rfl⟩
    subst hw2
    have HROW := Lib.hid hrow
    have HB := Lib.hid hB
    have hr16 : r ≤ 16000 := by have := HLN.out k; have := HR.out; omega
    by_cases hlt : k < 16
    · have hlt2 : (k : Int) < 16 := by omega
      have h2 := H.out.later hB
      obtain ⟨a4, c4, x4, hp4⟩ := h2.got k hlt
      have hll := h2.len (k : Int)
      have HLL := Lib.hid (hp4.lst)
      have HSN := Lib.hid (allK_snoc R k)
      obtain ⟨l, hl⟩ : ∃ l, R.an (k : Int) = l := ⟨_, rfl⟩
      rw [hl] at x4 HLL HSN hll
      obtain ⟨q, hq⟩ : ∃ q, l.length = q := ⟨_, rfl⟩
      rw [hq] at x4 hll
      have HQ := Lib.hid hq
      have hd0 := h2.lt
      obtain ⟨AL, hAL⟩ : ∃ AL, allK R k = AL := ⟨_, rfl⟩
      rw [hAL] at HR HROW HSN
      have hB1 := HB.out.size
      clear hrow hB hl hq hp4 h2 hAL
      go_wp2_with (at_builtin; refine wpList_appN (w := w2) rfl _ _ rfl w.heap.size r (.slice a3 r d3) AL l a4 q c4 w2.heap.size rfl rfl HQ.out HR HROW.out HLL.out (by omega) hB1 ?_; intro a6 c6 w6 hrow6 _ hb6 _; have HR6 := Lib.hid hrow6.out; have HB6 := Lib.hid hb6; clear hrow6 hb6)
      go_roundw
      case rel => exact ⟨k + 1, r + q, a6, c6, by omega, by go_num, rfl, Lib.hid (by rw [HSN.out, List.length_append, HR.out, HQ.out]), by rw [HSN.out]; exact HR6.out, HB.out.trans HB6.out⟩
      case measure => simp [intOf]; omega
    · obtain rfl : k = 16 := by omega
      obtain ⟨AL, hAL⟩ : ∃ AL, allK R 16 = AL := ⟨_, rfl⟩
      rw [hAL] at HR HROW HE
      have hrr := HR.out
      have ks := rsort_is a3 d3 AL w2 HROW.out.lst (by omega)
      rw [hrr, HE.out] at ks
      clear hrow hB hAL hrr
      go_wp2_with (go_at_call 33; (with_reducible refine ks.mono ?_); rintro e w7 ⟨v7, rfl, hR7, hb7⟩; (have HR7 := Lib.hid hR7); (have HB7 := Lib.hid hb7); (obtain ⟨a7, c7, rfl⟩ := hR7.slice); clear hR7 hb7)
      go_ret
      exact ⟨_, rfl, HR7.out.base HB.out.size, bel_next HB.out HB7.out⟩
end Go.Proofs.Ytcjcbbpolhpphaa.Qu
