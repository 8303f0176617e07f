/- Create. -/
import Derived.Test.YteijmjbiaffcmaaGreatDoorFilesSettle
import Derived.Deep.RegionHeld
set_option maxRecDepth 20000
set_option linter.unusedSimpArgs false
namespace Go.Proofs.YteijmjbiaffcmaaGreatDoor.Fi
open Go.RowKit Go.Maps Go.Shelf

def createS (S : FS) (n : ByteArray) (q : Nat) : Int × FS := if checkS S [n] ≠ 0 then (checkS S [n], S) else if (look S.now (nm n)).isSome then (13, S) else if 64 ≤ S.now.length then (15, S) else stepD (doS (addS S q) (.mk (nm n) q))
theorem check_ok {S : FS} {n : ByteArray} (h : checkS S [n] = 0) : okS n = true := by
  unfold checkS at h
  split at h
  · exact absurd h (by decide)
  · split at h
    · rename_i h1; simpa using h1
    · exact absurd h (by decide)
theorem lit_ss1 (w : World) (n : ByteArray) (hn : n.size ≤ maxLen) : Ss ((w.alloc (.cells #[.string n] 9)).alloc (.cells #[.string n] 9)) (.slice (some ⟨w.heap.size + 1, 0, none⟩) 1 1) [n] := by
  have := lit_ss (w.alloc (.cells #[.string n] 9)) n hn
  simpa using this
theorem box_two (w : World) (n : ByteArray) : ((w.alloc (.cells #[.string n] 9)).alloc (.cells #[.string n] 9)).heap[w.heap.size]? = some (.cells #[.string n] 9) := by
  rw [Below.heap_alloc _ _ _ (by simp)]; exact heap_alloc_new w _
theorem new_file (W : World) (c1 c2 : Array Value) (T1 T2 : TypeId) : ((W.alloc (.cells c1 T1)).alloc (.cells c2 T2)).heap[W.heap.size]? = some (.cells c1 T1) ∧ ((W.alloc (.cells c1 T1)).alloc (.cells c2 T2)).heap[W.heap.size + 1]? = some (.cells c2 T2) := by
  refine ⟨by rw [Below.heap_alloc _ _ _ (by simp)]; exact heap_alloc_new W _, ?_⟩
  have := heap_alloc_new (W.alloc (.cells c1 T1)) (.cells c2 T2)
  simpa using this
def CDone (b : Nat) (S : FS) (L : Lay) (n : ByteArray) (w : World) (e : Ending) (w' : World) : Prop := ∃ q L', w.heap.size ≤ q ∧ e = .returned (.int .i64 (createS S n q).1) ∧ Went w w' b S (createS S n q).2 L L' ∧ L'.bn = L.bn
set_option maxHeartbeats 2000000 in
theorem create_is (b bm : Nat) (S : FS) (L : Lay) (n : ByteArray) (w : World) (h : FsAt w b S L) (hbn : L.bn = some bm) (hS : Sane S) (hchg : S.chg.length ≤ 1000000) (hn : n.size ≤ maxLen) : Calls Tryz.prog 84 #[.pointer (some ⟨b, 0, none⟩), .string n] w (CDone b S L n w) := by
  have hB1 := ((Below.refl w.heap.size w).alloc (Nat.le_refl _) (.cells #[.string n] 9)).alloc (by simp) (.cells #[.string n] 9)
  have kc := check_is b S L _ [n] _ (h.later hB1) (lit_ss1 w n hn)
  have H := Lib.hid h
  have HS := Lib.hid hS
  have HB1 := Lib.hid hB1
  have HBN := Lib.hid hbn
  have HBOX := Lib.hid (box_two w n)
  obtain ⟨ec, hec⟩ : ∃ ec, checkS S [n] = ec := ⟨_, rfl⟩
  rw [hec] at kc
  have HEC := Lib.hid hec
  clear h hS hB1 hbn hec
  by_cases he0 : ec = 0
  · subst he0
    have HOK := Lib.hid (ok_size (check_ok HEC.out))
    obtain ⟨lo, hlo⟩ : ∃ lo, look S.now (nm n) = lo := ⟨_, rfl⟩
    have HLO := Lib.hid hlo
    clear hlo
    go_enter Tryz.func84, Tryz.ntmps84
    go_upto_region 4 with (go_at_call 90; (with_reducible refine kc.mono ?_); rintro e w1 ⟨rfl, rfl⟩)
    clear kc
    generalize (w.alloc (.cells #[.string n] 9)).alloc (.cells #[.string n] 9) = w1 at *
    have HF1 := Lib.hid (H.out.later HB1.out)
    have HLK := Lib.hid (fun W (k : Below w1.heap.size w1 W) => look_src ((HF1.out.later k).now) n hn)
    rw [HBN.out] at HLK
    have hbl : w.heap.size < w1.heap.size := (Array.getElem?_eq_some_iff.1 HBOX.out).1
    have CB := Lib.hid (cell_of (j := 0) HBOX.out)
    have HCX := Lib.hid (fun W (k : Below w1.heap.size w1 W) => (k.cell (p := ⟨w.heap.size, 0, none⟩) hbl).trans CB.out)
    cases lo with
    | some q =>
      have HE := Lib.hid (fun q' : Nat => (show createS S n q' = (13, S) by unfold createS; rw [if_neg (by rw [HEC.out]; decide), if_pos (by rw [HLO.out]; rfl)]))
      refine wp_region_held_drew (S := fun W => Below w1.heap.size w1 W) (by kernel_rfl) ((Below.refl w1.heap.size w1).drew) (fun hHeld => ?_)
      have HBD := Lib.hid (show Below w1.heap.size w1 w1.drew from (Below.refl w1.heap.size w1).drew)
      generalize w1.drew = wd at *
      refine wpAnyH_take (i := 0) (oi := ?ra1o) (v := ?ra1v) ?ra1h (by kernel_rfl) (by kernel_rfl) (by kernel_rfl) ?ra1q ?ra1y hHeld ?ra1r
      case ra1h => (simp only [List.getElem?_toArray, List.getElem?_cons_zero]; rfl)
      case ra1q => exact fun _ _ _ h => h
      case ra1y => (refine Or.inl ⟨by first | kernel_rfl | rfl, ?_⟩; intro w hSw; (try dsimp only at hSw); have hx := HCX.out _ hSw; have cc := (HF1.out.later hSw).cells.2.1; rw [HBN.out] at cc; have hl := HLK.out _ hSw; rw [HLO.out] at hl; unfold ptrV at hl; go_simp <;> (try with_reducible rfl))
      try simp only [Act.put, List.setIfInBounds_toArray, List.set_cons_zero, List.set_cons_succ]
      refine wpAnyH_take (i := 1) (oi := ?ra2o) (v := ?ra2v) ?ra2h (by kernel_rfl) (by kernel_rfl) (by kernel_rfl) ?ra2q ?ra2y hHeld ?ra2r
      case ra2h => (simp only [List.getElem?_toArray, List.getElem?_cons_succ, List.getElem?_cons_zero]; rfl)
      case ra2q => exact fun _ _ _ h => h
      case ra2y => (refine Or.inl ⟨by first | kernel_rfl | rfl, ?_⟩; intro w hSw; (try dsimp only at hSw); have hx := HCX.out _ hSw; have cc := (HF1.out.later hSw).cells.2.1; rw [HBN.out] at cc; have hl := HLK.out _ hSw; rw [HLO.out] at hl; unfold ptrV at hl; go_simp <;> (try with_reducible rfl))
      try simp only [Act.put, List.setIfInBounds_toArray, List.set_cons_zero, List.set_cons_succ]
      refine wpAnyH_take (i := 2) (oi := ?ra3o) (v := ?ra3v) ?ra3h (by kernel_rfl) (by kernel_rfl) (by kernel_rfl) ?ra3q ?ra3y hHeld ?ra3r
      case ra3h => (simp only [List.getElem?_toArray, List.getElem?_cons_succ, List.getElem?_cons_zero]; rfl)
      case ra3q => exact fun _ _ _ h => h
      case ra3y => (refine Or.inl ⟨by first | kernel_rfl | rfl, ?_⟩; intro w hSw; (try dsimp only at hSw); have hx := HCX.out _ hSw; have cc := (HF1.out.later hSw).cells.2.1; rw [HBN.out] at cc; have hl := HLK.out _ hSw; rw [HLO.out] at hl; unfold ptrV at hl; go_simp <;> (try with_reducible rfl))
      try simp only [Act.put, List.setIfInBounds_toArray, List.set_cons_zero, List.set_cons_succ]
      refine wpAnyH_take (i := 3) (oi := ?ra4o) (v := ?ra4v) ?ra4h (by kernel_rfl) (by kernel_rfl) (by kernel_rfl) ?ra4q ?ra4y hHeld ?ra4r
      case ra4h => (simp only [List.getElem?_toArray, List.getElem?_cons_succ, List.getElem?_cons_zero]; rfl)
      case ra4q => exact fun _ _ _ h => h
      case ra4y => (refine Or.inl ⟨by first | kernel_rfl | rfl, ?_⟩; intro w hSw; (try dsimp only at hSw); have hx := HCX.out _ hSw; have cc := (HF1.out.later hSw).cells.2.1; rw [HBN.out] at cc; have hl := HLK.out _ hSw; rw [HLO.out] at hl; unfold ptrV at hl; go_simp <;> (try with_reducible rfl))
      try simp only [Act.put, List.setIfInBounds_toArray, List.set_cons_zero, List.set_cons_succ]
      refine wpAnyH_take (i := 4) (oi := ?ra5o) (v := ?ra5v) ?ra5h (by kernel_rfl) (by kernel_rfl) (by kernel_rfl) ?ra5q ?ra5y hHeld ?ra5r
      case ra5h => (simp only [List.getElem?_toArray, List.getElem?_cons_succ, List.getElem?_cons_zero]; rfl)
      case ra5q => exact fun _ _ _ h => h
      case ra5y => (refine Or.inl ⟨by first | kernel_rfl | rfl, ?_⟩; intro w hSw; (try dsimp only at hSw); have hx := HCX.out _ hSw; have cc := (HF1.out.later hSw).cells.2.1; rw [HBN.out] at cc; have hl := HLK.out _ hSw; rw [HLO.out] at hl; unfold ptrV at hl; go_simp <;> (try with_reducible rfl))
      try simp only [Act.put, List.setIfInBounds_toArray, List.set_cons_zero, List.set_cons_succ]
      refine wpAnyH_take (i := 5) (oi := ?ra6o) (v := ?ra6v) ?ra6h (by kernel_rfl) (by kernel_rfl) (by kernel_rfl) ?ra6q ?ra6y hHeld ?ra6r
      case ra6h => (simp only [List.getElem?_toArray, List.getElem?_cons_succ, List.getElem?_cons_zero]; rfl)
      case ra6q => exact fun _ _ _ h => h
      case ra6y => (refine Or.inl ⟨by first | kernel_rfl | rfl, ?_⟩; intro w hSw; (try dsimp only at hSw); have hx := HCX.out _ hSw; have cc := (HF1.out.later hSw).cells.2.1; rw [HBN.out] at cc; have hl := HLK.out _ hSw; rw [HLO.out] at hl; unfold ptrV at hl; go_simp <;> (try with_reducible rfl))
      try simp only [Act.put, List.setIfInBounds_toArray, List.set_cons_zero, List.set_cons_succ]
      refine wpAnyH_take (i := 6) (oi := ?ra7o) (v := ?ra7v) ?ra7h (by kernel_rfl) (by kernel_rfl) (by kernel_rfl) ?ra7q ?ra7y hHeld ?ra7r
      case ra7h => (simp only [List.getElem?_toArray, List.getElem?_cons_succ, List.getElem?_cons_zero]; rfl)
      case ra7q => exact fun _ _ _ h => h
      case ra7y => (refine Or.inl ⟨by first | kernel_rfl | rfl, ?_⟩; intro w hSw; (try dsimp only at hSw); have hx := HCX.out _ hSw; have cc := (HF1.out.later hSw).cells.2.1; rw [HBN.out] at cc; have hl := HLK.out _ hSw; rw [HLO.out] at hl; unfold ptrV at hl; go_simp <;> (try with_reducible rfl))
      try simp only [Act.put, List.setIfInBounds_toArray, List.set_cons_zero, List.set_cons_succ]
      refine wpAnyH_done (by kernel_rfl) ?_ _
      have HB2 := Lib.hid (bel_next HB1.out (show Below w1.heap.size w1 wd from HBD.out))
      go_wp2
      go_ret
      exact ⟨w.heap.size, L, Nat.le_refl _, by rw [HE.out]; rfl, by rw [HE.out]; exact Went.below H.out HB2.out, rfl⟩
    | none =>
      have hm : ∀ W, Below w1.heap.size w1 W → MapIs W bm S.now := fun W k => by
        rcases (HF1.out.later k).now with ⟨e, _⟩ | ⟨b2, e, hm⟩
        · rw [HBN.out] at e; cases e
        · rw [HBN.out] at e; injection e with e; subst e; exact hm
      have HMM := Lib.hid hm
      clear hm
      refine wp_region_held_drew (S := fun W => Below w1.heap.size w1 W) (by kernel_rfl) ((Below.refl w1.heap.size w1).drew) (fun hHeld => ?_)
      have HBD := Lib.hid (show Below w1.heap.size w1 w1.drew from (Below.refl w1.heap.size w1).drew)
      generalize w1.drew = wd at *
      refine wpAnyH_take (i := 0) (oi := ?rb1o) (v := ?rb1v) ?rb1h (by kernel_rfl) (by kernel_rfl) (by kernel_rfl) ?rb1q ?rb1y hHeld ?rb1r
      case rb1h => (simp only [List.getElem?_toArray, List.getElem?_cons_zero]; rfl)
      case rb1q => exact fun _ _ _ h => h
      case rb1y => (refine Or.inl ⟨by first | kernel_rfl | rfl, ?_⟩; intro w hSw; (try dsimp only at hSw); have hx := HCX.out _ hSw; have cc := (HF1.out.later hSw).cells.2.1; rw [HBN.out] at cc; have hl := HLK.out _ hSw; rw [HLO.out] at hl; unfold ptrV at hl; go_simp <;> (try with_reducible rfl))
      try simp only [Act.put, List.setIfInBounds_toArray, List.set_cons_zero, List.set_cons_succ]
      refine wpAnyH_take (i := 1) (oi := ?rb2o) (v := ?rb2v) ?rb2h (by kernel_rfl) (by kernel_rfl) (by kernel_rfl) ?rb2q ?rb2y hHeld ?rb2r
      case rb2h => (simp only [List.getElem?_toArray, List.getElem?_cons_succ, List.getElem?_cons_zero]; rfl)
      case rb2q => exact fun _ _ _ h => h
      case rb2y => (refine Or.inl ⟨by first | kernel_rfl | rfl, ?_⟩; intro w hSw; (try dsimp only at hSw); have hx := HCX.out _ hSw; have cc := (HF1.out.later hSw).cells.2.1; rw [HBN.out] at cc; have hl := HLK.out _ hSw; rw [HLO.out] at hl; unfold ptrV at hl; go_simp <;> (try with_reducible rfl))
      try simp only [Act.put, List.setIfInBounds_toArray, List.set_cons_zero, List.set_cons_succ]
      refine wpAnyH_take (i := 2) (oi := ?rb3o) (v := ?rb3v) ?rb3h (by kernel_rfl) (by kernel_rfl) (by kernel_rfl) ?rb3q ?rb3y hHeld ?rb3r
      case rb3h => (simp only [List.getElem?_toArray, List.getElem?_cons_succ, List.getElem?_cons_zero]; rfl)
      case rb3q => exact fun _ _ _ h => h
      case rb3y => (refine Or.inl ⟨by first | kernel_rfl | rfl, ?_⟩; intro w hSw; (try dsimp only at hSw); have hx := HCX.out _ hSw; have cc := (HF1.out.later hSw).cells.2.1; rw [HBN.out] at cc; have hl := HLK.out _ hSw; rw [HLO.out] at hl; unfold ptrV at hl; go_simp <;> (try with_reducible rfl))
      try simp only [Act.put, List.setIfInBounds_toArray, List.set_cons_zero, List.set_cons_succ]
      refine wpAnyH_take (i := 3) (oi := ?rb4o) (v := ?rb4v) ?rb4h (by kernel_rfl) (by kernel_rfl) (by kernel_rfl) ?rb4q ?rb4y hHeld ?rb4r
      case rb4h => (simp only [List.getElem?_toArray, List.getElem?_cons_succ, List.getElem?_cons_zero]; rfl)
      case rb4q => exact fun _ _ _ h => h
      case rb4y => (refine Or.inl ⟨by first | kernel_rfl | rfl, ?_⟩; intro w hSw; (try dsimp only at hSw); have hx := HCX.out _ hSw; have cc := (HF1.out.later hSw).cells.2.1; rw [HBN.out] at cc; have hl := HLK.out _ hSw; rw [HLO.out] at hl; unfold ptrV at hl; go_simp <;> (try with_reducible rfl))
      try simp only [Act.put, List.setIfInBounds_toArray, List.set_cons_zero, List.set_cons_succ]
      refine wpAnyH_take (i := 4) (oi := ?rb5o) (v := ?rb5v) ?rb5h (by kernel_rfl) (by kernel_rfl) (by kernel_rfl) ?rb5q ?rb5y hHeld ?rb5r
      case rb5h => (simp only [List.getElem?_toArray, List.getElem?_cons_succ, List.getElem?_cons_zero]; rfl)
      case rb5q => exact fun _ _ _ h => h
      case rb5y => (refine Or.inl ⟨by first | kernel_rfl | rfl, ?_⟩; intro w hSw; (try dsimp only at hSw); have hx := HCX.out _ hSw; have cc := (HF1.out.later hSw).cells.2.1; rw [HBN.out] at cc; have hl := HLK.out _ hSw; rw [HLO.out] at hl; unfold ptrV at hl; go_simp <;> (try with_reducible rfl))
      try simp only [Act.put, List.setIfInBounds_toArray, List.set_cons_zero, List.set_cons_succ]
      refine wpAnyH_take (i := 5) (oi := ?rb6o) (v := ?rb6v) ?rb6h (by kernel_rfl) (by kernel_rfl) (by kernel_rfl) ?rb6q ?rb6y hHeld ?rb6r
      case rb6h => (simp only [List.getElem?_toArray, List.getElem?_cons_succ, List.getElem?_cons_zero]; rfl)
      case rb6q => exact fun _ _ _ h => h
      case rb6y => (refine Or.inl ⟨by first | kernel_rfl | rfl, ?_⟩; intro w hSw; (try dsimp only at hSw); have hx := HCX.out _ hSw; have cc := (HF1.out.later hSw).cells.2.1; rw [HBN.out] at cc; have hl := HLK.out _ hSw; rw [HLO.out] at hl; unfold ptrV at hl; go_simp <;> (try with_reducible rfl))
      try simp only [Act.put, List.setIfInBounds_toArray, List.set_cons_zero, List.set_cons_succ]
      refine wpAnyH_take (i := 6) (oi := ?rb7o) (v := ?rb7v) ?rb7h (by kernel_rfl) (by kernel_rfl) (by kernel_rfl) ?rb7q ?rb7y hHeld ?rb7r
      case rb7h => (simp only [List.getElem?_toArray, List.getElem?_cons_succ, List.getElem?_cons_zero]; rfl)
      case rb7q => exact fun _ _ _ h => h
      case rb7y => (refine Or.inl ⟨by first | kernel_rfl | rfl, ?_⟩; intro w hSw; (try dsimp only at hSw); have hx := HCX.out _ hSw; have cc := (HF1.out.later hSw).cells.2.1; rw [HBN.out] at cc; have hl := HLK.out _ hSw; rw [HLO.out] at hl; unfold ptrV at hl; go_simp <;> (try with_reducible rfl))
      try simp only [Act.put, List.setIfInBounds_toArray, List.set_cons_zero, List.set_cons_succ]
      refine wpAnyH_done (by kernel_rfl) ?_ _
      have HB2 := Lib.hid (bel_next HB1.out (show Below w1.heap.size w1 wd from HBD.out))
      have hmd := HMM.out wd HBD.out
      have hown : wd.ownsMap Tryz.prog 9 ptrR bm S.now.length (dOf S.now) := hmd
      have c1d := (HF1.out.later HBD.out).cells.2.1
      rw [HBN.out] at c1d
      have hsz := dOf_size S.now
      obtain ⟨nl, hnl⟩ : ∃ nl, S.now.length = nl := ⟨_, rfl⟩
      rw [hnl] at hsz hown
      have HNL := Lib.hid hnl
      have HSZ := Lib.hid hsz
      clear hmd hnl hsz
      by_cases h64 : 64 ≤ nl
      · have HE := Lib.hid (fun q' : Nat => (show createS S n q' = (15, S) by unfold createS; rw [if_neg (by rw [HEC.out]; decide), if_neg (by rw [HLO.out]; decide), if_pos (by rw [HNL.out]; exact h64)]))
        have hd : decide (64 ≤ nl) = true := decide_eq_true h64
        have hd2 : decide ((64 : Int) ≤ (nl : Int)) = true := decide_eq_true (by omega)
        clear h64
        go_wp2_with (at_len; refine wpList_len_own _ rfl _ 76 rfl 9 86 Tryz.underlying76 ptrR bm nl (dOf S.now) rfl hown ?_; rw [HSZ.out])
        go_ret
        exact ⟨w.heap.size, L, Nat.le_refl _, by rw [HE.out]; rfl, by rw [HE.out]; exact Went.below H.out HB2.out, rfl⟩
      · have HE := Lib.hid (fun q' : Nat => (show createS S n q' = stepD (doS (addS S q') (.mk (nm n) q')) by unfold createS; rw [if_neg (by rw [HEC.out]; decide), if_neg (by rw [HLO.out]; decide), if_neg (by rw [HNL.out]; exact h64)]))
        have hd : decide (64 ≤ nl) = false := decide_eq_false h64
        have hd2 : decide ((64 : Int) ≤ (nl : Int)) = false := decide_eq_false (by omega)
        have hF2 := H.out.later HB2.out
        have hB3 := ((Below.refl wd.heap.size wd).alloc (Nat.le_refl _) (.cells #[.slice none 0 0, .int .i64 0] 90)).alloc (by simp) (.cells #[.pointer (some ⟨wd.heap.size, 0, none⟩)] 86)
        obtain ⟨hq1, hq2⟩ := new_file wd #[.slice none 0 0, .int .i64 0] #[.pointer (some ⟨wd.heap.size, 0, none⟩)] 90 86
        have hW3 := hF2.addfile hq1 (Nat.le_refl _) hB3
        have kc2 := change_mk_is b bm (addS S wd.heap.size) (addL L wd.heap.size) (nm n) wd.heap.size (wd.heap.size + 1, w.heap.size) _ hW3.at_ HBN.out HS.out.len hchg HS.out.left ⟨hq2, n, rfl, HOK.out, (bel_next (show Below w1.heap.size w1 wd from HBD.out) hB3).block _ hbl |>.trans HBOX.out⟩ HLO.out
        have HW3 := Lib.hid hW3
        have HWS := Lib.hid HB2.out.size
        clear h64 hF2 hB3 hq1 hq2 hW3
        unfold chgV at kc2
        dsimp only at kc2
        go_wp2_with (first
          | (at_len; refine wpList_len_own _ rfl _ 76 rfl 9 86 Tryz.underlying76 ptrR bm nl (dOf S.now) rfl hown ?_; rw [HSZ.out])
          | (go_at_call 110; (refine kc2.mono ?_); rintro e w4 ⟨L', rfl, hW, h1, h2⟩; (have HW4 := Lib.hid hW); (have H1 := Lib.hid h1); clear hW h1 h2 kc2))
        go_ret
        exact ⟨wd.heap.size, L', HWS.out, by rw [HE.out]; rfl, by rw [HE.out]; exact ((Went.below H.out HB2.out).trans HW3.out).trans HW4.out, H1.out⟩
  · have HE := Lib.hid (fun q' : Nat => (show createS S n q' = (ec, S) by unfold createS; rw [if_pos (by rw [HEC.out]; exact he0), HEC.out]))
    have hq : (ec != 0) = true := by simpa using he0
    clear he0
    go_enter Tryz.func84, Tryz.ntmps84
    go_wp2_with (go_at_call 90; (with_reducible refine kc.mono ?_); rintro e w1 ⟨rfl, rfl⟩)
    go_ret
    exact ⟨w.heap.size, L, Nat.le_refl _, by rw [HE.out]; rfl, by rw [HE.out]; exact Went.below H.out HB1.out, rfl⟩
end Go.Proofs.YteijmjbiaffcmaaGreatDoor.Fi
