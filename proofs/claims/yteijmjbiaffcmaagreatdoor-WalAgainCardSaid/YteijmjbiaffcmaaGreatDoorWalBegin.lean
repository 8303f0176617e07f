/- The contract of begin. -/
import Derived.Test.YteijmjbiaffcmaaGreatDoorWalD
import Derived.Deep.RegionHeld
import Derived.Deep.CutRange
import Derived.Deep.CutBlock
import Derived.Laws.EntriesVeiled
set_option maxRecDepth 20000
set_option linter.unusedSimpArgs false
set_option linter.unusedVariables false
namespace Go.Proofs.YteijmjbiaffcmaaGreatDoor
open Go.RowKit Go.Maps Go.Shelf Go.Proofs.YteijmjbiaffcmaaGreatDoor.Vi Go.Proofs.YteijmjbiaffcmaaGreatDoor.Crc Go.Proofs.YteijmjbiaffcmaaGreatDoor.Fr Go.Proofs.YteijmjbiaffcmaaGreatDoor.Fi

def beginN (S : FS) : Int := match (numsS S).getLast? with | some m => (m : Int) + 1 | none => 1
def stB (S : FS) (nm hd : ByteArray) (q : Nat) : Nat → FS
  | 0 => S
  | 1 => (createS S nm q).2
  | 2 => (appendS (createS S nm q).2 nm hd).2
  | 3 => (syncS (appendS (createS S nm q).2 nm hd).2 nm).2
  | _ => (syncDirS (syncS (appendS (createS S nm q).2 nm hd).2 nm).2).2
def erB (S : FS) (nm hd : ByteArray) (q : Nat) : Nat → Int
  | 0 => (createS S nm q).1
  | 1 => (appendS (createS S nm q).2 nm hd).1
  | 2 => (syncS (appendS (createS S nm q).2 nm hd).2 nm).1
  | _ => (syncDirS (syncS (appendS (createS S nm q).2 nm hd).2 nm).2).1
def failB (S : FS) (W : WS) (e : Int) (nm : ByteArray) : Int × FS × WS := (e, (deleteS S nm).2, toldW (toldW W e) (deleteS S nm).1)
def beginW (S : FS) (W : WS) (kept : Bool) (st : ByteArray) (q : Nat) : Int × FS × WS :=
  let nm := tx (segI (beginN S))
  let hd := headB (lastW W + 1) kept st
  if nm.size = 0 ∨ hd.size = 0 then (11, S, W)
  else if erB S nm hd q 0 ≠ 0 then failB (stB S nm hd q 1) W (erB S nm hd q 0) nm
  else if erB S nm hd q 1 ≠ 0 then failB (stB S nm hd q 2) W (erB S nm hd q 1) nm
  else if erB S nm hd q 2 ≠ 0 then failB (stB S nm hd q 3) W (erB S nm hd q 2) nm
  else if erB S nm hd q 3 ≠ 0 then failB (stB S nm hd q 4) W (erB S nm hd q 3) nm
  else (0, stB S nm hd q 4, { W with sg := beginN S })
theorem isEmpty_no {s : ByteArray} (h : ¬ s.size = 0) : s.toList.isEmpty = false := by
  rw [ByteArray.toList_eq]
  cases hq : s.data.toList with
  | nil => exact absurd (by rw [size0' hq]; rfl) h
  | cons => rfl
theorem createS_chg (S : FS) (n : ByteArray) (q : Nat) : (createS S n q).2.chg.length ≤ S.chg.length + 1 := by
  unfold createS
  split
  · exact Nat.le_succ _
  · split
    · exact Nat.le_succ _
    · split
      · exact Nat.le_succ _
      · unfold stepD stepS doS addS
        dsimp only
        split
        · simp
        · split <;> simp
theorem stepS_chg (S : FS) : (stepS S).2.chg = S.chg := by
  unfold stepS
  split
  · rfl
  · split <;> rfl
theorem appendS_chg (S : FS) (n t : ByteArray) : (appendS S n t).2.chg = S.chg := by
  unfold appendS
  split
  · split
    · rfl
    · exact stepS_chg _
  · rfl
theorem syncS_chg (S : FS) (n : ByteArray) : (syncS S n).2.chg = S.chg := by
  unfold syncS
  split
  · split
    · exact stepS_chg _
    · exact stepS_chg _
  · rfl
theorem syncDirS_chg (S : FS) : (syncDirS S).2.chg.length ≤ S.chg.length := by
  unfold syncDirS
  split
  · exact Nat.le_refl _
  · split
    · exact Nat.zero_le _
    · rw [stepS_chg]; exact Nat.le_refl _
theorem stB_chg (S : FS) (nm hd : ByteArray) (q : Nat) : ∀ i, (stB S nm hd q i).chg.length ≤ S.chg.length + 1
  | 0 => Nat.le_succ _
  | 1 => createS_chg S nm q
  | 2 => by show (appendS _ _ _).2.chg.length ≤ _; rw [appendS_chg]; exact createS_chg S nm q
  | 3 => by show (syncS _ _).2.chg.length ≤ _; rw [syncS_chg, appendS_chg]; exact createS_chg S nm q
  | n + 4 => by
    refine Nat.le_trans (syncDirS_chg _) ?_
    rw [syncS_chg, appendS_chg]; exact createS_chg S nm q
theorem numsS_last {S : FS} {m : Nat} (h : (numsS S).getLast? = some m) : 1 ≤ m ∧ m ≤ 99999999 := numsS_in (List.mem_of_getLast? h)
theorem numsS_le (S : FS) : (numsS S).length ≤ S.now.length := by
  unfold numsS numsL
  have h1 := List.length_filterMap_le numN (S.now.map (·.1))
  rw [List.length_map] at h1
  exact h1
section
variable {w : World} {B b a : Nat} {S : FS} {L : Lay} {W : WS} {v : Value}
set_option maxHeartbeats 16000000 in
theorem begin_is (h : Log B w b S L a W v) (hf : Fine W) (kept : Bool) (st : ByteArray) (hst : st.size ≤ 60000) (hchg : S.chg.length ≤ 900000) : Calls Tryz.prog 52 #[.pointer (some ⟨a, 0, none⟩), .bool kept, .string st] w fun e w' => ∃ q, w.heap.size ≤ q ∧ WDone b S L a W v (beginW S W kept st q) w e w' := by
  have H := Lib.hid h
  have HFN := Lib.hid hf
  have HCHG := Lib.hid hchg
  have hbx := heap_alloc_new w (.cells #[.pointer (some ⟨a, 0, none⟩)] 33)
  have h1 := h.below (bel_al w (.cells #[.pointer (some ⟨a, 0, none⟩)] 33))
  obtain ⟨p3, hp3⟩ : ∃ p3, w.heap.size = p3 := ⟨_, rfl⟩
  have HP0 := Lib.hid hp3
  have kn := numbers_is (w.alloc (.cells #[.pointer (some ⟨a, 0, none⟩)] 33)) h1.at_.dir h1.glob
  have c0 := h1.at_.cells.c0
  rw [hp3] at hbx
  have HBX := Lib.hid hbx
  have HL1 := Lib.hid h1
  have hb1 : -9223372036854775808 ≤ lastW W + 1 ∧ lastW W + 1 ≤ 9223372036854775807 := by
    have q1 := hf.f0; have q2 := hf.f1; have q3 := hf.rc
    unfold lastW; omega
  obtain ⟨hd, hhd⟩ : ∃ hd, headB (lastW W + 1) kept st = hd := ⟨_, rfl⟩
  obtain ⟨nm, hnm⟩ : ∃ nm, tx (segI (beginN S)) = nm := ⟨_, rfl⟩
  have hns : nm.size ≤ maxLen := by rw [← hnm]; exact segI_size _
  have khd := fun w G => head_is (lastW W + 1) kept st hd w hb1 hst G (Lib.hid hhd)
  obtain ⟨lw, hlw⟩ : ∃ lw, lastW W = lw := ⟨_, rfl⟩
  have HLW := Lib.hid hlw
  rw [hlw] at khd hb1
  have hlww : IntKind.i64.wrap (lw + 1) = lw + 1 := by rw [IntKind.wrap_i64]; omega
  have HBW := Lib.hid (show ∀ q, beginW S W kept st q = (if nm.size = 0 ∨ hd.size = 0 then (11, S, W)
    else if erB S nm hd q 0 ≠ 0 then failB (stB S nm hd q 1) W (erB S nm hd q 0) nm
    else if erB S nm hd q 1 ≠ 0 then failB (stB S nm hd q 2) W (erB S nm hd q 1) nm
    else if erB S nm hd q 2 ≠ 0 then failB (stB S nm hd q 3) W (erB S nm hd q 2) nm
    else if erB S nm hd q 3 ≠ 0 then failB (stB S nm hd q 4) W (erB S nm hd q 3) nm
    else (0, stB S nm hd q 4, { W with sg := beginN S })) from fun q => by unfold beginW; rw [hnm, hhd])
  have hbn : beginN S = match (numsS S).getLast? with | some m => (m : Int) + 1 | none => 1 := rfl
  have HBN := Lib.hid hbn
  have hbn1 : 1 ≤ beginN S ∧ beginN S ≤ 100000000 := by
    unfold beginN
    split
    · rename_i m hm
      have := numsS_last hm
      omega
    · omega
  obtain ⟨bn, hbq⟩ : ∃ bn, beginN S = bn := ⟨_, rfl⟩
  rw [hbq] at hbn1 hnm
  have ksg := fun w G => segment_is bn nm w (by omega) (by omega) G (Lib.hid hnm)
  have HBQ := Lib.hid hbq
  have hhs : hd.size ≤ 1099511627776 := by
    rw [← hhd]
    unfold headB
    split
    · rename_i hr
      have hin := rightB_in hr
      rw [tx_size, fr_len]
      have q := bodyH_len (lastW W + 1) kept st hin.2 hst
      have q2 := enc_len10 (bodyH (lastW W + 1) kept st).length (by omega)
      omega
    · show 0 ≤ _; omega
  clear h hf hchg hp3 hbx h1 hhd hnm hlw hbn hbq
  go_enter Tryz.func52, Tryz.ntmps52
  go_upto_if 22 with (go_at_call 67; (with_reducible refine kn.mono ?_); rintro _ w1 ⟨vn, rfl, hI, hB1⟩; (obtain ⟨an, cn, rfl⟩ := hI.slice); (have HI1 := Lib.hid hI); (have HB1 := Lib.hid hB1); clear hI hB1 kn)
  obtain ⟨n, hn⟩ : ∃ n, (intsN (numsS S)).length = n := ⟨_, rfl⟩
  have hn2 : (numsS S).length = n := by rw [← hn]; unfold intsN; rw [List.length_map]
  simp only [hn]
  go_cut [7] from 15 (fun v7 W7 => v7 = .int .i64 bn ∧ W7 = w1)
  case first =>
    by_cases hn0 : n = 0
    · subst hn0
      have hbz : bn = 1 := by
        rw [← HBQ.out, HBN.out, List.eq_nil_of_length_eq_zero hn2]; rfl
      subst hbz
      go_wp2_with fail
      go_meet
      case rel => exact ⟨rfl, rfl⟩
    · have hn1 : (0 : Int) < (n : Int) := by omega
      obtain ⟨gn, rfl, -, hgn, hcn⟩ := HI1.out.cell (by omega)
      have hcl := hcn (n - 1) (by omega)
      have hnw : IntKind.i64.wrap ((n : Int) - 1) = ((n - 1 : Nat) : Int) := by
        have h1 := numsS_le S
        have h2 := H.out.at_.dir.whole.sane.len
        rw [IntKind.wrap_i64]; omega
      obtain ⟨k, hk⟩ : ∃ k, n - 1 = k := ⟨_, rfl⟩
      have hkn : (k : Int) < (n : Int) := by omega
      have hlast : (numsS S).getLast? = some ((numsS S)[k]'(by omega)) := by
        rw [List.getLast?_eq_getElem?, List.getElem?_eq_getElem (by omega)]
        congr 1
        simp only [hn2, hk]
      have hxi : (intsN (numsS S))[k]'(by omega) = (((numsS S)[k]'(by omega) : Nat) : Int) := by unfold intsN; rw [List.getElem_map]
      simp only [hk] at hcl
      rw [hxi] at hcl
      rw [hk] at hnw
      obtain ⟨m, hm⟩ : ∃ m, (numsS S)[k]'(by omega) = m := ⟨_, rfl⟩
      rw [hm] at hcl hlast
      have hmb := numsS_last hlast
      have hbz : (m : Int) + 1 = bn := by rw [← HBQ.out, HBN.out, hlast]
      have hmw : IntKind.i64.wrap ((m : Int) + 1) = bn := by rw [IntKind.wrap_i64]; omega
      clear hcn hk hlast hxi hm hbz
      go_wp2_with fail
      go_meet
      case rel => exact ⟨rfl, rfl⟩
  case rest =>
    obtain ⟨rfl, hwc⟩ := hcut
    rw [hwc]
    clear hwc wc hn hn2 HI1
    obtain ⟨w2, hw2⟩ : ∃ x, x = w1 := ⟨_, rfl⟩
    subst hw2
    have HL2 := Lib.hid (HL1.out.below HB1.out)
    have HW2 := Lib.hid (WWent.below H.out.at_ (bel_next (bel_al w (.cells #[.pointer (some ⟨a, 0, none⟩)] 33)) HB1.out))
    have hx3 := (HB1.out.block p3 (some_lt HBX.out)).trans HBX.out
    have HX3 := Lib.hid hx3
    have HP3 := Lib.hid (And.intro (cell_of (j := 0) hx3) (some_lt hx3))
    have HGL := Lib.hid (fun W (k : Below w2.heap.size w2 W) => (HL2.out.below k).glob)
    clear hx3 c0
    simp only [HP0.out]
    go_upto_region 5 with fail
    go_cut [9, 10] from 15 (fun v9 v10 W5 => ∃ p9 p10, v9 = .pointer (some ⟨p9, 0, none⟩) ∧ v10 = .pointer (some ⟨p10, 0, none⟩) ∧ Below w2.heap.size w2 W5 ∧ W5.heap[p9]? = some (.cells #[.string nm] 9) ∧ W5.heap[p10]? = some (.cells #[.string hd] 9) ∧ w2.heap.size ≤ p9 ∧ w2.heap.size ≤ p10)
    case first => as_aux_lemma =>
      refine wp_region_held_drew (S := (fun W => Below w2.heap.size w2 W)) (by kernel_rfl) (Below.refl _ _).drew (fun hHeld => ?_)
      obtain ⟨u, hu⟩ : ∃ x, w2.drew = x := ⟨_, rfl⟩
      rw [hu] at hHeld ⊢
      clear hu
      refine wpAnyH_take (i := 0) (oi := ?r1o) (v := ?r1v) ?r1h (by kernel_rfl) (by kernel_rfl) (by kernel_rfl) ?r1q ?r1y hHeld ?r1r
      case r1h => (simp only [List.getElem?_toArray, List.getElem?_cons_zero]; rfl)
      case r1q => exact fun _ _ _ h => h
      case r1y => (refine Or.inl ⟨by first | kernel_rfl | rfl, ?_⟩; intro w hSw; (try dsimp only at hSw); have z3 := (hSw.cell (p := ⟨p3, 0, none⟩) HP3.out.2).trans HP3.out.1; go_simp <;> (try with_reducible rfl))
      try simp only [Act.put, List.setIfInBounds_toArray, List.set_cons_zero, List.set_cons_succ]
      refine wpAnyH_take (i := 2) (oi := ?r2o) (v := ?r2v) ?r2h (by kernel_rfl) (by kernel_rfl) (by kernel_rfl) ?r2q ?r2y hHeld ?r2r
      case r2h => (simp only [List.getElem?_toArray, List.getElem?_cons_succ, List.getElem?_cons_zero]; rfl)
      case r2q => exact fun _ _ _ h => h
      case r2y => (refine Or.inl ⟨by first | kernel_rfl | rfl, ?_⟩; intro w hSw; (try dsimp only at hSw); have z3 := (hSw.cell (p := ⟨p3, 0, none⟩) HP3.out.2).trans HP3.out.1; go_simp <;> (try with_reducible rfl))
      try simp only [Act.put, List.setIfInBounds_toArray, List.set_cons_zero, List.set_cons_succ]
      refine wpAnyH_take (i := 5) (oi := ?r3o) (v := ?r3v) ?r3h (by kernel_rfl) (by kernel_rfl) (by kernel_rfl) ?r3q ?r3y hHeld ?r3r
      case r3h => (simp only [List.getElem?_toArray, List.getElem?_cons_succ, List.getElem?_cons_zero]; rfl)
      case r3q => exact fun _ _ _ h => h
      case r3y => (refine Or.inl ⟨by first | kernel_rfl | rfl, ?_⟩; intro w hSw; (try dsimp only at hSw); have z3 := (hSw.cell (p := ⟨p3, 0, none⟩) HP3.out.2).trans HP3.out.1; go_simp <;> (try with_reducible rfl))
      try simp only [Act.put, List.setIfInBounds_toArray, List.set_cons_zero, List.set_cons_succ]
      refine wpAnyH_take (i := 6) (oi := ?r4o) (v := ?r4v) ?r4h (by kernel_rfl) (by kernel_rfl) (by kernel_rfl) ?r4q ?r4y hHeld ?r4r
      case r4h => (simp only [List.getElem?_toArray, List.getElem?_cons_succ, List.getElem?_cons_zero]; rfl)
      case r4q => exact fun _ _ _ h => h
      case r4y => (refine Or.inl ⟨by first | kernel_rfl | rfl, ?_⟩; intro w hSw; (try dsimp only at hSw); have z3 := (hSw.cell (p := ⟨p3, 0, none⟩) HP3.out.2).trans HP3.out.1; go_simp <;> (try with_reducible rfl))
      try simp only [Act.put, List.setIfInBounds_toArray, List.set_cons_zero, List.set_cons_succ]
      refine wpAnyH_ready (rs := [1, 8, 9]) (by kernel_rfl) (by simp) ?_
      refine (AllReadyH.cons rfl (fun K hK => ?_) (AllReadyH.cons rfl (fun K hK => ?_) (AllReadyH.cons rfl (fun K hK => ?_) AllReadyH.nil)))
      ·
        go_simp
        (go_at_call 13; (with_reducible refine (ksg _ (HGL.out _ hHeld)).mono ?_); rintro _ u ⟨rfl, hBu⟩)
        have hBu2 := bel_next hHeld hBu
        refine hK.out _ _ hBu2 (fun hHeld => ?_)
        clear hK K
        try simp only [Act.put, List.setIfInBounds_toArray, List.set_cons_zero, List.set_cons_succ]
        clear hBu hBu2
        refine wpAnyH_ready (rs := [3, 8, 9]) (by kernel_rfl) (by simp) ?_
        refine (AllReadyH.cons rfl (fun K hK => ?_) (AllReadyH.cons rfl (fun K hK => ?_) (AllReadyH.cons rfl (fun K hK => ?_) AllReadyH.nil)))
        ·
          go_simp
          (go_at_call 21; (with_reducible refine (last_is (HL2.out.below hHeld).at_ HFN.out).mono ?_); rintro _ u ⟨rfl, hBu⟩; rw [HLW.out])
          have hBu2 := bel_next hHeld hBu
          refine hK.out _ _ hBu2 (fun hHeld => ?_)
          clear hK K
          try simp only [Act.put, List.setIfInBounds_toArray, List.set_cons_zero, List.set_cons_succ]
          clear hBu hBu2
          refine wpAnyH_take (i := 4) (oi := ?r5o) (v := ?r5v) ?r5h (by kernel_rfl) (by kernel_rfl) (by kernel_rfl) ?r5q ?r5y hHeld ?r5r
          case r5h => (simp only [List.getElem?_toArray, List.getElem?_cons_succ, List.getElem?_cons_zero]; rfl)
          case r5q => exact fun _ _ _ h => h
          case r5y => (refine Or.inl ⟨by first | kernel_rfl | rfl, ?_⟩; intro w hSw; (try dsimp only at hSw); have z3 := (hSw.cell (p := ⟨p3, 0, none⟩) HP3.out.2).trans HP3.out.1; go_simp <;> (try with_reducible rfl))
          try simp only [Act.put, List.setIfInBounds_toArray, List.set_cons_zero, List.set_cons_succ]
          refine wpAnyH_ready (rs := [7, 8, 9]) (by kernel_rfl) (by simp) ?_
          refine (AllReadyH.cons rfl (fun K hK => ?_) (AllReadyH.cons rfl (fun K hK => ?_) (AllReadyH.cons rfl (fun K hK => ?_) AllReadyH.nil)))
          ·
            go_simp
            (go_at_call 15; (with_reducible refine (khd _ (HGL.out _ hHeld)).mono ?_); rintro _ u ⟨rfl, hBu⟩)
            have hBu2 := bel_next hHeld hBu
            refine hK.out _ _ hBu2 (fun hHeld => ?_)
            clear hK K
            try simp only [Act.put, List.setIfInBounds_toArray, List.set_cons_zero, List.set_cons_succ]
            clear hBu hBu2
            refine wpAnyH_ready (rs := [8, 9]) (by kernel_rfl) (by simp) ?_
            refine (AllReadyH.cons rfl (fun K hK => ?_) (AllReadyH.cons rfl (fun K hK => ?_) AllReadyH.nil))
            ·
              go_simp
              refine hK.out _ _ (bel_next hHeld (bel_al _ _)) (fun hHeld2 => ?_)
              clear hK K
              try simp only [Act.put, List.setIfInBounds_toArray, List.set_cons_zero, List.set_cons_succ]
              obtain ⟨u0, hu0⟩ : ∃ x, x = u := ⟨_, rfl⟩
              rw [← hu0] at hHeld hHeld2  ⊢
              have HQ9 := Lib.hid (heap_alloc_new u0 (.cells #[.string ⟨#[]⟩] 9))
              have HG9 := Lib.hid hHeld.size
              have HO9 := Lib.hid (heap_alloc_new u0 (.cells #[.string ⟨#[]⟩] 9))
              obtain ⟨p9, hp9⟩ : ∃ x, u0.heap.size = x := ⟨_, rfl⟩
              rw [hp9] at HQ9 HG9 HO9 
              simp only [hp9]
              obtain ⟨u, hu⟩ : ∃ x, u0.alloc (.cells #[.string ⟨#[]⟩] 9) = x := ⟨_, rfl⟩
              rw [hu] at hHeld2 HQ9 HO9  ⊢
              clear hHeld hu hu0 hp9
              have hHeld := hHeld2
              clear hHeld2
              refine wpAnyH_ready (rs := [9]) (by kernel_rfl) (by simp) ?_
              refine (AllReadyH.cons rfl (fun K hK => ?_) AllReadyH.nil)
              go_simp
              refine hK.out _ _ (bel_next hHeld (bel_al _ _)) (fun hHeld2 => ?_)
              clear hK K
              try simp only [Act.put, List.setIfInBounds_toArray, List.set_cons_zero, List.set_cons_succ]
              obtain ⟨u0, hu0⟩ : ∃ x, x = u := ⟨_, rfl⟩
              rw [← hu0] at hHeld hHeld2 HQ9 ⊢
              have HNE := Lib.hid (show u0.heap.size ≠ p9 from fun e => by have := some_lt HQ9.out; omega)
              have HQ10 := Lib.hid (heap_alloc_new u0 (.cells #[.string ⟨#[]⟩] 9))
              have HQ9 := Lib.hid (((bel_al u0 (.cells #[.string ⟨#[]⟩] 9)).block _ (some_lt HQ9.out)).trans HQ9.out)
              have HG10 := Lib.hid hHeld.size
              have HO10 := Lib.hid (heap_alloc_new u0 (.cells #[.string ⟨#[]⟩] 9))
              obtain ⟨p10, hp10⟩ : ∃ x, u0.heap.size = x := ⟨_, rfl⟩
              rw [hp10] at HQ10 HG10 HO10 HNE
              simp only [hp10]
              obtain ⟨u, hu⟩ : ∃ x, u0.alloc (.cells #[.string ⟨#[]⟩] 9) = x := ⟨_, rfl⟩
              rw [hu] at hHeld2 HQ10 HO10 HQ9 ⊢
              clear hHeld hu hu0 hp10
              have hHeld := hHeld2
              clear hHeld2
              refine wpAnyH_ready (rs := [10]) (by kernel_rfl) (by simp) ?_
              refine (AllReadyH.cons rfl (fun K hK => ?_) AllReadyH.nil)
              (have y0 : u.cell? ⟨p9, 0, none⟩ = some (.string ⟨#[]⟩) := cell_of HQ9.out); (have yf := frozen_of (j := 0) HQ9.out); go_simp
              refine hK.out _ _ (Below.setCell hHeld HG9.out _) (fun hHeld => ?_)
              clear hK K y0 yf
              try simp only [Act.put]
              have HQ9 := Lib.hid (heap_setCell_same _ p9 0 _ _ (.string nm) HQ9.out)
              have HQ10 := Lib.hid ((heap_setCell_other _ ⟨p9, 0, none⟩ p10 (.string nm) (by first | exact HNE.out | exact HNE.out.symm)).trans HQ10.out)
              obtain ⟨u, hu⟩ : ∃ x, (u).setCell ⟨p9, 0, none⟩ (.string nm) = x := ⟨_, rfl⟩
              rw [hu] at hHeld HQ9 HQ10 ⊢
              clear hu
              refine wpAnyH_ready (rs := [11]) (by kernel_rfl) (by simp) ?_
              refine (AllReadyH.cons rfl (fun K hK => ?_) AllReadyH.nil)
              (have y0 : u.cell? ⟨p10, 0, none⟩ = some (.string ⟨#[]⟩) := cell_of HQ10.out); (have yf := frozen_of (j := 0) HQ10.out); go_simp
              refine hK.out _ _ (Below.setCell hHeld HG10.out _) (fun hHeld => ?_)
              clear hK K y0 yf
              try simp only [Act.put]
              have HQ10 := Lib.hid (heap_setCell_same _ p10 0 _ _ (.string hd) HQ10.out)
              have HQ9 := Lib.hid ((heap_setCell_other _ ⟨p10, 0, none⟩ p9 (.string hd) (by first | exact HNE.out | exact HNE.out.symm)).trans HQ9.out)
              obtain ⟨u, hu⟩ : ∃ x, (u).setCell ⟨p10, 0, none⟩ (.string hd) = x := ⟨_, rfl⟩
              rw [hu] at hHeld HQ9 HQ10 ⊢
              clear hu
              refine wpAnyH_done (by kernel_rfl) ?_ _
              go_wp2
              go_meet
              case rel => exact ⟨p9, p10, rfl, rfl, hHeld, HQ9.out, HQ10.out, HG9.out, HG10.out⟩
            ·
              go_simp
              refine hK.out _ _ (bel_next hHeld (bel_al _ _)) (fun hHeld2 => ?_)
              clear hK K
              try simp only [Act.put, List.setIfInBounds_toArray, List.set_cons_zero, List.set_cons_succ]
              obtain ⟨u0, hu0⟩ : ∃ x, x = u := ⟨_, rfl⟩
              rw [← hu0] at hHeld hHeld2  ⊢
              have HQ10 := Lib.hid (heap_alloc_new u0 (.cells #[.string ⟨#[]⟩] 9))
              have HG10 := Lib.hid hHeld.size
              have HO10 := Lib.hid (heap_alloc_new u0 (.cells #[.string ⟨#[]⟩] 9))
              obtain ⟨p10, hp10⟩ : ∃ x, u0.heap.size = x := ⟨_, rfl⟩
              rw [hp10] at HQ10 HG10 HO10 
              simp only [hp10]
              obtain ⟨u, hu⟩ : ∃ x, u0.alloc (.cells #[.string ⟨#[]⟩] 9) = x := ⟨_, rfl⟩
              rw [hu] at hHeld2 HQ10 HO10  ⊢
              clear hHeld hu hu0 hp10
              have hHeld := hHeld2
              clear hHeld2
              refine wpAnyH_ready (rs := [8]) (by kernel_rfl) (by simp) ?_
              refine (AllReadyH.cons rfl (fun K hK => ?_) AllReadyH.nil)
              go_simp
              refine hK.out _ _ (bel_next hHeld (bel_al _ _)) (fun hHeld2 => ?_)
              clear hK K
              try simp only [Act.put, List.setIfInBounds_toArray, List.set_cons_zero, List.set_cons_succ]
              obtain ⟨u0, hu0⟩ : ∃ x, x = u := ⟨_, rfl⟩
              rw [← hu0] at hHeld hHeld2 HQ10 ⊢
              have HNE := Lib.hid (show u0.heap.size ≠ p10 from fun e => by have := some_lt HQ10.out; omega)
              have HQ9 := Lib.hid (heap_alloc_new u0 (.cells #[.string ⟨#[]⟩] 9))
              have HQ10 := Lib.hid (((bel_al u0 (.cells #[.string ⟨#[]⟩] 9)).block _ (some_lt HQ10.out)).trans HQ10.out)
              have HG9 := Lib.hid hHeld.size
              have HO9 := Lib.hid (heap_alloc_new u0 (.cells #[.string ⟨#[]⟩] 9))
              obtain ⟨p9, hp9⟩ : ∃ x, u0.heap.size = x := ⟨_, rfl⟩
              rw [hp9] at HQ9 HG9 HO9 HNE
              simp only [hp9]
              obtain ⟨u, hu⟩ : ∃ x, u0.alloc (.cells #[.string ⟨#[]⟩] 9) = x := ⟨_, rfl⟩
              rw [hu] at hHeld2 HQ9 HO9 HQ10 ⊢
              clear hHeld hu hu0 hp9
              have hHeld := hHeld2
              clear hHeld2
              refine wpAnyH_ready (rs := [10]) (by kernel_rfl) (by simp) ?_
              refine (AllReadyH.cons rfl (fun K hK => ?_) AllReadyH.nil)
              (have y0 : u.cell? ⟨p9, 0, none⟩ = some (.string ⟨#[]⟩) := cell_of HQ9.out); (have yf := frozen_of (j := 0) HQ9.out); go_simp
              refine hK.out _ _ (Below.setCell hHeld HG9.out _) (fun hHeld => ?_)
              clear hK K y0 yf
              try simp only [Act.put]
              have HQ9 := Lib.hid (heap_setCell_same _ p9 0 _ _ (.string nm) HQ9.out)
              have HQ10 := Lib.hid ((heap_setCell_other _ ⟨p9, 0, none⟩ p10 (.string nm) (by first | exact HNE.out | exact HNE.out.symm)).trans HQ10.out)
              obtain ⟨u, hu⟩ : ∃ x, (u).setCell ⟨p9, 0, none⟩ (.string nm) = x := ⟨_, rfl⟩
              rw [hu] at hHeld HQ9 HQ10 ⊢
              clear hu
              refine wpAnyH_ready (rs := [11]) (by kernel_rfl) (by simp) ?_
              refine (AllReadyH.cons rfl (fun K hK => ?_) AllReadyH.nil)
              (have y0 : u.cell? ⟨p10, 0, none⟩ = some (.string ⟨#[]⟩) := cell_of HQ10.out); (have yf := frozen_of (j := 0) HQ10.out); go_simp
              refine hK.out _ _ (Below.setCell hHeld HG10.out _) (fun hHeld => ?_)
              clear hK K y0 yf
              try simp only [Act.put]
              have HQ10 := Lib.hid (heap_setCell_same _ p10 0 _ _ (.string hd) HQ10.out)
              have HQ9 := Lib.hid ((heap_setCell_other _ ⟨p10, 0, none⟩ p9 (.string hd) (by first | exact HNE.out | exact HNE.out.symm)).trans HQ9.out)
              obtain ⟨u, hu⟩ : ∃ x, (u).setCell ⟨p10, 0, none⟩ (.string hd) = x := ⟨_, rfl⟩
              rw [hu] at hHeld HQ9 HQ10 ⊢
              clear hu
              refine wpAnyH_done (by kernel_rfl) ?_ _
              go_wp2
              go_meet
              case rel => exact ⟨p9, p10, rfl, rfl, hHeld, HQ9.out, HQ10.out, HG9.out, HG10.out⟩
          ·
            go_simp
            refine hK.out _ _ (bel_next hHeld (bel_al _ _)) (fun hHeld2 => ?_)
            clear hK K
            try simp only [Act.put, List.setIfInBounds_toArray, List.set_cons_zero, List.set_cons_succ]
            obtain ⟨u0, hu0⟩ : ∃ x, x = u := ⟨_, rfl⟩
            rw [← hu0] at hHeld hHeld2  ⊢
            have HQ9 := Lib.hid (heap_alloc_new u0 (.cells #[.string ⟨#[]⟩] 9))
            have HG9 := Lib.hid hHeld.size
            have HO9 := Lib.hid (heap_alloc_new u0 (.cells #[.string ⟨#[]⟩] 9))
            obtain ⟨p9, hp9⟩ : ∃ x, u0.heap.size = x := ⟨_, rfl⟩
            rw [hp9] at HQ9 HG9 HO9 
            simp only [hp9]
            obtain ⟨u, hu⟩ : ∃ x, u0.alloc (.cells #[.string ⟨#[]⟩] 9) = x := ⟨_, rfl⟩
            rw [hu] at hHeld2 HQ9 HO9  ⊢
            clear hHeld hu hu0 hp9
            have hHeld := hHeld2
            clear hHeld2
            refine wpAnyH_ready (rs := [7, 9]) (by kernel_rfl) (by simp) ?_
            refine (AllReadyH.cons rfl (fun K hK => ?_) (AllReadyH.cons rfl (fun K hK => ?_) AllReadyH.nil))
            ·
              go_simp
              (go_at_call 15; (with_reducible refine (khd _ (HGL.out _ hHeld)).mono ?_); rintro _ u ⟨rfl, hBu⟩)
              have hBu2 := bel_next hHeld hBu
              refine hK.out _ _ hBu2 (fun hHeld => ?_)
              clear hK K
              try simp only [Act.put, List.setIfInBounds_toArray, List.set_cons_zero, List.set_cons_succ]
              have HQ9 := Lib.hid ((hBu.block _ (some_lt HQ9.out)).trans HQ9.out)
              clear hBu hBu2
              refine wpAnyH_ready (rs := [9]) (by kernel_rfl) (by simp) ?_
              refine (AllReadyH.cons rfl (fun K hK => ?_) AllReadyH.nil)
              go_simp
              refine hK.out _ _ (bel_next hHeld (bel_al _ _)) (fun hHeld2 => ?_)
              clear hK K
              try simp only [Act.put, List.setIfInBounds_toArray, List.set_cons_zero, List.set_cons_succ]
              obtain ⟨u0, hu0⟩ : ∃ x, x = u := ⟨_, rfl⟩
              rw [← hu0] at hHeld hHeld2 HQ9 ⊢
              have HNE := Lib.hid (show u0.heap.size ≠ p9 from fun e => by have := some_lt HQ9.out; omega)
              have HQ10 := Lib.hid (heap_alloc_new u0 (.cells #[.string ⟨#[]⟩] 9))
              have HQ9 := Lib.hid (((bel_al u0 (.cells #[.string ⟨#[]⟩] 9)).block _ (some_lt HQ9.out)).trans HQ9.out)
              have HG10 := Lib.hid hHeld.size
              have HO10 := Lib.hid (heap_alloc_new u0 (.cells #[.string ⟨#[]⟩] 9))
              obtain ⟨p10, hp10⟩ : ∃ x, u0.heap.size = x := ⟨_, rfl⟩
              rw [hp10] at HQ10 HG10 HO10 HNE
              simp only [hp10]
              obtain ⟨u, hu⟩ : ∃ x, u0.alloc (.cells #[.string ⟨#[]⟩] 9) = x := ⟨_, rfl⟩
              rw [hu] at hHeld2 HQ10 HO10 HQ9 ⊢
              clear hHeld hu hu0 hp10
              have hHeld := hHeld2
              clear hHeld2
              refine wpAnyH_ready (rs := [10]) (by kernel_rfl) (by simp) ?_
              refine (AllReadyH.cons rfl (fun K hK => ?_) AllReadyH.nil)
              (have y0 : u.cell? ⟨p9, 0, none⟩ = some (.string ⟨#[]⟩) := cell_of HQ9.out); (have yf := frozen_of (j := 0) HQ9.out); go_simp
              refine hK.out _ _ (Below.setCell hHeld HG9.out _) (fun hHeld => ?_)
              clear hK K y0 yf
              try simp only [Act.put]
              have HQ9 := Lib.hid (heap_setCell_same _ p9 0 _ _ (.string nm) HQ9.out)
              have HQ10 := Lib.hid ((heap_setCell_other _ ⟨p9, 0, none⟩ p10 (.string nm) (by first | exact HNE.out | exact HNE.out.symm)).trans HQ10.out)
              obtain ⟨u, hu⟩ : ∃ x, (u).setCell ⟨p9, 0, none⟩ (.string nm) = x := ⟨_, rfl⟩
              rw [hu] at hHeld HQ9 HQ10 ⊢
              clear hu
              refine wpAnyH_ready (rs := [11]) (by kernel_rfl) (by simp) ?_
              refine (AllReadyH.cons rfl (fun K hK => ?_) AllReadyH.nil)
              (have y0 : u.cell? ⟨p10, 0, none⟩ = some (.string ⟨#[]⟩) := cell_of HQ10.out); (have yf := frozen_of (j := 0) HQ10.out); go_simp
              refine hK.out _ _ (Below.setCell hHeld HG10.out _) (fun hHeld => ?_)
              clear hK K y0 yf
              try simp only [Act.put]
              have HQ10 := Lib.hid (heap_setCell_same _ p10 0 _ _ (.string hd) HQ10.out)
              have HQ9 := Lib.hid ((heap_setCell_other _ ⟨p10, 0, none⟩ p9 (.string hd) (by first | exact HNE.out | exact HNE.out.symm)).trans HQ9.out)
              obtain ⟨u, hu⟩ : ∃ x, (u).setCell ⟨p10, 0, none⟩ (.string hd) = x := ⟨_, rfl⟩
              rw [hu] at hHeld HQ9 HQ10 ⊢
              clear hu
              refine wpAnyH_done (by kernel_rfl) ?_ _
              go_wp2
              go_meet
              case rel => exact ⟨p9, p10, rfl, rfl, hHeld, HQ9.out, HQ10.out, HG9.out, HG10.out⟩
            ·
              go_simp
              refine hK.out _ _ (bel_next hHeld (bel_al _ _)) (fun hHeld2 => ?_)
              clear hK K
              try simp only [Act.put, List.setIfInBounds_toArray, List.set_cons_zero, List.set_cons_succ]
              obtain ⟨u0, hu0⟩ : ∃ x, x = u := ⟨_, rfl⟩
              rw [← hu0] at hHeld hHeld2 HQ9 ⊢
              have HNE := Lib.hid (show u0.heap.size ≠ p9 from fun e => by have := some_lt HQ9.out; omega)
              have HQ10 := Lib.hid (heap_alloc_new u0 (.cells #[.string ⟨#[]⟩] 9))
              have HQ9 := Lib.hid (((bel_al u0 (.cells #[.string ⟨#[]⟩] 9)).block _ (some_lt HQ9.out)).trans HQ9.out)
              have HG10 := Lib.hid hHeld.size
              have HO10 := Lib.hid (heap_alloc_new u0 (.cells #[.string ⟨#[]⟩] 9))
              obtain ⟨p10, hp10⟩ : ∃ x, u0.heap.size = x := ⟨_, rfl⟩
              rw [hp10] at HQ10 HG10 HO10 HNE
              simp only [hp10]
              obtain ⟨u, hu⟩ : ∃ x, u0.alloc (.cells #[.string ⟨#[]⟩] 9) = x := ⟨_, rfl⟩
              rw [hu] at hHeld2 HQ10 HO10 HQ9 ⊢
              clear hHeld hu hu0 hp10
              have hHeld := hHeld2
              clear hHeld2
              refine wpAnyH_ready (rs := [7]) (by kernel_rfl) (by simp) ?_
              refine (AllReadyH.cons rfl (fun K hK => ?_) AllReadyH.nil)
              go_simp
              (go_at_call 15; (with_reducible refine (khd _ (HGL.out _ hHeld)).mono ?_); rintro _ u ⟨rfl, hBu⟩)
              have hBu2 := bel_next hHeld hBu
              refine hK.out _ _ hBu2 (fun hHeld => ?_)
              clear hK K
              try simp only [Act.put, List.setIfInBounds_toArray, List.set_cons_zero, List.set_cons_succ]
              have HQ9 := Lib.hid ((hBu.block _ (some_lt HQ9.out)).trans HQ9.out)
              have HQ10 := Lib.hid ((hBu.block _ (some_lt HQ10.out)).trans HQ10.out)
              clear hBu hBu2
              refine wpAnyH_ready (rs := [10]) (by kernel_rfl) (by simp) ?_
              refine (AllReadyH.cons rfl (fun K hK => ?_) AllReadyH.nil)
              (have y0 : u.cell? ⟨p9, 0, none⟩ = some (.string ⟨#[]⟩) := cell_of HQ9.out); (have yf := frozen_of (j := 0) HQ9.out); go_simp
              refine hK.out _ _ (Below.setCell hHeld HG9.out _) (fun hHeld => ?_)
              clear hK K y0 yf
              try simp only [Act.put]
              have HQ9 := Lib.hid (heap_setCell_same _ p9 0 _ _ (.string nm) HQ9.out)
              have HQ10 := Lib.hid ((heap_setCell_other _ ⟨p9, 0, none⟩ p10 (.string nm) (by first | exact HNE.out | exact HNE.out.symm)).trans HQ10.out)
              obtain ⟨u, hu⟩ : ∃ x, (u).setCell ⟨p9, 0, none⟩ (.string nm) = x := ⟨_, rfl⟩
              rw [hu] at hHeld HQ9 HQ10 ⊢
              clear hu
              refine wpAnyH_ready (rs := [11]) (by kernel_rfl) (by simp) ?_
              refine (AllReadyH.cons rfl (fun K hK => ?_) AllReadyH.nil)
              (have y0 : u.cell? ⟨p10, 0, none⟩ = some (.string ⟨#[]⟩) := cell_of HQ10.out); (have yf := frozen_of (j := 0) HQ10.out); go_simp
              refine hK.out _ _ (Below.setCell hHeld HG10.out _) (fun hHeld => ?_)
              clear hK K y0 yf
              try simp only [Act.put]
              have HQ10 := Lib.hid (heap_setCell_same _ p10 0 _ _ (.string hd) HQ10.out)
              have HQ9 := Lib.hid ((heap_setCell_other _ ⟨p10, 0, none⟩ p9 (.string hd) (by first | exact HNE.out | exact HNE.out.symm)).trans HQ9.out)
              obtain ⟨u, hu⟩ : ∃ x, (u).setCell ⟨p10, 0, none⟩ (.string hd) = x := ⟨_, rfl⟩
              rw [hu] at hHeld HQ9 HQ10 ⊢
              clear hu
              refine wpAnyH_done (by kernel_rfl) ?_ _
              go_wp2
              go_meet
              case rel => exact ⟨p9, p10, rfl, rfl, hHeld, HQ9.out, HQ10.out, HG9.out, HG10.out⟩
          ·
            go_simp
            refine hK.out _ _ (bel_next hHeld (bel_al _ _)) (fun hHeld2 => ?_)
            clear hK K
            try simp only [Act.put, List.setIfInBounds_toArray, List.set_cons_zero, List.set_cons_succ]
            obtain ⟨u0, hu0⟩ : ∃ x, x = u := ⟨_, rfl⟩
            rw [← hu0] at hHeld hHeld2  ⊢
            have HQ10 := Lib.hid (heap_alloc_new u0 (.cells #[.string ⟨#[]⟩] 9))
            have HG10 := Lib.hid hHeld.size
            have HO10 := Lib.hid (heap_alloc_new u0 (.cells #[.string ⟨#[]⟩] 9))
            obtain ⟨p10, hp10⟩ : ∃ x, u0.heap.size = x := ⟨_, rfl⟩
            rw [hp10] at HQ10 HG10 HO10 
            simp only [hp10]
            obtain ⟨u, hu⟩ : ∃ x, u0.alloc (.cells #[.string ⟨#[]⟩] 9) = x := ⟨_, rfl⟩
            rw [hu] at hHeld2 HQ10 HO10  ⊢
            clear hHeld hu hu0 hp10
            have hHeld := hHeld2
            clear hHeld2
            refine wpAnyH_ready (rs := [7, 8]) (by kernel_rfl) (by simp) ?_
            refine (AllReadyH.cons rfl (fun K hK => ?_) (AllReadyH.cons rfl (fun K hK => ?_) AllReadyH.nil))
            ·
              go_simp
              (go_at_call 15; (with_reducible refine (khd _ (HGL.out _ hHeld)).mono ?_); rintro _ u ⟨rfl, hBu⟩)
              have hBu2 := bel_next hHeld hBu
              refine hK.out _ _ hBu2 (fun hHeld => ?_)
              clear hK K
              try simp only [Act.put, List.setIfInBounds_toArray, List.set_cons_zero, List.set_cons_succ]
              have HQ10 := Lib.hid ((hBu.block _ (some_lt HQ10.out)).trans HQ10.out)
              clear hBu hBu2
              refine wpAnyH_ready (rs := [8]) (by kernel_rfl) (by simp) ?_
              refine (AllReadyH.cons rfl (fun K hK => ?_) AllReadyH.nil)
              go_simp
              refine hK.out _ _ (bel_next hHeld (bel_al _ _)) (fun hHeld2 => ?_)
              clear hK K
              try simp only [Act.put, List.setIfInBounds_toArray, List.set_cons_zero, List.set_cons_succ]
              obtain ⟨u0, hu0⟩ : ∃ x, x = u := ⟨_, rfl⟩
              rw [← hu0] at hHeld hHeld2 HQ10 ⊢
              have HNE := Lib.hid (show u0.heap.size ≠ p10 from fun e => by have := some_lt HQ10.out; omega)
              have HQ9 := Lib.hid (heap_alloc_new u0 (.cells #[.string ⟨#[]⟩] 9))
              have HQ10 := Lib.hid (((bel_al u0 (.cells #[.string ⟨#[]⟩] 9)).block _ (some_lt HQ10.out)).trans HQ10.out)
              have HG9 := Lib.hid hHeld.size
              have HO9 := Lib.hid (heap_alloc_new u0 (.cells #[.string ⟨#[]⟩] 9))
              obtain ⟨p9, hp9⟩ : ∃ x, u0.heap.size = x := ⟨_, rfl⟩
              rw [hp9] at HQ9 HG9 HO9 HNE
              simp only [hp9]
              obtain ⟨u, hu⟩ : ∃ x, u0.alloc (.cells #[.string ⟨#[]⟩] 9) = x := ⟨_, rfl⟩
              rw [hu] at hHeld2 HQ9 HO9 HQ10 ⊢
              clear hHeld hu hu0 hp9
              have hHeld := hHeld2
              clear hHeld2
              refine wpAnyH_ready (rs := [10]) (by kernel_rfl) (by simp) ?_
              refine (AllReadyH.cons rfl (fun K hK => ?_) AllReadyH.nil)
              (have y0 : u.cell? ⟨p9, 0, none⟩ = some (.string ⟨#[]⟩) := cell_of HQ9.out); (have yf := frozen_of (j := 0) HQ9.out); go_simp
              refine hK.out _ _ (Below.setCell hHeld HG9.out _) (fun hHeld => ?_)
              clear hK K y0 yf
              try simp only [Act.put]
              have HQ9 := Lib.hid (heap_setCell_same _ p9 0 _ _ (.string nm) HQ9.out)
              have HQ10 := Lib.hid ((heap_setCell_other _ ⟨p9, 0, none⟩ p10 (.string nm) (by first | exact HNE.out | exact HNE.out.symm)).trans HQ10.out)
              obtain ⟨u, hu⟩ : ∃ x, (u).setCell ⟨p9, 0, none⟩ (.string nm) = x := ⟨_, rfl⟩
              rw [hu] at hHeld HQ9 HQ10 ⊢
              clear hu
              refine wpAnyH_ready (rs := [11]) (by kernel_rfl) (by simp) ?_
              refine (AllReadyH.cons rfl (fun K hK => ?_) AllReadyH.nil)
              (have y0 : u.cell? ⟨p10, 0, none⟩ = some (.string ⟨#[]⟩) := cell_of HQ10.out); (have yf := frozen_of (j := 0) HQ10.out); go_simp
              refine hK.out _ _ (Below.setCell hHeld HG10.out _) (fun hHeld => ?_)
              clear hK K y0 yf
              try simp only [Act.put]
              have HQ10 := Lib.hid (heap_setCell_same _ p10 0 _ _ (.string hd) HQ10.out)
              have HQ9 := Lib.hid ((heap_setCell_other _ ⟨p10, 0, none⟩ p9 (.string hd) (by first | exact HNE.out | exact HNE.out.symm)).trans HQ9.out)
              obtain ⟨u, hu⟩ : ∃ x, (u).setCell ⟨p10, 0, none⟩ (.string hd) = x := ⟨_, rfl⟩
              rw [hu] at hHeld HQ9 HQ10 ⊢
              clear hu
              refine wpAnyH_done (by kernel_rfl) ?_ _
              go_wp2
              go_meet
              case rel => exact ⟨p9, p10, rfl, rfl, hHeld, HQ9.out, HQ10.out, HG9.out, HG10.out⟩
            ·
              go_simp
              refine hK.out _ _ (bel_next hHeld (bel_al _ _)) (fun hHeld2 => ?_)
              clear hK K
              try simp only [Act.put, List.setIfInBounds_toArray, List.set_cons_zero, List.set_cons_succ]
              obtain ⟨u0, hu0⟩ : ∃ x, x = u := ⟨_, rfl⟩
              rw [← hu0] at hHeld hHeld2 HQ10 ⊢
              have HNE := Lib.hid (show u0.heap.size ≠ p10 from fun e => by have := some_lt HQ10.out; omega)
              have HQ9 := Lib.hid (heap_alloc_new u0 (.cells #[.string ⟨#[]⟩] 9))
              have HQ10 := Lib.hid (((bel_al u0 (.cells #[.string ⟨#[]⟩] 9)).block _ (some_lt HQ10.out)).trans HQ10.out)
              have HG9 := Lib.hid hHeld.size
              have HO9 := Lib.hid (heap_alloc_new u0 (.cells #[.string ⟨#[]⟩] 9))
              obtain ⟨p9, hp9⟩ : ∃ x, u0.heap.size = x := ⟨_, rfl⟩
              rw [hp9] at HQ9 HG9 HO9 HNE
              simp only [hp9]
              obtain ⟨u, hu⟩ : ∃ x, u0.alloc (.cells #[.string ⟨#[]⟩] 9) = x := ⟨_, rfl⟩
              rw [hu] at hHeld2 HQ9 HO9 HQ10 ⊢
              clear hHeld hu hu0 hp9
              have hHeld := hHeld2
              clear hHeld2
              refine wpAnyH_ready (rs := [7]) (by kernel_rfl) (by simp) ?_
              refine (AllReadyH.cons rfl (fun K hK => ?_) AllReadyH.nil)
              go_simp
              (go_at_call 15; (with_reducible refine (khd _ (HGL.out _ hHeld)).mono ?_); rintro _ u ⟨rfl, hBu⟩)
              have hBu2 := bel_next hHeld hBu
              refine hK.out _ _ hBu2 (fun hHeld => ?_)
              clear hK K
              try simp only [Act.put, List.setIfInBounds_toArray, List.set_cons_zero, List.set_cons_succ]
              have HQ9 := Lib.hid ((hBu.block _ (some_lt HQ9.out)).trans HQ9.out)
              have HQ10 := Lib.hid ((hBu.block _ (some_lt HQ10.out)).trans HQ10.out)
              clear hBu hBu2
              refine wpAnyH_ready (rs := [10]) (by kernel_rfl) (by simp) ?_
              refine (AllReadyH.cons rfl (fun K hK => ?_) AllReadyH.nil)
              (have y0 : u.cell? ⟨p9, 0, none⟩ = some (.string ⟨#[]⟩) := cell_of HQ9.out); (have yf := frozen_of (j := 0) HQ9.out); go_simp
              refine hK.out _ _ (Below.setCell hHeld HG9.out _) (fun hHeld => ?_)
              clear hK K y0 yf
              try simp only [Act.put]
              have HQ9 := Lib.hid (heap_setCell_same _ p9 0 _ _ (.string nm) HQ9.out)
              have HQ10 := Lib.hid ((heap_setCell_other _ ⟨p9, 0, none⟩ p10 (.string nm) (by first | exact HNE.out | exact HNE.out.symm)).trans HQ10.out)
              obtain ⟨u, hu⟩ : ∃ x, (u).setCell ⟨p9, 0, none⟩ (.string nm) = x := ⟨_, rfl⟩
              rw [hu] at hHeld HQ9 HQ10 ⊢
              clear hu
              refine wpAnyH_ready (rs := [11]) (by kernel_rfl) (by simp) ?_
              refine (AllReadyH.cons rfl (fun K hK => ?_) AllReadyH.nil)
              (have y0 : u.cell? ⟨p10, 0, none⟩ = some (.string ⟨#[]⟩) := cell_of HQ10.out); (have yf := frozen_of (j := 0) HQ10.out); go_simp
              refine hK.out _ _ (Below.setCell hHeld HG10.out _) (fun hHeld => ?_)
              clear hK K y0 yf
              try simp only [Act.put]
              have HQ10 := Lib.hid (heap_setCell_same _ p10 0 _ _ (.string hd) HQ10.out)
              have HQ9 := Lib.hid ((heap_setCell_other _ ⟨p10, 0, none⟩ p9 (.string hd) (by first | exact HNE.out | exact HNE.out.symm)).trans HQ9.out)
              obtain ⟨u, hu⟩ : ∃ x, (u).setCell ⟨p10, 0, none⟩ (.string hd) = x := ⟨_, rfl⟩
              rw [hu] at hHeld HQ9 HQ10 ⊢
              clear hu
              refine wpAnyH_done (by kernel_rfl) ?_ _
              go_wp2
              go_meet
              case rel => exact ⟨p9, p10, rfl, rfl, hHeld, HQ9.out, HQ10.out, HG9.out, HG10.out⟩
        ·
          go_simp
          refine hK.out _ _ (bel_next hHeld (bel_al _ _)) (fun hHeld2 => ?_)
          clear hK K
          try simp only [Act.put, List.setIfInBounds_toArray, List.set_cons_zero, List.set_cons_succ]
          obtain ⟨u0, hu0⟩ : ∃ x, x = u := ⟨_, rfl⟩
          rw [← hu0] at hHeld hHeld2  ⊢
          have HQ9 := Lib.hid (heap_alloc_new u0 (.cells #[.string ⟨#[]⟩] 9))
          have HG9 := Lib.hid hHeld.size
          have HO9 := Lib.hid (heap_alloc_new u0 (.cells #[.string ⟨#[]⟩] 9))
          obtain ⟨p9, hp9⟩ : ∃ x, u0.heap.size = x := ⟨_, rfl⟩
          rw [hp9] at HQ9 HG9 HO9 
          simp only [hp9]
          obtain ⟨u, hu⟩ : ∃ x, u0.alloc (.cells #[.string ⟨#[]⟩] 9) = x := ⟨_, rfl⟩
          rw [hu] at hHeld2 HQ9 HO9  ⊢
          clear hHeld hu hu0 hp9
          have hHeld := hHeld2
          clear hHeld2
          refine wpAnyH_ready (rs := [3, 9]) (by kernel_rfl) (by simp) ?_
          refine (AllReadyH.cons rfl (fun K hK => ?_) (AllReadyH.cons rfl (fun K hK => ?_) AllReadyH.nil))
          ·
            go_simp
            (go_at_call 21; (with_reducible refine (last_is (HL2.out.below hHeld).at_ HFN.out).mono ?_); rintro _ u ⟨rfl, hBu⟩; rw [HLW.out])
            have hBu2 := bel_next hHeld hBu
            refine hK.out _ _ hBu2 (fun hHeld => ?_)
            clear hK K
            try simp only [Act.put, List.setIfInBounds_toArray, List.set_cons_zero, List.set_cons_succ]
            have HQ9 := Lib.hid ((hBu.block _ (some_lt HQ9.out)).trans HQ9.out)
            clear hBu hBu2
            refine wpAnyH_take (i := 4) (oi := ?r6o) (v := ?r6v) ?r6h (by kernel_rfl) (by kernel_rfl) (by kernel_rfl) ?r6q ?r6y hHeld ?r6r
            case r6h => (simp only [List.getElem?_toArray, List.getElem?_cons_succ, List.getElem?_cons_zero]; rfl)
            case r6q => exact fun _ _ _ h => h
            case r6y => (refine Or.inl ⟨by first | kernel_rfl | rfl, ?_⟩; intro w hSw; (try dsimp only at hSw); have z3 := (hSw.cell (p := ⟨p3, 0, none⟩) HP3.out.2).trans HP3.out.1; go_simp <;> (try with_reducible rfl))
            try simp only [Act.put, List.setIfInBounds_toArray, List.set_cons_zero, List.set_cons_succ]
            refine wpAnyH_ready (rs := [7, 9]) (by kernel_rfl) (by simp) ?_
            refine (AllReadyH.cons rfl (fun K hK => ?_) (AllReadyH.cons rfl (fun K hK => ?_) AllReadyH.nil))
            ·
              go_simp
              (go_at_call 15; (with_reducible refine (khd _ (HGL.out _ hHeld)).mono ?_); rintro _ u ⟨rfl, hBu⟩)
              have hBu2 := bel_next hHeld hBu
              refine hK.out _ _ hBu2 (fun hHeld => ?_)
              clear hK K
              try simp only [Act.put, List.setIfInBounds_toArray, List.set_cons_zero, List.set_cons_succ]
              have HQ9 := Lib.hid ((hBu.block _ (some_lt HQ9.out)).trans HQ9.out)
              clear hBu hBu2
              refine wpAnyH_ready (rs := [9]) (by kernel_rfl) (by simp) ?_
              refine (AllReadyH.cons rfl (fun K hK => ?_) AllReadyH.nil)
              go_simp
              refine hK.out _ _ (bel_next hHeld (bel_al _ _)) (fun hHeld2 => ?_)
              clear hK K
              try simp only [Act.put, List.setIfInBounds_toArray, List.set_cons_zero, List.set_cons_succ]
              obtain ⟨u0, hu0⟩ : ∃ x, x = u := ⟨_, rfl⟩
              rw [← hu0] at hHeld hHeld2 HQ9 ⊢
              have HNE := Lib.hid (show u0.heap.size ≠ p9 from fun e => by have := some_lt HQ9.out; omega)
              have HQ10 := Lib.hid (heap_alloc_new u0 (.cells #[.string ⟨#[]⟩] 9))
              have HQ9 := Lib.hid (((bel_al u0 (.cells #[.string ⟨#[]⟩] 9)).block _ (some_lt HQ9.out)).trans HQ9.out)
              have HG10 := Lib.hid hHeld.size
              have HO10 := Lib.hid (heap_alloc_new u0 (.cells #[.string ⟨#[]⟩] 9))
              obtain ⟨p10, hp10⟩ : ∃ x, u0.heap.size = x := ⟨_, rfl⟩
              rw [hp10] at HQ10 HG10 HO10 HNE
              simp only [hp10]
              obtain ⟨u, hu⟩ : ∃ x, u0.alloc (.cells #[.string ⟨#[]⟩] 9) = x := ⟨_, rfl⟩
              rw [hu] at hHeld2 HQ10 HO10 HQ9 ⊢
              clear hHeld hu hu0 hp10
              have hHeld := hHeld2
              clear hHeld2
              refine wpAnyH_ready (rs := [10]) (by kernel_rfl) (by simp) ?_
              refine (AllReadyH.cons rfl (fun K hK => ?_) AllReadyH.nil)
              (have y0 : u.cell? ⟨p9, 0, none⟩ = some (.string ⟨#[]⟩) := cell_of HQ9.out); (have yf := frozen_of (j := 0) HQ9.out); go_simp
              refine hK.out _ _ (Below.setCell hHeld HG9.out _) (fun hHeld => ?_)
              clear hK K y0 yf
              try simp only [Act.put]
              have HQ9 := Lib.hid (heap_setCell_same _ p9 0 _ _ (.string nm) HQ9.out)
              have HQ10 := Lib.hid ((heap_setCell_other _ ⟨p9, 0, none⟩ p10 (.string nm) (by first | exact HNE.out | exact HNE.out.symm)).trans HQ10.out)
              obtain ⟨u, hu⟩ : ∃ x, (u).setCell ⟨p9, 0, none⟩ (.string nm) = x := ⟨_, rfl⟩
              rw [hu] at hHeld HQ9 HQ10 ⊢
              clear hu
              refine wpAnyH_ready (rs := [11]) (by kernel_rfl) (by simp) ?_
              refine (AllReadyH.cons rfl (fun K hK => ?_) AllReadyH.nil)
              (have y0 : u.cell? ⟨p10, 0, none⟩ = some (.string ⟨#[]⟩) := cell_of HQ10.out); (have yf := frozen_of (j := 0) HQ10.out); go_simp
              refine hK.out _ _ (Below.setCell hHeld HG10.out _) (fun hHeld => ?_)
              clear hK K y0 yf
              try simp only [Act.put]
              have HQ10 := Lib.hid (heap_setCell_same _ p10 0 _ _ (.string hd) HQ10.out)
              have HQ9 := Lib.hid ((heap_setCell_other _ ⟨p10, 0, none⟩ p9 (.string hd) (by first | exact HNE.out | exact HNE.out.symm)).trans HQ9.out)
              obtain ⟨u, hu⟩ : ∃ x, (u).setCell ⟨p10, 0, none⟩ (.string hd) = x := ⟨_, rfl⟩
              rw [hu] at hHeld HQ9 HQ10 ⊢
              clear hu
              refine wpAnyH_done (by kernel_rfl) ?_ _
              go_wp2
              go_meet
              case rel => exact ⟨p9, p10, rfl, rfl, hHeld, HQ9.out, HQ10.out, HG9.out, HG10.out⟩
            ·
              go_simp
              refine hK.out _ _ (bel_next hHeld (bel_al _ _)) (fun hHeld2 => ?_)
              clear hK K
              try simp only [Act.put, List.setIfInBounds_toArray, List.set_cons_zero, List.set_cons_succ]
              obtain ⟨u0, hu0⟩ : ∃ x, x = u := ⟨_, rfl⟩
              rw [← hu0] at hHeld hHeld2 HQ9 ⊢
              have HNE := Lib.hid (show u0.heap.size ≠ p9 from fun e => by have := some_lt HQ9.out; omega)
              have HQ10 := Lib.hid (heap_alloc_new u0 (.cells #[.string ⟨#[]⟩] 9))
              have HQ9 := Lib.hid (((bel_al u0 (.cells #[.string ⟨#[]⟩] 9)).block _ (some_lt HQ9.out)).trans HQ9.out)
              have HG10 := Lib.hid hHeld.size
              have HO10 := Lib.hid (heap_alloc_new u0 (.cells #[.string ⟨#[]⟩] 9))
              obtain ⟨p10, hp10⟩ : ∃ x, u0.heap.size = x := ⟨_, rfl⟩
              rw [hp10] at HQ10 HG10 HO10 HNE
              simp only [hp10]
              obtain ⟨u, hu⟩ : ∃ x, u0.alloc (.cells #[.string ⟨#[]⟩] 9) = x := ⟨_, rfl⟩
              rw [hu] at hHeld2 HQ10 HO10 HQ9 ⊢
              clear hHeld hu hu0 hp10
              have hHeld := hHeld2
              clear hHeld2
              refine wpAnyH_ready (rs := [7]) (by kernel_rfl) (by simp) ?_
              refine (AllReadyH.cons rfl (fun K hK => ?_) AllReadyH.nil)
              go_simp
              (go_at_call 15; (with_reducible refine (khd _ (HGL.out _ hHeld)).mono ?_); rintro _ u ⟨rfl, hBu⟩)
              have hBu2 := bel_next hHeld hBu
              refine hK.out _ _ hBu2 (fun hHeld => ?_)
              clear hK K
              try simp only [Act.put, List.setIfInBounds_toArray, List.set_cons_zero, List.set_cons_succ]
              have HQ9 := Lib.hid ((hBu.block _ (some_lt HQ9.out)).trans HQ9.out)
              have HQ10 := Lib.hid ((hBu.block _ (some_lt HQ10.out)).trans HQ10.out)
              clear hBu hBu2
              refine wpAnyH_ready (rs := [10]) (by kernel_rfl) (by simp) ?_
              refine (AllReadyH.cons rfl (fun K hK => ?_) AllReadyH.nil)
              (have y0 : u.cell? ⟨p9, 0, none⟩ = some (.string ⟨#[]⟩) := cell_of HQ9.out); (have yf := frozen_of (j := 0) HQ9.out); go_simp
              refine hK.out _ _ (Below.setCell hHeld HG9.out _) (fun hHeld => ?_)
              clear hK K y0 yf
              try simp only [Act.put]
              have HQ9 := Lib.hid (heap_setCell_same _ p9 0 _ _ (.string nm) HQ9.out)
              have HQ10 := Lib.hid ((heap_setCell_other _ ⟨p9, 0, none⟩ p10 (.string nm) (by first | exact HNE.out | exact HNE.out.symm)).trans HQ10.out)
              obtain ⟨u, hu⟩ : ∃ x, (u).setCell ⟨p9, 0, none⟩ (.string nm) = x := ⟨_, rfl⟩
              rw [hu] at hHeld HQ9 HQ10 ⊢
              clear hu
              refine wpAnyH_ready (rs := [11]) (by kernel_rfl) (by simp) ?_
              refine (AllReadyH.cons rfl (fun K hK => ?_) AllReadyH.nil)
              (have y0 : u.cell? ⟨p10, 0, none⟩ = some (.string ⟨#[]⟩) := cell_of HQ10.out); (have yf := frozen_of (j := 0) HQ10.out); go_simp
              refine hK.out _ _ (Below.setCell hHeld HG10.out _) (fun hHeld => ?_)
              clear hK K y0 yf
              try simp only [Act.put]
              have HQ10 := Lib.hid (heap_setCell_same _ p10 0 _ _ (.string hd) HQ10.out)
              have HQ9 := Lib.hid ((heap_setCell_other _ ⟨p10, 0, none⟩ p9 (.string hd) (by first | exact HNE.out | exact HNE.out.symm)).trans HQ9.out)
              obtain ⟨u, hu⟩ : ∃ x, (u).setCell ⟨p10, 0, none⟩ (.string hd) = x := ⟨_, rfl⟩
              rw [hu] at hHeld HQ9 HQ10 ⊢
              clear hu
              refine wpAnyH_done (by kernel_rfl) ?_ _
              go_wp2
              go_meet
              case rel => exact ⟨p9, p10, rfl, rfl, hHeld, HQ9.out, HQ10.out, HG9.out, HG10.out⟩
          ·
            go_simp
            refine hK.out _ _ (bel_next hHeld (bel_al _ _)) (fun hHeld2 => ?_)
            clear hK K
            try simp only [Act.put, List.setIfInBounds_toArray, List.set_cons_zero, List.set_cons_succ]
            obtain ⟨u0, hu0⟩ : ∃ x, x = u := ⟨_, rfl⟩
            rw [← hu0] at hHeld hHeld2 HQ9 ⊢
            have HNE := Lib.hid (show u0.heap.size ≠ p9 from fun e => by have := some_lt HQ9.out; omega)
            have HQ10 := Lib.hid (heap_alloc_new u0 (.cells #[.string ⟨#[]⟩] 9))
            have HQ9 := Lib.hid (((bel_al u0 (.cells #[.string ⟨#[]⟩] 9)).block _ (some_lt HQ9.out)).trans HQ9.out)
            have HG10 := Lib.hid hHeld.size
            have HO10 := Lib.hid (heap_alloc_new u0 (.cells #[.string ⟨#[]⟩] 9))
            obtain ⟨p10, hp10⟩ : ∃ x, u0.heap.size = x := ⟨_, rfl⟩
            rw [hp10] at HQ10 HG10 HO10 HNE
            simp only [hp10]
            obtain ⟨u, hu⟩ : ∃ x, u0.alloc (.cells #[.string ⟨#[]⟩] 9) = x := ⟨_, rfl⟩
            rw [hu] at hHeld2 HQ10 HO10 HQ9 ⊢
            clear hHeld hu hu0 hp10
            have hHeld := hHeld2
            clear hHeld2
            refine wpAnyH_ready (rs := [3]) (by kernel_rfl) (by simp) ?_
            refine (AllReadyH.cons rfl (fun K hK => ?_) AllReadyH.nil)
            go_simp
            (go_at_call 21; (with_reducible refine (last_is (HL2.out.below hHeld).at_ HFN.out).mono ?_); rintro _ u ⟨rfl, hBu⟩; rw [HLW.out])
            have hBu2 := bel_next hHeld hBu
            refine hK.out _ _ hBu2 (fun hHeld => ?_)
            clear hK K
            try simp only [Act.put, List.setIfInBounds_toArray, List.set_cons_zero, List.set_cons_succ]
            have HQ9 := Lib.hid ((hBu.block _ (some_lt HQ9.out)).trans HQ9.out)
            have HQ10 := Lib.hid ((hBu.block _ (some_lt HQ10.out)).trans HQ10.out)
            clear hBu hBu2
            refine wpAnyH_take (i := 4) (oi := ?r7o) (v := ?r7v) ?r7h (by kernel_rfl) (by kernel_rfl) (by kernel_rfl) ?r7q ?r7y hHeld ?r7r
            case r7h => (simp only [List.getElem?_toArray, List.getElem?_cons_succ, List.getElem?_cons_zero]; rfl)
            case r7q => exact fun _ _ _ h => h
            case r7y => (refine Or.inl ⟨by first | kernel_rfl | rfl, ?_⟩; intro w hSw; (try dsimp only at hSw); have z3 := (hSw.cell (p := ⟨p3, 0, none⟩) HP3.out.2).trans HP3.out.1; go_simp <;> (try with_reducible rfl))
            try simp only [Act.put, List.setIfInBounds_toArray, List.set_cons_zero, List.set_cons_succ]
            refine wpAnyH_ready (rs := [7]) (by kernel_rfl) (by simp) ?_
            refine (AllReadyH.cons rfl (fun K hK => ?_) AllReadyH.nil)
            go_simp
            (go_at_call 15; (with_reducible refine (khd _ (HGL.out _ hHeld)).mono ?_); rintro _ u ⟨rfl, hBu⟩)
            have hBu2 := bel_next hHeld hBu
            refine hK.out _ _ hBu2 (fun hHeld => ?_)
            clear hK K
            try simp only [Act.put, List.setIfInBounds_toArray, List.set_cons_zero, List.set_cons_succ]
            have HQ9 := Lib.hid ((hBu.block _ (some_lt HQ9.out)).trans HQ9.out)
            have HQ10 := Lib.hid ((hBu.block _ (some_lt HQ10.out)).trans HQ10.out)
            clear hBu hBu2
            refine wpAnyH_ready (rs := [10]) (by kernel_rfl) (by simp) ?_
            refine (AllReadyH.cons rfl (fun K hK => ?_) AllReadyH.nil)
            (have y0 : u.cell? ⟨p9, 0, none⟩ = some (.string ⟨#[]⟩) := cell_of HQ9.out); (have yf := frozen_of (j := 0) HQ9.out); go_simp
            refine hK.out _ _ (Below.setCell hHeld HG9.out _) (fun hHeld => ?_)
            clear hK K y0 yf
            try simp only [Act.put]
            have HQ9 := Lib.hid (heap_setCell_same _ p9 0 _ _ (.string nm) HQ9.out)
            have HQ10 := Lib.hid ((heap_setCell_other _ ⟨p9, 0, none⟩ p10 (.string nm) (by first | exact HNE.out | exact HNE.out.symm)).trans HQ10.out)
            obtain ⟨u, hu⟩ : ∃ x, (u).setCell ⟨p9, 0, none⟩ (.string nm) = x := ⟨_, rfl⟩
            rw [hu] at hHeld HQ9 HQ10 ⊢
            clear hu
            refine wpAnyH_ready (rs := [11]) (by kernel_rfl) (by simp) ?_
            refine (AllReadyH.cons rfl (fun K hK => ?_) AllReadyH.nil)
            (have y0 : u.cell? ⟨p10, 0, none⟩ = some (.string ⟨#[]⟩) := cell_of HQ10.out); (have yf := frozen_of (j := 0) HQ10.out); go_simp
            refine hK.out _ _ (Below.setCell hHeld HG10.out _) (fun hHeld => ?_)
            clear hK K y0 yf
            try simp only [Act.put]
            have HQ10 := Lib.hid (heap_setCell_same _ p10 0 _ _ (.string hd) HQ10.out)
            have HQ9 := Lib.hid ((heap_setCell_other _ ⟨p10, 0, none⟩ p9 (.string hd) (by first | exact HNE.out | exact HNE.out.symm)).trans HQ9.out)
            obtain ⟨u, hu⟩ : ∃ x, (u).setCell ⟨p10, 0, none⟩ (.string hd) = x := ⟨_, rfl⟩
            rw [hu] at hHeld HQ9 HQ10 ⊢
            clear hu
            refine wpAnyH_done (by kernel_rfl) ?_ _
            go_wp2
            go_meet
            case rel => exact ⟨p9, p10, rfl, rfl, hHeld, HQ9.out, HQ10.out, HG9.out, HG10.out⟩
        ·
          go_simp
          refine hK.out _ _ (bel_next hHeld (bel_al _ _)) (fun hHeld2 => ?_)
          clear hK K
          try simp only [Act.put, List.setIfInBounds_toArray, List.set_cons_zero, List.set_cons_succ]
          obtain ⟨u0, hu0⟩ : ∃ x, x = u := ⟨_, rfl⟩
          rw [← hu0] at hHeld hHeld2  ⊢
          have HQ10 := Lib.hid (heap_alloc_new u0 (.cells #[.string ⟨#[]⟩] 9))
          have HG10 := Lib.hid hHeld.size
          have HO10 := Lib.hid (heap_alloc_new u0 (.cells #[.string ⟨#[]⟩] 9))
          obtain ⟨p10, hp10⟩ : ∃ x, u0.heap.size = x := ⟨_, rfl⟩
          rw [hp10] at HQ10 HG10 HO10 
          simp only [hp10]
          obtain ⟨u, hu⟩ : ∃ x, u0.alloc (.cells #[.string ⟨#[]⟩] 9) = x := ⟨_, rfl⟩
          rw [hu] at hHeld2 HQ10 HO10  ⊢
          clear hHeld hu hu0 hp10
          have hHeld := hHeld2
          clear hHeld2
          refine wpAnyH_ready (rs := [3, 8]) (by kernel_rfl) (by simp) ?_
          refine (AllReadyH.cons rfl (fun K hK => ?_) (AllReadyH.cons rfl (fun K hK => ?_) AllReadyH.nil))
          ·
            go_simp
            (go_at_call 21; (with_reducible refine (last_is (HL2.out.below hHeld).at_ HFN.out).mono ?_); rintro _ u ⟨rfl, hBu⟩; rw [HLW.out])
            have hBu2 := bel_next hHeld hBu
            refine hK.out _ _ hBu2 (fun hHeld => ?_)
            clear hK K
            try simp only [Act.put, List.setIfInBounds_toArray, List.set_cons_zero, List.set_cons_succ]
            have HQ10 := Lib.hid ((hBu.block _ (some_lt HQ10.out)).trans HQ10.out)
            clear hBu hBu2
            refine wpAnyH_take (i := 4) (oi := ?r8o) (v := ?r8v) ?r8h (by kernel_rfl) (by kernel_rfl) (by kernel_rfl) ?r8q ?r8y hHeld ?r8r
            case r8h => (simp only [List.getElem?_toArray, List.getElem?_cons_succ, List.getElem?_cons_zero]; rfl)
            case r8q => exact fun _ _ _ h => h
            case r8y => (refine Or.inl ⟨by first | kernel_rfl | rfl, ?_⟩; intro w hSw; (try dsimp only at hSw); have z3 := (hSw.cell (p := ⟨p3, 0, none⟩) HP3.out.2).trans HP3.out.1; go_simp <;> (try with_reducible rfl))
            try simp only [Act.put, List.setIfInBounds_toArray, List.set_cons_zero, List.set_cons_succ]
            refine wpAnyH_ready (rs := [7, 8]) (by kernel_rfl) (by simp) ?_
            refine (AllReadyH.cons rfl (fun K hK => ?_) (AllReadyH.cons rfl (fun K hK => ?_) AllReadyH.nil))
            ·
              go_simp
              (go_at_call 15; (with_reducible refine (khd _ (HGL.out _ hHeld)).mono ?_); rintro _ u ⟨rfl, hBu⟩)
              have hBu2 := bel_next hHeld hBu
              refine hK.out _ _ hBu2 (fun hHeld => ?_)
              clear hK K
              try simp only [Act.put, List.setIfInBounds_toArray, List.set_cons_zero, List.set_cons_succ]
              have HQ10 := Lib.hid ((hBu.block _ (some_lt HQ10.out)).trans HQ10.out)
              clear hBu hBu2
              refine wpAnyH_ready (rs := [8]) (by kernel_rfl) (by simp) ?_
              refine (AllReadyH.cons rfl (fun K hK => ?_) AllReadyH.nil)
              go_simp
              refine hK.out _ _ (bel_next hHeld (bel_al _ _)) (fun hHeld2 => ?_)
              clear hK K
              try simp only [Act.put, List.setIfInBounds_toArray, List.set_cons_zero, List.set_cons_succ]
              obtain ⟨u0, hu0⟩ : ∃ x, x = u := ⟨_, rfl⟩
              rw [← hu0] at hHeld hHeld2 HQ10 ⊢
              have HNE := Lib.hid (show u0.heap.size ≠ p10 from fun e => by have := some_lt HQ10.out; omega)
              have HQ9 := Lib.hid (heap_alloc_new u0 (.cells #[.string ⟨#[]⟩] 9))
              have HQ10 := Lib.hid (((bel_al u0 (.cells #[.string ⟨#[]⟩] 9)).block _ (some_lt HQ10.out)).trans HQ10.out)
              have HG9 := Lib.hid hHeld.size
              have HO9 := Lib.hid (heap_alloc_new u0 (.cells #[.string ⟨#[]⟩] 9))
              obtain ⟨p9, hp9⟩ : ∃ x, u0.heap.size = x := ⟨_, rfl⟩
              rw [hp9] at HQ9 HG9 HO9 HNE
              simp only [hp9]
              obtain ⟨u, hu⟩ : ∃ x, u0.alloc (.cells #[.string ⟨#[]⟩] 9) = x := ⟨_, rfl⟩
              rw [hu] at hHeld2 HQ9 HO9 HQ10 ⊢
              clear hHeld hu hu0 hp9
              have hHeld := hHeld2
              clear hHeld2
              refine wpAnyH_ready (rs := [10]) (by kernel_rfl) (by simp) ?_
              refine (AllReadyH.cons rfl (fun K hK => ?_) AllReadyH.nil)
              (have y0 : u.cell? ⟨p9, 0, none⟩ = some (.string ⟨#[]⟩) := cell_of HQ9.out); (have yf := frozen_of (j := 0) HQ9.out); go_simp
              refine hK.out _ _ (Below.setCell hHeld HG9.out _) (fun hHeld => ?_)
              clear hK K y0 yf
              try simp only [Act.put]
              have HQ9 := Lib.hid (heap_setCell_same _ p9 0 _ _ (.string nm) HQ9.out)
              have HQ10 := Lib.hid ((heap_setCell_other _ ⟨p9, 0, none⟩ p10 (.string nm) (by first | exact HNE.out | exact HNE.out.symm)).trans HQ10.out)
              obtain ⟨u, hu⟩ : ∃ x, (u).setCell ⟨p9, 0, none⟩ (.string nm) = x := ⟨_, rfl⟩
              rw [hu] at hHeld HQ9 HQ10 ⊢
              clear hu
              refine wpAnyH_ready (rs := [11]) (by kernel_rfl) (by simp) ?_
              refine (AllReadyH.cons rfl (fun K hK => ?_) AllReadyH.nil)
              (have y0 : u.cell? ⟨p10, 0, none⟩ = some (.string ⟨#[]⟩) := cell_of HQ10.out); (have yf := frozen_of (j := 0) HQ10.out); go_simp
              refine hK.out _ _ (Below.setCell hHeld HG10.out _) (fun hHeld => ?_)
              clear hK K y0 yf
              try simp only [Act.put]
              have HQ10 := Lib.hid (heap_setCell_same _ p10 0 _ _ (.string hd) HQ10.out)
              have HQ9 := Lib.hid ((heap_setCell_other _ ⟨p10, 0, none⟩ p9 (.string hd) (by first | exact HNE.out | exact HNE.out.symm)).trans HQ9.out)
              obtain ⟨u, hu⟩ : ∃ x, (u).setCell ⟨p10, 0, none⟩ (.string hd) = x := ⟨_, rfl⟩
              rw [hu] at hHeld HQ9 HQ10 ⊢
              clear hu
              refine wpAnyH_done (by kernel_rfl) ?_ _
              go_wp2
              go_meet
              case rel => exact ⟨p9, p10, rfl, rfl, hHeld, HQ9.out, HQ10.out, HG9.out, HG10.out⟩
            ·
              go_simp
              refine hK.out _ _ (bel_next hHeld (bel_al _ _)) (fun hHeld2 => ?_)
              clear hK K
              try simp only [Act.put, List.setIfInBounds_toArray, List.set_cons_zero, List.set_cons_succ]
              obtain ⟨u0, hu0⟩ : ∃ x, x = u := ⟨_, rfl⟩
              rw [← hu0] at hHeld hHeld2 HQ10 ⊢
              have HNE := Lib.hid (show u0.heap.size ≠ p10 from fun e => by have := some_lt HQ10.out; omega)
              have HQ9 := Lib.hid (heap_alloc_new u0 (.cells #[.string ⟨#[]⟩] 9))
              have HQ10 := Lib.hid (((bel_al u0 (.cells #[.string ⟨#[]⟩] 9)).block _ (some_lt HQ10.out)).trans HQ10.out)
              have HG9 := Lib.hid hHeld.size
              have HO9 := Lib.hid (heap_alloc_new u0 (.cells #[.string ⟨#[]⟩] 9))
              obtain ⟨p9, hp9⟩ : ∃ x, u0.heap.size = x := ⟨_, rfl⟩
              rw [hp9] at HQ9 HG9 HO9 HNE
              simp only [hp9]
              obtain ⟨u, hu⟩ : ∃ x, u0.alloc (.cells #[.string ⟨#[]⟩] 9) = x := ⟨_, rfl⟩
              rw [hu] at hHeld2 HQ9 HO9 HQ10 ⊢
              clear hHeld hu hu0 hp9
              have hHeld := hHeld2
              clear hHeld2
              refine wpAnyH_ready (rs := [7]) (by kernel_rfl) (by simp) ?_
              refine (AllReadyH.cons rfl (fun K hK => ?_) AllReadyH.nil)
              go_simp
              (go_at_call 15; (with_reducible refine (khd _ (HGL.out _ hHeld)).mono ?_); rintro _ u ⟨rfl, hBu⟩)
              have hBu2 := bel_next hHeld hBu
              refine hK.out _ _ hBu2 (fun hHeld => ?_)
              clear hK K
              try simp only [Act.put, List.setIfInBounds_toArray, List.set_cons_zero, List.set_cons_succ]
              have HQ9 := Lib.hid ((hBu.block _ (some_lt HQ9.out)).trans HQ9.out)
              have HQ10 := Lib.hid ((hBu.block _ (some_lt HQ10.out)).trans HQ10.out)
              clear hBu hBu2
              refine wpAnyH_ready (rs := [10]) (by kernel_rfl) (by simp) ?_
              refine (AllReadyH.cons rfl (fun K hK => ?_) AllReadyH.nil)
              (have y0 : u.cell? ⟨p9, 0, none⟩ = some (.string ⟨#[]⟩) := cell_of HQ9.out); (have yf := frozen_of (j := 0) HQ9.out); go_simp
              refine hK.out _ _ (Below.setCell hHeld HG9.out _) (fun hHeld => ?_)
              clear hK K y0 yf
              try simp only [Act.put]
              have HQ9 := Lib.hid (heap_setCell_same _ p9 0 _ _ (.string nm) HQ9.out)
              have HQ10 := Lib.hid ((heap_setCell_other _ ⟨p9, 0, none⟩ p10 (.string nm) (by first | exact HNE.out | exact HNE.out.symm)).trans HQ10.out)
              obtain ⟨u, hu⟩ : ∃ x, (u).setCell ⟨p9, 0, none⟩ (.string nm) = x := ⟨_, rfl⟩
              rw [hu] at hHeld HQ9 HQ10 ⊢
              clear hu
              refine wpAnyH_ready (rs := [11]) (by kernel_rfl) (by simp) ?_
              refine (AllReadyH.cons rfl (fun K hK => ?_) AllReadyH.nil)
              (have y0 : u.cell? ⟨p10, 0, none⟩ = some (.string ⟨#[]⟩) := cell_of HQ10.out); (have yf := frozen_of (j := 0) HQ10.out); go_simp
              refine hK.out _ _ (Below.setCell hHeld HG10.out _) (fun hHeld => ?_)
              clear hK K y0 yf
              try simp only [Act.put]
              have HQ10 := Lib.hid (heap_setCell_same _ p10 0 _ _ (.string hd) HQ10.out)
              have HQ9 := Lib.hid ((heap_setCell_other _ ⟨p10, 0, none⟩ p9 (.string hd) (by first | exact HNE.out | exact HNE.out.symm)).trans HQ9.out)
              obtain ⟨u, hu⟩ : ∃ x, (u).setCell ⟨p10, 0, none⟩ (.string hd) = x := ⟨_, rfl⟩
              rw [hu] at hHeld HQ9 HQ10 ⊢
              clear hu
              refine wpAnyH_done (by kernel_rfl) ?_ _
              go_wp2
              go_meet
              case rel => exact ⟨p9, p10, rfl, rfl, hHeld, HQ9.out, HQ10.out, HG9.out, HG10.out⟩
          ·
            go_simp
            refine hK.out _ _ (bel_next hHeld (bel_al _ _)) (fun hHeld2 => ?_)
            clear hK K
            try simp only [Act.put, List.setIfInBounds_toArray, List.set_cons_zero, List.set_cons_succ]
            obtain ⟨u0, hu0⟩ : ∃ x, x = u := ⟨_, rfl⟩
            rw [← hu0] at hHeld hHeld2 HQ10 ⊢
            have HNE := Lib.hid (show u0.heap.size ≠ p10 from fun e => by have := some_lt HQ10.out; omega)
            have HQ9 := Lib.hid (heap_alloc_new u0 (.cells #[.string ⟨#[]⟩] 9))
            have HQ10 := Lib.hid (((bel_al u0 (.cells #[.string ⟨#[]⟩] 9)).block _ (some_lt HQ10.out)).trans HQ10.out)
            have HG9 := Lib.hid hHeld.size
            have HO9 := Lib.hid (heap_alloc_new u0 (.cells #[.string ⟨#[]⟩] 9))
            obtain ⟨p9, hp9⟩ : ∃ x, u0.heap.size = x := ⟨_, rfl⟩
            rw [hp9] at HQ9 HG9 HO9 HNE
            simp only [hp9]
            obtain ⟨u, hu⟩ : ∃ x, u0.alloc (.cells #[.string ⟨#[]⟩] 9) = x := ⟨_, rfl⟩
            rw [hu] at hHeld2 HQ9 HO9 HQ10 ⊢
            clear hHeld hu hu0 hp9
            have hHeld := hHeld2
            clear hHeld2
            refine wpAnyH_ready (rs := [3]) (by kernel_rfl) (by simp) ?_
            refine (AllReadyH.cons rfl (fun K hK => ?_) AllReadyH.nil)
            go_simp
            (go_at_call 21; (with_reducible refine (last_is (HL2.out.below hHeld).at_ HFN.out).mono ?_); rintro _ u ⟨rfl, hBu⟩; rw [HLW.out])
            have hBu2 := bel_next hHeld hBu
            refine hK.out _ _ hBu2 (fun hHeld => ?_)
            clear hK K
            try simp only [Act.put, List.setIfInBounds_toArray, List.set_cons_zero, List.set_cons_succ]
            have HQ9 := Lib.hid ((hBu.block _ (some_lt HQ9.out)).trans HQ9.out)
            have HQ10 := Lib.hid ((hBu.block _ (some_lt HQ10.out)).trans HQ10.out)
            clear hBu hBu2
            refine wpAnyH_take (i := 4) (oi := ?r9o) (v := ?r9v) ?r9h (by kernel_rfl) (by kernel_rfl) (by kernel_rfl) ?r9q ?r9y hHeld ?r9r
            case r9h => (simp only [List.getElem?_toArray, List.getElem?_cons_succ, List.getElem?_cons_zero]; rfl)
            case r9q => exact fun _ _ _ h => h
            case r9y => (refine Or.inl ⟨by first | kernel_rfl | rfl, ?_⟩; intro w hSw; (try dsimp only at hSw); have z3 := (hSw.cell (p := ⟨p3, 0, none⟩) HP3.out.2).trans HP3.out.1; go_simp <;> (try with_reducible rfl))
            try simp only [Act.put, List.setIfInBounds_toArray, List.set_cons_zero, List.set_cons_succ]
            refine wpAnyH_ready (rs := [7]) (by kernel_rfl) (by simp) ?_
            refine (AllReadyH.cons rfl (fun K hK => ?_) AllReadyH.nil)
            go_simp
            (go_at_call 15; (with_reducible refine (khd _ (HGL.out _ hHeld)).mono ?_); rintro _ u ⟨rfl, hBu⟩)
            have hBu2 := bel_next hHeld hBu
            refine hK.out _ _ hBu2 (fun hHeld => ?_)
            clear hK K
            try simp only [Act.put, List.setIfInBounds_toArray, List.set_cons_zero, List.set_cons_succ]
            have HQ9 := Lib.hid ((hBu.block _ (some_lt HQ9.out)).trans HQ9.out)
            have HQ10 := Lib.hid ((hBu.block _ (some_lt HQ10.out)).trans HQ10.out)
            clear hBu hBu2
            refine wpAnyH_ready (rs := [10]) (by kernel_rfl) (by simp) ?_
            refine (AllReadyH.cons rfl (fun K hK => ?_) AllReadyH.nil)
            (have y0 : u.cell? ⟨p9, 0, none⟩ = some (.string ⟨#[]⟩) := cell_of HQ9.out); (have yf := frozen_of (j := 0) HQ9.out); go_simp
            refine hK.out _ _ (Below.setCell hHeld HG9.out _) (fun hHeld => ?_)
            clear hK K y0 yf
            try simp only [Act.put]
            have HQ9 := Lib.hid (heap_setCell_same _ p9 0 _ _ (.string nm) HQ9.out)
            have HQ10 := Lib.hid ((heap_setCell_other _ ⟨p9, 0, none⟩ p10 (.string nm) (by first | exact HNE.out | exact HNE.out.symm)).trans HQ10.out)
            obtain ⟨u, hu⟩ : ∃ x, (u).setCell ⟨p9, 0, none⟩ (.string nm) = x := ⟨_, rfl⟩
            rw [hu] at hHeld HQ9 HQ10 ⊢
            clear hu
            refine wpAnyH_ready (rs := [11]) (by kernel_rfl) (by simp) ?_
            refine (AllReadyH.cons rfl (fun K hK => ?_) AllReadyH.nil)
            (have y0 : u.cell? ⟨p10, 0, none⟩ = some (.string ⟨#[]⟩) := cell_of HQ10.out); (have yf := frozen_of (j := 0) HQ10.out); go_simp
            refine hK.out _ _ (Below.setCell hHeld HG10.out _) (fun hHeld => ?_)
            clear hK K y0 yf
            try simp only [Act.put]
            have HQ10 := Lib.hid (heap_setCell_same _ p10 0 _ _ (.string hd) HQ10.out)
            have HQ9 := Lib.hid ((heap_setCell_other _ ⟨p10, 0, none⟩ p9 (.string hd) (by first | exact HNE.out | exact HNE.out.symm)).trans HQ9.out)
            obtain ⟨u, hu⟩ : ∃ x, (u).setCell ⟨p10, 0, none⟩ (.string hd) = x := ⟨_, rfl⟩
            rw [hu] at hHeld HQ9 HQ10 ⊢
            clear hu
            refine wpAnyH_done (by kernel_rfl) ?_ _
            go_wp2
            go_meet
            case rel => exact ⟨p9, p10, rfl, rfl, hHeld, HQ9.out, HQ10.out, HG9.out, HG10.out⟩
      ·
        go_simp
        refine hK.out _ _ (bel_next hHeld (bel_al _ _)) (fun hHeld2 => ?_)
        clear hK K
        try simp only [Act.put, List.setIfInBounds_toArray, List.set_cons_zero, List.set_cons_succ]
        obtain ⟨u0, hu0⟩ : ∃ x, x = u := ⟨_, rfl⟩
        rw [← hu0] at hHeld hHeld2  ⊢
        have HQ9 := Lib.hid (heap_alloc_new u0 (.cells #[.string ⟨#[]⟩] 9))
        have HG9 := Lib.hid hHeld.size
        have HO9 := Lib.hid (heap_alloc_new u0 (.cells #[.string ⟨#[]⟩] 9))
        obtain ⟨p9, hp9⟩ : ∃ x, u0.heap.size = x := ⟨_, rfl⟩
        rw [hp9] at HQ9 HG9 HO9 
        simp only [hp9]
        obtain ⟨u, hu⟩ : ∃ x, u0.alloc (.cells #[.string ⟨#[]⟩] 9) = x := ⟨_, rfl⟩
        rw [hu] at hHeld2 HQ9 HO9  ⊢
        clear hHeld hu hu0 hp9
        have hHeld := hHeld2
        clear hHeld2
        refine wpAnyH_ready (rs := [1, 9]) (by kernel_rfl) (by simp) ?_
        refine (AllReadyH.cons rfl (fun K hK => ?_) (AllReadyH.cons rfl (fun K hK => ?_) AllReadyH.nil))
        ·
          go_simp
          (go_at_call 13; (with_reducible refine (ksg _ (HGL.out _ hHeld)).mono ?_); rintro _ u ⟨rfl, hBu⟩)
          have hBu2 := bel_next hHeld hBu
          refine hK.out _ _ hBu2 (fun hHeld => ?_)
          clear hK K
          try simp only [Act.put, List.setIfInBounds_toArray, List.set_cons_zero, List.set_cons_succ]
          have HQ9 := Lib.hid ((hBu.block _ (some_lt HQ9.out)).trans HQ9.out)
          clear hBu hBu2
          refine wpAnyH_ready (rs := [3, 9]) (by kernel_rfl) (by simp) ?_
          refine (AllReadyH.cons rfl (fun K hK => ?_) (AllReadyH.cons rfl (fun K hK => ?_) AllReadyH.nil))
          ·
            go_simp
            (go_at_call 21; (with_reducible refine (last_is (HL2.out.below hHeld).at_ HFN.out).mono ?_); rintro _ u ⟨rfl, hBu⟩; rw [HLW.out])
            have hBu2 := bel_next hHeld hBu
            refine hK.out _ _ hBu2 (fun hHeld => ?_)
            clear hK K
            try simp only [Act.put, List.setIfInBounds_toArray, List.set_cons_zero, List.set_cons_succ]
            have HQ9 := Lib.hid ((hBu.block _ (some_lt HQ9.out)).trans HQ9.out)
            clear hBu hBu2
            refine wpAnyH_take (i := 4) (oi := ?r10o) (v := ?r10v) ?r10h (by kernel_rfl) (by kernel_rfl) (by kernel_rfl) ?r10q ?r10y hHeld ?r10r
            case r10h => (simp only [List.getElem?_toArray, List.getElem?_cons_succ, List.getElem?_cons_zero]; rfl)
            case r10q => exact fun _ _ _ h => h
            case r10y => (refine Or.inl ⟨by first | kernel_rfl | rfl, ?_⟩; intro w hSw; (try dsimp only at hSw); have z3 := (hSw.cell (p := ⟨p3, 0, none⟩) HP3.out.2).trans HP3.out.1; go_simp <;> (try with_reducible rfl))
            try simp only [Act.put, List.setIfInBounds_toArray, List.set_cons_zero, List.set_cons_succ]
            refine wpAnyH_ready (rs := [7, 9]) (by kernel_rfl) (by simp) ?_
            refine (AllReadyH.cons rfl (fun K hK => ?_) (AllReadyH.cons rfl (fun K hK => ?_) AllReadyH.nil))
            ·
              go_simp
              (go_at_call 15; (with_reducible refine (khd _ (HGL.out _ hHeld)).mono ?_); rintro _ u ⟨rfl, hBu⟩)
              have hBu2 := bel_next hHeld hBu
              refine hK.out _ _ hBu2 (fun hHeld => ?_)
              clear hK K
              try simp only [Act.put, List.setIfInBounds_toArray, List.set_cons_zero, List.set_cons_succ]
              have HQ9 := Lib.hid ((hBu.block _ (some_lt HQ9.out)).trans HQ9.out)
              clear hBu hBu2
              refine wpAnyH_ready (rs := [9]) (by kernel_rfl) (by simp) ?_
              refine (AllReadyH.cons rfl (fun K hK => ?_) AllReadyH.nil)
              go_simp
              refine hK.out _ _ (bel_next hHeld (bel_al _ _)) (fun hHeld2 => ?_)
              clear hK K
              try simp only [Act.put, List.setIfInBounds_toArray, List.set_cons_zero, List.set_cons_succ]
              obtain ⟨u0, hu0⟩ : ∃ x, x = u := ⟨_, rfl⟩
              rw [← hu0] at hHeld hHeld2 HQ9 ⊢
              have HNE := Lib.hid (show u0.heap.size ≠ p9 from fun e => by have := some_lt HQ9.out; omega)
              have HQ10 := Lib.hid (heap_alloc_new u0 (.cells #[.string ⟨#[]⟩] 9))
              have HQ9 := Lib.hid (((bel_al u0 (.cells #[.string ⟨#[]⟩] 9)).block _ (some_lt HQ9.out)).trans HQ9.out)
              have HG10 := Lib.hid hHeld.size
              have HO10 := Lib.hid (heap_alloc_new u0 (.cells #[.string ⟨#[]⟩] 9))
              obtain ⟨p10, hp10⟩ : ∃ x, u0.heap.size = x := ⟨_, rfl⟩
              rw [hp10] at HQ10 HG10 HO10 HNE
              simp only [hp10]
              obtain ⟨u, hu⟩ : ∃ x, u0.alloc (.cells #[.string ⟨#[]⟩] 9) = x := ⟨_, rfl⟩
              rw [hu] at hHeld2 HQ10 HO10 HQ9 ⊢
              clear hHeld hu hu0 hp10
              have hHeld := hHeld2
              clear hHeld2
              refine wpAnyH_ready (rs := [10]) (by kernel_rfl) (by simp) ?_
              refine (AllReadyH.cons rfl (fun K hK => ?_) AllReadyH.nil)
              (have y0 : u.cell? ⟨p9, 0, none⟩ = some (.string ⟨#[]⟩) := cell_of HQ9.out); (have yf := frozen_of (j := 0) HQ9.out); go_simp
              refine hK.out _ _ (Below.setCell hHeld HG9.out _) (fun hHeld => ?_)
              clear hK K y0 yf
              try simp only [Act.put]
              have HQ9 := Lib.hid (heap_setCell_same _ p9 0 _ _ (.string nm) HQ9.out)
              have HQ10 := Lib.hid ((heap_setCell_other _ ⟨p9, 0, none⟩ p10 (.string nm) (by first | exact HNE.out | exact HNE.out.symm)).trans HQ10.out)
              obtain ⟨u, hu⟩ : ∃ x, (u).setCell ⟨p9, 0, none⟩ (.string nm) = x := ⟨_, rfl⟩
              rw [hu] at hHeld HQ9 HQ10 ⊢
              clear hu
              refine wpAnyH_ready (rs := [11]) (by kernel_rfl) (by simp) ?_
              refine (AllReadyH.cons rfl (fun K hK => ?_) AllReadyH.nil)
              (have y0 : u.cell? ⟨p10, 0, none⟩ = some (.string ⟨#[]⟩) := cell_of HQ10.out); (have yf := frozen_of (j := 0) HQ10.out); go_simp
              refine hK.out _ _ (Below.setCell hHeld HG10.out _) (fun hHeld => ?_)
              clear hK K y0 yf
              try simp only [Act.put]
              have HQ10 := Lib.hid (heap_setCell_same _ p10 0 _ _ (.string hd) HQ10.out)
              have HQ9 := Lib.hid ((heap_setCell_other _ ⟨p10, 0, none⟩ p9 (.string hd) (by first | exact HNE.out | exact HNE.out.symm)).trans HQ9.out)
              obtain ⟨u, hu⟩ : ∃ x, (u).setCell ⟨p10, 0, none⟩ (.string hd) = x := ⟨_, rfl⟩
              rw [hu] at hHeld HQ9 HQ10 ⊢
              clear hu
              refine wpAnyH_done (by kernel_rfl) ?_ _
              go_wp2
              go_meet
              case rel => exact ⟨p9, p10, rfl, rfl, hHeld, HQ9.out, HQ10.out, HG9.out, HG10.out⟩
            ·
              go_simp
              refine hK.out _ _ (bel_next hHeld (bel_al _ _)) (fun hHeld2 => ?_)
              clear hK K
              try simp only [Act.put, List.setIfInBounds_toArray, List.set_cons_zero, List.set_cons_succ]
              obtain ⟨u0, hu0⟩ : ∃ x, x = u := ⟨_, rfl⟩
              rw [← hu0] at hHeld hHeld2 HQ9 ⊢
              have HNE := Lib.hid (show u0.heap.size ≠ p9 from fun e => by have := some_lt HQ9.out; omega)
              have HQ10 := Lib.hid (heap_alloc_new u0 (.cells #[.string ⟨#[]⟩] 9))
              have HQ9 := Lib.hid (((bel_al u0 (.cells #[.string ⟨#[]⟩] 9)).block _ (some_lt HQ9.out)).trans HQ9.out)
              have HG10 := Lib.hid hHeld.size
              have HO10 := Lib.hid (heap_alloc_new u0 (.cells #[.string ⟨#[]⟩] 9))
              obtain ⟨p10, hp10⟩ : ∃ x, u0.heap.size = x := ⟨_, rfl⟩
              rw [hp10] at HQ10 HG10 HO10 HNE
              simp only [hp10]
              obtain ⟨u, hu⟩ : ∃ x, u0.alloc (.cells #[.string ⟨#[]⟩] 9) = x := ⟨_, rfl⟩
              rw [hu] at hHeld2 HQ10 HO10 HQ9 ⊢
              clear hHeld hu hu0 hp10
              have hHeld := hHeld2
              clear hHeld2
              refine wpAnyH_ready (rs := [7]) (by kernel_rfl) (by simp) ?_
              refine (AllReadyH.cons rfl (fun K hK => ?_) AllReadyH.nil)
              go_simp
              (go_at_call 15; (with_reducible refine (khd _ (HGL.out _ hHeld)).mono ?_); rintro _ u ⟨rfl, hBu⟩)
              have hBu2 := bel_next hHeld hBu
              refine hK.out _ _ hBu2 (fun hHeld => ?_)
              clear hK K
              try simp only [Act.put, List.setIfInBounds_toArray, List.set_cons_zero, List.set_cons_succ]
              have HQ9 := Lib.hid ((hBu.block _ (some_lt HQ9.out)).trans HQ9.out)
              have HQ10 := Lib.hid ((hBu.block _ (some_lt HQ10.out)).trans HQ10.out)
              clear hBu hBu2
              refine wpAnyH_ready (rs := [10]) (by kernel_rfl) (by simp) ?_
              refine (AllReadyH.cons rfl (fun K hK => ?_) AllReadyH.nil)
              (have y0 : u.cell? ⟨p9, 0, none⟩ = some (.string ⟨#[]⟩) := cell_of HQ9.out); (have yf := frozen_of (j := 0) HQ9.out); go_simp
              refine hK.out _ _ (Below.setCell hHeld HG9.out _) (fun hHeld => ?_)
              clear hK K y0 yf
              try simp only [Act.put]
              have HQ9 := Lib.hid (heap_setCell_same _ p9 0 _ _ (.string nm) HQ9.out)
              have HQ10 := Lib.hid ((heap_setCell_other _ ⟨p9, 0, none⟩ p10 (.string nm) (by first | exact HNE.out | exact HNE.out.symm)).trans HQ10.out)
              obtain ⟨u, hu⟩ : ∃ x, (u).setCell ⟨p9, 0, none⟩ (.string nm) = x := ⟨_, rfl⟩
              rw [hu] at hHeld HQ9 HQ10 ⊢
              clear hu
              refine wpAnyH_ready (rs := [11]) (by kernel_rfl) (by simp) ?_
              refine (AllReadyH.cons rfl (fun K hK => ?_) AllReadyH.nil)
              (have y0 : u.cell? ⟨p10, 0, none⟩ = some (.string ⟨#[]⟩) := cell_of HQ10.out); (have yf := frozen_of (j := 0) HQ10.out); go_simp
              refine hK.out _ _ (Below.setCell hHeld HG10.out _) (fun hHeld => ?_)
              clear hK K y0 yf
              try simp only [Act.put]
              have HQ10 := Lib.hid (heap_setCell_same _ p10 0 _ _ (.string hd) HQ10.out)
              have HQ9 := Lib.hid ((heap_setCell_other _ ⟨p10, 0, none⟩ p9 (.string hd) (by first | exact HNE.out | exact HNE.out.symm)).trans HQ9.out)
              obtain ⟨u, hu⟩ : ∃ x, (u).setCell ⟨p10, 0, none⟩ (.string hd) = x := ⟨_, rfl⟩
              rw [hu] at hHeld HQ9 HQ10 ⊢
              clear hu
              refine wpAnyH_done (by kernel_rfl) ?_ _
              go_wp2
              go_meet
              case rel => exact ⟨p9, p10, rfl, rfl, hHeld, HQ9.out, HQ10.out, HG9.out, HG10.out⟩
          ·
            go_simp
            refine hK.out _ _ (bel_next hHeld (bel_al _ _)) (fun hHeld2 => ?_)
            clear hK K
            try simp only [Act.put, List.setIfInBounds_toArray, List.set_cons_zero, List.set_cons_succ]
            obtain ⟨u0, hu0⟩ : ∃ x, x = u := ⟨_, rfl⟩
            rw [← hu0] at hHeld hHeld2 HQ9 ⊢
            have HNE := Lib.hid (show u0.heap.size ≠ p9 from fun e => by have := some_lt HQ9.out; omega)
            have HQ10 := Lib.hid (heap_alloc_new u0 (.cells #[.string ⟨#[]⟩] 9))
            have HQ9 := Lib.hid (((bel_al u0 (.cells #[.string ⟨#[]⟩] 9)).block _ (some_lt HQ9.out)).trans HQ9.out)
            have HG10 := Lib.hid hHeld.size
            have HO10 := Lib.hid (heap_alloc_new u0 (.cells #[.string ⟨#[]⟩] 9))
            obtain ⟨p10, hp10⟩ : ∃ x, u0.heap.size = x := ⟨_, rfl⟩
            rw [hp10] at HQ10 HG10 HO10 HNE
            simp only [hp10]
            obtain ⟨u, hu⟩ : ∃ x, u0.alloc (.cells #[.string ⟨#[]⟩] 9) = x := ⟨_, rfl⟩
            rw [hu] at hHeld2 HQ10 HO10 HQ9 ⊢
            clear hHeld hu hu0 hp10
            have hHeld := hHeld2
            clear hHeld2
            refine wpAnyH_ready (rs := [3]) (by kernel_rfl) (by simp) ?_
            refine (AllReadyH.cons rfl (fun K hK => ?_) AllReadyH.nil)
            go_simp
            (go_at_call 21; (with_reducible refine (last_is (HL2.out.below hHeld).at_ HFN.out).mono ?_); rintro _ u ⟨rfl, hBu⟩; rw [HLW.out])
            have hBu2 := bel_next hHeld hBu
            refine hK.out _ _ hBu2 (fun hHeld => ?_)
            clear hK K
            try simp only [Act.put, List.setIfInBounds_toArray, List.set_cons_zero, List.set_cons_succ]
            have HQ9 := Lib.hid ((hBu.block _ (some_lt HQ9.out)).trans HQ9.out)
            have HQ10 := Lib.hid ((hBu.block _ (some_lt HQ10.out)).trans HQ10.out)
            clear hBu hBu2
            refine wpAnyH_take (i := 4) (oi := ?r11o) (v := ?r11v) ?r11h (by kernel_rfl) (by kernel_rfl) (by kernel_rfl) ?r11q ?r11y hHeld ?r11r
            case r11h => (simp only [List.getElem?_toArray, List.getElem?_cons_succ, List.getElem?_cons_zero]; rfl)
            case r11q => exact fun _ _ _ h => h
            case r11y => (refine Or.inl ⟨by first | kernel_rfl | rfl, ?_⟩; intro w hSw; (try dsimp only at hSw); have z3 := (hSw.cell (p := ⟨p3, 0, none⟩) HP3.out.2).trans HP3.out.1; go_simp <;> (try with_reducible rfl))
            try simp only [Act.put, List.setIfInBounds_toArray, List.set_cons_zero, List.set_cons_succ]
            refine wpAnyH_ready (rs := [7]) (by kernel_rfl) (by simp) ?_
            refine (AllReadyH.cons rfl (fun K hK => ?_) AllReadyH.nil)
            go_simp
            (go_at_call 15; (with_reducible refine (khd _ (HGL.out _ hHeld)).mono ?_); rintro _ u ⟨rfl, hBu⟩)
            have hBu2 := bel_next hHeld hBu
            refine hK.out _ _ hBu2 (fun hHeld => ?_)
            clear hK K
            try simp only [Act.put, List.setIfInBounds_toArray, List.set_cons_zero, List.set_cons_succ]
            have HQ9 := Lib.hid ((hBu.block _ (some_lt HQ9.out)).trans HQ9.out)
            have HQ10 := Lib.hid ((hBu.block _ (some_lt HQ10.out)).trans HQ10.out)
            clear hBu hBu2
            refine wpAnyH_ready (rs := [10]) (by kernel_rfl) (by simp) ?_
            refine (AllReadyH.cons rfl (fun K hK => ?_) AllReadyH.nil)
            (have y0 : u.cell? ⟨p9, 0, none⟩ = some (.string ⟨#[]⟩) := cell_of HQ9.out); (have yf := frozen_of (j := 0) HQ9.out); go_simp
            refine hK.out _ _ (Below.setCell hHeld HG9.out _) (fun hHeld => ?_)
            clear hK K y0 yf
            try simp only [Act.put]
            have HQ9 := Lib.hid (heap_setCell_same _ p9 0 _ _ (.string nm) HQ9.out)
            have HQ10 := Lib.hid ((heap_setCell_other _ ⟨p9, 0, none⟩ p10 (.string nm) (by first | exact HNE.out | exact HNE.out.symm)).trans HQ10.out)
            obtain ⟨u, hu⟩ : ∃ x, (u).setCell ⟨p9, 0, none⟩ (.string nm) = x := ⟨_, rfl⟩
            rw [hu] at hHeld HQ9 HQ10 ⊢
            clear hu
            refine wpAnyH_ready (rs := [11]) (by kernel_rfl) (by simp) ?_
            refine (AllReadyH.cons rfl (fun K hK => ?_) AllReadyH.nil)
            (have y0 : u.cell? ⟨p10, 0, none⟩ = some (.string ⟨#[]⟩) := cell_of HQ10.out); (have yf := frozen_of (j := 0) HQ10.out); go_simp
            refine hK.out _ _ (Below.setCell hHeld HG10.out _) (fun hHeld => ?_)
            clear hK K y0 yf
            try simp only [Act.put]
            have HQ10 := Lib.hid (heap_setCell_same _ p10 0 _ _ (.string hd) HQ10.out)
            have HQ9 := Lib.hid ((heap_setCell_other _ ⟨p10, 0, none⟩ p9 (.string hd) (by first | exact HNE.out | exact HNE.out.symm)).trans HQ9.out)
            obtain ⟨u, hu⟩ : ∃ x, (u).setCell ⟨p10, 0, none⟩ (.string hd) = x := ⟨_, rfl⟩
            rw [hu] at hHeld HQ9 HQ10 ⊢
            clear hu
            refine wpAnyH_done (by kernel_rfl) ?_ _
            go_wp2
            go_meet
            case rel => exact ⟨p9, p10, rfl, rfl, hHeld, HQ9.out, HQ10.out, HG9.out, HG10.out⟩
        ·
          go_simp
          refine hK.out _ _ (bel_next hHeld (bel_al _ _)) (fun hHeld2 => ?_)
          clear hK K
          try simp only [Act.put, List.setIfInBounds_toArray, List.set_cons_zero, List.set_cons_succ]
          obtain ⟨u0, hu0⟩ : ∃ x, x = u := ⟨_, rfl⟩
          rw [← hu0] at hHeld hHeld2 HQ9 ⊢
          have HNE := Lib.hid (show u0.heap.size ≠ p9 from fun e => by have := some_lt HQ9.out; omega)
          have HQ10 := Lib.hid (heap_alloc_new u0 (.cells #[.string ⟨#[]⟩] 9))
          have HQ9 := Lib.hid (((bel_al u0 (.cells #[.string ⟨#[]⟩] 9)).block _ (some_lt HQ9.out)).trans HQ9.out)
          have HG10 := Lib.hid hHeld.size
          have HO10 := Lib.hid (heap_alloc_new u0 (.cells #[.string ⟨#[]⟩] 9))
          obtain ⟨p10, hp10⟩ : ∃ x, u0.heap.size = x := ⟨_, rfl⟩
          rw [hp10] at HQ10 HG10 HO10 HNE
          simp only [hp10]
          obtain ⟨u, hu⟩ : ∃ x, u0.alloc (.cells #[.string ⟨#[]⟩] 9) = x := ⟨_, rfl⟩
          rw [hu] at hHeld2 HQ10 HO10 HQ9 ⊢
          clear hHeld hu hu0 hp10
          have hHeld := hHeld2
          clear hHeld2
          refine wpAnyH_ready (rs := [1]) (by kernel_rfl) (by simp) ?_
          refine (AllReadyH.cons rfl (fun K hK => ?_) AllReadyH.nil)
          go_simp
          (go_at_call 13; (with_reducible refine (ksg _ (HGL.out _ hHeld)).mono ?_); rintro _ u ⟨rfl, hBu⟩)
          have hBu2 := bel_next hHeld hBu
          refine hK.out _ _ hBu2 (fun hHeld => ?_)
          clear hK K
          try simp only [Act.put, List.setIfInBounds_toArray, List.set_cons_zero, List.set_cons_succ]
          have HQ9 := Lib.hid ((hBu.block _ (some_lt HQ9.out)).trans HQ9.out)
          have HQ10 := Lib.hid ((hBu.block _ (some_lt HQ10.out)).trans HQ10.out)
          clear hBu hBu2
          refine wpAnyH_ready (rs := [3]) (by kernel_rfl) (by simp) ?_
          refine (AllReadyH.cons rfl (fun K hK => ?_) AllReadyH.nil)
          go_simp
          (go_at_call 21; (with_reducible refine (last_is (HL2.out.below hHeld).at_ HFN.out).mono ?_); rintro _ u ⟨rfl, hBu⟩; rw [HLW.out])
          have hBu2 := bel_next hHeld hBu
          refine hK.out _ _ hBu2 (fun hHeld => ?_)
          clear hK K
          try simp only [Act.put, List.setIfInBounds_toArray, List.set_cons_zero, List.set_cons_succ]
          have HQ9 := Lib.hid ((hBu.block _ (some_lt HQ9.out)).trans HQ9.out)
          have HQ10 := Lib.hid ((hBu.block _ (some_lt HQ10.out)).trans HQ10.out)
          clear hBu hBu2
          refine wpAnyH_take (i := 4) (oi := ?r12o) (v := ?r12v) ?r12h (by kernel_rfl) (by kernel_rfl) (by kernel_rfl) ?r12q ?r12y hHeld ?r12r
          case r12h => (simp only [List.getElem?_toArray, List.getElem?_cons_succ, List.getElem?_cons_zero]; rfl)
          case r12q => exact fun _ _ _ h => h
          case r12y => (refine Or.inl ⟨by first | kernel_rfl | rfl, ?_⟩; intro w hSw; (try dsimp only at hSw); have z3 := (hSw.cell (p := ⟨p3, 0, none⟩) HP3.out.2).trans HP3.out.1; go_simp <;> (try with_reducible rfl))
          try simp only [Act.put, List.setIfInBounds_toArray, List.set_cons_zero, List.set_cons_succ]
          refine wpAnyH_ready (rs := [7]) (by kernel_rfl) (by simp) ?_
          refine (AllReadyH.cons rfl (fun K hK => ?_) AllReadyH.nil)
          go_simp
          (go_at_call 15; (with_reducible refine (khd _ (HGL.out _ hHeld)).mono ?_); rintro _ u ⟨rfl, hBu⟩)
          have hBu2 := bel_next hHeld hBu
          refine hK.out _ _ hBu2 (fun hHeld => ?_)
          clear hK K
          try simp only [Act.put, List.setIfInBounds_toArray, List.set_cons_zero, List.set_cons_succ]
          have HQ9 := Lib.hid ((hBu.block _ (some_lt HQ9.out)).trans HQ9.out)
          have HQ10 := Lib.hid ((hBu.block _ (some_lt HQ10.out)).trans HQ10.out)
          clear hBu hBu2
          refine wpAnyH_ready (rs := [10]) (by kernel_rfl) (by simp) ?_
          refine (AllReadyH.cons rfl (fun K hK => ?_) AllReadyH.nil)
          (have y0 : u.cell? ⟨p9, 0, none⟩ = some (.string ⟨#[]⟩) := cell_of HQ9.out); (have yf := frozen_of (j := 0) HQ9.out); go_simp
          refine hK.out _ _ (Below.setCell hHeld HG9.out _) (fun hHeld => ?_)
          clear hK K y0 yf
          try simp only [Act.put]
          have HQ9 := Lib.hid (heap_setCell_same _ p9 0 _ _ (.string nm) HQ9.out)
          have HQ10 := Lib.hid ((heap_setCell_other _ ⟨p9, 0, none⟩ p10 (.string nm) (by first | exact HNE.out | exact HNE.out.symm)).trans HQ10.out)
          obtain ⟨u, hu⟩ : ∃ x, (u).setCell ⟨p9, 0, none⟩ (.string nm) = x := ⟨_, rfl⟩
          rw [hu] at hHeld HQ9 HQ10 ⊢
          clear hu
          refine wpAnyH_ready (rs := [11]) (by kernel_rfl) (by simp) ?_
          refine (AllReadyH.cons rfl (fun K hK => ?_) AllReadyH.nil)
          (have y0 : u.cell? ⟨p10, 0, none⟩ = some (.string ⟨#[]⟩) := cell_of HQ10.out); (have yf := frozen_of (j := 0) HQ10.out); go_simp
          refine hK.out _ _ (Below.setCell hHeld HG10.out _) (fun hHeld => ?_)
          clear hK K y0 yf
          try simp only [Act.put]
          have HQ10 := Lib.hid (heap_setCell_same _ p10 0 _ _ (.string hd) HQ10.out)
          have HQ9 := Lib.hid ((heap_setCell_other _ ⟨p10, 0, none⟩ p9 (.string hd) (by first | exact HNE.out | exact HNE.out.symm)).trans HQ9.out)
          obtain ⟨u, hu⟩ : ∃ x, (u).setCell ⟨p10, 0, none⟩ (.string hd) = x := ⟨_, rfl⟩
          rw [hu] at hHeld HQ9 HQ10 ⊢
          clear hu
          refine wpAnyH_done (by kernel_rfl) ?_ _
          go_wp2
          go_meet
          case rel => exact ⟨p9, p10, rfl, rfl, hHeld, HQ9.out, HQ10.out, HG9.out, HG10.out⟩
      ·
        go_simp
        refine hK.out _ _ (bel_next hHeld (bel_al _ _)) (fun hHeld2 => ?_)
        clear hK K
        try simp only [Act.put, List.setIfInBounds_toArray, List.set_cons_zero, List.set_cons_succ]
        obtain ⟨u0, hu0⟩ : ∃ x, x = u := ⟨_, rfl⟩
        rw [← hu0] at hHeld hHeld2  ⊢
        have HQ10 := Lib.hid (heap_alloc_new u0 (.cells #[.string ⟨#[]⟩] 9))
        have HG10 := Lib.hid hHeld.size
        have HO10 := Lib.hid (heap_alloc_new u0 (.cells #[.string ⟨#[]⟩] 9))
        obtain ⟨p10, hp10⟩ : ∃ x, u0.heap.size = x := ⟨_, rfl⟩
        rw [hp10] at HQ10 HG10 HO10 
        simp only [hp10]
        obtain ⟨u, hu⟩ : ∃ x, u0.alloc (.cells #[.string ⟨#[]⟩] 9) = x := ⟨_, rfl⟩
        rw [hu] at hHeld2 HQ10 HO10  ⊢
        clear hHeld hu hu0 hp10
        have hHeld := hHeld2
        clear hHeld2
        refine wpAnyH_ready (rs := [1, 8]) (by kernel_rfl) (by simp) ?_
        refine (AllReadyH.cons rfl (fun K hK => ?_) (AllReadyH.cons rfl (fun K hK => ?_) AllReadyH.nil))
        ·
          go_simp
          (go_at_call 13; (with_reducible refine (ksg _ (HGL.out _ hHeld)).mono ?_); rintro _ u ⟨rfl, hBu⟩)
          have hBu2 := bel_next hHeld hBu
          refine hK.out _ _ hBu2 (fun hHeld => ?_)
          clear hK K
          try simp only [Act.put, List.setIfInBounds_toArray, List.set_cons_zero, List.set_cons_succ]
          have HQ10 := Lib.hid ((hBu.block _ (some_lt HQ10.out)).trans HQ10.out)
          clear hBu hBu2
          refine wpAnyH_ready (rs := [3, 8]) (by kernel_rfl) (by simp) ?_
          refine (AllReadyH.cons rfl (fun K hK => ?_) (AllReadyH.cons rfl (fun K hK => ?_) AllReadyH.nil))
          ·
            go_simp
            (go_at_call 21; (with_reducible refine (last_is (HL2.out.below hHeld).at_ HFN.out).mono ?_); rintro _ u ⟨rfl, hBu⟩; rw [HLW.out])
            have hBu2 := bel_next hHeld hBu
            refine hK.out _ _ hBu2 (fun hHeld => ?_)
            clear hK K
            try simp only [Act.put, List.setIfInBounds_toArray, List.set_cons_zero, List.set_cons_succ]
            have HQ10 := Lib.hid ((hBu.block _ (some_lt HQ10.out)).trans HQ10.out)
            clear hBu hBu2
            refine wpAnyH_take (i := 4) (oi := ?r13o) (v := ?r13v) ?r13h (by kernel_rfl) (by kernel_rfl) (by kernel_rfl) ?r13q ?r13y hHeld ?r13r
            case r13h => (simp only [List.getElem?_toArray, List.getElem?_cons_succ, List.getElem?_cons_zero]; rfl)
            case r13q => exact fun _ _ _ h => h
            case r13y => (refine Or.inl ⟨by first | kernel_rfl | rfl, ?_⟩; intro w hSw; (try dsimp only at hSw); have z3 := (hSw.cell (p := ⟨p3, 0, none⟩) HP3.out.2).trans HP3.out.1; go_simp <;> (try with_reducible rfl))
            try simp only [Act.put, List.setIfInBounds_toArray, List.set_cons_zero, List.set_cons_succ]
            refine wpAnyH_ready (rs := [7, 8]) (by kernel_rfl) (by simp) ?_
            refine (AllReadyH.cons rfl (fun K hK => ?_) (AllReadyH.cons rfl (fun K hK => ?_) AllReadyH.nil))
            ·
              go_simp
              (go_at_call 15; (with_reducible refine (khd _ (HGL.out _ hHeld)).mono ?_); rintro _ u ⟨rfl, hBu⟩)
              have hBu2 := bel_next hHeld hBu
              refine hK.out _ _ hBu2 (fun hHeld => ?_)
              clear hK K
              try simp only [Act.put, List.setIfInBounds_toArray, List.set_cons_zero, List.set_cons_succ]
              have HQ10 := Lib.hid ((hBu.block _ (some_lt HQ10.out)).trans HQ10.out)
              clear hBu hBu2
              refine wpAnyH_ready (rs := [8]) (by kernel_rfl) (by simp) ?_
              refine (AllReadyH.cons rfl (fun K hK => ?_) AllReadyH.nil)
              go_simp
              refine hK.out _ _ (bel_next hHeld (bel_al _ _)) (fun hHeld2 => ?_)
              clear hK K
              try simp only [Act.put, List.setIfInBounds_toArray, List.set_cons_zero, List.set_cons_succ]
              obtain ⟨u0, hu0⟩ : ∃ x, x = u := ⟨_, rfl⟩
              rw [← hu0] at hHeld hHeld2 HQ10 ⊢
              have HNE := Lib.hid (show u0.heap.size ≠ p10 from fun e => by have := some_lt HQ10.out; omega)
              have HQ9 := Lib.hid (heap_alloc_new u0 (.cells #[.string ⟨#[]⟩] 9))
              have HQ10 := Lib.hid (((bel_al u0 (.cells #[.string ⟨#[]⟩] 9)).block _ (some_lt HQ10.out)).trans HQ10.out)
              have HG9 := Lib.hid hHeld.size
              have HO9 := Lib.hid (heap_alloc_new u0 (.cells #[.string ⟨#[]⟩] 9))
              obtain ⟨p9, hp9⟩ : ∃ x, u0.heap.size = x := ⟨_, rfl⟩
              rw [hp9] at HQ9 HG9 HO9 HNE
              simp only [hp9]
              obtain ⟨u, hu⟩ : ∃ x, u0.alloc (.cells #[.string ⟨#[]⟩] 9) = x := ⟨_, rfl⟩
              rw [hu] at hHeld2 HQ9 HO9 HQ10 ⊢
              clear hHeld hu hu0 hp9
              have hHeld := hHeld2
              clear hHeld2
              refine wpAnyH_ready (rs := [10]) (by kernel_rfl) (by simp) ?_
              refine (AllReadyH.cons rfl (fun K hK => ?_) AllReadyH.nil)
              (have y0 : u.cell? ⟨p9, 0, none⟩ = some (.string ⟨#[]⟩) := cell_of HQ9.out); (have yf := frozen_of (j := 0) HQ9.out); go_simp
              refine hK.out _ _ (Below.setCell hHeld HG9.out _) (fun hHeld => ?_)
              clear hK K y0 yf
              try simp only [Act.put]
              have HQ9 := Lib.hid (heap_setCell_same _ p9 0 _ _ (.string nm) HQ9.out)
              have HQ10 := Lib.hid ((heap_setCell_other _ ⟨p9, 0, none⟩ p10 (.string nm) (by first | exact HNE.out | exact HNE.out.symm)).trans HQ10.out)
              obtain ⟨u, hu⟩ : ∃ x, (u).setCell ⟨p9, 0, none⟩ (.string nm) = x := ⟨_, rfl⟩
              rw [hu] at hHeld HQ9 HQ10 ⊢
              clear hu
              refine wpAnyH_ready (rs := [11]) (by kernel_rfl) (by simp) ?_
              refine (AllReadyH.cons rfl (fun K hK => ?_) AllReadyH.nil)
              (have y0 : u.cell? ⟨p10, 0, none⟩ = some (.string ⟨#[]⟩) := cell_of HQ10.out); (have yf := frozen_of (j := 0) HQ10.out); go_simp
              refine hK.out _ _ (Below.setCell hHeld HG10.out _) (fun hHeld => ?_)
              clear hK K y0 yf
              try simp only [Act.put]
              have HQ10 := Lib.hid (heap_setCell_same _ p10 0 _ _ (.string hd) HQ10.out)
              have HQ9 := Lib.hid ((heap_setCell_other _ ⟨p10, 0, none⟩ p9 (.string hd) (by first | exact HNE.out | exact HNE.out.symm)).trans HQ9.out)
              obtain ⟨u, hu⟩ : ∃ x, (u).setCell ⟨p10, 0, none⟩ (.string hd) = x := ⟨_, rfl⟩
              rw [hu] at hHeld HQ9 HQ10 ⊢
              clear hu
              refine wpAnyH_done (by kernel_rfl) ?_ _
              go_wp2
              go_meet
              case rel => exact ⟨p9, p10, rfl, rfl, hHeld, HQ9.out, HQ10.out, HG9.out, HG10.out⟩
            ·
              go_simp
              refine hK.out _ _ (bel_next hHeld (bel_al _ _)) (fun hHeld2 => ?_)
              clear hK K
              try simp only [Act.put, List.setIfInBounds_toArray, List.set_cons_zero, List.set_cons_succ]
              obtain ⟨u0, hu0⟩ : ∃ x, x = u := ⟨_, rfl⟩
              rw [← hu0] at hHeld hHeld2 HQ10 ⊢
              have HNE := Lib.hid (show u0.heap.size ≠ p10 from fun e => by have := some_lt HQ10.out; omega)
              have HQ9 := Lib.hid (heap_alloc_new u0 (.cells #[.string ⟨#[]⟩] 9))
              have HQ10 := Lib.hid (((bel_al u0 (.cells #[.string ⟨#[]⟩] 9)).block _ (some_lt HQ10.out)).trans HQ10.out)
              have HG9 := Lib.hid hHeld.size
              have HO9 := Lib.hid (heap_alloc_new u0 (.cells #[.string ⟨#[]⟩] 9))
              obtain ⟨p9, hp9⟩ : ∃ x, u0.heap.size = x := ⟨_, rfl⟩
              rw [hp9] at HQ9 HG9 HO9 HNE
              simp only [hp9]
              obtain ⟨u, hu⟩ : ∃ x, u0.alloc (.cells #[.string ⟨#[]⟩] 9) = x := ⟨_, rfl⟩
              rw [hu] at hHeld2 HQ9 HO9 HQ10 ⊢
              clear hHeld hu hu0 hp9
              have hHeld := hHeld2
              clear hHeld2
              refine wpAnyH_ready (rs := [7]) (by kernel_rfl) (by simp) ?_
              refine (AllReadyH.cons rfl (fun K hK => ?_) AllReadyH.nil)
              go_simp
              (go_at_call 15; (with_reducible refine (khd _ (HGL.out _ hHeld)).mono ?_); rintro _ u ⟨rfl, hBu⟩)
              have hBu2 := bel_next hHeld hBu
              refine hK.out _ _ hBu2 (fun hHeld => ?_)
              clear hK K
              try simp only [Act.put, List.setIfInBounds_toArray, List.set_cons_zero, List.set_cons_succ]
              have HQ9 := Lib.hid ((hBu.block _ (some_lt HQ9.out)).trans HQ9.out)
              have HQ10 := Lib.hid ((hBu.block _ (some_lt HQ10.out)).trans HQ10.out)
              clear hBu hBu2
              refine wpAnyH_ready (rs := [10]) (by kernel_rfl) (by simp) ?_
              refine (AllReadyH.cons rfl (fun K hK => ?_) AllReadyH.nil)
              (have y0 : u.cell? ⟨p9, 0, none⟩ = some (.string ⟨#[]⟩) := cell_of HQ9.out); (have yf := frozen_of (j := 0) HQ9.out); go_simp
              refine hK.out _ _ (Below.setCell hHeld HG9.out _) (fun hHeld => ?_)
              clear hK K y0 yf
              try simp only [Act.put]
              have HQ9 := Lib.hid (heap_setCell_same _ p9 0 _ _ (.string nm) HQ9.out)
              have HQ10 := Lib.hid ((heap_setCell_other _ ⟨p9, 0, none⟩ p10 (.string nm) (by first | exact HNE.out | exact HNE.out.symm)).trans HQ10.out)
              obtain ⟨u, hu⟩ : ∃ x, (u).setCell ⟨p9, 0, none⟩ (.string nm) = x := ⟨_, rfl⟩
              rw [hu] at hHeld HQ9 HQ10 ⊢
              clear hu
              refine wpAnyH_ready (rs := [11]) (by kernel_rfl) (by simp) ?_
              refine (AllReadyH.cons rfl (fun K hK => ?_) AllReadyH.nil)
              (have y0 : u.cell? ⟨p10, 0, none⟩ = some (.string ⟨#[]⟩) := cell_of HQ10.out); (have yf := frozen_of (j := 0) HQ10.out); go_simp
              refine hK.out _ _ (Below.setCell hHeld HG10.out _) (fun hHeld => ?_)
              clear hK K y0 yf
              try simp only [Act.put]
              have HQ10 := Lib.hid (heap_setCell_same _ p10 0 _ _ (.string hd) HQ10.out)
              have HQ9 := Lib.hid ((heap_setCell_other _ ⟨p10, 0, none⟩ p9 (.string hd) (by first | exact HNE.out | exact HNE.out.symm)).trans HQ9.out)
              obtain ⟨u, hu⟩ : ∃ x, (u).setCell ⟨p10, 0, none⟩ (.string hd) = x := ⟨_, rfl⟩
              rw [hu] at hHeld HQ9 HQ10 ⊢
              clear hu
              refine wpAnyH_done (by kernel_rfl) ?_ _
              go_wp2
              go_meet
              case rel => exact ⟨p9, p10, rfl, rfl, hHeld, HQ9.out, HQ10.out, HG9.out, HG10.out⟩
          ·
            go_simp
            refine hK.out _ _ (bel_next hHeld (bel_al _ _)) (fun hHeld2 => ?_)
            clear hK K
            try simp only [Act.put, List.setIfInBounds_toArray, List.set_cons_zero, List.set_cons_succ]
            obtain ⟨u0, hu0⟩ : ∃ x, x = u := ⟨_, rfl⟩
            rw [← hu0] at hHeld hHeld2 HQ10 ⊢
            have HNE := Lib.hid (show u0.heap.size ≠ p10 from fun e => by have := some_lt HQ10.out; omega)
            have HQ9 := Lib.hid (heap_alloc_new u0 (.cells #[.string ⟨#[]⟩] 9))
            have HQ10 := Lib.hid (((bel_al u0 (.cells #[.string ⟨#[]⟩] 9)).block _ (some_lt HQ10.out)).trans HQ10.out)
            have HG9 := Lib.hid hHeld.size
            have HO9 := Lib.hid (heap_alloc_new u0 (.cells #[.string ⟨#[]⟩] 9))
            obtain ⟨p9, hp9⟩ : ∃ x, u0.heap.size = x := ⟨_, rfl⟩
            rw [hp9] at HQ9 HG9 HO9 HNE
            simp only [hp9]
            obtain ⟨u, hu⟩ : ∃ x, u0.alloc (.cells #[.string ⟨#[]⟩] 9) = x := ⟨_, rfl⟩
            rw [hu] at hHeld2 HQ9 HO9 HQ10 ⊢
            clear hHeld hu hu0 hp9
            have hHeld := hHeld2
            clear hHeld2
            refine wpAnyH_ready (rs := [3]) (by kernel_rfl) (by simp) ?_
            refine (AllReadyH.cons rfl (fun K hK => ?_) AllReadyH.nil)
            go_simp
            (go_at_call 21; (with_reducible refine (last_is (HL2.out.below hHeld).at_ HFN.out).mono ?_); rintro _ u ⟨rfl, hBu⟩; rw [HLW.out])
            have hBu2 := bel_next hHeld hBu
            refine hK.out _ _ hBu2 (fun hHeld => ?_)
            clear hK K
            try simp only [Act.put, List.setIfInBounds_toArray, List.set_cons_zero, List.set_cons_succ]
            have HQ9 := Lib.hid ((hBu.block _ (some_lt HQ9.out)).trans HQ9.out)
            have HQ10 := Lib.hid ((hBu.block _ (some_lt HQ10.out)).trans HQ10.out)
            clear hBu hBu2
            refine wpAnyH_take (i := 4) (oi := ?r14o) (v := ?r14v) ?r14h (by kernel_rfl) (by kernel_rfl) (by kernel_rfl) ?r14q ?r14y hHeld ?r14r
            case r14h => (simp only [List.getElem?_toArray, List.getElem?_cons_succ, List.getElem?_cons_zero]; rfl)
            case r14q => exact fun _ _ _ h => h
            case r14y => (refine Or.inl ⟨by first | kernel_rfl | rfl, ?_⟩; intro w hSw; (try dsimp only at hSw); have z3 := (hSw.cell (p := ⟨p3, 0, none⟩) HP3.out.2).trans HP3.out.1; go_simp <;> (try with_reducible rfl))
            try simp only [Act.put, List.setIfInBounds_toArray, List.set_cons_zero, List.set_cons_succ]
            refine wpAnyH_ready (rs := [7]) (by kernel_rfl) (by simp) ?_
            refine (AllReadyH.cons rfl (fun K hK => ?_) AllReadyH.nil)
            go_simp
            (go_at_call 15; (with_reducible refine (khd _ (HGL.out _ hHeld)).mono ?_); rintro _ u ⟨rfl, hBu⟩)
            have hBu2 := bel_next hHeld hBu
            refine hK.out _ _ hBu2 (fun hHeld => ?_)
            clear hK K
            try simp only [Act.put, List.setIfInBounds_toArray, List.set_cons_zero, List.set_cons_succ]
            have HQ9 := Lib.hid ((hBu.block _ (some_lt HQ9.out)).trans HQ9.out)
            have HQ10 := Lib.hid ((hBu.block _ (some_lt HQ10.out)).trans HQ10.out)
            clear hBu hBu2
            refine wpAnyH_ready (rs := [10]) (by kernel_rfl) (by simp) ?_
            refine (AllReadyH.cons rfl (fun K hK => ?_) AllReadyH.nil)
            (have y0 : u.cell? ⟨p9, 0, none⟩ = some (.string ⟨#[]⟩) := cell_of HQ9.out); (have yf := frozen_of (j := 0) HQ9.out); go_simp
            refine hK.out _ _ (Below.setCell hHeld HG9.out _) (fun hHeld => ?_)
            clear hK K y0 yf
            try simp only [Act.put]
            have HQ9 := Lib.hid (heap_setCell_same _ p9 0 _ _ (.string nm) HQ9.out)
            have HQ10 := Lib.hid ((heap_setCell_other _ ⟨p9, 0, none⟩ p10 (.string nm) (by first | exact HNE.out | exact HNE.out.symm)).trans HQ10.out)
            obtain ⟨u, hu⟩ : ∃ x, (u).setCell ⟨p9, 0, none⟩ (.string nm) = x := ⟨_, rfl⟩
            rw [hu] at hHeld HQ9 HQ10 ⊢
            clear hu
            refine wpAnyH_ready (rs := [11]) (by kernel_rfl) (by simp) ?_
            refine (AllReadyH.cons rfl (fun K hK => ?_) AllReadyH.nil)
            (have y0 : u.cell? ⟨p10, 0, none⟩ = some (.string ⟨#[]⟩) := cell_of HQ10.out); (have yf := frozen_of (j := 0) HQ10.out); go_simp
            refine hK.out _ _ (Below.setCell hHeld HG10.out _) (fun hHeld => ?_)
            clear hK K y0 yf
            try simp only [Act.put]
            have HQ10 := Lib.hid (heap_setCell_same _ p10 0 _ _ (.string hd) HQ10.out)
            have HQ9 := Lib.hid ((heap_setCell_other _ ⟨p10, 0, none⟩ p9 (.string hd) (by first | exact HNE.out | exact HNE.out.symm)).trans HQ9.out)
            obtain ⟨u, hu⟩ : ∃ x, (u).setCell ⟨p10, 0, none⟩ (.string hd) = x := ⟨_, rfl⟩
            rw [hu] at hHeld HQ9 HQ10 ⊢
            clear hu
            refine wpAnyH_done (by kernel_rfl) ?_ _
            go_wp2
            go_meet
            case rel => exact ⟨p9, p10, rfl, rfl, hHeld, HQ9.out, HQ10.out, HG9.out, HG10.out⟩
        ·
          go_simp
          refine hK.out _ _ (bel_next hHeld (bel_al _ _)) (fun hHeld2 => ?_)
          clear hK K
          try simp only [Act.put, List.setIfInBounds_toArray, List.set_cons_zero, List.set_cons_succ]
          obtain ⟨u0, hu0⟩ : ∃ x, x = u := ⟨_, rfl⟩
          rw [← hu0] at hHeld hHeld2 HQ10 ⊢
          have HNE := Lib.hid (show u0.heap.size ≠ p10 from fun e => by have := some_lt HQ10.out; omega)
          have HQ9 := Lib.hid (heap_alloc_new u0 (.cells #[.string ⟨#[]⟩] 9))
          have HQ10 := Lib.hid (((bel_al u0 (.cells #[.string ⟨#[]⟩] 9)).block _ (some_lt HQ10.out)).trans HQ10.out)
          have HG9 := Lib.hid hHeld.size
          have HO9 := Lib.hid (heap_alloc_new u0 (.cells #[.string ⟨#[]⟩] 9))
          obtain ⟨p9, hp9⟩ : ∃ x, u0.heap.size = x := ⟨_, rfl⟩
          rw [hp9] at HQ9 HG9 HO9 HNE
          simp only [hp9]
          obtain ⟨u, hu⟩ : ∃ x, u0.alloc (.cells #[.string ⟨#[]⟩] 9) = x := ⟨_, rfl⟩
          rw [hu] at hHeld2 HQ9 HO9 HQ10 ⊢
          clear hHeld hu hu0 hp9
          have hHeld := hHeld2
          clear hHeld2
          refine wpAnyH_ready (rs := [1]) (by kernel_rfl) (by simp) ?_
          refine (AllReadyH.cons rfl (fun K hK => ?_) AllReadyH.nil)
          go_simp
          (go_at_call 13; (with_reducible refine (ksg _ (HGL.out _ hHeld)).mono ?_); rintro _ u ⟨rfl, hBu⟩)
          have hBu2 := bel_next hHeld hBu
          refine hK.out _ _ hBu2 (fun hHeld => ?_)
          clear hK K
          try simp only [Act.put, List.setIfInBounds_toArray, List.set_cons_zero, List.set_cons_succ]
          have HQ9 := Lib.hid ((hBu.block _ (some_lt HQ9.out)).trans HQ9.out)
          have HQ10 := Lib.hid ((hBu.block _ (some_lt HQ10.out)).trans HQ10.out)
          clear hBu hBu2
          refine wpAnyH_ready (rs := [3]) (by kernel_rfl) (by simp) ?_
          refine (AllReadyH.cons rfl (fun K hK => ?_) AllReadyH.nil)
          go_simp
          (go_at_call 21; (with_reducible refine (last_is (HL2.out.below hHeld).at_ HFN.out).mono ?_); rintro _ u ⟨rfl, hBu⟩; rw [HLW.out])
          have hBu2 := bel_next hHeld hBu
          refine hK.out _ _ hBu2 (fun hHeld => ?_)
          clear hK K
          try simp only [Act.put, List.setIfInBounds_toArray, List.set_cons_zero, List.set_cons_succ]
          have HQ9 := Lib.hid ((hBu.block _ (some_lt HQ9.out)).trans HQ9.out)
          have HQ10 := Lib.hid ((hBu.block _ (some_lt HQ10.out)).trans HQ10.out)
          clear hBu hBu2
          refine wpAnyH_take (i := 4) (oi := ?r15o) (v := ?r15v) ?r15h (by kernel_rfl) (by kernel_rfl) (by kernel_rfl) ?r15q ?r15y hHeld ?r15r
          case r15h => (simp only [List.getElem?_toArray, List.getElem?_cons_succ, List.getElem?_cons_zero]; rfl)
          case r15q => exact fun _ _ _ h => h
          case r15y => (refine Or.inl ⟨by first | kernel_rfl | rfl, ?_⟩; intro w hSw; (try dsimp only at hSw); have z3 := (hSw.cell (p := ⟨p3, 0, none⟩) HP3.out.2).trans HP3.out.1; go_simp <;> (try with_reducible rfl))
          try simp only [Act.put, List.setIfInBounds_toArray, List.set_cons_zero, List.set_cons_succ]
          refine wpAnyH_ready (rs := [7]) (by kernel_rfl) (by simp) ?_
          refine (AllReadyH.cons rfl (fun K hK => ?_) AllReadyH.nil)
          go_simp
          (go_at_call 15; (with_reducible refine (khd _ (HGL.out _ hHeld)).mono ?_); rintro _ u ⟨rfl, hBu⟩)
          have hBu2 := bel_next hHeld hBu
          refine hK.out _ _ hBu2 (fun hHeld => ?_)
          clear hK K
          try simp only [Act.put, List.setIfInBounds_toArray, List.set_cons_zero, List.set_cons_succ]
          have HQ9 := Lib.hid ((hBu.block _ (some_lt HQ9.out)).trans HQ9.out)
          have HQ10 := Lib.hid ((hBu.block _ (some_lt HQ10.out)).trans HQ10.out)
          clear hBu hBu2
          refine wpAnyH_ready (rs := [10]) (by kernel_rfl) (by simp) ?_
          refine (AllReadyH.cons rfl (fun K hK => ?_) AllReadyH.nil)
          (have y0 : u.cell? ⟨p9, 0, none⟩ = some (.string ⟨#[]⟩) := cell_of HQ9.out); (have yf := frozen_of (j := 0) HQ9.out); go_simp
          refine hK.out _ _ (Below.setCell hHeld HG9.out _) (fun hHeld => ?_)
          clear hK K y0 yf
          try simp only [Act.put]
          have HQ9 := Lib.hid (heap_setCell_same _ p9 0 _ _ (.string nm) HQ9.out)
          have HQ10 := Lib.hid ((heap_setCell_other _ ⟨p9, 0, none⟩ p10 (.string nm) (by first | exact HNE.out | exact HNE.out.symm)).trans HQ10.out)
          obtain ⟨u, hu⟩ : ∃ x, (u).setCell ⟨p9, 0, none⟩ (.string nm) = x := ⟨_, rfl⟩
          rw [hu] at hHeld HQ9 HQ10 ⊢
          clear hu
          refine wpAnyH_ready (rs := [11]) (by kernel_rfl) (by simp) ?_
          refine (AllReadyH.cons rfl (fun K hK => ?_) AllReadyH.nil)
          (have y0 : u.cell? ⟨p10, 0, none⟩ = some (.string ⟨#[]⟩) := cell_of HQ10.out); (have yf := frozen_of (j := 0) HQ10.out); go_simp
          refine hK.out _ _ (Below.setCell hHeld HG10.out _) (fun hHeld => ?_)
          clear hK K y0 yf
          try simp only [Act.put]
          have HQ10 := Lib.hid (heap_setCell_same _ p10 0 _ _ (.string hd) HQ10.out)
          have HQ9 := Lib.hid ((heap_setCell_other _ ⟨p10, 0, none⟩ p9 (.string hd) (by first | exact HNE.out | exact HNE.out.symm)).trans HQ9.out)
          obtain ⟨u, hu⟩ : ∃ x, (u).setCell ⟨p10, 0, none⟩ (.string hd) = x := ⟨_, rfl⟩
          rw [hu] at hHeld HQ9 HQ10 ⊢
          clear hu
          refine wpAnyH_done (by kernel_rfl) ?_ _
          go_wp2
          go_meet
          case rel => exact ⟨p9, p10, rfl, rfl, hHeld, HQ9.out, HQ10.out, HG9.out, HG10.out⟩
    case rest =>
      obtain ⟨p9, p10, rfl, rfl, hB5, hx9, hx10, hg9, hg10⟩ := hcut
      have HL5 := Lib.hid (HL2.out.below hB5)
      have HW5 := Lib.hid (HW2.out.trans (WWent.below HL2.out.at_ hB5))
      have HX5 := Lib.hid ((hB5.block p3 (some_lt HX3.out)).trans HX3.out)
      have HX9 := Lib.hid hx9
      have HX10 := Lib.hid hx10
      have y9 : wc.cell? ⟨p9, 0, none⟩ = some (.string nm) := cell_of hx9
      have y10 : wc.cell? ⟨p10, 0, none⟩ = some (.string hd) := cell_of hx10
      have HV := Lib.hid (show ∀ p, w.heap.size ≤ p → v.ownBlock ≠ some p from fun p hp e => by
        obtain ⟨c, e1⟩ := H.out.at_.rcs.heap e
        have := some_lt e1; omega)
      have HG := Lib.hid (And.intro hg9 hg10)
      have HSZ := Lib.hid (show w.heap.size ≤ w2.heap.size from HW2.out.frm.size)
      clear hB5 hx9 hx10 hg9 hg10 khd ksg
      by_cases hz9 : nm.size = 0
      · have hr : ∀ q, beginW S W kept st q = (11, S, W) := fun q => by rw [HBW.out, if_pos (Or.inl hz9)]
        have hne := size0 hz9
        subst hne
        have HR := Lib.hid hr
        clear hz9 hr
        go_wp2
        go_ret
        exact ⟨w.heap.size, Nat.le_refl _, L, v, by rw [HR.out]; rfl, by rw [HR.out]; exact HW5.out⟩
      · by_cases hz10 : hd.size = 0
        · have hr : ∀ q, beginW S W kept st q = (11, S, W) := fun q => by rw [HBW.out, if_pos (Or.inr hz10)]
          have hne := size0 hz10
          subst hne
          have hne9 := isEmpty_no hz9
          have HR := Lib.hid hr
          clear hz9 hz10 hr
          go_wp2
          go_ret
          exact ⟨w.heap.size, Nat.le_refl _, L, v, by rw [HR.out]; rfl, by rw [HR.out]; exact HW5.out⟩
        · have hne9 := isEmpty_no hz9
          have hne10 := isEmpty_no hz10
          have HBW2 := Lib.hid (fun q => (HBW.out q).trans (if_neg (fun e => e.elim hz9 hz10)))
          clear hz9 hz10
          go_wp2
          have hx11 := heap_alloc_new wc (.cells #[Value.func (Fn.func 83) #[] #[.pointer (some ⟨p3, 0, none⟩), .pointer (some ⟨p9, 0, none⟩)], Value.func (Fn.func 85) #[] #[.pointer (some ⟨p3, 0, none⟩), .pointer (some ⟨p9, 0, none⟩), .pointer (some ⟨p10, 0, none⟩)], Value.func (Fn.func 86) #[] #[.pointer (some ⟨p3, 0, none⟩), .pointer (some ⟨p9, 0, none⟩)], Value.func (Fn.func 87) #[] #[.pointer (some ⟨p3, 0, none⟩)]] 42)
          have hal := bel_al wc (.cells #[Value.func (Fn.func 83) #[] #[.pointer (some ⟨p3, 0, none⟩), .pointer (some ⟨p9, 0, none⟩)], Value.func (Fn.func 85) #[] #[.pointer (some ⟨p3, 0, none⟩), .pointer (some ⟨p9, 0, none⟩), .pointer (some ⟨p10, 0, none⟩)], Value.func (Fn.func 86) #[] #[.pointer (some ⟨p3, 0, none⟩), .pointer (some ⟨p9, 0, none⟩)], Value.func (Fn.func 87) #[] #[.pointer (some ⟨p3, 0, none⟩)]] 42)
          have HL4 := Lib.hid (HL5.out.below hal)
          have HW4 := Lib.hid (HW5.out.trans (WWent.below HL5.out.at_ hal))
          have HB4 := Lib.hid (And.intro ((hal.block p3 (some_lt HX5.out)).trans HX5.out) (And.intro ((hal.block p9 (some_lt HX9.out)).trans HX9.out) ((hal.block p10 (some_lt HX10.out)).trans HX10.out)))
          have HSW := Lib.hid (show w.heap.size ≤ wc.heap.size from HW5.out.frm.size)
          obtain ⟨p11, hp11⟩ : ∃ x, wc.heap.size = x := ⟨_, rfl⟩
          rw [hp11] at hx11 HSW
          simp only [hp11]
          obtain ⟨w4, hw4⟩ : ∃ x, wc.alloc (.cells #[Value.func (Fn.func 83) #[] #[.pointer (some ⟨p3, 0, none⟩), .pointer (some ⟨p9, 0, none⟩)], Value.func (Fn.func 85) #[] #[.pointer (some ⟨p3, 0, none⟩), .pointer (some ⟨p9, 0, none⟩), .pointer (some ⟨p10, 0, none⟩)], Value.func (Fn.func 86) #[] #[.pointer (some ⟨p3, 0, none⟩), .pointer (some ⟨p9, 0, none⟩)], Value.func (Fn.func 87) #[] #[.pointer (some ⟨p3, 0, none⟩)]] 42) = x := ⟨_, rfl⟩
          rw [hw4] at hx11 HL4 HW4 HB4
          simp only [hw4]
          have HX11 := Lib.hid hx11
          have HV3 := Lib.hid (HV.out p3 (by rw [HP0.out]; exact Nat.le_refl _))
          have HV9 := Lib.hid (HV.out p9 (Nat.le_trans HSZ.out HG.out.1))
          have HV10 := Lib.hid (HV.out p10 (Nat.le_trans HSZ.out HG.out.2))
          have HV11 := Lib.hid (HV.out p11 HSW.out)
          clear hp11 hw4 hal hx11 y9 y10 HX5 HX9 HX10 HV HG HSZ HSW
          go_loopg [51] 4 (fun g iv wn => ∃ (i q : Nat) (L2 : Lay), i + g = 4 ∧ iv = .int .i64 (i : Int) ∧ w.heap.size ≤ q ∧ WWent w wn b S (stB S nm hd q i) L L2 a W W v v ∧ (∀ j, j < i → erB S nm hd q j = 0) ∧ wn.heap[p3]? = some (.cells #[.pointer (some ⟨a, 0, none⟩)] 33) ∧ wn.heap[p9]? = some (.cells #[.string nm] 9) ∧ wn.heap[p10]? = some (.cells #[.string hd] 9) ∧ wn.heap[p11]? = some (.cells #[Value.func (Fn.func 83) #[] #[.pointer (some ⟨p3, 0, none⟩), .pointer (some ⟨p9, 0, none⟩)], Value.func (Fn.func 85) #[] #[.pointer (some ⟨p3, 0, none⟩), .pointer (some ⟨p9, 0, none⟩), .pointer (some ⟨p10, 0, none⟩)], Value.func (Fn.func 86) #[] #[.pointer (some ⟨p3, 0, none⟩), .pointer (some ⟨p9, 0, none⟩)], Value.func (Fn.func 87) #[] #[.pointer (some ⟨p3, 0, none⟩)]] 42))
          case atStart => exact ⟨0, w.heap.size, L, by omega, rfl, Nat.le_refl _, HW4.out, fun j hj => absurd hj (Nat.not_lt_zero _), HB4.out.1, HB4.out.2.1, HB4.out.2.2, HX11.out⟩
          case round =>
            obtain ⟨i, q, L2, hi, rfl, hq, hW, hE, x3, x9, x10, x11⟩ := hrel
            have HW := Lib.hid hW
            have HLr := Lib.hid (H.out.next hW)
            have HE := Lib.hid hE
            have HQ := Lib.hid hq
            have HX := Lib.hid (And.intro x3 (And.intro x9 (And.intro x10 x11)))
            have hchg : (stB S nm hd q i).chg.length ≤ 1000000 := by have h1 := stB_chg S nm hd q i; have h2 := HCHG.out; omega
            have z3 : wr.cell? ⟨p3, 0, none⟩ = some (.pointer (some ⟨a, 0, none⟩)) := cell_of x3
            clear hW hE hq
            cases gk with
            | zero =>
              obtain rfl : i = 4 := by omega
              have hlt : ¬ ((4 : Nat) : Int) < 4 := by omega
              have hEnd : beginW S W kept st q = (0, stB S nm hd q 4, { W with sg := beginN S }) := by
                rw [HBW2.out, if_neg (fun e => e (HE.out 0 (by omega))), if_neg (fun e => e (HE.out 1 (by omega))), if_neg (fun e => e (HE.out 2 (by omega))), if_neg (fun e => e (HE.out 3 (by omega)))]
              have HEnd := Lib.hid hEnd
              have hset : WWent wr (wr.setCell ⟨a, 1, none⟩ (.int .i64 bn)) b (stB S nm hd q 4) (stB S nm hd q 4) L2 L2 a W { W with sg := beginN S } v v := WWent.set HLr.out.at_ _ 1 _ (by rw [HBQ.out]; rfl) rfl
              have HSet := Lib.hid (HW.out.trans hset)
              have y1 := HLr.out.at_.cells.c1
              have yf := HLr.out.at_.free 1
              clear hEnd hset x3 x9 x10 x11
              go_wp2
              go_ret
              exact ⟨q, HQ.out, L2, v, by rw [HEnd.out]; rfl, by rw [HEnd.out]; exact HSet.out⟩
            | succ g =>
              have hlt : (i : Int) < 4 := by omega
              have hiw : IntKind.i64.wrap ((i : Int) + 1) = (i : Int) + 1 := by rw [IntKind.wrap_i64]; omega
              have HLd := Lib.hid (HLr.out.below (Below.refl _ wr).drew)
              match i, hlt with
              | 0, _ => as_aux_lemma =>
                have c11 : wr.cell? ⟨p11, 0, none⟩ = some (Value.func (Fn.func 83) #[] #[.pointer (some ⟨p3, 0, none⟩), .pointer (some ⟨p9, 0, none⟩)]) := cell_of x11
                have eg : ∀ args w, (callFunc 83 args).run Tryz.prog w = .ok (.enter 83 args) w := enters_of Tryz.func83 (by kernel_rfl) rfl
                have kb : Calls Tryz.prog 83 #[.pointer (some ⟨p3, 0, none⟩), .pointer (some ⟨p9, 0, none⟩)] wr.drew (fun e w' => ∃ q L', wr.drew.heap.size ≤ q ∧ e = .returned (.int .i64 (erB S nm hd q 0)) ∧ WWent wr.drew w' b S (stB S nm hd q 1) L2 L' a W W v v) := begin1_is HLd.out x3 x9 x10 HV9.out HV10.out hchg hns hhs
                clear x3 x9 x10 x11
                go_upto_region 12 with fail
                refine wp_region_held_drew (S := (fun W => W.cell? ⟨p3, 0, none⟩ = some (.pointer (some ⟨a, 0, none⟩)))) (by kernel_rfl) z3 (fun hHeld => ?_)
                refine wpAnyH_take (i := 0) (oi := ?p01o) (v := ?p01v) ?p01h (by kernel_rfl) (by kernel_rfl) (by kernel_rfl) ?p01q ?p01y hHeld ?p01r
                case p01h => (simp only [List.getElem?_toArray, List.getElem?_cons_zero]; rfl)
                case p01q => exact fun _ _ _ h => h
                case p01y => (refine Or.inl ⟨by first | kernel_rfl | rfl, ?_⟩; intro w hSw; (try dsimp only at hSw); have u1 := hSw; go_simp <;> (try with_reducible rfl))
                try simp only [Act.put, List.setIfInBounds_toArray, List.set_cons_zero, List.set_cons_succ]
                refine wpAnyH_take (i := 1) (oi := ?p02o) (v := ?p02v) ?p02h (by kernel_rfl) (by kernel_rfl) (by kernel_rfl) ?p02q ?p02y hHeld ?p02r
                case p02h => (simp only [List.getElem?_toArray, List.getElem?_cons_succ, List.getElem?_cons_zero]; rfl)
                case p02q => exact fun _ _ _ h => h
                case p02y => (refine Or.inl ⟨by first | kernel_rfl | rfl, ?_⟩; intro w hSw; (try dsimp only at hSw); have u1 := hSw; go_simp <;> (try with_reducible rfl))
                try simp only [Act.put, List.setIfInBounds_toArray, List.set_cons_zero, List.set_cons_succ]
                refine wpAnyH_ready (rs := [2]) (by kernel_rfl) (by simp) ?_
                refine (AllReadyH.cons rfl (fun K hK => ?_) AllReadyH.nil)
                go_simp
                (go_at_call 83; (with_reducible refine kb.mono ?_); rintro _ w6 ⟨q1, L3, hq1, rfl, hW6⟩; (have HQ1 := Lib.hid (Nat.le_trans HW.out.frm.size hq1)); (obtain ⟨z, hz⟩ : ∃ z, erB S nm hd q1 0 = z := ⟨_, rfl⟩); rw [hz]; (have HZ := Lib.hid hz); (have HX6 := Lib.hid (And.intro (box_went HLd.out.at_ hW6 HX.out.1 (by decide) (by decide) (by decide) (by decide) (by decide) HV3.out) (And.intro (box_went HLd.out.at_ hW6 HX.out.2.1 (by decide) (by decide) (by decide) (by decide) (by decide) HV9.out) (box_went HLd.out.at_ hW6 HX.out.2.2.1 (by decide) (by decide) (by decide) (by decide) (by decide) HV10.out)))); (have HX61 := Lib.hid (box_went HLd.out.at_ hW6 HX.out.2.2.2 (by decide) (by decide) (by decide) (by decide) (by decide) HV11.out)); (have HW6 := Lib.hid ((HW.out.trans (WWent.below HLr.out.at_ (Below.refl _ wr).drew)).trans hW6)); (have HL6 := Lib.hid (H.out.next HW6.out)); clear hz hW6 kb)
                refine hK.out _ _ (cell_of HX6.out.1) (fun hHeld => ?_)
                clear hK K
                try simp only [Act.put, List.setIfInBounds_toArray, List.set_cons_zero, List.set_cons_succ]
                refine wpAnyH_ready (rs := [3]) (by kernel_rfl) (by simp) ?_
                refine (AllReadyH.cons rfl (fun K hK => ?_) AllReadyH.nil)
                go_simp
                (go_at_call 56; (with_reducible refine (told_is HL6.out.at_ z).mono ?_); rintro _ w7 ⟨rfl, hW7⟩; (have HX7 := Lib.hid (And.intro (box_went HL6.out.at_ hW7 HX6.out.1 (by decide) (by decide) (by decide) (by decide) (by decide) HV3.out) (And.intro (box_went HL6.out.at_ hW7 HX6.out.2.1 (by decide) (by decide) (by decide) (by decide) (by decide) HV9.out) (And.intro (box_went HL6.out.at_ hW7 HX6.out.2.2 (by decide) (by decide) (by decide) (by decide) (by decide) HV10.out) (box_went HL6.out.at_ hW7 HX61.out (by decide) (by decide) (by decide) (by decide) (by decide) HV11.out))))); (have HW7 := Lib.hid (HW6.out.trans hW7)); (have HL7 := Lib.hid (H.out.next HW7.out)); clear hW7)
                refine hK.out _ _ (cell_of HX7.out.1) (fun hHeld => ?_)
                clear hK K
                try simp only [Act.put, List.setIfInBounds_toArray, List.set_cons_zero, List.set_cons_succ]
                refine wpAnyH_take (i := 4) (oi := ?p03o) (v := ?p03v) ?p03h (by kernel_rfl) (by kernel_rfl) (by kernel_rfl) ?p03q ?p03y hHeld ?p03r
                case p03h => (simp only [List.getElem?_toArray, List.getElem?_cons_succ, List.getElem?_cons_zero]; rfl)
                case p03q => exact fun _ _ _ h => h
                case p03y => (refine Or.inl ⟨by first | kernel_rfl | rfl, ?_⟩; intro w hSw; (try dsimp only at hSw); have u1 := hSw; go_simp <;> (try with_reducible rfl))
                try simp only [Act.put, List.setIfInBounds_toArray, List.set_cons_zero, List.set_cons_succ]
                refine wpAnyH_done (by kernel_rfl) ?_ _
                clear hHeld
                by_cases hz0 : z = 0
                · subst hz0
                  have hE2 : ∀ j, j < 1 → erB S nm hd q1 j = 0 := fun j hj => by
                    rcases (show j = 0 ∨ j < 0 by omega) with rfl | h1
                    · exact HZ.out
                    · exact absurd h1 (Nat.not_lt_zero _)
                  have HE2 := Lib.hid hE2
                  clear hE2
                  go_wp2
                  go_roundg g
                  case measure => omega
                  case rel => exact ⟨1, q1, L3, by omega, by go_num, HQ1.out, HW7.out, HE2.out, HX7.out.1, HX7.out.2.1, HX7.out.2.2.1, HX7.out.2.2.2⟩
                · have hne : (z != 0) = true := by simpa using hz0
                  have hEnd : beginW S W kept st q1 = failB (stB S nm hd q1 1) W z nm := by
                    rw [HBW2.out, if_pos (by rw [HZ.out]; exact hz0), HZ.out]
                  have HEnd := Lib.hid hEnd
                  have y3 : w7.cell? ⟨p3, 0, none⟩ = some (.pointer (some ⟨a, 0, none⟩)) := cell_of HX7.out.1
                  have y9 : w7.cell? ⟨p9, 0, none⟩ = some (.string nm) := cell_of HX7.out.2.1
                  have y0 := HL7.out.at_.cells.c0
                  have HLe := Lib.hid (HL7.out.below (Below.refl _ w7).drew)
                  have hchg7 : (stB S nm hd q1 1).chg.length ≤ 1000000 := by have h1 := stB_chg S nm hd q1 1; have h2 := HCHG.out; omega
                  have kd := delete_dir nm HLe.out.at_.dir hchg7 hns
                  obtain ⟨⟨dz, S8⟩, hdz⟩ : ∃ x, deleteS (stB S nm hd q1 1) nm = x := ⟨_, rfl⟩
                  rw [hdz] at kd
                  have HD := Lib.hid hdz
                  clear hz0 hEnd hdz hchg7
                  go_wp2
                  refine wp_region_held_drew (S := (fun W => W.cell? ⟨p3, 0, none⟩ = some (.pointer (some ⟨a, 0, none⟩)) ∧ W.cell? ⟨a, 0, none⟩ = some (.pointer (some ⟨b, 0, none⟩)) ∧ W.cell? ⟨p9, 0, none⟩ = some (.string nm))) (by kernel_rfl) ⟨y3, y0, y9⟩ (fun hHeld => ?_)
                  refine wpAnyH_take (i := 0) (oi := ?q01o) (v := ?q01v) ?q01h (by kernel_rfl) (by kernel_rfl) (by kernel_rfl) ?q01q ?q01y hHeld ?q01r
                  case q01h => (simp only [List.getElem?_toArray, List.getElem?_cons_zero]; rfl)
                  case q01q => exact fun _ _ _ h => h
                  case q01y => (refine Or.inl ⟨by first | kernel_rfl | rfl, ?_⟩; intro w hSw; (try dsimp only at hSw); obtain ⟨u1, u2, u3⟩ := hSw; go_simp <;> (try with_reducible rfl))
                  try simp only [Act.put, List.setIfInBounds_toArray, List.set_cons_zero, List.set_cons_succ]
                  refine wpAnyH_take (i := 1) (oi := ?q02o) (v := ?q02v) ?q02h (by kernel_rfl) (by kernel_rfl) (by kernel_rfl) ?q02q ?q02y hHeld ?q02r
                  case q02h => (simp only [List.getElem?_toArray, List.getElem?_cons_succ, List.getElem?_cons_zero]; rfl)
                  case q02q => exact fun _ _ _ h => h
                  case q02y => (refine Or.inl ⟨by first | kernel_rfl | rfl, ?_⟩; intro w hSw; (try dsimp only at hSw); obtain ⟨u1, u2, u3⟩ := hSw; go_simp <;> (try with_reducible rfl))
                  try simp only [Act.put, List.setIfInBounds_toArray, List.set_cons_zero, List.set_cons_succ]
                  refine wpAnyH_take (i := 2) (oi := ?q03o) (v := ?q03v) ?q03h (by kernel_rfl) (by kernel_rfl) (by kernel_rfl) ?q03q ?q03y hHeld ?q03r
                  case q03h => (simp only [List.getElem?_toArray, List.getElem?_cons_succ, List.getElem?_cons_zero]; rfl)
                  case q03q => exact fun _ _ _ h => h
                  case q03y => (refine Or.inl ⟨by first | kernel_rfl | rfl, ?_⟩; intro w hSw; (try dsimp only at hSw); obtain ⟨u1, u2, u3⟩ := hSw; go_simp <;> (try with_reducible rfl))
                  try simp only [Act.put, List.setIfInBounds_toArray, List.set_cons_zero, List.set_cons_succ]
                  refine wpAnyH_take (i := 3) (oi := ?q04o) (v := ?q04v) ?q04h (by kernel_rfl) (by kernel_rfl) (by kernel_rfl) ?q04q ?q04y hHeld ?q04r
                  case q04h => (simp only [List.getElem?_toArray, List.getElem?_cons_succ, List.getElem?_cons_zero]; rfl)
                  case q04q => exact fun _ _ _ h => h
                  case q04y => (refine Or.inl ⟨by first | kernel_rfl | rfl, ?_⟩; intro w hSw; (try dsimp only at hSw); obtain ⟨u1, u2, u3⟩ := hSw; go_simp <;> (try with_reducible rfl))
                  try simp only [Act.put, List.setIfInBounds_toArray, List.set_cons_zero, List.set_cons_succ]
                  refine wpAnyH_take (i := 4) (oi := ?q05o) (v := ?q05v) ?q05h (by kernel_rfl) (by kernel_rfl) (by kernel_rfl) ?q05q ?q05y hHeld ?q05r
                  case q05h => (simp only [List.getElem?_toArray, List.getElem?_cons_succ, List.getElem?_cons_zero]; rfl)
                  case q05q => exact fun _ _ _ h => h
                  case q05y => (refine Or.inl ⟨by first | kernel_rfl | rfl, ?_⟩; intro w hSw; (try dsimp only at hSw); obtain ⟨u1, u2, u3⟩ := hSw; go_simp <;> (try with_reducible rfl))
                  try simp only [Act.put, List.setIfInBounds_toArray, List.set_cons_zero, List.set_cons_succ]
                  refine wpAnyH_take (i := 5) (oi := ?q06o) (v := ?q06v) ?q06h (by kernel_rfl) (by kernel_rfl) (by kernel_rfl) ?q06q ?q06y hHeld ?q06r
                  case q06h => (simp only [List.getElem?_toArray, List.getElem?_cons_succ, List.getElem?_cons_zero]; rfl)
                  case q06q => exact fun _ _ _ h => h
                  case q06y => (refine Or.inl ⟨by first | kernel_rfl | rfl, ?_⟩; intro w hSw; (try dsimp only at hSw); obtain ⟨u1, u2, u3⟩ := hSw; go_simp <;> (try with_reducible rfl))
                  try simp only [Act.put, List.setIfInBounds_toArray, List.set_cons_zero, List.set_cons_succ]
                  refine wpAnyH_ready (rs := [6]) (by kernel_rfl) (by simp) ?_
                  refine (AllReadyH.cons rfl (fun K hK => ?_) AllReadyH.nil)
                  go_simp
                  (go_at_call 88; (with_reducible refine kd.mono ?_); rintro _ w8 ⟨L8, rfl, hW8, hD8⟩; (have HT8 := Lib.hid (WWent.dir HLe.out.at_ hW8 hD8)); (have HU8 := Lib.hid ((WWent.below HL7.out.at_ (Below.refl _ w7).drew).trans HT8.out)); (have HW8 := Lib.hid (HW7.out.trans HU8.out)); (have HL8 := Lib.hid (H.out.next HW8.out)); clear hW8 hD8 kd)
                  refine hK.out _ _ (⟨cell_of (box_went HL7.out.at_ HU8.out HX7.out.1 (by decide) (by decide) (by decide) (by decide) (by decide) HV3.out), HL8.out.at_.cells.c0, cell_of (box_went HL7.out.at_ HU8.out HX7.out.2.1 (by decide) (by decide) (by decide) (by decide) (by decide) HV9.out)⟩) (fun hHeld => ?_)
                  clear hK K
                  try simp only [Act.put, List.setIfInBounds_toArray, List.set_cons_zero, List.set_cons_succ]
                  refine wpAnyH_ready (rs := [7]) (by kernel_rfl) (by simp) ?_
                  refine (AllReadyH.cons rfl (fun K hK => ?_) AllReadyH.nil)
                  go_simp
                  (go_at_call 56; (with_reducible refine (told_is HL8.out.at_ dz).mono ?_); rintro _ w9 ⟨rfl, hW9⟩; (have HU9 := Lib.hid (HU8.out.trans hW9)); (have HW9 := Lib.hid (HW8.out.trans hW9)); clear hW9)
                  refine hK.out _ _ (⟨cell_of (box_went HL7.out.at_ HU9.out HX7.out.1 (by decide) (by decide) (by decide) (by decide) (by decide) HV3.out), HW9.out.at_.cells.c0, cell_of (box_went HL7.out.at_ HU9.out HX7.out.2.1 (by decide) (by decide) (by decide) (by decide) (by decide) HV9.out)⟩) (fun hHeld => ?_)
                  clear hK K
                  try simp only [Act.put, List.setIfInBounds_toArray, List.set_cons_zero, List.set_cons_succ]
                  refine wpAnyH_done (by kernel_rfl) ?_ _
                  go_wp2
                  go_ret
                  exact ⟨q1, HQ1.out, L8, v, by rw [HEnd.out]; rfl, by rw [HEnd.out]; unfold failB; rw [HD.out]; exact HW9.out⟩
              | 1, _ => as_aux_lemma =>
                have c11 : wr.cell? ⟨p11, 1, none⟩ = some (Value.func (Fn.func 85) #[] #[.pointer (some ⟨p3, 0, none⟩), .pointer (some ⟨p9, 0, none⟩), .pointer (some ⟨p10, 0, none⟩)]) := cell_of x11
                have eg : ∀ args w, (callFunc 85 args).run Tryz.prog w = .ok (.enter 85 args) w := enters_of Tryz.func85 (by kernel_rfl) rfl
                have kb : Calls Tryz.prog 85 #[.pointer (some ⟨p3, 0, none⟩), .pointer (some ⟨p9, 0, none⟩), .pointer (some ⟨p10, 0, none⟩)] wr.drew (fun e w' => ∃ L', e = .returned (.int .i64 (erB S nm hd q 1)) ∧ WWent wr.drew w' b (stB S nm hd q 1) (stB S nm hd q 2) L2 L' a W W v v) := begin2_is HLd.out x3 x9 x10 HV9.out HV10.out hchg hns hhs
                clear x3 x9 x10 x11
                go_upto_region 12 with fail
                refine wp_region_held_drew (S := (fun W => W.cell? ⟨p3, 0, none⟩ = some (.pointer (some ⟨a, 0, none⟩)))) (by kernel_rfl) z3 (fun hHeld => ?_)
                refine wpAnyH_take (i := 0) (oi := ?p11o) (v := ?p11v) ?p11h (by kernel_rfl) (by kernel_rfl) (by kernel_rfl) ?p11q ?p11y hHeld ?p11r
                case p11h => (simp only [List.getElem?_toArray, List.getElem?_cons_zero]; rfl)
                case p11q => exact fun _ _ _ h => h
                case p11y => (refine Or.inl ⟨by first | kernel_rfl | rfl, ?_⟩; intro w hSw; (try dsimp only at hSw); have u1 := hSw; go_simp <;> (try with_reducible rfl))
                try simp only [Act.put, List.setIfInBounds_toArray, List.set_cons_zero, List.set_cons_succ]
                refine wpAnyH_take (i := 1) (oi := ?p12o) (v := ?p12v) ?p12h (by kernel_rfl) (by kernel_rfl) (by kernel_rfl) ?p12q ?p12y hHeld ?p12r
                case p12h => (simp only [List.getElem?_toArray, List.getElem?_cons_succ, List.getElem?_cons_zero]; rfl)
                case p12q => exact fun _ _ _ h => h
                case p12y => (refine Or.inl ⟨by first | kernel_rfl | rfl, ?_⟩; intro w hSw; (try dsimp only at hSw); have u1 := hSw; go_simp <;> (try with_reducible rfl))
                try simp only [Act.put, List.setIfInBounds_toArray, List.set_cons_zero, List.set_cons_succ]
                refine wpAnyH_ready (rs := [2]) (by kernel_rfl) (by simp) ?_
                refine (AllReadyH.cons rfl (fun K hK => ?_) AllReadyH.nil)
                go_simp
                (go_at_call 85; (with_reducible refine kb.mono ?_); rintro _ w6 ⟨L3, rfl, hW6⟩; (have HQ1 := HQ); (obtain ⟨z, hz⟩ : ∃ z, erB S nm hd q 1 = z := ⟨_, rfl⟩); rw [hz]; (have HZ := Lib.hid hz); (have HX6 := Lib.hid (And.intro (box_went HLd.out.at_ hW6 HX.out.1 (by decide) (by decide) (by decide) (by decide) (by decide) HV3.out) (And.intro (box_went HLd.out.at_ hW6 HX.out.2.1 (by decide) (by decide) (by decide) (by decide) (by decide) HV9.out) (box_went HLd.out.at_ hW6 HX.out.2.2.1 (by decide) (by decide) (by decide) (by decide) (by decide) HV10.out)))); (have HX61 := Lib.hid (box_went HLd.out.at_ hW6 HX.out.2.2.2 (by decide) (by decide) (by decide) (by decide) (by decide) HV11.out)); (have HW6 := Lib.hid ((HW.out.trans (WWent.below HLr.out.at_ (Below.refl _ wr).drew)).trans hW6)); (have HL6 := Lib.hid (H.out.next HW6.out)); clear hz hW6 kb)
                refine hK.out _ _ (cell_of HX6.out.1) (fun hHeld => ?_)
                clear hK K
                try simp only [Act.put, List.setIfInBounds_toArray, List.set_cons_zero, List.set_cons_succ]
                refine wpAnyH_ready (rs := [3]) (by kernel_rfl) (by simp) ?_
                refine (AllReadyH.cons rfl (fun K hK => ?_) AllReadyH.nil)
                go_simp
                (go_at_call 56; (with_reducible refine (told_is HL6.out.at_ z).mono ?_); rintro _ w7 ⟨rfl, hW7⟩; (have HX7 := Lib.hid (And.intro (box_went HL6.out.at_ hW7 HX6.out.1 (by decide) (by decide) (by decide) (by decide) (by decide) HV3.out) (And.intro (box_went HL6.out.at_ hW7 HX6.out.2.1 (by decide) (by decide) (by decide) (by decide) (by decide) HV9.out) (And.intro (box_went HL6.out.at_ hW7 HX6.out.2.2 (by decide) (by decide) (by decide) (by decide) (by decide) HV10.out) (box_went HL6.out.at_ hW7 HX61.out (by decide) (by decide) (by decide) (by decide) (by decide) HV11.out))))); (have HW7 := Lib.hid (HW6.out.trans hW7)); (have HL7 := Lib.hid (H.out.next HW7.out)); clear hW7)
                refine hK.out _ _ (cell_of HX7.out.1) (fun hHeld => ?_)
                clear hK K
                try simp only [Act.put, List.setIfInBounds_toArray, List.set_cons_zero, List.set_cons_succ]
                refine wpAnyH_take (i := 4) (oi := ?p13o) (v := ?p13v) ?p13h (by kernel_rfl) (by kernel_rfl) (by kernel_rfl) ?p13q ?p13y hHeld ?p13r
                case p13h => (simp only [List.getElem?_toArray, List.getElem?_cons_succ, List.getElem?_cons_zero]; rfl)
                case p13q => exact fun _ _ _ h => h
                case p13y => (refine Or.inl ⟨by first | kernel_rfl | rfl, ?_⟩; intro w hSw; (try dsimp only at hSw); have u1 := hSw; go_simp <;> (try with_reducible rfl))
                try simp only [Act.put, List.setIfInBounds_toArray, List.set_cons_zero, List.set_cons_succ]
                refine wpAnyH_done (by kernel_rfl) ?_ _
                clear hHeld
                by_cases hz0 : z = 0
                · subst hz0
                  have hE2 : ∀ j, j < 2 → erB S nm hd q j = 0 := fun j hj => by
                    rcases (show j = 1 ∨ j < 1 by omega) with rfl | h1
                    · exact HZ.out
                    · exact HE.out j h1
                  have HE2 := Lib.hid hE2
                  clear hE2
                  go_wp2
                  go_roundg g
                  case measure => omega
                  case rel => exact ⟨2, q, L3, by omega, by go_num, HQ1.out, HW7.out, HE2.out, HX7.out.1, HX7.out.2.1, HX7.out.2.2.1, HX7.out.2.2.2⟩
                · have hne : (z != 0) = true := by simpa using hz0
                  have hEnd : beginW S W kept st q = failB (stB S nm hd q 2) W z nm := by
                    rw [HBW2.out, if_neg (fun e => e (HE.out 0 (by omega))), if_pos (by rw [HZ.out]; exact hz0), HZ.out]
                  have HEnd := Lib.hid hEnd
                  have y3 : w7.cell? ⟨p3, 0, none⟩ = some (.pointer (some ⟨a, 0, none⟩)) := cell_of HX7.out.1
                  have y9 : w7.cell? ⟨p9, 0, none⟩ = some (.string nm) := cell_of HX7.out.2.1
                  have y0 := HL7.out.at_.cells.c0
                  have HLe := Lib.hid (HL7.out.below (Below.refl _ w7).drew)
                  have hchg7 : (stB S nm hd q 2).chg.length ≤ 1000000 := by have h1 := stB_chg S nm hd q 2; have h2 := HCHG.out; omega
                  have kd := delete_dir nm HLe.out.at_.dir hchg7 hns
                  obtain ⟨⟨dz, S8⟩, hdz⟩ : ∃ x, deleteS (stB S nm hd q 2) nm = x := ⟨_, rfl⟩
                  rw [hdz] at kd
                  have HD := Lib.hid hdz
                  clear hz0 hEnd hdz hchg7
                  go_wp2
                  refine wp_region_held_drew (S := (fun W => W.cell? ⟨p3, 0, none⟩ = some (.pointer (some ⟨a, 0, none⟩)) ∧ W.cell? ⟨a, 0, none⟩ = some (.pointer (some ⟨b, 0, none⟩)) ∧ W.cell? ⟨p9, 0, none⟩ = some (.string nm))) (by kernel_rfl) ⟨y3, y0, y9⟩ (fun hHeld => ?_)
                  refine wpAnyH_take (i := 0) (oi := ?q11o) (v := ?q11v) ?q11h (by kernel_rfl) (by kernel_rfl) (by kernel_rfl) ?q11q ?q11y hHeld ?q11r
                  case q11h => (simp only [List.getElem?_toArray, List.getElem?_cons_zero]; rfl)
                  case q11q => exact fun _ _ _ h => h
                  case q11y => (refine Or.inl ⟨by first | kernel_rfl | rfl, ?_⟩; intro w hSw; (try dsimp only at hSw); obtain ⟨u1, u2, u3⟩ := hSw; go_simp <;> (try with_reducible rfl))
                  try simp only [Act.put, List.setIfInBounds_toArray, List.set_cons_zero, List.set_cons_succ]
                  refine wpAnyH_take (i := 1) (oi := ?q12o) (v := ?q12v) ?q12h (by kernel_rfl) (by kernel_rfl) (by kernel_rfl) ?q12q ?q12y hHeld ?q12r
                  case q12h => (simp only [List.getElem?_toArray, List.getElem?_cons_succ, List.getElem?_cons_zero]; rfl)
                  case q12q => exact fun _ _ _ h => h
                  case q12y => (refine Or.inl ⟨by first | kernel_rfl | rfl, ?_⟩; intro w hSw; (try dsimp only at hSw); obtain ⟨u1, u2, u3⟩ := hSw; go_simp <;> (try with_reducible rfl))
                  try simp only [Act.put, List.setIfInBounds_toArray, List.set_cons_zero, List.set_cons_succ]
                  refine wpAnyH_take (i := 2) (oi := ?q13o) (v := ?q13v) ?q13h (by kernel_rfl) (by kernel_rfl) (by kernel_rfl) ?q13q ?q13y hHeld ?q13r
                  case q13h => (simp only [List.getElem?_toArray, List.getElem?_cons_succ, List.getElem?_cons_zero]; rfl)
                  case q13q => exact fun _ _ _ h => h
                  case q13y => (refine Or.inl ⟨by first | kernel_rfl | rfl, ?_⟩; intro w hSw; (try dsimp only at hSw); obtain ⟨u1, u2, u3⟩ := hSw; go_simp <;> (try with_reducible rfl))
                  try simp only [Act.put, List.setIfInBounds_toArray, List.set_cons_zero, List.set_cons_succ]
                  refine wpAnyH_take (i := 3) (oi := ?q14o) (v := ?q14v) ?q14h (by kernel_rfl) (by kernel_rfl) (by kernel_rfl) ?q14q ?q14y hHeld ?q14r
                  case q14h => (simp only [List.getElem?_toArray, List.getElem?_cons_succ, List.getElem?_cons_zero]; rfl)
                  case q14q => exact fun _ _ _ h => h
                  case q14y => (refine Or.inl ⟨by first | kernel_rfl | rfl, ?_⟩; intro w hSw; (try dsimp only at hSw); obtain ⟨u1, u2, u3⟩ := hSw; go_simp <;> (try with_reducible rfl))
                  try simp only [Act.put, List.setIfInBounds_toArray, List.set_cons_zero, List.set_cons_succ]
                  refine wpAnyH_take (i := 4) (oi := ?q15o) (v := ?q15v) ?q15h (by kernel_rfl) (by kernel_rfl) (by kernel_rfl) ?q15q ?q15y hHeld ?q15r
                  case q15h => (simp only [List.getElem?_toArray, List.getElem?_cons_succ, List.getElem?_cons_zero]; rfl)
                  case q15q => exact fun _ _ _ h => h
                  case q15y => (refine Or.inl ⟨by first | kernel_rfl | rfl, ?_⟩; intro w hSw; (try dsimp only at hSw); obtain ⟨u1, u2, u3⟩ := hSw; go_simp <;> (try with_reducible rfl))
                  try simp only [Act.put, List.setIfInBounds_toArray, List.set_cons_zero, List.set_cons_succ]
                  refine wpAnyH_take (i := 5) (oi := ?q16o) (v := ?q16v) ?q16h (by kernel_rfl) (by kernel_rfl) (by kernel_rfl) ?q16q ?q16y hHeld ?q16r
                  case q16h => (simp only [List.getElem?_toArray, List.getElem?_cons_succ, List.getElem?_cons_zero]; rfl)
                  case q16q => exact fun _ _ _ h => h
                  case q16y => (refine Or.inl ⟨by first | kernel_rfl | rfl, ?_⟩; intro w hSw; (try dsimp only at hSw); obtain ⟨u1, u2, u3⟩ := hSw; go_simp <;> (try with_reducible rfl))
                  try simp only [Act.put, List.setIfInBounds_toArray, List.set_cons_zero, List.set_cons_succ]
                  refine wpAnyH_ready (rs := [6]) (by kernel_rfl) (by simp) ?_
                  refine (AllReadyH.cons rfl (fun K hK => ?_) AllReadyH.nil)
                  go_simp
                  (go_at_call 88; (with_reducible refine kd.mono ?_); rintro _ w8 ⟨L8, rfl, hW8, hD8⟩; (have HT8 := Lib.hid (WWent.dir HLe.out.at_ hW8 hD8)); (have HU8 := Lib.hid ((WWent.below HL7.out.at_ (Below.refl _ w7).drew).trans HT8.out)); (have HW8 := Lib.hid (HW7.out.trans HU8.out)); (have HL8 := Lib.hid (H.out.next HW8.out)); clear hW8 hD8 kd)
                  refine hK.out _ _ (⟨cell_of (box_went HL7.out.at_ HU8.out HX7.out.1 (by decide) (by decide) (by decide) (by decide) (by decide) HV3.out), HL8.out.at_.cells.c0, cell_of (box_went HL7.out.at_ HU8.out HX7.out.2.1 (by decide) (by decide) (by decide) (by decide) (by decide) HV9.out)⟩) (fun hHeld => ?_)
                  clear hK K
                  try simp only [Act.put, List.setIfInBounds_toArray, List.set_cons_zero, List.set_cons_succ]
                  refine wpAnyH_ready (rs := [7]) (by kernel_rfl) (by simp) ?_
                  refine (AllReadyH.cons rfl (fun K hK => ?_) AllReadyH.nil)
                  go_simp
                  (go_at_call 56; (with_reducible refine (told_is HL8.out.at_ dz).mono ?_); rintro _ w9 ⟨rfl, hW9⟩; (have HU9 := Lib.hid (HU8.out.trans hW9)); (have HW9 := Lib.hid (HW8.out.trans hW9)); clear hW9)
                  refine hK.out _ _ (⟨cell_of (box_went HL7.out.at_ HU9.out HX7.out.1 (by decide) (by decide) (by decide) (by decide) (by decide) HV3.out), HW9.out.at_.cells.c0, cell_of (box_went HL7.out.at_ HU9.out HX7.out.2.1 (by decide) (by decide) (by decide) (by decide) (by decide) HV9.out)⟩) (fun hHeld => ?_)
                  clear hK K
                  try simp only [Act.put, List.setIfInBounds_toArray, List.set_cons_zero, List.set_cons_succ]
                  refine wpAnyH_done (by kernel_rfl) ?_ _
                  go_wp2
                  go_ret
                  exact ⟨q, HQ1.out, L8, v, by rw [HEnd.out]; rfl, by rw [HEnd.out]; unfold failB; rw [HD.out]; exact HW9.out⟩
              | 2, _ => as_aux_lemma =>
                have c11 : wr.cell? ⟨p11, 2, none⟩ = some (Value.func (Fn.func 86) #[] #[.pointer (some ⟨p3, 0, none⟩), .pointer (some ⟨p9, 0, none⟩)]) := cell_of x11
                have eg : ∀ args w, (callFunc 86 args).run Tryz.prog w = .ok (.enter 86 args) w := enters_of Tryz.func86 (by kernel_rfl) rfl
                have kb : Calls Tryz.prog 86 #[.pointer (some ⟨p3, 0, none⟩), .pointer (some ⟨p9, 0, none⟩)] wr.drew (fun e w' => ∃ L', e = .returned (.int .i64 (erB S nm hd q 2)) ∧ WWent wr.drew w' b (stB S nm hd q 2) (stB S nm hd q 3) L2 L' a W W v v) := begin3_is HLd.out x3 x9 x10 HV9.out HV10.out hchg hns hhs
                clear x3 x9 x10 x11
                go_upto_region 12 with fail
                refine wp_region_held_drew (S := (fun W => W.cell? ⟨p3, 0, none⟩ = some (.pointer (some ⟨a, 0, none⟩)))) (by kernel_rfl) z3 (fun hHeld => ?_)
                refine wpAnyH_take (i := 0) (oi := ?p21o) (v := ?p21v) ?p21h (by kernel_rfl) (by kernel_rfl) (by kernel_rfl) ?p21q ?p21y hHeld ?p21r
                case p21h => (simp only [List.getElem?_toArray, List.getElem?_cons_zero]; rfl)
                case p21q => exact fun _ _ _ h => h
                case p21y => (refine Or.inl ⟨by first | kernel_rfl | rfl, ?_⟩; intro w hSw; (try dsimp only at hSw); have u1 := hSw; go_simp <;> (try with_reducible rfl))
                try simp only [Act.put, List.setIfInBounds_toArray, List.set_cons_zero, List.set_cons_succ]
                refine wpAnyH_take (i := 1) (oi := ?p22o) (v := ?p22v) ?p22h (by kernel_rfl) (by kernel_rfl) (by kernel_rfl) ?p22q ?p22y hHeld ?p22r
                case p22h => (simp only [List.getElem?_toArray, List.getElem?_cons_succ, List.getElem?_cons_zero]; rfl)
                case p22q => exact fun _ _ _ h => h
                case p22y => (refine Or.inl ⟨by first | kernel_rfl | rfl, ?_⟩; intro w hSw; (try dsimp only at hSw); have u1 := hSw; go_simp <;> (try with_reducible rfl))
                try simp only [Act.put, List.setIfInBounds_toArray, List.set_cons_zero, List.set_cons_succ]
                refine wpAnyH_ready (rs := [2]) (by kernel_rfl) (by simp) ?_
                refine (AllReadyH.cons rfl (fun K hK => ?_) AllReadyH.nil)
                go_simp
                (go_at_call 86; (with_reducible refine kb.mono ?_); rintro _ w6 ⟨L3, rfl, hW6⟩; (have HQ1 := HQ); (obtain ⟨z, hz⟩ : ∃ z, erB S nm hd q 2 = z := ⟨_, rfl⟩); rw [hz]; (have HZ := Lib.hid hz); (have HX6 := Lib.hid (And.intro (box_went HLd.out.at_ hW6 HX.out.1 (by decide) (by decide) (by decide) (by decide) (by decide) HV3.out) (And.intro (box_went HLd.out.at_ hW6 HX.out.2.1 (by decide) (by decide) (by decide) (by decide) (by decide) HV9.out) (box_went HLd.out.at_ hW6 HX.out.2.2.1 (by decide) (by decide) (by decide) (by decide) (by decide) HV10.out)))); (have HX61 := Lib.hid (box_went HLd.out.at_ hW6 HX.out.2.2.2 (by decide) (by decide) (by decide) (by decide) (by decide) HV11.out)); (have HW6 := Lib.hid ((HW.out.trans (WWent.below HLr.out.at_ (Below.refl _ wr).drew)).trans hW6)); (have HL6 := Lib.hid (H.out.next HW6.out)); clear hz hW6 kb)
                refine hK.out _ _ (cell_of HX6.out.1) (fun hHeld => ?_)
                clear hK K
                try simp only [Act.put, List.setIfInBounds_toArray, List.set_cons_zero, List.set_cons_succ]
                refine wpAnyH_ready (rs := [3]) (by kernel_rfl) (by simp) ?_
                refine (AllReadyH.cons rfl (fun K hK => ?_) AllReadyH.nil)
                go_simp
                (go_at_call 56; (with_reducible refine (told_is HL6.out.at_ z).mono ?_); rintro _ w7 ⟨rfl, hW7⟩; (have HX7 := Lib.hid (And.intro (box_went HL6.out.at_ hW7 HX6.out.1 (by decide) (by decide) (by decide) (by decide) (by decide) HV3.out) (And.intro (box_went HL6.out.at_ hW7 HX6.out.2.1 (by decide) (by decide) (by decide) (by decide) (by decide) HV9.out) (And.intro (box_went HL6.out.at_ hW7 HX6.out.2.2 (by decide) (by decide) (by decide) (by decide) (by decide) HV10.out) (box_went HL6.out.at_ hW7 HX61.out (by decide) (by decide) (by decide) (by decide) (by decide) HV11.out))))); (have HW7 := Lib.hid (HW6.out.trans hW7)); (have HL7 := Lib.hid (H.out.next HW7.out)); clear hW7)
                refine hK.out _ _ (cell_of HX7.out.1) (fun hHeld => ?_)
                clear hK K
                try simp only [Act.put, List.setIfInBounds_toArray, List.set_cons_zero, List.set_cons_succ]
                refine wpAnyH_take (i := 4) (oi := ?p23o) (v := ?p23v) ?p23h (by kernel_rfl) (by kernel_rfl) (by kernel_rfl) ?p23q ?p23y hHeld ?p23r
                case p23h => (simp only [List.getElem?_toArray, List.getElem?_cons_succ, List.getElem?_cons_zero]; rfl)
                case p23q => exact fun _ _ _ h => h
                case p23y => (refine Or.inl ⟨by first | kernel_rfl | rfl, ?_⟩; intro w hSw; (try dsimp only at hSw); have u1 := hSw; go_simp <;> (try with_reducible rfl))
                try simp only [Act.put, List.setIfInBounds_toArray, List.set_cons_zero, List.set_cons_succ]
                refine wpAnyH_done (by kernel_rfl) ?_ _
                clear hHeld
                by_cases hz0 : z = 0
                · subst hz0
                  have hE2 : ∀ j, j < 3 → erB S nm hd q j = 0 := fun j hj => by
                    rcases (show j = 2 ∨ j < 2 by omega) with rfl | h1
                    · exact HZ.out
                    · exact HE.out j h1
                  have HE2 := Lib.hid hE2
                  clear hE2
                  go_wp2
                  go_roundg g
                  case measure => omega
                  case rel => exact ⟨3, q, L3, by omega, by go_num, HQ1.out, HW7.out, HE2.out, HX7.out.1, HX7.out.2.1, HX7.out.2.2.1, HX7.out.2.2.2⟩
                · have hne : (z != 0) = true := by simpa using hz0
                  have hEnd : beginW S W kept st q = failB (stB S nm hd q 3) W z nm := by
                    rw [HBW2.out, if_neg (fun e => e (HE.out 0 (by omega))), if_neg (fun e => e (HE.out 1 (by omega))), if_pos (by rw [HZ.out]; exact hz0), HZ.out]
                  have HEnd := Lib.hid hEnd
                  have y3 : w7.cell? ⟨p3, 0, none⟩ = some (.pointer (some ⟨a, 0, none⟩)) := cell_of HX7.out.1
                  have y9 : w7.cell? ⟨p9, 0, none⟩ = some (.string nm) := cell_of HX7.out.2.1
                  have y0 := HL7.out.at_.cells.c0
                  have HLe := Lib.hid (HL7.out.below (Below.refl _ w7).drew)
                  have hchg7 : (stB S nm hd q 3).chg.length ≤ 1000000 := by have h1 := stB_chg S nm hd q 3; have h2 := HCHG.out; omega
                  have kd := delete_dir nm HLe.out.at_.dir hchg7 hns
                  obtain ⟨⟨dz, S8⟩, hdz⟩ : ∃ x, deleteS (stB S nm hd q 3) nm = x := ⟨_, rfl⟩
                  rw [hdz] at kd
                  have HD := Lib.hid hdz
                  clear hz0 hEnd hdz hchg7
                  go_wp2
                  refine wp_region_held_drew (S := (fun W => W.cell? ⟨p3, 0, none⟩ = some (.pointer (some ⟨a, 0, none⟩)) ∧ W.cell? ⟨a, 0, none⟩ = some (.pointer (some ⟨b, 0, none⟩)) ∧ W.cell? ⟨p9, 0, none⟩ = some (.string nm))) (by kernel_rfl) ⟨y3, y0, y9⟩ (fun hHeld => ?_)
                  refine wpAnyH_take (i := 0) (oi := ?q21o) (v := ?q21v) ?q21h (by kernel_rfl) (by kernel_rfl) (by kernel_rfl) ?q21q ?q21y hHeld ?q21r
                  case q21h => (simp only [List.getElem?_toArray, List.getElem?_cons_zero]; rfl)
                  case q21q => exact fun _ _ _ h => h
                  case q21y => (refine Or.inl ⟨by first | kernel_rfl | rfl, ?_⟩; intro w hSw; (try dsimp only at hSw); obtain ⟨u1, u2, u3⟩ := hSw; go_simp <;> (try with_reducible rfl))
                  try simp only [Act.put, List.setIfInBounds_toArray, List.set_cons_zero, List.set_cons_succ]
                  refine wpAnyH_take (i := 1) (oi := ?q22o) (v := ?q22v) ?q22h (by kernel_rfl) (by kernel_rfl) (by kernel_rfl) ?q22q ?q22y hHeld ?q22r
                  case q22h => (simp only [List.getElem?_toArray, List.getElem?_cons_succ, List.getElem?_cons_zero]; rfl)
                  case q22q => exact fun _ _ _ h => h
                  case q22y => (refine Or.inl ⟨by first | kernel_rfl | rfl, ?_⟩; intro w hSw; (try dsimp only at hSw); obtain ⟨u1, u2, u3⟩ := hSw; go_simp <;> (try with_reducible rfl))
                  try simp only [Act.put, List.setIfInBounds_toArray, List.set_cons_zero, List.set_cons_succ]
                  refine wpAnyH_take (i := 2) (oi := ?q23o) (v := ?q23v) ?q23h (by kernel_rfl) (by kernel_rfl) (by kernel_rfl) ?q23q ?q23y hHeld ?q23r
                  case q23h => (simp only [List.getElem?_toArray, List.getElem?_cons_succ, List.getElem?_cons_zero]; rfl)
                  case q23q => exact fun _ _ _ h => h
                  case q23y => (refine Or.inl ⟨by first | kernel_rfl | rfl, ?_⟩; intro w hSw; (try dsimp only at hSw); obtain ⟨u1, u2, u3⟩ := hSw; go_simp <;> (try with_reducible rfl))
                  try simp only [Act.put, List.setIfInBounds_toArray, List.set_cons_zero, List.set_cons_succ]
                  refine wpAnyH_take (i := 3) (oi := ?q24o) (v := ?q24v) ?q24h (by kernel_rfl) (by kernel_rfl) (by kernel_rfl) ?q24q ?q24y hHeld ?q24r
                  case q24h => (simp only [List.getElem?_toArray, List.getElem?_cons_succ, List.getElem?_cons_zero]; rfl)
                  case q24q => exact fun _ _ _ h => h
                  case q24y => (refine Or.inl ⟨by first | kernel_rfl | rfl, ?_⟩; intro w hSw; (try dsimp only at hSw); obtain ⟨u1, u2, u3⟩ := hSw; go_simp <;> (try with_reducible rfl))
                  try simp only [Act.put, List.setIfInBounds_toArray, List.set_cons_zero, List.set_cons_succ]
                  refine wpAnyH_take (i := 4) (oi := ?q25o) (v := ?q25v) ?q25h (by kernel_rfl) (by kernel_rfl) (by kernel_rfl) ?q25q ?q25y hHeld ?q25r
                  case q25h => (simp only [List.getElem?_toArray, List.getElem?_cons_succ, List.getElem?_cons_zero]; rfl)
                  case q25q => exact fun _ _ _ h => h
                  case q25y => (refine Or.inl ⟨by first | kernel_rfl | rfl, ?_⟩; intro w hSw; (try dsimp only at hSw); obtain ⟨u1, u2, u3⟩ := hSw; go_simp <;> (try with_reducible rfl))
                  try simp only [Act.put, List.setIfInBounds_toArray, List.set_cons_zero, List.set_cons_succ]
                  refine wpAnyH_take (i := 5) (oi := ?q26o) (v := ?q26v) ?q26h (by kernel_rfl) (by kernel_rfl) (by kernel_rfl) ?q26q ?q26y hHeld ?q26r
                  case q26h => (simp only [List.getElem?_toArray, List.getElem?_cons_succ, List.getElem?_cons_zero]; rfl)
                  case q26q => exact fun _ _ _ h => h
                  case q26y => (refine Or.inl ⟨by first | kernel_rfl | rfl, ?_⟩; intro w hSw; (try dsimp only at hSw); obtain ⟨u1, u2, u3⟩ := hSw; go_simp <;> (try with_reducible rfl))
                  try simp only [Act.put, List.setIfInBounds_toArray, List.set_cons_zero, List.set_cons_succ]
                  refine wpAnyH_ready (rs := [6]) (by kernel_rfl) (by simp) ?_
                  refine (AllReadyH.cons rfl (fun K hK => ?_) AllReadyH.nil)
                  go_simp
                  (go_at_call 88; (with_reducible refine kd.mono ?_); rintro _ w8 ⟨L8, rfl, hW8, hD8⟩; (have HT8 := Lib.hid (WWent.dir HLe.out.at_ hW8 hD8)); (have HU8 := Lib.hid ((WWent.below HL7.out.at_ (Below.refl _ w7).drew).trans HT8.out)); (have HW8 := Lib.hid (HW7.out.trans HU8.out)); (have HL8 := Lib.hid (H.out.next HW8.out)); clear hW8 hD8 kd)
                  refine hK.out _ _ (⟨cell_of (box_went HL7.out.at_ HU8.out HX7.out.1 (by decide) (by decide) (by decide) (by decide) (by decide) HV3.out), HL8.out.at_.cells.c0, cell_of (box_went HL7.out.at_ HU8.out HX7.out.2.1 (by decide) (by decide) (by decide) (by decide) (by decide) HV9.out)⟩) (fun hHeld => ?_)
                  clear hK K
                  try simp only [Act.put, List.setIfInBounds_toArray, List.set_cons_zero, List.set_cons_succ]
                  refine wpAnyH_ready (rs := [7]) (by kernel_rfl) (by simp) ?_
                  refine (AllReadyH.cons rfl (fun K hK => ?_) AllReadyH.nil)
                  go_simp
                  (go_at_call 56; (with_reducible refine (told_is HL8.out.at_ dz).mono ?_); rintro _ w9 ⟨rfl, hW9⟩; (have HU9 := Lib.hid (HU8.out.trans hW9)); (have HW9 := Lib.hid (HW8.out.trans hW9)); clear hW9)
                  refine hK.out _ _ (⟨cell_of (box_went HL7.out.at_ HU9.out HX7.out.1 (by decide) (by decide) (by decide) (by decide) (by decide) HV3.out), HW9.out.at_.cells.c0, cell_of (box_went HL7.out.at_ HU9.out HX7.out.2.1 (by decide) (by decide) (by decide) (by decide) (by decide) HV9.out)⟩) (fun hHeld => ?_)
                  clear hK K
                  try simp only [Act.put, List.setIfInBounds_toArray, List.set_cons_zero, List.set_cons_succ]
                  refine wpAnyH_done (by kernel_rfl) ?_ _
                  go_wp2
                  go_ret
                  exact ⟨q, HQ1.out, L8, v, by rw [HEnd.out]; rfl, by rw [HEnd.out]; unfold failB; rw [HD.out]; exact HW9.out⟩
              | 3, _ => as_aux_lemma =>
                have c11 : wr.cell? ⟨p11, 3, none⟩ = some (Value.func (Fn.func 87) #[] #[.pointer (some ⟨p3, 0, none⟩)]) := cell_of x11
                have eg : ∀ args w, (callFunc 87 args).run Tryz.prog w = .ok (.enter 87 args) w := enters_of Tryz.func87 (by kernel_rfl) rfl
                have kb : Calls Tryz.prog 87 #[.pointer (some ⟨p3, 0, none⟩)] wr.drew (fun e w' => ∃ L', e = .returned (.int .i64 (erB S nm hd q 3)) ∧ WWent wr.drew w' b (stB S nm hd q 3) (stB S nm hd q 4) L2 L' a W W v v) := begin4_is HLd.out x3 x9 x10 HV9.out HV10.out hchg hns hhs
                clear x3 x9 x10 x11
                go_upto_region 12 with fail
                refine wp_region_held_drew (S := (fun W => W.cell? ⟨p3, 0, none⟩ = some (.pointer (some ⟨a, 0, none⟩)))) (by kernel_rfl) z3 (fun hHeld => ?_)
                refine wpAnyH_take (i := 0) (oi := ?p31o) (v := ?p31v) ?p31h (by kernel_rfl) (by kernel_rfl) (by kernel_rfl) ?p31q ?p31y hHeld ?p31r
                case p31h => (simp only [List.getElem?_toArray, List.getElem?_cons_zero]; rfl)
                case p31q => exact fun _ _ _ h => h
                case p31y => (refine Or.inl ⟨by first | kernel_rfl | rfl, ?_⟩; intro w hSw; (try dsimp only at hSw); have u1 := hSw; go_simp <;> (try with_reducible rfl))
                try simp only [Act.put, List.setIfInBounds_toArray, List.set_cons_zero, List.set_cons_succ]
                refine wpAnyH_take (i := 1) (oi := ?p32o) (v := ?p32v) ?p32h (by kernel_rfl) (by kernel_rfl) (by kernel_rfl) ?p32q ?p32y hHeld ?p32r
                case p32h => (simp only [List.getElem?_toArray, List.getElem?_cons_succ, List.getElem?_cons_zero]; rfl)
                case p32q => exact fun _ _ _ h => h
                case p32y => (refine Or.inl ⟨by first | kernel_rfl | rfl, ?_⟩; intro w hSw; (try dsimp only at hSw); have u1 := hSw; go_simp <;> (try with_reducible rfl))
                try simp only [Act.put, List.setIfInBounds_toArray, List.set_cons_zero, List.set_cons_succ]
                refine wpAnyH_ready (rs := [2]) (by kernel_rfl) (by simp) ?_
                refine (AllReadyH.cons rfl (fun K hK => ?_) AllReadyH.nil)
                go_simp
                (go_at_call 87; (with_reducible refine kb.mono ?_); rintro _ w6 ⟨L3, rfl, hW6⟩; (have HQ1 := HQ); (obtain ⟨z, hz⟩ : ∃ z, erB S nm hd q 3 = z := ⟨_, rfl⟩); rw [hz]; (have HZ := Lib.hid hz); (have HX6 := Lib.hid (And.intro (box_went HLd.out.at_ hW6 HX.out.1 (by decide) (by decide) (by decide) (by decide) (by decide) HV3.out) (And.intro (box_went HLd.out.at_ hW6 HX.out.2.1 (by decide) (by decide) (by decide) (by decide) (by decide) HV9.out) (box_went HLd.out.at_ hW6 HX.out.2.2.1 (by decide) (by decide) (by decide) (by decide) (by decide) HV10.out)))); (have HX61 := Lib.hid (box_went HLd.out.at_ hW6 HX.out.2.2.2 (by decide) (by decide) (by decide) (by decide) (by decide) HV11.out)); (have HW6 := Lib.hid ((HW.out.trans (WWent.below HLr.out.at_ (Below.refl _ wr).drew)).trans hW6)); (have HL6 := Lib.hid (H.out.next HW6.out)); clear hz hW6 kb)
                refine hK.out _ _ (cell_of HX6.out.1) (fun hHeld => ?_)
                clear hK K
                try simp only [Act.put, List.setIfInBounds_toArray, List.set_cons_zero, List.set_cons_succ]
                refine wpAnyH_ready (rs := [3]) (by kernel_rfl) (by simp) ?_
                refine (AllReadyH.cons rfl (fun K hK => ?_) AllReadyH.nil)
                go_simp
                (go_at_call 56; (with_reducible refine (told_is HL6.out.at_ z).mono ?_); rintro _ w7 ⟨rfl, hW7⟩; (have HX7 := Lib.hid (And.intro (box_went HL6.out.at_ hW7 HX6.out.1 (by decide) (by decide) (by decide) (by decide) (by decide) HV3.out) (And.intro (box_went HL6.out.at_ hW7 HX6.out.2.1 (by decide) (by decide) (by decide) (by decide) (by decide) HV9.out) (And.intro (box_went HL6.out.at_ hW7 HX6.out.2.2 (by decide) (by decide) (by decide) (by decide) (by decide) HV10.out) (box_went HL6.out.at_ hW7 HX61.out (by decide) (by decide) (by decide) (by decide) (by decide) HV11.out))))); (have HW7 := Lib.hid (HW6.out.trans hW7)); (have HL7 := Lib.hid (H.out.next HW7.out)); clear hW7)
                refine hK.out _ _ (cell_of HX7.out.1) (fun hHeld => ?_)
                clear hK K
                try simp only [Act.put, List.setIfInBounds_toArray, List.set_cons_zero, List.set_cons_succ]
                refine wpAnyH_take (i := 4) (oi := ?p33o) (v := ?p33v) ?p33h (by kernel_rfl) (by kernel_rfl) (by kernel_rfl) ?p33q ?p33y hHeld ?p33r
                case p33h => (simp only [List.getElem?_toArray, List.getElem?_cons_succ, List.getElem?_cons_zero]; rfl)
                case p33q => exact fun _ _ _ h => h
                case p33y => (refine Or.inl ⟨by first | kernel_rfl | rfl, ?_⟩; intro w hSw; (try dsimp only at hSw); have u1 := hSw; go_simp <;> (try with_reducible rfl))
                try simp only [Act.put, List.setIfInBounds_toArray, List.set_cons_zero, List.set_cons_succ]
                refine wpAnyH_done (by kernel_rfl) ?_ _
                clear hHeld
                by_cases hz0 : z = 0
                · subst hz0
                  have hE2 : ∀ j, j < 4 → erB S nm hd q j = 0 := fun j hj => by
                    rcases (show j = 3 ∨ j < 3 by omega) with rfl | h1
                    · exact HZ.out
                    · exact HE.out j h1
                  have HE2 := Lib.hid hE2
                  clear hE2
                  go_wp2
                  go_roundg g
                  case measure => omega
                  case rel => exact ⟨4, q, L3, by omega, by go_num, HQ1.out, HW7.out, HE2.out, HX7.out.1, HX7.out.2.1, HX7.out.2.2.1, HX7.out.2.2.2⟩
                · have hne : (z != 0) = true := by simpa using hz0
                  have hEnd : beginW S W kept st q = failB (stB S nm hd q 4) W z nm := by
                    rw [HBW2.out, if_neg (fun e => e (HE.out 0 (by omega))), if_neg (fun e => e (HE.out 1 (by omega))), if_neg (fun e => e (HE.out 2 (by omega))), if_pos (by rw [HZ.out]; exact hz0), HZ.out]
                  have HEnd := Lib.hid hEnd
                  have y3 : w7.cell? ⟨p3, 0, none⟩ = some (.pointer (some ⟨a, 0, none⟩)) := cell_of HX7.out.1
                  have y9 : w7.cell? ⟨p9, 0, none⟩ = some (.string nm) := cell_of HX7.out.2.1
                  have y0 := HL7.out.at_.cells.c0
                  have HLe := Lib.hid (HL7.out.below (Below.refl _ w7).drew)
                  have hchg7 : (stB S nm hd q 4).chg.length ≤ 1000000 := by have h1 := stB_chg S nm hd q 4; have h2 := HCHG.out; omega
                  have kd := delete_dir nm HLe.out.at_.dir hchg7 hns
                  obtain ⟨⟨dz, S8⟩, hdz⟩ : ∃ x, deleteS (stB S nm hd q 4) nm = x := ⟨_, rfl⟩
                  rw [hdz] at kd
                  have HD := Lib.hid hdz
                  clear hz0 hEnd hdz hchg7
                  go_wp2
                  refine wp_region_held_drew (S := (fun W => W.cell? ⟨p3, 0, none⟩ = some (.pointer (some ⟨a, 0, none⟩)) ∧ W.cell? ⟨a, 0, none⟩ = some (.pointer (some ⟨b, 0, none⟩)) ∧ W.cell? ⟨p9, 0, none⟩ = some (.string nm))) (by kernel_rfl) ⟨y3, y0, y9⟩ (fun hHeld => ?_)
                  refine wpAnyH_take (i := 0) (oi := ?q31o) (v := ?q31v) ?q31h (by kernel_rfl) (by kernel_rfl) (by kernel_rfl) ?q31q ?q31y hHeld ?q31r
                  case q31h => (simp only [List.getElem?_toArray, List.getElem?_cons_zero]; rfl)
                  case q31q => exact fun _ _ _ h => h
                  case q31y => (refine Or.inl ⟨by first | kernel_rfl | rfl, ?_⟩; intro w hSw; (try dsimp only at hSw); obtain ⟨u1, u2, u3⟩ := hSw; go_simp <;> (try with_reducible rfl))
                  try simp only [Act.put, List.setIfInBounds_toArray, List.set_cons_zero, List.set_cons_succ]
                  refine wpAnyH_take (i := 1) (oi := ?q32o) (v := ?q32v) ?q32h (by kernel_rfl) (by kernel_rfl) (by kernel_rfl) ?q32q ?q32y hHeld ?q32r
                  case q32h => (simp only [List.getElem?_toArray, List.getElem?_cons_succ, List.getElem?_cons_zero]; rfl)
                  case q32q => exact fun _ _ _ h => h
                  case q32y => (refine Or.inl ⟨by first | kernel_rfl | rfl, ?_⟩; intro w hSw; (try dsimp only at hSw); obtain ⟨u1, u2, u3⟩ := hSw; go_simp <;> (try with_reducible rfl))
                  try simp only [Act.put, List.setIfInBounds_toArray, List.set_cons_zero, List.set_cons_succ]
                  refine wpAnyH_take (i := 2) (oi := ?q33o) (v := ?q33v) ?q33h (by kernel_rfl) (by kernel_rfl) (by kernel_rfl) ?q33q ?q33y hHeld ?q33r
                  case q33h => (simp only [List.getElem?_toArray, List.getElem?_cons_succ, List.getElem?_cons_zero]; rfl)
                  case q33q => exact fun _ _ _ h => h
                  case q33y => (refine Or.inl ⟨by first | kernel_rfl | rfl, ?_⟩; intro w hSw; (try dsimp only at hSw); obtain ⟨u1, u2, u3⟩ := hSw; go_simp <;> (try with_reducible rfl))
                  try simp only [Act.put, List.setIfInBounds_toArray, List.set_cons_zero, List.set_cons_succ]
                  refine wpAnyH_take (i := 3) (oi := ?q34o) (v := ?q34v) ?q34h (by kernel_rfl) (by kernel_rfl) (by kernel_rfl) ?q34q ?q34y hHeld ?q34r
                  case q34h => (simp only [List.getElem?_toArray, List.getElem?_cons_succ, List.getElem?_cons_zero]; rfl)
                  case q34q => exact fun _ _ _ h => h
                  case q34y => (refine Or.inl ⟨by first | kernel_rfl | rfl, ?_⟩; intro w hSw; (try dsimp only at hSw); obtain ⟨u1, u2, u3⟩ := hSw; go_simp <;> (try with_reducible rfl))
                  try simp only [Act.put, List.setIfInBounds_toArray, List.set_cons_zero, List.set_cons_succ]
                  refine wpAnyH_take (i := 4) (oi := ?q35o) (v := ?q35v) ?q35h (by kernel_rfl) (by kernel_rfl) (by kernel_rfl) ?q35q ?q35y hHeld ?q35r
                  case q35h => (simp only [List.getElem?_toArray, List.getElem?_cons_succ, List.getElem?_cons_zero]; rfl)
                  case q35q => exact fun _ _ _ h => h
                  case q35y => (refine Or.inl ⟨by first | kernel_rfl | rfl, ?_⟩; intro w hSw; (try dsimp only at hSw); obtain ⟨u1, u2, u3⟩ := hSw; go_simp <;> (try with_reducible rfl))
                  try simp only [Act.put, List.setIfInBounds_toArray, List.set_cons_zero, List.set_cons_succ]
                  refine wpAnyH_take (i := 5) (oi := ?q36o) (v := ?q36v) ?q36h (by kernel_rfl) (by kernel_rfl) (by kernel_rfl) ?q36q ?q36y hHeld ?q36r
                  case q36h => (simp only [List.getElem?_toArray, List.getElem?_cons_succ, List.getElem?_cons_zero]; rfl)
                  case q36q => exact fun _ _ _ h => h
                  case q36y => (refine Or.inl ⟨by first | kernel_rfl | rfl, ?_⟩; intro w hSw; (try dsimp only at hSw); obtain ⟨u1, u2, u3⟩ := hSw; go_simp <;> (try with_reducible rfl))
                  try simp only [Act.put, List.setIfInBounds_toArray, List.set_cons_zero, List.set_cons_succ]
                  refine wpAnyH_ready (rs := [6]) (by kernel_rfl) (by simp) ?_
                  refine (AllReadyH.cons rfl (fun K hK => ?_) AllReadyH.nil)
                  go_simp
                  (go_at_call 88; (with_reducible refine kd.mono ?_); rintro _ w8 ⟨L8, rfl, hW8, hD8⟩; (have HT8 := Lib.hid (WWent.dir HLe.out.at_ hW8 hD8)); (have HU8 := Lib.hid ((WWent.below HL7.out.at_ (Below.refl _ w7).drew).trans HT8.out)); (have HW8 := Lib.hid (HW7.out.trans HU8.out)); (have HL8 := Lib.hid (H.out.next HW8.out)); clear hW8 hD8 kd)
                  refine hK.out _ _ (⟨cell_of (box_went HL7.out.at_ HU8.out HX7.out.1 (by decide) (by decide) (by decide) (by decide) (by decide) HV3.out), HL8.out.at_.cells.c0, cell_of (box_went HL7.out.at_ HU8.out HX7.out.2.1 (by decide) (by decide) (by decide) (by decide) (by decide) HV9.out)⟩) (fun hHeld => ?_)
                  clear hK K
                  try simp only [Act.put, List.setIfInBounds_toArray, List.set_cons_zero, List.set_cons_succ]
                  refine wpAnyH_ready (rs := [7]) (by kernel_rfl) (by simp) ?_
                  refine (AllReadyH.cons rfl (fun K hK => ?_) AllReadyH.nil)
                  go_simp
                  (go_at_call 56; (with_reducible refine (told_is HL8.out.at_ dz).mono ?_); rintro _ w9 ⟨rfl, hW9⟩; (have HU9 := Lib.hid (HU8.out.trans hW9)); (have HW9 := Lib.hid (HW8.out.trans hW9)); clear hW9)
                  refine hK.out _ _ (⟨cell_of (box_went HL7.out.at_ HU9.out HX7.out.1 (by decide) (by decide) (by decide) (by decide) (by decide) HV3.out), HW9.out.at_.cells.c0, cell_of (box_went HL7.out.at_ HU9.out HX7.out.2.1 (by decide) (by decide) (by decide) (by decide) (by decide) HV9.out)⟩) (fun hHeld => ?_)
                  clear hK K
                  try simp only [Act.put, List.setIfInBounds_toArray, List.set_cons_zero, List.set_cons_succ]
                  refine wpAnyH_done (by kernel_rfl) ?_ _
                  go_wp2
                  go_ret
                  exact ⟨q, HQ1.out, L8, v, by rw [HEnd.out]; rfl, by rw [HEnd.out]; unfold failB; rw [HD.out]; exact HW9.out⟩
end
end Go.Proofs.YteijmjbiaffcmaaGreatDoor
