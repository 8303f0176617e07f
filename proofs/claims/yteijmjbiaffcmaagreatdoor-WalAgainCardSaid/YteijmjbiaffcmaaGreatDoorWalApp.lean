/- The contract of a log's Append. -/
import Derived.Test.YteijmjbiaffcmaaGreatDoorWalE
import Derived.Test.YteijmjbiaffcmaaGreatDoorVintB
import Derived.Deep.RegionHeld
import Derived.Deep.CutRange
import Derived.Deep.CutBlock
import Derived.Laws.EntriesVeiled
set_option maxRecDepth 20000
set_option linter.unusedSimpArgs false
set_option linter.unusedVariables false
namespace Go.Proofs.YteijmjbiaffcmaaGreatDoor
open Go.RowKit Go.Maps Go.Shelf Go.Proofs.YteijmjbiaffcmaaGreatDoor.Vi Go.Proofs.YteijmjbiaffcmaaGreatDoor.Crc Go.Proofs.YteijmjbiaffcmaaGreatDoor.Fr Go.Proofs.YteijmjbiaffcmaaGreatDoor.Fi

def appendW (S : FS) (W : WS) (l : List ByteArray) : Int × FS × WS :=
  if W.br = true then (13, S, W)
  else if l.any (fun s => decide (60000 < s.size)) = true then (11, S, W)
  else if (appendS S (segW W) (tx (frs (byL l)))).1 = 0 then (0, (appendS S (segW W) (tx (frs (byL l)))).2, { W with rc := W.rc ++ l })
  else ((appendS S (segW W) (tx (frs (byL l)))).1, (appendS S (segW W) (tx (frs (byL l)))).2, toldW W (appendS S (segW W) (tx (frs (byL l)))).1)
theorem ws_take (W : WS) (l : List ByteArray) (k : Nat) (h : k < l.length) : { ({ W with rc := W.rc ++ l.take k } : WS) with rc := ({ W with rc := W.rc ++ l.take k } : WS).rc ++ [l[k]] } = { W with rc := W.rc ++ l.take (k + 1) } := by
  rw [List.take_succ_eq_append_getElem h]; simp
/-- A slice of texts stands while a log goes on. -/
def Kept (w w' : World) (v : Value) (l : List ByteArray) : Prop := Ss w v l → Ss w' v l
section
variable {w : World} {B b a : Nat} {S : FS} {L : Lay} {W : WS} {v : Value}
set_option maxHeartbeats 16000000 in
/-- The slice of records lies in a block that the log does not turn: above it stands what hk says. -/
theorem append_is2 (h : Log B w b S L a W v) (hf : Fine W) (hrc : W.rc.length ≤ 99000000) (ra : Option Addr) (rcap : Nat) (l : List ByteArray) (hl : l.length ≤ 41) (hs1 : ∀ s ∈ l, s.size ≤ 1000000) (hv : ∀ w' S' L' W' v', WWent w w' b S S' L L' a W W' v v' → Ss w' (.slice ra l.length rcap) l) : Calls Tryz.prog 30 #[.pointer (some ⟨a, 0, none⟩), .slice ra l.length rcap] w (WDone b S L a W v (appendW S W l) w) := by
  have H := Lib.hid h
  have HFN := Lib.hid hf
  have HRC := Lib.hid hrc
  have HV := Lib.hid hv
  have hss := hv w S L W v (WWent.refl h.at_)
  obtain ⟨nm, hnm⟩ : ∃ nm, segW W = nm := ⟨_, rfl⟩
  have hns : nm.size ≤ maxLen := by rw [← hnm]; exact segI_size _
  have ksg := fun w G => segment_is W.sg nm w (by have := hf.s0; omega) (by have := hf.s1; omega) G (Lib.hid hnm)
  obtain ⟨c0, c1, -, -, -, -, -⟩ := h.at_.cells
  obtain ⟨sg, hsg⟩ : ∃ sg, W.sg = sg := ⟨_, rfl⟩
  rw [hsg] at c1 ksg
  have HSG := Lib.hid hsg
  obtain ⟨zr, hzr⟩ : ∃ z : Int, (if W.br then (13 : Int) else 0) = z := ⟨_, rfl⟩
  have kr := ready_is h.at_ zr (Lib.hid hzr)
  have HSS := Lib.hid hss
  obtain ⟨r, hrr⟩ : ∃ r, appendW S W l = r := ⟨_, rfl⟩
  rw [hrr]
  unfold appendW at hrr
  rw [hnm] at hrr
  clear h hf hrc hv hnm hsg hss
  cases hbr : W.br with
  | true =>
    rw [hbr, if_pos rfl] at hzr
    subst hzr
    rw [if_pos hbr] at hrr
    subst hrr
    go_enter Tryz.func30, Tryz.ntmps30
    go_wp2_with (go_at_call 50; (with_reducible refine kr.mono ?_); rintro _ w1 ⟨rfl, rfl⟩)
    go_ret
    exact ⟨L, v, rfl, WWent.refl H.out.at_⟩
  | false =>
    rw [hbr, if_neg (by decide)] at hzr
    subst hzr
    rw [if_neg (by rw [hbr]; decide)] at hrr
    have HRR := Lib.hid hrr
    clear hrr
    obtain ⟨n, hn⟩ : ∃ n, l.length = n := ⟨_, rfl⟩
    rw [hn] at hl HV HSS ⊢
    have HN := Lib.hid hn
    have HS1 := Lib.hid hs1
    have hcell := Ss.cell HSS.out
    have HCE := Lib.hid hcell
    clear hn hs1 hcell
    go_enter Tryz.func30, Tryz.ntmps30
    go_wp2_with (go_at_call 50; (with_reducible refine kr.mono ?_); rintro _ w1 ⟨rfl, rfl⟩)
    go_loopg [20] n (fun g iv wn => ∃ i : Nat, i + g = n ∧ iv = .int .i64 (i : Int) ∧ wn = w ∧ Hid (∀ s ∈ l.take i, s.size ≤ 60000))
    case atStart => exact ⟨0, by omega, rfl, rfl, Lib.hid fun s hs => by simp at hs⟩
    case round =>
      obtain ⟨i, hi, rfl, hwn, hal⟩ := hrel
      rw [hwn]
      clear hwn wr
      cases gk with
      | succ g =>
        have hlt : (i : Int) < (n : Int) := by omega
        have hil : i < l.length := by rw [HN.out]; omega
        obtain ⟨bb, off, rfl, -, hc⟩ := HCE.out (by omega)
        have hci := hc i hil
        have hxz := HS1.out _ (List.getElem_mem hil)
        have hts := List.take_succ_eq_append_getElem hil
        obtain ⟨x, hx⟩ : ∃ x, l[i] = x := ⟨_, rfl⟩
        rw [hx] at hci hxz hts
        have hiw : IntKind.i64.wrap ((i : Int) + 1) = (i : Int) + 1 := by rw [IntKind.wrap_i64]; omega
        clear hc
        by_cases hbig : 60000 < x.size
        · have hany : l.any (fun s => decide (60000 < s.size)) = true := by
            rw [List.any_eq_true]
            exact ⟨x, hx ▸ List.getElem_mem hil, by simpa using hbig⟩
          have HAny := Lib.hid hany
          have hbi : (60000 : Int) < (x.size : Int) := by omega
          clear hany hx hts
          go_wp2
          go_ret
          have hr2 : (11, S, W) = r := by rw [← HRR.out, if_pos HAny.out]
          exact ⟨L, v, by rw [← hr2]; rfl, by rw [← hr2]; exact WWent.refl H.out.at_⟩
        · have hbi : ¬ (60000 : Int) < (x.size : Int) := by omega
          have hal2 : ∀ s ∈ l.take (i + 1), s.size ≤ 60000 := fun s hs => by
            rw [hts] at hs
            rcases List.mem_append.1 hs with h1 | h1
            · exact hal.out s h1
            · rw [List.mem_singleton] at h1; rw [h1]; omega
          have HAL2 := Lib.hid hal2
          clear hal2 hx hts
          go_wp2
          go_roundg g
          case measure => omega
          case rel => exact ⟨i + 1, by omega, by go_num, rfl, HAL2⟩
      | zero =>
        obtain rfl : i = n := by omega
        have hlt : ¬ (i : Int) < (i : Int) := by omega
        have hall : ∀ s ∈ l, s.size ≤ 60000 := by
          have q := hal.out
          rw [← HN.out, List.take_length] at q
          exact q
        have hany : ¬ l.any (fun s => decide (60000 < s.size)) = true := by
          rw [List.any_eq_true]
          rintro ⟨s, hs, h1⟩
          have h2 := hall s hs
          simp at h1; omega
        have hrr := HRR.out
        rw [if_neg hany] at hrr
        obtain ⟨tt, htt⟩ : ∃ tt, tx (frs (byL l)) = tt := ⟨_, rfl⟩
        rw [htt] at hrr
        have htz : tt.size ≤ 1099511627776 := by
          rw [← htt, tx_size]
          have q := frs_take_len l l.length (Nat.le_refl _) (fun s hs => by have := hall s hs; omega)
          rw [List.take_length] at q
          have := HN.out
          omega
        have kall := fun w' (hS : Ss w' (.slice ra i rcap) l) ht => all_yes (.slice ra i rcap) l tt w' (by rw [HN.out]; exact hl) (fun s hs => by have := hall s hs; omega) hS ht (Lib.hid htt)
        obtain ⟨⟨ez, S1⟩, hez⟩ : ∃ q, appendS S nm tt = q := ⟨_, rfl⟩
        rw [hez] at hrr
        have HEZ := Lib.hid hez
        have HALL := Lib.hid hall
        dsimp only at hrr
        have HR2 := Lib.hid hrr
        clear hrr hal hany htt hez hall
        go_upto_region 11 with (go_at_call 59; (with_reducible refine (kall _ HSS.out H.out.glob.tab).mono ?_); rintro _ w2 ⟨rfl, hB2⟩; (have HB2 := Lib.hid hB2); clear kall hB2)
        have HL2 := Lib.hid (H.out.below HB2.out)
        have HL3 := Lib.hid ((H.out.below HB2.out).below (Below.refl _ w2).drew)
        have d0 := HL2.out.at_.cells.c0
        have d1 : w2.cell? ⟨a, 1, none⟩ = some (.int .i64 sg) := by rw [← HSG.out]; exact HL2.out.at_.cells.c1
        clear c0 c1
        refine wp_region_held_drew (S := (fun W => W.cell? ⟨a, 0, none⟩ = some (.pointer (some ⟨b, 0, none⟩)) ∧ W.cell? ⟨a, 1, none⟩ = some (.int .i64 sg))) (by kernel_rfl) ⟨d0, d1⟩ (fun hHeld => ?_)
        refine wpAnyH_take (i := 0) (oi := ?op1o) (v := ?op1v) ?op1h (by kernel_rfl) (by kernel_rfl) (by kernel_rfl) ?op1q ?op1y hHeld ?op1r
        case op1h => (simp only [List.getElem?_toArray, List.getElem?_cons_zero]; rfl)
        case op1q => exact fun _ _ _ h => h
        case op1y => (refine Or.inl ⟨by first | kernel_rfl | rfl, ?_⟩; intro w hSw; (try dsimp only at hSw); obtain ⟨z1, z2⟩ := hSw; go_simp <;> (try with_reducible rfl))
        try simp only [Act.put, List.setIfInBounds_toArray, List.set_cons_zero, List.set_cons_succ]
        refine wpAnyH_take (i := 1) (oi := ?op2o) (v := ?op2v) ?op2h (by kernel_rfl) (by kernel_rfl) (by kernel_rfl) ?op2q ?op2y hHeld ?op2r
        case op2h => (simp only [List.getElem?_toArray, List.getElem?_cons_succ, List.getElem?_cons_zero]; rfl)
        case op2q => exact fun _ _ _ h => h
        case op2y => (refine Or.inl ⟨by first | kernel_rfl | rfl, ?_⟩; intro w hSw; (try dsimp only at hSw); obtain ⟨z1, z2⟩ := hSw; go_simp <;> (try with_reducible rfl))
        try simp only [Act.put, List.setIfInBounds_toArray, List.set_cons_zero, List.set_cons_succ]
        refine wpAnyH_take (i := 2) (oi := ?op3o) (v := ?op3v) ?op3h (by kernel_rfl) (by kernel_rfl) (by kernel_rfl) ?op3q ?op3y hHeld ?op3r
        case op3h => (simp only [List.getElem?_toArray, List.getElem?_cons_succ, List.getElem?_cons_zero]; rfl)
        case op3q => exact fun _ _ _ h => h
        case op3y => (refine Or.inl ⟨by first | kernel_rfl | rfl, ?_⟩; intro w hSw; (try dsimp only at hSw); obtain ⟨z1, z2⟩ := hSw; go_simp <;> (try with_reducible rfl))
        try simp only [Act.put, List.setIfInBounds_toArray, List.set_cons_zero, List.set_cons_succ]
        refine wpAnyH_take (i := 3) (oi := ?op4o) (v := ?op4v) ?op4h (by kernel_rfl) (by kernel_rfl) (by kernel_rfl) ?op4q ?op4y hHeld ?op4r
        case op4h => (simp only [List.getElem?_toArray, List.getElem?_cons_succ, List.getElem?_cons_zero]; rfl)
        case op4q => exact fun _ _ _ h => h
        case op4y => (refine Or.inl ⟨by first | kernel_rfl | rfl, ?_⟩; intro w hSw; (try dsimp only at hSw); obtain ⟨z1, z2⟩ := hSw; go_simp <;> (try with_reducible rfl))
        try simp only [Act.put, List.setIfInBounds_toArray, List.set_cons_zero, List.set_cons_succ]
        refine wpAnyH_take (i := 4) (oi := ?op5o) (v := ?op5v) ?op5h (by kernel_rfl) (by kernel_rfl) (by kernel_rfl) ?op5q ?op5y hHeld ?op5r
        case op5h => (simp only [List.getElem?_toArray, List.getElem?_cons_succ, List.getElem?_cons_zero]; rfl)
        case op5q => exact fun _ _ _ h => h
        case op5y => (refine Or.inl ⟨by first | kernel_rfl | rfl, ?_⟩; intro w hSw; (try dsimp only at hSw); obtain ⟨z1, z2⟩ := hSw; go_simp <;> (try with_reducible rfl))
        try simp only [Act.put, List.setIfInBounds_toArray, List.set_cons_zero, List.set_cons_succ]
        refine wpAnyH_take (i := 5) (oi := ?op6o) (v := ?op6v) ?op6h (by kernel_rfl) (by kernel_rfl) (by kernel_rfl) ?op6q ?op6y hHeld ?op6r
        case op6h => (simp only [List.getElem?_toArray, List.getElem?_cons_succ, List.getElem?_cons_zero]; rfl)
        case op6q => exact fun _ _ _ h => h
        case op6y => (refine Or.inl ⟨by first | kernel_rfl | rfl, ?_⟩; intro w hSw; (try dsimp only at hSw); obtain ⟨z1, z2⟩ := hSw; go_simp <;> (try with_reducible rfl))
        try simp only [Act.put, List.setIfInBounds_toArray, List.set_cons_zero, List.set_cons_succ]
        refine wpAnyH_take (i := 6) (oi := ?op7o) (v := ?op7v) ?op7h (by kernel_rfl) (by kernel_rfl) (by kernel_rfl) ?op7q ?op7y hHeld ?op7r
        case op7h => (simp only [List.getElem?_toArray, List.getElem?_cons_succ, List.getElem?_cons_zero]; rfl)
        case op7q => exact fun _ _ _ h => h
        case op7y => (refine Or.inl ⟨by first | kernel_rfl | rfl, ?_⟩; intro w hSw; (try dsimp only at hSw); obtain ⟨z1, z2⟩ := hSw; go_simp <;> (try with_reducible rfl))
        try simp only [Act.put, List.setIfInBounds_toArray, List.set_cons_zero, List.set_cons_succ]
        refine wpAnyH_take (i := 7) (oi := ?op8o) (v := ?op8v) ?op8h (by kernel_rfl) (by kernel_rfl) (by kernel_rfl) ?op8q ?op8y hHeld ?op8r
        case op8h => (simp only [List.getElem?_toArray, List.getElem?_cons_succ, List.getElem?_cons_zero]; rfl)
        case op8q => exact fun _ _ _ h => h
        case op8y => (refine Or.inl ⟨by first | kernel_rfl | rfl, ?_⟩; intro w hSw; (try dsimp only at hSw); obtain ⟨z1, z2⟩ := hSw; go_simp <;> (try with_reducible rfl))
        try simp only [Act.put, List.setIfInBounds_toArray, List.set_cons_zero, List.set_cons_succ]
        refine wpAnyH_take (i := 8) (oi := ?op9o) (v := ?op9v) ?op9h (by kernel_rfl) (by kernel_rfl) (by kernel_rfl) ?op9q ?op9y hHeld ?op9r
        case op9h => (simp only [List.getElem?_toArray, List.getElem?_cons_succ, List.getElem?_cons_zero]; rfl)
        case op9q => exact fun _ _ _ h => h
        case op9y => (refine Or.inl ⟨by first | kernel_rfl | rfl, ?_⟩; intro w hSw; (try dsimp only at hSw); obtain ⟨z1, z2⟩ := hSw; go_simp <;> (try with_reducible rfl))
        try simp only [Act.put, List.setIfInBounds_toArray, List.set_cons_zero, List.set_cons_succ]
        refine wpAnyH_take (i := 10) (oi := ?op10o) (v := ?op10v) ?op10h (by kernel_rfl) (by kernel_rfl) (by kernel_rfl) ?op10q ?op10y hHeld ?op10r
        case op10h => (simp only [List.getElem?_toArray, List.getElem?_cons_succ, List.getElem?_cons_zero]; rfl)
        case op10q => exact fun _ _ _ h => h
        case op10y => (refine Or.inl ⟨by first | kernel_rfl | rfl, ?_⟩; intro w hSw; (try dsimp only at hSw); obtain ⟨z1, z2⟩ := hSw; go_simp <;> (try with_reducible rfl))
        try simp only [Act.put, List.setIfInBounds_toArray, List.set_cons_zero, List.set_cons_succ]
        refine wpAnyH_ready (rs := [9]) (by kernel_rfl) (by simp) ?_
        refine (AllReadyH.cons rfl (fun K hK => ?_) AllReadyH.nil)
        go_simp
        (go_at_call 13; (with_reducible refine (ksg _ HL3.out.glob).mono ?_); rintro _ w3 ⟨rfl, hB3⟩; (have HL4 := Lib.hid (HL3.out.below hB3)); (have HB3 := Lib.hid hB3); clear ksg hB3)
        refine hK.out _ _ (⟨HL4.out.at_.cells.c0, (by have q := HL4.out.at_.cells.c1; first | exact q | exact HSG.out ▸ q)⟩) (fun hHeld => ?_)
        clear hK K
        try simp only [Act.put, List.setIfInBounds_toArray, List.set_cons_zero, List.set_cons_succ]
        refine wpAnyH_ready (rs := [11]) (by kernel_rfl) (by simp) ?_
        refine (AllReadyH.cons rfl (fun K hK => ?_) AllReadyH.nil)
        go_simp
        (go_at_call 60; (with_reducible refine (append_dir nm tt HL4.out.at_.dir hns htz).mono ?_); rw [HEZ.out]; rintro _ w4 ⟨L5, rfl, hW5, hD5⟩; (have HT5 := Lib.hid ((((WWent.below H.out.at_ HB2.out).trans (WWent.below HL2.out.at_ (Below.refl _ _).drew)).trans (WWent.below HL3.out.at_ HB3.out)).trans (WWent.dir HL4.out.at_ hW5 hD5))); (have HL5 := Lib.hid (H.out.next HT5.out)); clear hW5 hD5)
        refine hK.out _ _ (⟨HL5.out.at_.cells.c0, (by have q := HL5.out.at_.cells.c1; first | exact q | exact HSG.out ▸ q)⟩) (fun hHeld => ?_)
        clear hK K
        try simp only [Act.put, List.setIfInBounds_toArray, List.set_cons_zero, List.set_cons_succ]
        refine wpAnyH_ready (rs := [12]) (by kernel_rfl) (by simp) ?_
        refine (AllReadyH.cons rfl (fun K hK => ?_) AllReadyH.nil)
        go_simp
        (go_at_call 56; (with_reducible refine (told_is HL5.out.at_ ez).mono ?_); rintro _ w5 ⟨rfl, hW6⟩; (have HT6 := Lib.hid (HT5.out.trans hW6)); (have HL6 := Lib.hid (H.out.next HT6.out)); clear hW6)
        refine hK.out _ _ (⟨HL6.out.at_.cells.c0, (by have q := HL6.out.at_.cells.c1; unfold toldW at q; split at q <;> exact HSG.out ▸ q)⟩) (fun hHeld => ?_)
        clear hK K
        try simp only [Act.put, List.setIfInBounds_toArray, List.set_cons_zero, List.set_cons_succ]
        refine wpAnyH_take (i := 13) (oi := ?op11o) (v := ?op11v) ?op11h (by kernel_rfl) (by kernel_rfl) (by kernel_rfl) ?op11q ?op11y hHeld ?op11r
        case op11h => (simp only [List.getElem?_toArray, List.getElem?_cons_succ, List.getElem?_cons_zero]; rfl)
        case op11q => exact fun _ _ _ h => h
        case op11y => (refine Or.inl ⟨by first | kernel_rfl | rfl, ?_⟩; intro w hSw; (try dsimp only at hSw); obtain ⟨z1, z2⟩ := hSw; go_simp <;> (try with_reducible rfl))
        try simp only [Act.put, List.setIfInBounds_toArray, List.set_cons_zero, List.set_cons_succ]
        refine wpAnyH_done (by kernel_rfl) ?_ _
        clear hHeld
        by_cases hz0 : ez = 0
        · subst hz0
          have hw0 : toldW W 0 = W := rfl
          rw [hw0] at HT6 HL6
          have hr2 := HR2.out
          rw [if_pos rfl] at hr2
          have HR3 := Lib.hid hr2
          clear hr2 hw0 HL5 HT5 HL4 HL3 HL2 d0 d1 HB3
          go_wp2
          go_loopg [51] i (fun g jv wn => ∃ (j : Nat) (v2 : Value), j + g = i ∧ jv = .int .i64 (j : Int) ∧ WWent w wn b S S1 L L5 a W { W with rc := W.rc ++ l.take j } v v2)
          case atStart => exact ⟨0, v, by omega, rfl, (by rw [List.take_zero, List.append_nil]; exact HT6.out)⟩
          case round =>
            obtain ⟨j, v2, hj, rfl, hW7⟩ := hrel
            have HW7 := Lib.hid hW7
            have HL7 := Lib.hid (H.out.next hW7)
            have hSS7 := HV.out _ _ _ _ _ hW7
            clear hW7 HL6 HT6
            cases gk with
            | zero =>
              obtain rfl : j = i := by omega
              have hlt2 : ¬ (j : Int) < (j : Int) := by omega
              have hW7 := HW7.out
              rw [← HN.out, List.take_length] at hW7
              have HW8 := Lib.hid hW7
              clear hW7 hSS7
              go_wp2
              go_ret
              exact ⟨L5, v2, by rw [← HR3.out]; rfl, by rw [← HR3.out]; exact HW8.out⟩
            | succ g =>
              have hlt2 : (j : Int) < (i : Int) := by omega
              have hjl : j < l.length := by rw [HN.out]; omega
              obtain ⟨bb, off, rfl, -, hc⟩ := Ss.cell hSS7 (by omega)
              have hcj := hc j hjl
              have hbl := World.block_lt_of_cell? wr _ hcj
              have hwt := ws_take W l j hjl
              have hxz := HALL.out _ (List.getElem_mem hjl)
              obtain ⟨x, hx⟩ : ∃ x, l[j] = x := ⟨_, rfl⟩
              rw [hx] at hcj hwt hxz
              obtain ⟨Q2, hQ2⟩ : ∃ Q2 : WS, { W with rc := W.rc ++ l.take j } = Q2 := ⟨_, rfl⟩
              have hnl : Q2.rc.length ≤ 100000000 := by
                rw [← hQ2]
                show (W.rc ++ l.take j).length ≤ _
                rw [List.length_append, List.length_take]
                have := HRC.out; omega
              rw [hQ2] at HW7 HL7 hwt
              obtain ⟨va, vc, hv2⟩ := HL7.out.at_.rcs.slice
              obtain ⟨nn, hnn⟩ : ∃ nn, Q2.rc.length = nn := ⟨_, rfl⟩
              rw [hnn] at hv2
              subst hv2
              have HNL := Lib.hid hnl
              have HWT := Lib.hid hwt
              have e4 := HL7.out.at_.cells.c4
              have kc := fun w => clone_is x w (by omega)
              have hjw : IntKind.i64.wrap ((j : Int) + 1) = (j : Int) + 1 := by rw [IntKind.wrap_i64]; omega
              have HLd := Lib.hid (HL7.out.below (Below.refl _ wr).drew)
              have HWd := Lib.hid (HW7.out.trans (WWent.below HL7.out.at_ (Below.refl _ wr).drew))
              have hal2 : a < wr.heap.size := some_lt HL7.out.at_.cell
              clear hc hSS7 hx hQ2 hnl hwt hnn
              go_upto_region 17 with fail
              refine wp_region_held_drew (S := (fun _ => True)) (by kernel_rfl) trivial (fun hHeld => ?_)
              refine wpAnyH_take (i := 0) (oi := ?oq1o) (v := ?oq1v) ?oq1h (by kernel_rfl) (by kernel_rfl) (by kernel_rfl) ?oq1q ?oq1y hHeld ?oq1r
              case oq1h => (simp only [List.getElem?_toArray, List.getElem?_cons_zero]; rfl)
              case oq1q => exact fun _ _ _ h => h
              case oq1y => (refine Or.inl ⟨by first | kernel_rfl | rfl, ?_⟩; intro w hSw; (try dsimp only at hSw); go_simp <;> (try with_reducible rfl))
              try simp only [Act.put, List.setIfInBounds_toArray, List.set_cons_zero, List.set_cons_succ]
              refine wpAnyH_take (i := 1) (oi := ?oq2o) (v := ?oq2v) ?oq2h (by kernel_rfl) (by kernel_rfl) (by kernel_rfl) ?oq2q ?oq2y hHeld ?oq2r
              case oq2h => (simp only [List.getElem?_toArray, List.getElem?_cons_succ, List.getElem?_cons_zero]; rfl)
              case oq2q => exact fun _ _ _ h => h
              case oq2y => (refine Or.inl ⟨by first | kernel_rfl | rfl, ?_⟩; intro w hSw; (try dsimp only at hSw); go_simp <;> (try with_reducible rfl))
              try simp only [Act.put, List.setIfInBounds_toArray, List.set_cons_zero, List.set_cons_succ]
              refine wpAnyH_take (i := 2) (oi := ?oq3o) (v := ?oq3v) ?oq3h (by kernel_rfl) (by kernel_rfl) (by kernel_rfl) ?oq3q ?oq3y hHeld ?oq3r
              case oq3h => (simp only [List.getElem?_toArray, List.getElem?_cons_succ, List.getElem?_cons_zero]; rfl)
              case oq3q => exact fun _ _ _ h => h
              case oq3y => (refine Or.inl ⟨by first | kernel_rfl | rfl, ?_⟩; intro w hSw; (try dsimp only at hSw); go_simp <;> (try with_reducible rfl))
              try simp only [Act.put, List.setIfInBounds_toArray, List.set_cons_zero, List.set_cons_succ]
              refine wpAnyH_take (i := 3) (oi := ?oq4o) (v := ?oq4v) ?oq4h (by kernel_rfl) (by kernel_rfl) (by kernel_rfl) ?oq4q ?oq4y hHeld ?oq4r
              case oq4h => (simp only [List.getElem?_toArray, List.getElem?_cons_succ, List.getElem?_cons_zero]; rfl)
              case oq4q => exact fun _ _ _ h => h
              case oq4y => (refine Or.inl ⟨by first | kernel_rfl | rfl, ?_⟩; intro w hSw; (try dsimp only at hSw); go_simp <;> (try with_reducible rfl))
              try simp only [Act.put, List.setIfInBounds_toArray, List.set_cons_zero, List.set_cons_succ]
              refine wpAnyH_take (i := 5) (oi := ?oq5o) (v := ?oq5v) ?oq5h (by kernel_rfl) (by kernel_rfl) (by kernel_rfl) ?oq5q ?oq5y hHeld ?oq5r
              case oq5h => (simp only [List.getElem?_toArray, List.getElem?_cons_succ, List.getElem?_cons_zero]; rfl)
              case oq5q => exact fun _ _ _ h => h
              case oq5y => (refine Or.inl ⟨by first | kernel_rfl | rfl, ?_⟩; intro w hSw; (try dsimp only at hSw); go_simp <;> (try with_reducible rfl))
              try simp only [Act.put, List.setIfInBounds_toArray, List.set_cons_zero, List.set_cons_succ]
              refine wpAnyH_ready (rs := [4, 6]) (by kernel_rfl) (by simp) ?_
              refine (AllReadyH.cons rfl (fun K hK => ?_) (AllReadyH.cons rfl (fun K hK => ?_) AllReadyH.nil))
              ·
                go_simp
                skip
                refine hK.out _ _ (trivial) (fun hHeld => ?_)
                clear hK K
                try simp only [Act.put, List.setIfInBounds_toArray, List.set_cons_zero, List.set_cons_succ]
                refine wpAnyH_ready (rs := [6]) (by kernel_rfl) (by simp) ?_
                refine (AllReadyH.cons rfl (fun K hK => ?_) AllReadyH.nil)
                go_simp
                (go_at_call 53; (with_reducible refine (kc _).mono ?_); rintro _ w8 ⟨rfl, hB8⟩; (have HL8 := Lib.hid (HLd.out.below hB8)); (have HW8 := Lib.hid (HWd.out.trans (WWent.below HLd.out.at_ hB8))); (have e48 := HL8.out.at_.cells.c4); (have hal8 : a < w8.heap.size := some_lt HL8.out.at_.cell); clear kc hB8)
                refine hK.out _ _ (trivial) (fun hHeld => ?_)
                clear hK K
                try simp only [Act.put, List.setIfInBounds_toArray, List.set_cons_zero, List.set_cons_succ]
                refine wpAnyH_ready (rs := [7]) (by kernel_rfl) (by simp) ?_
                refine (AllReadyH.cons rfl (fun K hK => ?_) AllReadyH.nil)
                go_simp
                skip
                refine hK.out _ _ (trivial) (fun hHeld => ?_)
                clear hK K
                try simp only [Act.put, List.setIfInBounds_toArray, List.set_cons_zero, List.set_cons_succ]
                refine wpAnyH_ready (rs := [8]) (by kernel_rfl) (by simp) ?_
                refine (AllReadyH.cons rfl (fun K hK => ?_) AllReadyH.nil)
                refine step_rec rfl _ _ rfl (.slice va nn vc) _ x w8.heap.size rfl rfl (HL8.out.at_.rcs.later (bel_al w8 (.cells #[.string x] 9))) (by simp [go_sem]) HNL.out ?_
                intro v9 w9 hR9 hg9 h19 hsp9
                have hLa := HL8.out.below (bel_al w8 (.cells #[.string x] 9))
                have hWa := HW8.out.trans (WWent.below HL8.out.at_ (bel_al w8 (.cells #[.string x] 9)))
                have hca := rec_cell hLa.at_ hg9
                have HW10 := Lib.hid (hWa.trans (WWent.recs hLa.at_ hR9 hg9 h19 (hsp9.imp id Or.inr)))
                have e4' : w9.cell? ⟨a, 4, none⟩ = some (.slice va nn vc) := cell_of hca
                have f4' : w9.frozen? ⟨a, 4, none⟩ = false := frozen_of hca
                obtain ⟨a3, d3, rfl⟩ := hR9.slice
                obtain ⟨n3, hn3⟩ : ∃ n3, (Q2.rc ++ [x]).length = n3 := ⟨_, rfl⟩
                rw [hn3] at HW10 ⊢
                clear hLa hWa hca hR9 hg9 h19 hsp9 hn3
                refine hK.out _ _ (trivial) (fun hHeld => ?_)
                clear hK K
                try simp only [Act.put, List.setIfInBounds_toArray, List.set_cons_zero, List.set_cons_succ]
                refine wpAnyH_take (i := 9) (oi := ?oq6o) (v := ?oq6v) ?oq6h (by kernel_rfl) (by kernel_rfl) (by kernel_rfl) ?oq6q ?oq6y hHeld ?oq6r
                case oq6h => (simp only [List.getElem?_toArray, List.getElem?_cons_succ, List.getElem?_cons_zero]; rfl)
                case oq6q => exact fun _ _ _ h => h
                case oq6y => (refine Or.inl ⟨by first | kernel_rfl | rfl, ?_⟩; intro w hSw; (try dsimp only at hSw); go_simp <;> (try with_reducible rfl))
                try simp only [Act.put, List.setIfInBounds_toArray, List.set_cons_zero, List.set_cons_succ]
                refine wpAnyH_take (i := 10) (oi := ?oq7o) (v := ?oq7v) ?oq7h (by kernel_rfl) (by kernel_rfl) (by kernel_rfl) ?oq7q ?oq7y hHeld ?oq7r
                case oq7h => (simp only [List.getElem?_toArray, List.getElem?_cons_succ, List.getElem?_cons_zero]; rfl)
                case oq7q => exact fun _ _ _ h => h
                case oq7y => (refine Or.inl ⟨by first | kernel_rfl | rfl, ?_⟩; intro w hSw; (try dsimp only at hSw); go_simp <;> (try with_reducible rfl))
                try simp only [Act.put, List.setIfInBounds_toArray, List.set_cons_zero, List.set_cons_succ]
                refine wpAnyH_ready (rs := [11]) (by kernel_rfl) (by simp) ?_
                refine (AllReadyH.cons rfl (fun K hK => ?_) AllReadyH.nil)
                go_simp
                skip
                refine hK.out _ _ (trivial) (fun hHeld => ?_)
                clear hK K
                try simp only [Act.put]
                refine wpAnyH_done (by kernel_rfl) ?_ _
                go_wp2
                go_roundg g
                case measure => omega
                case rel => exact ⟨j + 1, _, by omega, by go_num, (by have q := HW10.out; rw [HWT.out] at q; exact q)⟩
              ·
                go_simp
                (go_at_call 53; (with_reducible refine (kc _).mono ?_); rintro _ w8 ⟨rfl, hB8⟩; (have HL8 := Lib.hid (HLd.out.below hB8)); (have HW8 := Lib.hid (HWd.out.trans (WWent.below HLd.out.at_ hB8))); (have e48 := HL8.out.at_.cells.c4); (have hal8 : a < w8.heap.size := some_lt HL8.out.at_.cell); clear kc hB8)
                refine hK.out _ _ (trivial) (fun hHeld => ?_)
                clear hK K
                try simp only [Act.put, List.setIfInBounds_toArray, List.set_cons_zero, List.set_cons_succ]
                refine wpAnyH_ready (rs := [4, 7]) (by kernel_rfl) (by simp) ?_
                refine (AllReadyH.cons rfl (fun K hK => ?_) (AllReadyH.cons rfl (fun K hK => ?_) AllReadyH.nil))
                ·
                  go_simp
                  skip
                  refine hK.out _ _ (trivial) (fun hHeld => ?_)
                  clear hK K
                  try simp only [Act.put, List.setIfInBounds_toArray, List.set_cons_zero, List.set_cons_succ]
                  refine wpAnyH_ready (rs := [7]) (by kernel_rfl) (by simp) ?_
                  refine (AllReadyH.cons rfl (fun K hK => ?_) AllReadyH.nil)
                  go_simp
                  skip
                  refine hK.out _ _ (trivial) (fun hHeld => ?_)
                  clear hK K
                  try simp only [Act.put, List.setIfInBounds_toArray, List.set_cons_zero, List.set_cons_succ]
                  refine wpAnyH_ready (rs := [8]) (by kernel_rfl) (by simp) ?_
                  refine (AllReadyH.cons rfl (fun K hK => ?_) AllReadyH.nil)
                  refine step_rec rfl _ _ rfl (.slice va nn vc) _ x w8.heap.size rfl rfl (HL8.out.at_.rcs.later (bel_al w8 (.cells #[.string x] 9))) (by simp [go_sem]) HNL.out ?_
                  intro v9 w9 hR9 hg9 h19 hsp9
                  have hLa := HL8.out.below (bel_al w8 (.cells #[.string x] 9))
                  have hWa := HW8.out.trans (WWent.below HL8.out.at_ (bel_al w8 (.cells #[.string x] 9)))
                  have hca := rec_cell hLa.at_ hg9
                  have HW10 := Lib.hid (hWa.trans (WWent.recs hLa.at_ hR9 hg9 h19 (hsp9.imp id Or.inr)))
                  have e4' : w9.cell? ⟨a, 4, none⟩ = some (.slice va nn vc) := cell_of hca
                  have f4' : w9.frozen? ⟨a, 4, none⟩ = false := frozen_of hca
                  obtain ⟨a3, d3, rfl⟩ := hR9.slice
                  obtain ⟨n3, hn3⟩ : ∃ n3, (Q2.rc ++ [x]).length = n3 := ⟨_, rfl⟩
                  rw [hn3] at HW10 ⊢
                  clear hLa hWa hca hR9 hg9 h19 hsp9 hn3
                  refine hK.out _ _ (trivial) (fun hHeld => ?_)
                  clear hK K
                  try simp only [Act.put, List.setIfInBounds_toArray, List.set_cons_zero, List.set_cons_succ]
                  refine wpAnyH_take (i := 9) (oi := ?oq8o) (v := ?oq8v) ?oq8h (by kernel_rfl) (by kernel_rfl) (by kernel_rfl) ?oq8q ?oq8y hHeld ?oq8r
                  case oq8h => (simp only [List.getElem?_toArray, List.getElem?_cons_succ, List.getElem?_cons_zero]; rfl)
                  case oq8q => exact fun _ _ _ h => h
                  case oq8y => (refine Or.inl ⟨by first | kernel_rfl | rfl, ?_⟩; intro w hSw; (try dsimp only at hSw); go_simp <;> (try with_reducible rfl))
                  try simp only [Act.put, List.setIfInBounds_toArray, List.set_cons_zero, List.set_cons_succ]
                  refine wpAnyH_take (i := 10) (oi := ?oq9o) (v := ?oq9v) ?oq9h (by kernel_rfl) (by kernel_rfl) (by kernel_rfl) ?oq9q ?oq9y hHeld ?oq9r
                  case oq9h => (simp only [List.getElem?_toArray, List.getElem?_cons_succ, List.getElem?_cons_zero]; rfl)
                  case oq9q => exact fun _ _ _ h => h
                  case oq9y => (refine Or.inl ⟨by first | kernel_rfl | rfl, ?_⟩; intro w hSw; (try dsimp only at hSw); go_simp <;> (try with_reducible rfl))
                  try simp only [Act.put, List.setIfInBounds_toArray, List.set_cons_zero, List.set_cons_succ]
                  refine wpAnyH_ready (rs := [11]) (by kernel_rfl) (by simp) ?_
                  refine (AllReadyH.cons rfl (fun K hK => ?_) AllReadyH.nil)
                  go_simp
                  skip
                  refine hK.out _ _ (trivial) (fun hHeld => ?_)
                  clear hK K
                  try simp only [Act.put]
                  refine wpAnyH_done (by kernel_rfl) ?_ _
                  go_wp2
                  go_roundg g
                  case measure => omega
                  case rel => exact ⟨j + 1, _, by omega, by go_num, (by have q := HW10.out; rw [HWT.out] at q; exact q)⟩
                ·
                  go_simp
                  skip
                  refine hK.out _ _ (trivial) (fun hHeld => ?_)
                  clear hK K
                  try simp only [Act.put, List.setIfInBounds_toArray, List.set_cons_zero, List.set_cons_succ]
                  refine wpAnyH_ready (rs := [4]) (by kernel_rfl) (by simp) ?_
                  refine (AllReadyH.cons rfl (fun K hK => ?_) AllReadyH.nil)
                  go_simp
                  skip
                  refine hK.out _ _ (trivial) (fun hHeld => ?_)
                  clear hK K
                  try simp only [Act.put, List.setIfInBounds_toArray, List.set_cons_zero, List.set_cons_succ]
                  refine wpAnyH_ready (rs := [8]) (by kernel_rfl) (by simp) ?_
                  refine (AllReadyH.cons rfl (fun K hK => ?_) AllReadyH.nil)
                  refine step_rec rfl _ _ rfl (.slice va nn vc) _ x w8.heap.size rfl rfl (HL8.out.at_.rcs.later (bel_al w8 (.cells #[.string x] 9))) (by simp [go_sem]) HNL.out ?_
                  intro v9 w9 hR9 hg9 h19 hsp9
                  have hLa := HL8.out.below (bel_al w8 (.cells #[.string x] 9))
                  have hWa := HW8.out.trans (WWent.below HL8.out.at_ (bel_al w8 (.cells #[.string x] 9)))
                  have hca := rec_cell hLa.at_ hg9
                  have HW10 := Lib.hid (hWa.trans (WWent.recs hLa.at_ hR9 hg9 h19 (hsp9.imp id Or.inr)))
                  have e4' : w9.cell? ⟨a, 4, none⟩ = some (.slice va nn vc) := cell_of hca
                  have f4' : w9.frozen? ⟨a, 4, none⟩ = false := frozen_of hca
                  obtain ⟨a3, d3, rfl⟩ := hR9.slice
                  obtain ⟨n3, hn3⟩ : ∃ n3, (Q2.rc ++ [x]).length = n3 := ⟨_, rfl⟩
                  rw [hn3] at HW10 ⊢
                  clear hLa hWa hca hR9 hg9 h19 hsp9 hn3
                  refine hK.out _ _ (trivial) (fun hHeld => ?_)
                  clear hK K
                  try simp only [Act.put, List.setIfInBounds_toArray, List.set_cons_zero, List.set_cons_succ]
                  refine wpAnyH_take (i := 9) (oi := ?oq10o) (v := ?oq10v) ?oq10h (by kernel_rfl) (by kernel_rfl) (by kernel_rfl) ?oq10q ?oq10y hHeld ?oq10r
                  case oq10h => (simp only [List.getElem?_toArray, List.getElem?_cons_succ, List.getElem?_cons_zero]; rfl)
                  case oq10q => exact fun _ _ _ h => h
                  case oq10y => (refine Or.inl ⟨by first | kernel_rfl | rfl, ?_⟩; intro w hSw; (try dsimp only at hSw); go_simp <;> (try with_reducible rfl))
                  try simp only [Act.put, List.setIfInBounds_toArray, List.set_cons_zero, List.set_cons_succ]
                  refine wpAnyH_take (i := 10) (oi := ?oq11o) (v := ?oq11v) ?oq11h (by kernel_rfl) (by kernel_rfl) (by kernel_rfl) ?oq11q ?oq11y hHeld ?oq11r
                  case oq11h => (simp only [List.getElem?_toArray, List.getElem?_cons_succ, List.getElem?_cons_zero]; rfl)
                  case oq11q => exact fun _ _ _ h => h
                  case oq11y => (refine Or.inl ⟨by first | kernel_rfl | rfl, ?_⟩; intro w hSw; (try dsimp only at hSw); go_simp <;> (try with_reducible rfl))
                  try simp only [Act.put, List.setIfInBounds_toArray, List.set_cons_zero, List.set_cons_succ]
                  refine wpAnyH_ready (rs := [11]) (by kernel_rfl) (by simp) ?_
                  refine (AllReadyH.cons rfl (fun K hK => ?_) AllReadyH.nil)
                  go_simp
                  skip
                  refine hK.out _ _ (trivial) (fun hHeld => ?_)
                  clear hK K
                  try simp only [Act.put]
                  refine wpAnyH_done (by kernel_rfl) ?_ _
                  go_wp2
                  go_roundg g
                  case measure => omega
                  case rel => exact ⟨j + 1, _, by omega, by go_num, (by have q := HW10.out; rw [HWT.out] at q; exact q)⟩
        · have hne : (ez != 0) = true := by simpa using hz0
          have hr2 := HR2.out
          rw [if_neg hz0] at hr2
          have HR3 := Lib.hid hr2
          clear hr2 hz0
          go_wp2
          go_ret
          exact ⟨L5, v, by rw [← HR3.out]; rfl, by rw [← HR3.out]; exact HT6.out⟩
end
end Go.Proofs.YteijmjbiaffcmaaGreatDoor
