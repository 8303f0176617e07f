/- Joined: WalMeth, WalBegs. -/
import Derived.Test.YteijmjbiaffcmaaGreatDoorWalRead
import Derived.Deep.RegionHeld
import Derived.Deep.CutRange
import Derived.Deep.CutBlock
import Derived.Laws.EntriesVeiled
/- Contracts of settle, and of the steps that begin a segment. -/
set_option maxRecDepth 20000
set_option linter.unusedSimpArgs false
set_option linter.unusedVariables false
namespace Go.Proofs.YteijmjbiaffcmaaGreatDoor
open Go.RowKit Go.Maps Go.Shelf Go.Proofs.YteijmjbiaffcmaaGreatDoor.Vi Go.Proofs.YteijmjbiaffcmaaGreatDoor.Crc Go.Proofs.YteijmjbiaffcmaaGreatDoor.Fr Go.Proofs.YteijmjbiaffcmaaGreatDoor.Fi

def segW (W : WS) : ByteArray := tx (segI W.sg)
theorem segI_size (n : Int) : (tx (segI n)).size ≤ maxLen := by
  rw [tx_size]
  unfold segI maxLen
  split
  · rw [seg_len]; omega
  · simp
/-- How a method of a log ends. -/
def WDone (b : Nat) (S : FS) (L : Lay) (a : Nat) (W : WS) (v : Value) (r : Int × FS × WS) (w : World) (e : Ending) (w' : World) : Prop := ∃ L' v', e = .returned (.int .i64 r.1) ∧ WWent w w' b S r.2.1 L L' a W r.2.2 v v'
def settleW (S : FS) (W : WS) : Int × FS × WS := if (syncS S (segW W)).1 = 0 then (0, (syncS S (segW W)).2, { W with fm := lastW W }) else ((syncS S (segW W)).1, (syncS S (segW W)).2, toldW W (syncS S (segW W)).1)
section
variable {w : World} {B b a : Nat} {S : FS} {L : Lay} {W : WS} {v : Value}
set_option maxHeartbeats 4000000 in
theorem settle_is (h : Log B w b S L a W v) (hf : Fine W) : Calls Tryz.prog 51 #[.pointer (some ⟨a, 0, none⟩)] w (WDone b S L a W v (settleW S W) w) := by
  have H := Lib.hid h
  have HFN := Lib.hid hf
  obtain ⟨c0, c1, -⟩ := h.at_.cells
  obtain ⟨nm, hnm⟩ : ∃ nm, segW W = nm := ⟨_, rfl⟩
  have hns : nm.size ≤ maxLen := by rw [← hnm]; exact segI_size _
  have ksg := fun w G => segment_is W.sg nm w (by have := hf.s0; omega) (by have := hf.s1; omega) G (Lib.hid hnm)
  unfold settleW
  rw [hnm]
  obtain ⟨⟨z, S1⟩, hz⟩ : ∃ q, syncS S nm = q := ⟨_, rfl⟩
  rw [hz]
  have HZ := Lib.hid hz
  obtain ⟨sg, hsg⟩ : ∃ sg, W.sg = sg := ⟨_, rfl⟩
  rw [hsg] at c1 ksg
  have HSG := Lib.hid hsg
  have HL1 := Lib.hid (h.below (Below.refl _ _).drew)
  dsimp only
  clear h hf hnm hz hsg
  by_cases hz0 : z = 0
  · subst hz0
    rw [if_pos rfl]
    go_enter Tryz.func51, Tryz.ntmps51
    go_wp2
    refine wp_region_held_drew (S := (fun W => W.cell? ⟨a, 0, none⟩ = some (.pointer (some ⟨b, 0, none⟩)) ∧ W.cell? ⟨a, 1, none⟩ = some (.int .i64 sg))) (by kernel_rfl) ⟨c0, c1⟩ (fun hHeld => ?_)
    refine wpAnyH_take (i := 0) (oi := ?oa1o) (v := ?oa1v) ?oa1h (by kernel_rfl) (by kernel_rfl) (by kernel_rfl) ?oa1q ?oa1y hHeld ?oa1r
    case oa1h => (simp only [List.getElem?_toArray, List.getElem?_cons_zero]; rfl)
    case oa1q => exact fun _ _ _ h => h
    case oa1y => (refine Or.inl ⟨by first | kernel_rfl | rfl, ?_⟩; intro w hSw; (try dsimp only at hSw); obtain ⟨z1, z2⟩ := hSw; go_simp <;> (try with_reducible rfl))
    try simp only [Act.put, List.setIfInBounds_toArray, List.set_cons_zero, List.set_cons_succ]
    refine wpAnyH_take (i := 1) (oi := ?oa2o) (v := ?oa2v) ?oa2h (by kernel_rfl) (by kernel_rfl) (by kernel_rfl) ?oa2q ?oa2y hHeld ?oa2r
    case oa2h => (simp only [List.getElem?_toArray, List.getElem?_cons_succ, List.getElem?_cons_zero]; rfl)
    case oa2q => exact fun _ _ _ h => h
    case oa2y => (refine Or.inl ⟨by first | kernel_rfl | rfl, ?_⟩; intro w hSw; (try dsimp only at hSw); obtain ⟨z1, z2⟩ := hSw; go_simp <;> (try with_reducible rfl))
    try simp only [Act.put, List.setIfInBounds_toArray, List.set_cons_zero, List.set_cons_succ]
    refine wpAnyH_take (i := 2) (oi := ?oa3o) (v := ?oa3v) ?oa3h (by kernel_rfl) (by kernel_rfl) (by kernel_rfl) ?oa3q ?oa3y hHeld ?oa3r
    case oa3h => (simp only [List.getElem?_toArray, List.getElem?_cons_succ, List.getElem?_cons_zero]; rfl)
    case oa3q => exact fun _ _ _ h => h
    case oa3y => (refine Or.inl ⟨by first | kernel_rfl | rfl, ?_⟩; intro w hSw; (try dsimp only at hSw); obtain ⟨z1, z2⟩ := hSw; go_simp <;> (try with_reducible rfl))
    try simp only [Act.put, List.setIfInBounds_toArray, List.set_cons_zero, List.set_cons_succ]
    refine wpAnyH_take (i := 3) (oi := ?oa4o) (v := ?oa4v) ?oa4h (by kernel_rfl) (by kernel_rfl) (by kernel_rfl) ?oa4q ?oa4y hHeld ?oa4r
    case oa4h => (simp only [List.getElem?_toArray, List.getElem?_cons_succ, List.getElem?_cons_zero]; rfl)
    case oa4q => exact fun _ _ _ h => h
    case oa4y => (refine Or.inl ⟨by first | kernel_rfl | rfl, ?_⟩; intro w hSw; (try dsimp only at hSw); obtain ⟨z1, z2⟩ := hSw; go_simp <;> (try with_reducible rfl))
    try simp only [Act.put, List.setIfInBounds_toArray, List.set_cons_zero, List.set_cons_succ]
    refine wpAnyH_take (i := 4) (oi := ?oa5o) (v := ?oa5v) ?oa5h (by kernel_rfl) (by kernel_rfl) (by kernel_rfl) ?oa5q ?oa5y hHeld ?oa5r
    case oa5h => (simp only [List.getElem?_toArray, List.getElem?_cons_succ, List.getElem?_cons_zero]; rfl)
    case oa5q => exact fun _ _ _ h => h
    case oa5y => (refine Or.inl ⟨by first | kernel_rfl | rfl, ?_⟩; intro w hSw; (try dsimp only at hSw); obtain ⟨z1, z2⟩ := hSw; go_simp <;> (try with_reducible rfl))
    try simp only [Act.put, List.setIfInBounds_toArray, List.set_cons_zero, List.set_cons_succ]
    refine wpAnyH_take (i := 5) (oi := ?oa6o) (v := ?oa6v) ?oa6h (by kernel_rfl) (by kernel_rfl) (by kernel_rfl) ?oa6q ?oa6y hHeld ?oa6r
    case oa6h => (simp only [List.getElem?_toArray, List.getElem?_cons_succ, List.getElem?_cons_zero]; rfl)
    case oa6q => exact fun _ _ _ h => h
    case oa6y => (refine Or.inl ⟨by first | kernel_rfl | rfl, ?_⟩; intro w hSw; (try dsimp only at hSw); obtain ⟨z1, z2⟩ := hSw; go_simp <;> (try with_reducible rfl))
    try simp only [Act.put, List.setIfInBounds_toArray, List.set_cons_zero, List.set_cons_succ]
    refine wpAnyH_take (i := 6) (oi := ?oa7o) (v := ?oa7v) ?oa7h (by kernel_rfl) (by kernel_rfl) (by kernel_rfl) ?oa7q ?oa7y hHeld ?oa7r
    case oa7h => (simp only [List.getElem?_toArray, List.getElem?_cons_succ, List.getElem?_cons_zero]; rfl)
    case oa7q => exact fun _ _ _ h => h
    case oa7y => (refine Or.inl ⟨by first | kernel_rfl | rfl, ?_⟩; intro w hSw; (try dsimp only at hSw); obtain ⟨z1, z2⟩ := hSw; go_simp <;> (try with_reducible rfl))
    try simp only [Act.put, List.setIfInBounds_toArray, List.set_cons_zero, List.set_cons_succ]
    refine wpAnyH_take (i := 7) (oi := ?oa8o) (v := ?oa8v) ?oa8h (by kernel_rfl) (by kernel_rfl) (by kernel_rfl) ?oa8q ?oa8y hHeld ?oa8r
    case oa8h => (simp only [List.getElem?_toArray, List.getElem?_cons_succ, List.getElem?_cons_zero]; rfl)
    case oa8q => exact fun _ _ _ h => h
    case oa8y => (refine Or.inl ⟨by first | kernel_rfl | rfl, ?_⟩; intro w hSw; (try dsimp only at hSw); obtain ⟨z1, z2⟩ := hSw; go_simp <;> (try with_reducible rfl))
    try simp only [Act.put, List.setIfInBounds_toArray, List.set_cons_zero, List.set_cons_succ]
    refine wpAnyH_take (i := 8) (oi := ?oa9o) (v := ?oa9v) ?oa9h (by kernel_rfl) (by kernel_rfl) (by kernel_rfl) ?oa9q ?oa9y hHeld ?oa9r
    case oa9h => (simp only [List.getElem?_toArray, List.getElem?_cons_succ, List.getElem?_cons_zero]; rfl)
    case oa9q => exact fun _ _ _ h => h
    case oa9y => (refine Or.inl ⟨by first | kernel_rfl | rfl, ?_⟩; intro w hSw; (try dsimp only at hSw); obtain ⟨z1, z2⟩ := hSw; go_simp <;> (try with_reducible rfl))
    try simp only [Act.put, List.setIfInBounds_toArray, List.set_cons_zero, List.set_cons_succ]
    refine wpAnyH_ready (rs := [9]) (by kernel_rfl) (by simp) ?_
    refine (AllReadyH.cons rfl (fun K hK => ?_) AllReadyH.nil)
    go_simp
    (go_at_call 13; (with_reducible refine (ksg _ (HL1.out).glob).mono ?_); rintro _ w2 ⟨rfl, hB2⟩; (have HL2 := Lib.hid ((HL1.out).below hB2)); (have HB2 := Lib.hid hB2); clear ksg hB2)
    refine hK.out _ _ (⟨HL2.out.at_.cells.c0, (by have q := HL2.out.at_.cells.c1; first | exact q | exact HSG.out ▸ q)⟩) (fun hHeld => ?_)
    clear hK K
    try simp only [Act.put, List.setIfInBounds_toArray, List.set_cons_zero, List.set_cons_succ]
    refine wpAnyH_ready (rs := [10]) (by kernel_rfl) (by simp) ?_
    refine (AllReadyH.cons rfl (fun K hK => ?_) AllReadyH.nil)
    go_simp
    (go_at_call 68; (with_reducible refine (sync_dir nm HL2.out.at_.dir hns).mono ?_); rw [HZ.out]; rintro _ w3 ⟨L3, rfl, hW3, hD3⟩; (have HT3 := Lib.hid (((WWent.below H.out.at_ (Below.refl _ _).drew).trans (WWent.below HL1.out.at_ HB2.out)).trans (WWent.dir HL2.out.at_ hW3 hD3))); (have HL3 := Lib.hid (H.out.next HT3.out)); clear hW3 hD3)
    refine hK.out _ _ (⟨HL3.out.at_.cells.c0, (by have q := HL3.out.at_.cells.c1; first | exact q | exact HSG.out ▸ q)⟩) (fun hHeld => ?_)
    clear hK K
    try simp only [Act.put, List.setIfInBounds_toArray, List.set_cons_zero, List.set_cons_succ]
    refine wpAnyH_ready (rs := [11]) (by kernel_rfl) (by simp) ?_
    refine (AllReadyH.cons rfl (fun K hK => ?_) AllReadyH.nil)
    go_simp
    (go_at_call 56; (with_reducible refine (told_is HL3.out.at_ 0).mono ?_); rintro _ w4 ⟨rfl, hW4⟩; (have HT4 := Lib.hid (HT3.out.trans hW4)); (have HL4 := Lib.hid (H.out.next HT4.out)); clear hW4)
    refine hK.out _ _ (⟨HL4.out.at_.cells.c0, (by have q := HL4.out.at_.cells.c1; unfold toldW at q; split at q <;> exact HSG.out ▸ q)⟩) (fun hHeld => ?_)
    clear hK K
    try simp only [Act.put, List.setIfInBounds_toArray, List.set_cons_zero, List.set_cons_succ]
    refine wpAnyH_take (i := 12) (oi := ?oa10o) (v := ?oa10v) ?oa10h (by kernel_rfl) (by kernel_rfl) (by kernel_rfl) ?oa10q ?oa10y hHeld ?oa10r
    case oa10h => (simp only [List.getElem?_toArray, List.getElem?_cons_succ, List.getElem?_cons_zero]; rfl)
    case oa10q => exact fun _ _ _ h => h
    case oa10y => (refine Or.inl ⟨by first | kernel_rfl | rfl, ?_⟩; intro w hSw; (try dsimp only at hSw); obtain ⟨z1, z2⟩ := hSw; go_simp <;> (try with_reducible rfl))
    try simp only [Act.put, List.setIfInBounds_toArray, List.set_cons_zero, List.set_cons_succ]
    refine wpAnyH_done (by kernel_rfl) ?_ _
    have hW4 : toldW W 0 = W := rfl
    rw [hW4] at HT4 HL4
    have kla := last_is HL4.out.at_ HFN.out
    have HST := Lib.hid (fun (w5 : World) (hB : Below w4.heap.size w4 w5) => (HT4.out.trans (WWent.below HL4.out.at_ hB)).trans (WWent.set (HL4.out.below hB).at_ { W with fm := lastW W } 5 (.int .i64 (lastW W)) rfl rfl))
    go_wp2_with (go_at_call 21; (with_reducible refine kla.mono ?_); rintro _ w5 ⟨rfl, hB5⟩; (have HW5 := Lib.hid (HST.out w5 hB5)); (have c5 := (HL4.out.below hB5).at_.cells.c5); (have f5 := (HL4.out.below hB5).at_.free 5); clear hB5 kla)
    go_ret
    exact ⟨L3, v, rfl, HW5.out⟩
  · rw [if_neg hz0]
    have hne : (z != 0) = true := by simpa using hz0
    clear hz0
    go_enter Tryz.func51, Tryz.ntmps51
    go_wp2
    refine wp_region_held_drew (S := (fun W => W.cell? ⟨a, 0, none⟩ = some (.pointer (some ⟨b, 0, none⟩)) ∧ W.cell? ⟨a, 1, none⟩ = some (.int .i64 sg))) (by kernel_rfl) ⟨c0, c1⟩ (fun hHeld => ?_)
    refine wpAnyH_take (i := 0) (oi := ?ob1o) (v := ?ob1v) ?ob1h (by kernel_rfl) (by kernel_rfl) (by kernel_rfl) ?ob1q ?ob1y hHeld ?ob1r
    case ob1h => (simp only [List.getElem?_toArray, List.getElem?_cons_zero]; rfl)
    case ob1q => exact fun _ _ _ h => h
    case ob1y => (refine Or.inl ⟨by first | kernel_rfl | rfl, ?_⟩; intro w hSw; (try dsimp only at hSw); obtain ⟨z1, z2⟩ := hSw; go_simp <;> (try with_reducible rfl))
    try simp only [Act.put, List.setIfInBounds_toArray, List.set_cons_zero, List.set_cons_succ]
    refine wpAnyH_take (i := 1) (oi := ?ob2o) (v := ?ob2v) ?ob2h (by kernel_rfl) (by kernel_rfl) (by kernel_rfl) ?ob2q ?ob2y hHeld ?ob2r
    case ob2h => (simp only [List.getElem?_toArray, List.getElem?_cons_succ, List.getElem?_cons_zero]; rfl)
    case ob2q => exact fun _ _ _ h => h
    case ob2y => (refine Or.inl ⟨by first | kernel_rfl | rfl, ?_⟩; intro w hSw; (try dsimp only at hSw); obtain ⟨z1, z2⟩ := hSw; go_simp <;> (try with_reducible rfl))
    try simp only [Act.put, List.setIfInBounds_toArray, List.set_cons_zero, List.set_cons_succ]
    refine wpAnyH_take (i := 2) (oi := ?ob3o) (v := ?ob3v) ?ob3h (by kernel_rfl) (by kernel_rfl) (by kernel_rfl) ?ob3q ?ob3y hHeld ?ob3r
    case ob3h => (simp only [List.getElem?_toArray, List.getElem?_cons_succ, List.getElem?_cons_zero]; rfl)
    case ob3q => exact fun _ _ _ h => h
    case ob3y => (refine Or.inl ⟨by first | kernel_rfl | rfl, ?_⟩; intro w hSw; (try dsimp only at hSw); obtain ⟨z1, z2⟩ := hSw; go_simp <;> (try with_reducible rfl))
    try simp only [Act.put, List.setIfInBounds_toArray, List.set_cons_zero, List.set_cons_succ]
    refine wpAnyH_take (i := 3) (oi := ?ob4o) (v := ?ob4v) ?ob4h (by kernel_rfl) (by kernel_rfl) (by kernel_rfl) ?ob4q ?ob4y hHeld ?ob4r
    case ob4h => (simp only [List.getElem?_toArray, List.getElem?_cons_succ, List.getElem?_cons_zero]; rfl)
    case ob4q => exact fun _ _ _ h => h
    case ob4y => (refine Or.inl ⟨by first | kernel_rfl | rfl, ?_⟩; intro w hSw; (try dsimp only at hSw); obtain ⟨z1, z2⟩ := hSw; go_simp <;> (try with_reducible rfl))
    try simp only [Act.put, List.setIfInBounds_toArray, List.set_cons_zero, List.set_cons_succ]
    refine wpAnyH_take (i := 4) (oi := ?ob5o) (v := ?ob5v) ?ob5h (by kernel_rfl) (by kernel_rfl) (by kernel_rfl) ?ob5q ?ob5y hHeld ?ob5r
    case ob5h => (simp only [List.getElem?_toArray, List.getElem?_cons_succ, List.getElem?_cons_zero]; rfl)
    case ob5q => exact fun _ _ _ h => h
    case ob5y => (refine Or.inl ⟨by first | kernel_rfl | rfl, ?_⟩; intro w hSw; (try dsimp only at hSw); obtain ⟨z1, z2⟩ := hSw; go_simp <;> (try with_reducible rfl))
    try simp only [Act.put, List.setIfInBounds_toArray, List.set_cons_zero, List.set_cons_succ]
    refine wpAnyH_take (i := 5) (oi := ?ob6o) (v := ?ob6v) ?ob6h (by kernel_rfl) (by kernel_rfl) (by kernel_rfl) ?ob6q ?ob6y hHeld ?ob6r
    case ob6h => (simp only [List.getElem?_toArray, List.getElem?_cons_succ, List.getElem?_cons_zero]; rfl)
    case ob6q => exact fun _ _ _ h => h
    case ob6y => (refine Or.inl ⟨by first | kernel_rfl | rfl, ?_⟩; intro w hSw; (try dsimp only at hSw); obtain ⟨z1, z2⟩ := hSw; go_simp <;> (try with_reducible rfl))
    try simp only [Act.put, List.setIfInBounds_toArray, List.set_cons_zero, List.set_cons_succ]
    refine wpAnyH_take (i := 6) (oi := ?ob7o) (v := ?ob7v) ?ob7h (by kernel_rfl) (by kernel_rfl) (by kernel_rfl) ?ob7q ?ob7y hHeld ?ob7r
    case ob7h => (simp only [List.getElem?_toArray, List.getElem?_cons_succ, List.getElem?_cons_zero]; rfl)
    case ob7q => exact fun _ _ _ h => h
    case ob7y => (refine Or.inl ⟨by first | kernel_rfl | rfl, ?_⟩; intro w hSw; (try dsimp only at hSw); obtain ⟨z1, z2⟩ := hSw; go_simp <;> (try with_reducible rfl))
    try simp only [Act.put, List.setIfInBounds_toArray, List.set_cons_zero, List.set_cons_succ]
    refine wpAnyH_take (i := 7) (oi := ?ob8o) (v := ?ob8v) ?ob8h (by kernel_rfl) (by kernel_rfl) (by kernel_rfl) ?ob8q ?ob8y hHeld ?ob8r
    case ob8h => (simp only [List.getElem?_toArray, List.getElem?_cons_succ, List.getElem?_cons_zero]; rfl)
    case ob8q => exact fun _ _ _ h => h
    case ob8y => (refine Or.inl ⟨by first | kernel_rfl | rfl, ?_⟩; intro w hSw; (try dsimp only at hSw); obtain ⟨z1, z2⟩ := hSw; go_simp <;> (try with_reducible rfl))
    try simp only [Act.put, List.setIfInBounds_toArray, List.set_cons_zero, List.set_cons_succ]
    refine wpAnyH_take (i := 8) (oi := ?ob9o) (v := ?ob9v) ?ob9h (by kernel_rfl) (by kernel_rfl) (by kernel_rfl) ?ob9q ?ob9y hHeld ?ob9r
    case ob9h => (simp only [List.getElem?_toArray, List.getElem?_cons_succ, List.getElem?_cons_zero]; rfl)
    case ob9q => exact fun _ _ _ h => h
    case ob9y => (refine Or.inl ⟨by first | kernel_rfl | rfl, ?_⟩; intro w hSw; (try dsimp only at hSw); obtain ⟨z1, z2⟩ := hSw; go_simp <;> (try with_reducible rfl))
    try simp only [Act.put, List.setIfInBounds_toArray, List.set_cons_zero, List.set_cons_succ]
    refine wpAnyH_ready (rs := [9]) (by kernel_rfl) (by simp) ?_
    refine (AllReadyH.cons rfl (fun K hK => ?_) AllReadyH.nil)
    go_simp
    (go_at_call 13; (with_reducible refine (ksg _ (HL1.out).glob).mono ?_); rintro _ w2 ⟨rfl, hB2⟩; (have HL2 := Lib.hid ((HL1.out).below hB2)); (have HB2 := Lib.hid hB2); clear ksg hB2)
    refine hK.out _ _ (⟨HL2.out.at_.cells.c0, (by have q := HL2.out.at_.cells.c1; first | exact q | exact HSG.out ▸ q)⟩) (fun hHeld => ?_)
    clear hK K
    try simp only [Act.put, List.setIfInBounds_toArray, List.set_cons_zero, List.set_cons_succ]
    refine wpAnyH_ready (rs := [10]) (by kernel_rfl) (by simp) ?_
    refine (AllReadyH.cons rfl (fun K hK => ?_) AllReadyH.nil)
    go_simp
    (go_at_call 68; (with_reducible refine (sync_dir nm HL2.out.at_.dir hns).mono ?_); rw [HZ.out]; rintro _ w3 ⟨L3, rfl, hW3, hD3⟩; (have HT3 := Lib.hid (((WWent.below H.out.at_ (Below.refl _ _).drew).trans (WWent.below HL1.out.at_ HB2.out)).trans (WWent.dir HL2.out.at_ hW3 hD3))); (have HL3 := Lib.hid (H.out.next HT3.out)); clear hW3 hD3)
    refine hK.out _ _ (⟨HL3.out.at_.cells.c0, (by have q := HL3.out.at_.cells.c1; first | exact q | exact HSG.out ▸ q)⟩) (fun hHeld => ?_)
    clear hK K
    try simp only [Act.put, List.setIfInBounds_toArray, List.set_cons_zero, List.set_cons_succ]
    refine wpAnyH_ready (rs := [11]) (by kernel_rfl) (by simp) ?_
    refine (AllReadyH.cons rfl (fun K hK => ?_) AllReadyH.nil)
    go_simp
    (go_at_call 56; (with_reducible refine (told_is HL3.out.at_ z).mono ?_); rintro _ w4 ⟨rfl, hW4⟩; (have HT4 := Lib.hid (HT3.out.trans hW4)); (have HL4 := Lib.hid (H.out.next HT4.out)); clear hW4)
    refine hK.out _ _ (⟨HL4.out.at_.cells.c0, (by have q := HL4.out.at_.cells.c1; unfold toldW at q; split at q <;> exact HSG.out ▸ q)⟩) (fun hHeld => ?_)
    clear hK K
    try simp only [Act.put, List.setIfInBounds_toArray, List.set_cons_zero, List.set_cons_succ]
    refine wpAnyH_take (i := 12) (oi := ?ob10o) (v := ?ob10v) ?ob10h (by kernel_rfl) (by kernel_rfl) (by kernel_rfl) ?ob10q ?ob10y hHeld ?ob10r
    case ob10h => (simp only [List.getElem?_toArray, List.getElem?_cons_succ, List.getElem?_cons_zero]; rfl)
    case ob10q => exact fun _ _ _ h => h
    case ob10y => (refine Or.inl ⟨by first | kernel_rfl | rfl, ?_⟩; intro w hSw; (try dsimp only at hSw); obtain ⟨z1, z2⟩ := hSw; go_simp <;> (try with_reducible rfl))
    try simp only [Act.put, List.setIfInBounds_toArray, List.set_cons_zero, List.set_cons_succ]
    refine wpAnyH_done (by kernel_rfl) ?_ _
    go_wp2
    go_ret
    exact ⟨L3, v, rfl, HT4.out⟩
end
end Go.Proofs.YteijmjbiaffcmaaGreatDoor

/- Contracts of the steps that begin a segment. -/
set_option maxRecDepth 20000
set_option linter.unusedSimpArgs false
set_option linter.unusedVariables false
namespace Go.Proofs.YteijmjbiaffcmaaGreatDoor
open Go.RowKit Go.Maps Go.Shelf Go.Proofs.YteijmjbiaffcmaaGreatDoor.Vi Go.Proofs.YteijmjbiaffcmaaGreatDoor.Crc Go.Proofs.YteijmjbiaffcmaaGreatDoor.Fr Go.Proofs.YteijmjbiaffcmaaGreatDoor.Fi

/-- A box stands while a log goes on. -/
theorem box_went {w w' : World} {b a : Nat} {S S' : FS} {L L' : Lay} {W W' : WS} {v v' : Value} (hw : WalAt w b S L a W v) (k : WWent w w' b S S' L L' a W W' v v') {p : Nat} {cs : Array Value} {T : TypeId} (h : w.heap[p]? = some (.cells cs T)) (h1 : T ≠ 79) (h2 : T ≠ 93) (h3 : T ≠ 90) (h4 : T ≠ 5) (h5 : T ≠ 60) (h6 : v.ownBlock ≠ some p) : w'.heap[p]? = some (.cells cs T) :=
  (k.frm.block p (some_lt h) fun hm => by
    rcases hm with hm | rfl | hm
    · exact hw.dir.at_.not h h1 h2 h3 h4 hm
    · rw [hw.cell] at h
      injection h with h
      injection h with _ h
      exact h5 h.symm
    · exact h6 hm).trans h
section
variable {w : World} {B b a : Nat} {S : FS} {L : Lay} {W : WS} {v : Value}
set_option maxHeartbeats 4000000 in
theorem begin1_is {p3 p9 p10 : Nat} {nm hd : ByteArray} (h : Log B w b S L a W v) (b3 : w.heap[p3]? = some (.cells #[.pointer (some ⟨a, 0, none⟩)] 33)) (b9 : w.heap[p9]? = some (.cells #[.string nm] 9)) (b10 : w.heap[p10]? = some (.cells #[.string hd] 9)) (n9 : v.ownBlock ≠ some p9) (n10 : v.ownBlock ≠ some p10) (hchg : S.chg.length ≤ 1000000) (hns : nm.size ≤ maxLen) (hhs : hd.size ≤ 1099511627776) : Calls Tryz.prog 83 #[.pointer (some ⟨p3, 0, none⟩), .pointer (some ⟨p9, 0, none⟩)] w (fun e w' => ∃ q L', w.heap.size ≤ q ∧ e = .returned (.int .i64 (createS S nm q).1) ∧ WWent w w' b S (createS S nm q).2 L L' a W W v v) := by
  have H := Lib.hid h
  have HL1 := Lib.hid (h.below (Below.refl _ w).drew)
  have HL0 := Lib.hid h
  have c0 := h.at_.cells.c0
  have z3 : w.cell? ⟨p3, 0, none⟩ = some (.pointer (some ⟨a, 0, none⟩)) := cell_of b3
  have z9 : w.cell? ⟨p9, 0, none⟩ = some (.string nm) := cell_of b9
  have z10 : w.cell? ⟨p10, 0, none⟩ = some (.string hd) := cell_of b10
  have HB := Lib.hid (And.intro b3 (And.intro b9 b10))
  have n3 : v.ownBlock ≠ some p3 := fun e => by
    obtain ⟨c, e1⟩ := h.at_.rcs.heap e
    rw [b3] at e1
    injection e1 with e1
    injection e1 with _ e1
    revert e1; decide
  clear h b3 b9 b10
  go_enter Tryz.func83, Tryz.ntmps83
  go_wp2_with fail
  refine wp_region_held_drew (S := (fun W => W.cell? ⟨p3, 0, none⟩ = some (.pointer (some ⟨a, 0, none⟩)) ∧ W.cell? ⟨a, 0, none⟩ = some (.pointer (some ⟨b, 0, none⟩)) ∧ W.cell? ⟨p9, 0, none⟩ = some (.string nm) ∧ W.cell? ⟨p10, 0, none⟩ = some (.string hd))) (by kernel_rfl) ⟨z3, c0, z9, z10⟩ (fun hHeld => ?_)
  refine wpAnyH_take (i := 0) (oi := ?o11o) (v := ?o11v) ?o11h (by kernel_rfl) (by kernel_rfl) (by kernel_rfl) ?o11q ?o11y hHeld ?o11r
  case o11h => (simp only [List.getElem?_toArray, List.getElem?_cons_zero]; rfl)
  case o11q => exact fun _ _ _ h => h
  case o11y => (refine Or.inl ⟨by first | kernel_rfl | rfl, ?_⟩; intro w hSw; (try dsimp only at hSw); obtain ⟨y1, y2, y3, y4⟩ := hSw; go_simp <;> (try with_reducible rfl))
  try simp only [Act.put, List.setIfInBounds_toArray, List.set_cons_zero, List.set_cons_succ]
  refine wpAnyH_take (i := 1) (oi := ?o12o) (v := ?o12v) ?o12h (by kernel_rfl) (by kernel_rfl) (by kernel_rfl) ?o12q ?o12y hHeld ?o12r
  case o12h => (simp only [List.getElem?_toArray, List.getElem?_cons_succ, List.getElem?_cons_zero]; rfl)
  case o12q => exact fun _ _ _ h => h
  case o12y => (refine Or.inl ⟨by first | kernel_rfl | rfl, ?_⟩; intro w hSw; (try dsimp only at hSw); obtain ⟨y1, y2, y3, y4⟩ := hSw; go_simp <;> (try with_reducible rfl))
  try simp only [Act.put, List.setIfInBounds_toArray, List.set_cons_zero, List.set_cons_succ]
  refine wpAnyH_take (i := 2) (oi := ?o13o) (v := ?o13v) ?o13h (by kernel_rfl) (by kernel_rfl) (by kernel_rfl) ?o13q ?o13y hHeld ?o13r
  case o13h => (simp only [List.getElem?_toArray, List.getElem?_cons_succ, List.getElem?_cons_zero]; rfl)
  case o13q => exact fun _ _ _ h => h
  case o13y => (refine Or.inl ⟨by first | kernel_rfl | rfl, ?_⟩; intro w hSw; (try dsimp only at hSw); obtain ⟨y1, y2, y3, y4⟩ := hSw; go_simp <;> (try with_reducible rfl))
  try simp only [Act.put, List.setIfInBounds_toArray, List.set_cons_zero, List.set_cons_succ]
  refine wpAnyH_take (i := 3) (oi := ?o14o) (v := ?o14v) ?o14h (by kernel_rfl) (by kernel_rfl) (by kernel_rfl) ?o14q ?o14y hHeld ?o14r
  case o14h => (simp only [List.getElem?_toArray, List.getElem?_cons_succ, List.getElem?_cons_zero]; rfl)
  case o14q => exact fun _ _ _ h => h
  case o14y => (refine Or.inl ⟨by first | kernel_rfl | rfl, ?_⟩; intro w hSw; (try dsimp only at hSw); obtain ⟨y1, y2, y3, y4⟩ := hSw; go_simp <;> (try with_reducible rfl))
  try simp only [Act.put, List.setIfInBounds_toArray, List.set_cons_zero, List.set_cons_succ]
  refine wpAnyH_take (i := 4) (oi := ?o15o) (v := ?o15v) ?o15h (by kernel_rfl) (by kernel_rfl) (by kernel_rfl) ?o15q ?o15y hHeld ?o15r
  case o15h => (simp only [List.getElem?_toArray, List.getElem?_cons_succ, List.getElem?_cons_zero]; rfl)
  case o15q => exact fun _ _ _ h => h
  case o15y => (refine Or.inl ⟨by first | kernel_rfl | rfl, ?_⟩; intro w hSw; (try dsimp only at hSw); obtain ⟨y1, y2, y3, y4⟩ := hSw; go_simp <;> (try with_reducible rfl))
  try simp only [Act.put, List.setIfInBounds_toArray, List.set_cons_zero, List.set_cons_succ]
  refine wpAnyH_ready (rs := [5]) (by kernel_rfl) (by simp) ?_
  refine (AllReadyH.cons rfl (fun K hK => ?_) AllReadyH.nil)
  go_simp
  (go_at_call 84; (with_reducible refine (create_dir nm HL1.out.at_.dir hchg hns).mono ?_); rintro _ w3 ⟨q, hq, L3, rfl, hW3, hD3⟩; (have HD3 := Lib.hid (WWent.dir HL1.out.at_ hW3 hD3)); (have HT3 := Lib.hid ((WWent.below H.out.at_ (Below.refl _ _).drew).trans HD3.out)); clear hW3 hD3)
  refine hK.out _ _ (⟨cell_of (box_went H.out.at_ HT3.out HB.out.1 (by decide) (by decide) (by decide) (by decide) (by decide) n3), HT3.out.at_.cells.c0, cell_of (box_went H.out.at_ HT3.out HB.out.2.1 (by decide) (by decide) (by decide) (by decide) (by decide) n9), cell_of (box_went H.out.at_ HT3.out HB.out.2.2 (by decide) (by decide) (by decide) (by decide) (by decide) n10)⟩) (fun hHeld => ?_)
  clear hK K
  try simp only [Act.put, List.setIfInBounds_toArray, List.set_cons_zero, List.set_cons_succ]
  refine wpAnyH_take (i := 6) (oi := ?o16o) (v := ?o16v) ?o16h (by kernel_rfl) (by kernel_rfl) (by kernel_rfl) ?o16q ?o16y hHeld ?o16r
  case o16h => (simp only [List.getElem?_toArray, List.getElem?_cons_succ, List.getElem?_cons_zero]; rfl)
  case o16q => exact fun _ _ _ h => h
  case o16y => (refine Or.inl ⟨by first | kernel_rfl | rfl, ?_⟩; intro w hSw; (try dsimp only at hSw); obtain ⟨y1, y2, y3, y4⟩ := hSw; go_simp <;> (try with_reducible rfl))
  try simp only [Act.put, List.setIfInBounds_toArray, List.set_cons_zero, List.set_cons_succ]
  refine wpAnyH_done (by kernel_rfl) ?_ _
  go_wp2
  go_ret
  exact ⟨q, L3, hq, rfl, HT3.out⟩
set_option maxHeartbeats 4000000 in
theorem begin2_is {p3 p9 p10 : Nat} {nm hd : ByteArray} (h : Log B w b S L a W v) (b3 : w.heap[p3]? = some (.cells #[.pointer (some ⟨a, 0, none⟩)] 33)) (b9 : w.heap[p9]? = some (.cells #[.string nm] 9)) (b10 : w.heap[p10]? = some (.cells #[.string hd] 9)) (n9 : v.ownBlock ≠ some p9) (n10 : v.ownBlock ≠ some p10) (hchg : S.chg.length ≤ 1000000) (hns : nm.size ≤ maxLen) (hhs : hd.size ≤ 1099511627776) : Calls Tryz.prog 85 #[.pointer (some ⟨p3, 0, none⟩), .pointer (some ⟨p9, 0, none⟩), .pointer (some ⟨p10, 0, none⟩)] w (fun e w' => ∃ L', e = .returned (.int .i64 (appendS S nm hd).1) ∧ WWent w w' b S (appendS S nm hd).2 L L' a W W v v) := by
  have H := Lib.hid h
  have HL1 := Lib.hid (h.below (Below.refl _ w).drew)
  have HL0 := Lib.hid h
  have c0 := h.at_.cells.c0
  have z3 : w.cell? ⟨p3, 0, none⟩ = some (.pointer (some ⟨a, 0, none⟩)) := cell_of b3
  have z9 : w.cell? ⟨p9, 0, none⟩ = some (.string nm) := cell_of b9
  have z10 : w.cell? ⟨p10, 0, none⟩ = some (.string hd) := cell_of b10
  have HB := Lib.hid (And.intro b3 (And.intro b9 b10))
  have n3 : v.ownBlock ≠ some p3 := fun e => by
    obtain ⟨c, e1⟩ := h.at_.rcs.heap e
    rw [b3] at e1
    injection e1 with e1
    injection e1 with _ e1
    revert e1; decide
  clear h b3 b9 b10
  go_enter Tryz.func85, Tryz.ntmps85
  go_wp2_with fail
  refine wp_region_held_drew (S := (fun W => W.cell? ⟨p3, 0, none⟩ = some (.pointer (some ⟨a, 0, none⟩)) ∧ W.cell? ⟨a, 0, none⟩ = some (.pointer (some ⟨b, 0, none⟩)) ∧ W.cell? ⟨p9, 0, none⟩ = some (.string nm) ∧ W.cell? ⟨p10, 0, none⟩ = some (.string hd))) (by kernel_rfl) ⟨z3, c0, z9, z10⟩ (fun hHeld => ?_)
  refine wpAnyH_take (i := 0) (oi := ?o21o) (v := ?o21v) ?o21h (by kernel_rfl) (by kernel_rfl) (by kernel_rfl) ?o21q ?o21y hHeld ?o21r
  case o21h => (simp only [List.getElem?_toArray, List.getElem?_cons_zero]; rfl)
  case o21q => exact fun _ _ _ h => h
  case o21y => (refine Or.inl ⟨by first | kernel_rfl | rfl, ?_⟩; intro w hSw; (try dsimp only at hSw); obtain ⟨y1, y2, y3, y4⟩ := hSw; go_simp <;> (try with_reducible rfl))
  try simp only [Act.put, List.setIfInBounds_toArray, List.set_cons_zero, List.set_cons_succ]
  refine wpAnyH_take (i := 1) (oi := ?o22o) (v := ?o22v) ?o22h (by kernel_rfl) (by kernel_rfl) (by kernel_rfl) ?o22q ?o22y hHeld ?o22r
  case o22h => (simp only [List.getElem?_toArray, List.getElem?_cons_succ, List.getElem?_cons_zero]; rfl)
  case o22q => exact fun _ _ _ h => h
  case o22y => (refine Or.inl ⟨by first | kernel_rfl | rfl, ?_⟩; intro w hSw; (try dsimp only at hSw); obtain ⟨y1, y2, y3, y4⟩ := hSw; go_simp <;> (try with_reducible rfl))
  try simp only [Act.put, List.setIfInBounds_toArray, List.set_cons_zero, List.set_cons_succ]
  refine wpAnyH_take (i := 2) (oi := ?o23o) (v := ?o23v) ?o23h (by kernel_rfl) (by kernel_rfl) (by kernel_rfl) ?o23q ?o23y hHeld ?o23r
  case o23h => (simp only [List.getElem?_toArray, List.getElem?_cons_succ, List.getElem?_cons_zero]; rfl)
  case o23q => exact fun _ _ _ h => h
  case o23y => (refine Or.inl ⟨by first | kernel_rfl | rfl, ?_⟩; intro w hSw; (try dsimp only at hSw); obtain ⟨y1, y2, y3, y4⟩ := hSw; go_simp <;> (try with_reducible rfl))
  try simp only [Act.put, List.setIfInBounds_toArray, List.set_cons_zero, List.set_cons_succ]
  refine wpAnyH_take (i := 3) (oi := ?o24o) (v := ?o24v) ?o24h (by kernel_rfl) (by kernel_rfl) (by kernel_rfl) ?o24q ?o24y hHeld ?o24r
  case o24h => (simp only [List.getElem?_toArray, List.getElem?_cons_succ, List.getElem?_cons_zero]; rfl)
  case o24q => exact fun _ _ _ h => h
  case o24y => (refine Or.inl ⟨by first | kernel_rfl | rfl, ?_⟩; intro w hSw; (try dsimp only at hSw); obtain ⟨y1, y2, y3, y4⟩ := hSw; go_simp <;> (try with_reducible rfl))
  try simp only [Act.put, List.setIfInBounds_toArray, List.set_cons_zero, List.set_cons_succ]
  refine wpAnyH_take (i := 4) (oi := ?o25o) (v := ?o25v) ?o25h (by kernel_rfl) (by kernel_rfl) (by kernel_rfl) ?o25q ?o25y hHeld ?o25r
  case o25h => (simp only [List.getElem?_toArray, List.getElem?_cons_succ, List.getElem?_cons_zero]; rfl)
  case o25q => exact fun _ _ _ h => h
  case o25y => (refine Or.inl ⟨by first | kernel_rfl | rfl, ?_⟩; intro w hSw; (try dsimp only at hSw); obtain ⟨y1, y2, y3, y4⟩ := hSw; go_simp <;> (try with_reducible rfl))
  try simp only [Act.put, List.setIfInBounds_toArray, List.set_cons_zero, List.set_cons_succ]
  refine wpAnyH_take (i := 5) (oi := ?o26o) (v := ?o26v) ?o26h (by kernel_rfl) (by kernel_rfl) (by kernel_rfl) ?o26q ?o26y hHeld ?o26r
  case o26h => (simp only [List.getElem?_toArray, List.getElem?_cons_succ, List.getElem?_cons_zero]; rfl)
  case o26q => exact fun _ _ _ h => h
  case o26y => (refine Or.inl ⟨by first | kernel_rfl | rfl, ?_⟩; intro w hSw; (try dsimp only at hSw); obtain ⟨y1, y2, y3, y4⟩ := hSw; go_simp <;> (try with_reducible rfl))
  try simp only [Act.put, List.setIfInBounds_toArray, List.set_cons_zero, List.set_cons_succ]
  refine wpAnyH_ready (rs := [6]) (by kernel_rfl) (by simp) ?_
  refine (AllReadyH.cons rfl (fun K hK => ?_) AllReadyH.nil)
  go_simp
  (go_at_call 60; (with_reducible refine (append_dir nm hd HL1.out.at_.dir hns hhs).mono ?_); rintro _ w3 ⟨L3, rfl, hW3, hD3⟩; (have HD3 := Lib.hid (WWent.dir HL1.out.at_ hW3 hD3)); (have HT3 := Lib.hid ((WWent.below H.out.at_ (Below.refl _ _).drew).trans HD3.out)); clear hW3 hD3)
  refine hK.out _ _ (⟨cell_of (box_went H.out.at_ HT3.out HB.out.1 (by decide) (by decide) (by decide) (by decide) (by decide) n3), HT3.out.at_.cells.c0, cell_of (box_went H.out.at_ HT3.out HB.out.2.1 (by decide) (by decide) (by decide) (by decide) (by decide) n9), cell_of (box_went H.out.at_ HT3.out HB.out.2.2 (by decide) (by decide) (by decide) (by decide) (by decide) n10)⟩) (fun hHeld => ?_)
  clear hK K
  try simp only [Act.put, List.setIfInBounds_toArray, List.set_cons_zero, List.set_cons_succ]
  refine wpAnyH_take (i := 7) (oi := ?o27o) (v := ?o27v) ?o27h (by kernel_rfl) (by kernel_rfl) (by kernel_rfl) ?o27q ?o27y hHeld ?o27r
  case o27h => (simp only [List.getElem?_toArray, List.getElem?_cons_succ, List.getElem?_cons_zero]; rfl)
  case o27q => exact fun _ _ _ h => h
  case o27y => (refine Or.inl ⟨by first | kernel_rfl | rfl, ?_⟩; intro w hSw; (try dsimp only at hSw); obtain ⟨y1, y2, y3, y4⟩ := hSw; go_simp <;> (try with_reducible rfl))
  try simp only [Act.put, List.setIfInBounds_toArray, List.set_cons_zero, List.set_cons_succ]
  refine wpAnyH_done (by kernel_rfl) ?_ _
  go_wp2
  go_ret
  exact ⟨L3, rfl, HT3.out⟩
set_option maxHeartbeats 4000000 in
theorem begin3_is {p3 p9 p10 : Nat} {nm hd : ByteArray} (h : Log B w b S L a W v) (b3 : w.heap[p3]? = some (.cells #[.pointer (some ⟨a, 0, none⟩)] 33)) (b9 : w.heap[p9]? = some (.cells #[.string nm] 9)) (b10 : w.heap[p10]? = some (.cells #[.string hd] 9)) (n9 : v.ownBlock ≠ some p9) (n10 : v.ownBlock ≠ some p10) (hchg : S.chg.length ≤ 1000000) (hns : nm.size ≤ maxLen) (hhs : hd.size ≤ 1099511627776) : Calls Tryz.prog 86 #[.pointer (some ⟨p3, 0, none⟩), .pointer (some ⟨p9, 0, none⟩)] w (fun e w' => ∃ L', e = .returned (.int .i64 (syncS S nm).1) ∧ WWent w w' b S (syncS S nm).2 L L' a W W v v) := by
  have H := Lib.hid h
  have HL1 := Lib.hid (h.below (Below.refl _ w).drew)
  have HL0 := Lib.hid h
  have c0 := h.at_.cells.c0
  have z3 : w.cell? ⟨p3, 0, none⟩ = some (.pointer (some ⟨a, 0, none⟩)) := cell_of b3
  have z9 : w.cell? ⟨p9, 0, none⟩ = some (.string nm) := cell_of b9
  have z10 : w.cell? ⟨p10, 0, none⟩ = some (.string hd) := cell_of b10
  have HB := Lib.hid (And.intro b3 (And.intro b9 b10))
  have n3 : v.ownBlock ≠ some p3 := fun e => by
    obtain ⟨c, e1⟩ := h.at_.rcs.heap e
    rw [b3] at e1
    injection e1 with e1
    injection e1 with _ e1
    revert e1; decide
  clear h b3 b9 b10
  go_enter Tryz.func86, Tryz.ntmps86
  go_wp2_with fail
  refine wp_region_held_drew (S := (fun W => W.cell? ⟨p3, 0, none⟩ = some (.pointer (some ⟨a, 0, none⟩)) ∧ W.cell? ⟨a, 0, none⟩ = some (.pointer (some ⟨b, 0, none⟩)) ∧ W.cell? ⟨p9, 0, none⟩ = some (.string nm) ∧ W.cell? ⟨p10, 0, none⟩ = some (.string hd))) (by kernel_rfl) ⟨z3, c0, z9, z10⟩ (fun hHeld => ?_)
  refine wpAnyH_take (i := 0) (oi := ?o31o) (v := ?o31v) ?o31h (by kernel_rfl) (by kernel_rfl) (by kernel_rfl) ?o31q ?o31y hHeld ?o31r
  case o31h => (simp only [List.getElem?_toArray, List.getElem?_cons_zero]; rfl)
  case o31q => exact fun _ _ _ h => h
  case o31y => (refine Or.inl ⟨by first | kernel_rfl | rfl, ?_⟩; intro w hSw; (try dsimp only at hSw); obtain ⟨y1, y2, y3, y4⟩ := hSw; go_simp <;> (try with_reducible rfl))
  try simp only [Act.put, List.setIfInBounds_toArray, List.set_cons_zero, List.set_cons_succ]
  refine wpAnyH_take (i := 1) (oi := ?o32o) (v := ?o32v) ?o32h (by kernel_rfl) (by kernel_rfl) (by kernel_rfl) ?o32q ?o32y hHeld ?o32r
  case o32h => (simp only [List.getElem?_toArray, List.getElem?_cons_succ, List.getElem?_cons_zero]; rfl)
  case o32q => exact fun _ _ _ h => h
  case o32y => (refine Or.inl ⟨by first | kernel_rfl | rfl, ?_⟩; intro w hSw; (try dsimp only at hSw); obtain ⟨y1, y2, y3, y4⟩ := hSw; go_simp <;> (try with_reducible rfl))
  try simp only [Act.put, List.setIfInBounds_toArray, List.set_cons_zero, List.set_cons_succ]
  refine wpAnyH_take (i := 2) (oi := ?o33o) (v := ?o33v) ?o33h (by kernel_rfl) (by kernel_rfl) (by kernel_rfl) ?o33q ?o33y hHeld ?o33r
  case o33h => (simp only [List.getElem?_toArray, List.getElem?_cons_succ, List.getElem?_cons_zero]; rfl)
  case o33q => exact fun _ _ _ h => h
  case o33y => (refine Or.inl ⟨by first | kernel_rfl | rfl, ?_⟩; intro w hSw; (try dsimp only at hSw); obtain ⟨y1, y2, y3, y4⟩ := hSw; go_simp <;> (try with_reducible rfl))
  try simp only [Act.put, List.setIfInBounds_toArray, List.set_cons_zero, List.set_cons_succ]
  refine wpAnyH_take (i := 3) (oi := ?o34o) (v := ?o34v) ?o34h (by kernel_rfl) (by kernel_rfl) (by kernel_rfl) ?o34q ?o34y hHeld ?o34r
  case o34h => (simp only [List.getElem?_toArray, List.getElem?_cons_succ, List.getElem?_cons_zero]; rfl)
  case o34q => exact fun _ _ _ h => h
  case o34y => (refine Or.inl ⟨by first | kernel_rfl | rfl, ?_⟩; intro w hSw; (try dsimp only at hSw); obtain ⟨y1, y2, y3, y4⟩ := hSw; go_simp <;> (try with_reducible rfl))
  try simp only [Act.put, List.setIfInBounds_toArray, List.set_cons_zero, List.set_cons_succ]
  refine wpAnyH_take (i := 4) (oi := ?o35o) (v := ?o35v) ?o35h (by kernel_rfl) (by kernel_rfl) (by kernel_rfl) ?o35q ?o35y hHeld ?o35r
  case o35h => (simp only [List.getElem?_toArray, List.getElem?_cons_succ, List.getElem?_cons_zero]; rfl)
  case o35q => exact fun _ _ _ h => h
  case o35y => (refine Or.inl ⟨by first | kernel_rfl | rfl, ?_⟩; intro w hSw; (try dsimp only at hSw); obtain ⟨y1, y2, y3, y4⟩ := hSw; go_simp <;> (try with_reducible rfl))
  try simp only [Act.put, List.setIfInBounds_toArray, List.set_cons_zero, List.set_cons_succ]
  refine wpAnyH_ready (rs := [5]) (by kernel_rfl) (by simp) ?_
  refine (AllReadyH.cons rfl (fun K hK => ?_) AllReadyH.nil)
  go_simp
  (go_at_call 68; (with_reducible refine (sync_dir nm HL1.out.at_.dir hns).mono ?_); rintro _ w3 ⟨L3, rfl, hW3, hD3⟩; (have HD3 := Lib.hid (WWent.dir HL1.out.at_ hW3 hD3)); (have HT3 := Lib.hid ((WWent.below H.out.at_ (Below.refl _ _).drew).trans HD3.out)); clear hW3 hD3)
  refine hK.out _ _ (⟨cell_of (box_went H.out.at_ HT3.out HB.out.1 (by decide) (by decide) (by decide) (by decide) (by decide) n3), HT3.out.at_.cells.c0, cell_of (box_went H.out.at_ HT3.out HB.out.2.1 (by decide) (by decide) (by decide) (by decide) (by decide) n9), cell_of (box_went H.out.at_ HT3.out HB.out.2.2 (by decide) (by decide) (by decide) (by decide) (by decide) n10)⟩) (fun hHeld => ?_)
  clear hK K
  try simp only [Act.put, List.setIfInBounds_toArray, List.set_cons_zero, List.set_cons_succ]
  refine wpAnyH_take (i := 6) (oi := ?o36o) (v := ?o36v) ?o36h (by kernel_rfl) (by kernel_rfl) (by kernel_rfl) ?o36q ?o36y hHeld ?o36r
  case o36h => (simp only [List.getElem?_toArray, List.getElem?_cons_succ, List.getElem?_cons_zero]; rfl)
  case o36q => exact fun _ _ _ h => h
  case o36y => (refine Or.inl ⟨by first | kernel_rfl | rfl, ?_⟩; intro w hSw; (try dsimp only at hSw); obtain ⟨y1, y2, y3, y4⟩ := hSw; go_simp <;> (try with_reducible rfl))
  try simp only [Act.put, List.setIfInBounds_toArray, List.set_cons_zero, List.set_cons_succ]
  refine wpAnyH_done (by kernel_rfl) ?_ _
  go_wp2
  go_ret
  exact ⟨L3, rfl, HT3.out⟩
set_option maxHeartbeats 4000000 in
theorem begin4_is {p3 p9 p10 : Nat} {nm hd : ByteArray} (h : Log B w b S L a W v) (b3 : w.heap[p3]? = some (.cells #[.pointer (some ⟨a, 0, none⟩)] 33)) (b9 : w.heap[p9]? = some (.cells #[.string nm] 9)) (b10 : w.heap[p10]? = some (.cells #[.string hd] 9)) (n9 : v.ownBlock ≠ some p9) (n10 : v.ownBlock ≠ some p10) (hchg : S.chg.length ≤ 1000000) (hns : nm.size ≤ maxLen) (hhs : hd.size ≤ 1099511627776) : Calls Tryz.prog 87 #[.pointer (some ⟨p3, 0, none⟩)] w (fun e w' => ∃ L', e = .returned (.int .i64 (syncDirS S).1) ∧ WWent w w' b S (syncDirS S).2 L L' a W W v v) := by
  have H := Lib.hid h
  have HL1 := Lib.hid (h.below (Below.refl _ w).drew)
  have HL0 := Lib.hid h
  have c0 := h.at_.cells.c0
  have z3 : w.cell? ⟨p3, 0, none⟩ = some (.pointer (some ⟨a, 0, none⟩)) := cell_of b3
  have z9 : w.cell? ⟨p9, 0, none⟩ = some (.string nm) := cell_of b9
  have z10 : w.cell? ⟨p10, 0, none⟩ = some (.string hd) := cell_of b10
  have HB := Lib.hid (And.intro b3 (And.intro b9 b10))
  have n3 : v.ownBlock ≠ some p3 := fun e => by
    obtain ⟨c, e1⟩ := h.at_.rcs.heap e
    rw [b3] at e1
    injection e1 with e1
    injection e1 with _ e1
    revert e1; decide
  clear h b3 b9 b10
  go_enter Tryz.func87, Tryz.ntmps87
  go_wp2_with (go_at_call 57; (with_reducible refine (syncdir_dir HL0.out.at_.dir).mono ?_); rintro _ w3 ⟨L3, rfl, hW3, hD3⟩; (have HT3 := Lib.hid (WWent.dir HL0.out.at_ hW3 hD3)); clear hW3 hD3)
  go_ret
  exact ⟨L3, rfl, HT3.out⟩
end
end Go.Proofs.YteijmjbiaffcmaaGreatDoor
