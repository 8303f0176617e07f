/- Contracts of a log's Sync and Checkpoint. -/
import Derived.Test.YteijmjbiaffcmaaGreatDoorWalE
import Derived.Test.YteijmjbiaffcmaaGreatDoorVintB
import Derived.Deep.RegionHeld
import Derived.Deep.CutRange
import Derived.Deep.CutBlock
import Derived.Laws.EntriesVeiled
set_option maxRecDepth 20000
set_option linter.unusedSimpArgs false
set_option linter.unusedVariables false
namespace Go.Proofs.YteijmjbiaffcmaaGreatDoor
open Go.RowKit Go.Maps Go.Shelf Go.Proofs.YteijmjbiaffcmaaGreatDoor.Vi Go.Proofs.YteijmjbiaffcmaaGreatDoor.Crc Go.Proofs.YteijmjbiaffcmaaGreatDoor.Fr Go.Proofs.YteijmjbiaffcmaaGreatDoor.Fi

theorem settleW_ok {S : FS} {W : WS} (h : (settleW S W).1 = 0) : (settleW S W).2.2 = { W with fm := lastW W } := by
  unfold settleW at h ⊢
  split
  · rfl
  · rename_i hn
    rw [if_neg hn] at h
    exact absurd h hn
def syncW (S : FS) (W : WS) (q : Nat) : Int × FS × WS :=
  if W.br = true then (13, S, W)
  else if (settleW S W).1 ≠ 0 then settleW S W
  else if (readS (settleW S W).2.1 (segW W)).1.size ≤ 4000 then (0, (settleW S W).2.1, (settleW S W).2.2)
  else beginW (settleW S W).2.1 (settleW S W).2.2 false ⟨#[]⟩ q
def ckpt3 (W : WS) (st : ByteArray) : WS := { W with st := st, fi := lastW W + 1, rc := [] }
def ckpt4 (r : Int × FS × WS) : Int × FS × WS := if r.1 ≠ 0 then r else ((syncDirS r.2.1).1, (syncDirS r.2.1).2, toldW r.2.2 (syncDirS r.2.1).1)
def ckpt2 (r : Int × FS × WS) (st : ByteArray) : Int × FS × WS := if r.1 ≠ 0 then r else ckpt4 (removeL (fun n => ((n : Int) != r.2.2.sg)) (numsS r.2.1) r.2.1 (ckpt3 r.2.2 st))
def ckptW (S : FS) (W : WS) (st : ByteArray) (q : Nat) : Int × FS × WS :=
  if W.br = true then (13, S, W)
  else if 60000 < st.size then (11, S, W)
  else if (settleW S W).1 ≠ 0 then settleW S W
  else ckpt2 (beginW (settleW S W).2.1 (settleW S W).2.2 true st q) st
theorem beginW_rc (S : FS) (W : WS) (k : Bool) (st : ByteArray) (q : Nat) : (beginW S W k st q).2.2.rc = W.rc ∧ (beginW S W k st q).2.2.fi = W.fi ∧ ((beginW S W k st q).2.2.sg = W.sg ∨ (beginW S W k st q).2.2.sg = beginN S) := by
  unfold beginW failB
  dsimp only
  have ht : ∀ e (V : WS), (toldW V e).rc = V.rc ∧ (toldW V e).fi = V.fi ∧ (toldW V e).sg = V.sg := fun e V => by unfold toldW; split <;> exact ⟨rfl, rfl, rfl⟩
  repeat' split
  all_goals first
    | exact ⟨rfl, rfl, Or.inl rfl⟩
    | exact ⟨rfl, rfl, Or.inr rfl⟩
    | exact ⟨(ht _ _).1.trans (ht _ _).1, (ht _ _).2.1.trans (ht _ _).2.1, Or.inl ((ht _ _).2.2.trans (ht _ _).2.2)⟩
theorem beginN_in (S : FS) : 1 ≤ beginN S ∧ beginN S ≤ 100000000 := by
  unfold beginN
  split
  · rename_i m hm
    have := numsS_last hm
    omega
  · omega
theorem ckpt_went {w : World} {b a : Nat} {S : FS} {L : Lay} {W : WS} {v : Value} (h : WalAt w b S L a W v) (f : Int) (st : ByteArray) :
    WWent w (((w.setCell ⟨a, 2, none⟩ (.string st)).setCell ⟨a, 3, none⟩ (.int .i64 f)).setCell ⟨a, 4, none⟩ (.slice none 0 0)) b S S L L a W { W with st := st, fi := f, rc := [] } v (.slice none 0 0) := by
  have h1 : WWent w (w.setCell ⟨a, 2, none⟩ (.string st)) b S S L L a W { W with st := st } v v := WWent.set h _ 2 _ rfl rfl
  have h2 : WWent _ ((w.setCell ⟨a, 2, none⟩ (.string st)).setCell ⟨a, 3, none⟩ (.int .i64 f)) b S S L L a { W with st := st } { W with st := st, fi := f } v v := WWent.set h1.at_ _ 3 _ rfl rfl
  exact (h1.trans h2).trans (WWent.recs (v' := .slice none 0 0) h2.at_ (Rec.nil _) ⟨rfl, rfl, rfl, Nat.le_refl _, fun _ _ _ => rfl⟩ (fun _ _ _ e => e) (Or.inr (Or.inl rfl)))
theorem beginW_chg (S : FS) (W : WS) (k : Bool) (st : ByteArray) (q : Nat) : (beginW S W k st q).2.1.chg.length ≤ S.chg.length + 2 := by
  unfold beginW failB
  dsimp only
  repeat' split
  all_goals first
    | exact Nat.le_add_right _ _
    | exact Nat.le_trans (deleteS_chg _ _) (Nat.succ_le_succ (stB_chg _ _ _ _ _))
    | exact Nat.le_succ_of_le (stB_chg _ _ _ _ _)
theorem own_ne {w w' : World} {b a : Nat} {S S' : FS} {L L' : Lay} {W W' : WS} {v v' : Value} (hw : WalAt w b S L a W v) (k : WWent w w' b S S' L L' a W W' v v') {p : Nat} {cs : Array Value} {T : TypeId} (h : w.heap[p]? = some (.cells cs T)) (h1 : T ≠ 79) (h2 : T ≠ 93) (h3 : T ≠ 90) (h4 : T ≠ 5) (h5 : T ≠ 60) (h6 : v.ownBlock ≠ some p) : v'.ownBlock ≠ some p := fun e => by
  rcases k.sub p (Or.inr (Or.inr e)) with hm | hm
  · rcases hm with hm | rfl | hm
    · exact hw.dir.at_.not h h1 h2 h3 h4 hm
    · rw [hw.cell] at h
      injection h with h
      injection h with _ h
      exact h5 h.symm
    · exact h6 hm
  · have := some_lt h; omega
section
variable {w : World} {B b a : Nat} {S : FS} {L : Lay} {W : WS} {v : Value}
set_option maxHeartbeats 8000000 in
theorem sync_is2 (h : Log B w b S L a W v) (hf : Fine W) (hchg : (settleW S W).2.1.chg.length ≤ 900000) : Calls Tryz.prog 19 #[.pointer (some ⟨a, 0, none⟩)] w fun e w' => ∃ q, w.heap.size ≤ q ∧ WDone b S L a W v (syncW S W q) w e w' := by
  have H := Lib.hid h
  have HFN := Lib.hid hf
  obtain ⟨zr, hzr⟩ : ∃ z : Int, (if W.br then (13 : Int) else 0) = z := ⟨_, rfl⟩
  have kr := ready_is h.at_ zr (Lib.hid hzr)
  have ks := settle_is h hf
  have hok := settleW_ok (S := S) (W := W)
  have HSW := Lib.hid (show ∀ q, syncW S W q = _ from fun q => rfl)
  obtain ⟨nm, hnm⟩ : ∃ nm, segW W = nm := ⟨_, rfl⟩
  have hns : nm.size ≤ maxLen := by rw [← hnm]; exact segI_size _
  have ksg := fun w G => segment_is W.sg nm w (by have := hf.s0; omega) (by have := hf.s1; omega) G (Lib.hid hnm)
  have hsw : ∀ q, syncW S W q = (if W.br = true then (13, S, W) else if (settleW S W).1 ≠ 0 then settleW S W else if (readS (settleW S W).2.1 nm).1.size ≤ 4000 then (0, (settleW S W).2.1, (settleW S W).2.2) else beginW (settleW S W).2.1 (settleW S W).2.2 false ⟨#[]⟩ q) := fun q => by rw [← hnm]; rfl
  obtain ⟨⟨z, S1, W1⟩, hz⟩ : ∃ r, settleW S W = r := ⟨_, rfl⟩
  rw [hz] at hok ks hchg
  have hsw2 : ∀ q, syncW S W q = (if W.br = true then (13, S, W) else if z ≠ 0 then (z, S1, W1) else if (readS S1 nm).1.size ≤ 4000 then (0, S1, W1) else beginW S1 W1 false ⟨#[]⟩ q) := fun q => by rw [hsw q, hz]
  try dsimp only at hok hchg
  have HS := Lib.hid hsw2
  have HCHG := Lib.hid hchg
  clear h hf HSW hsw hsw2 hz hnm hchg
  cases hbr : W.br with
  | true =>
    rw [hbr, if_pos rfl] at hzr
    subst hzr
    have HR := Lib.hid (fun q => (HS.out q).trans (if_pos hbr))
    go_enter Tryz.func19, Tryz.ntmps19
    go_wp2_with (go_at_call 50; (with_reducible refine kr.mono ?_); rintro _ w1 ⟨rfl, rfl⟩)
    go_ret
    exact ⟨w.heap.size, Nat.le_refl _, L, v, by rw [HR.out]; rfl, by rw [HR.out]; exact WWent.refl H.out.at_⟩
  | false =>
    rw [hbr, if_neg (by decide)] at hzr
    subst hzr
    have hR0 := fun q => (HS.out q).trans (if_neg (by rw [hbr]; decide))
    clear hbr
    by_cases hz0 : z = 0
    · subst hz0
      have hW1 := hok rfl
      have hR1 := fun q => (hR0 q).trans (if_neg (by decide))
      have HR1 := Lib.hid hR1
      clear hok hR0 hR1
      go_enter Tryz.func19, Tryz.ntmps19
      go_upto_region 7 with (first
        | (go_at_call 50; (with_reducible refine kr.mono ?_); rintro _ w1 ⟨rfl, rfl⟩; clear kr)
        | (go_at_call 51; (with_reducible refine ks.mono ?_); rintro _ w2 ⟨L2, v2, rfl, hW2⟩; (have HW2 := Lib.hid hW2); (have HL2 := Lib.hid (H.out.next hW2)); clear hW2 ks))
      try dsimp only at HW2 HL2
      have HL3 := Lib.hid (HL2.out.below (Below.refl _ w2).drew)
      have c0 := HL2.out.at_.cells.c0
      have c1 : w2.cell? ⟨a, 1, none⟩ = some (.int .i64 W.sg) := by have q := HL2.out.at_.cells.c1; rw [hW1] at q; exact q
      have HC1 := Lib.hid (fun w' (k : Below w2.heap.size w2 w') => (show w'.cell? ⟨a, 1, none⟩ = some (.int .i64 W.sg) by have q := (HL2.out.below k).at_.cells.c1; rw [hW1] at q; exact q))
      have hfw : Fine W1 := by rw [hW1]; exact ⟨HFN.out.f0, HFN.out.f1, HFN.out.rc, HFN.out.s0, HFN.out.s1⟩
      have HFW := Lib.hid hfw
      have krd := fun (W' : World) (lw : Dir W' b S1 L2) => Fi.read_is b S1 L2 nm W' lw.at_ lw.whole.sane hns
      obtain ⟨⟨tb, er⟩, htb⟩ : ∃ q, readS S1 nm = q := ⟨_, rfl⟩
      rw [htb] at krd
      have HTB := Lib.hid htb
      obtain ⟨sg, hsg⟩ : ∃ sg, W.sg = sg := ⟨_, rfl⟩
      rw [hsg] at ksg c1 HC1
      clear hW1 hfw htb hsg
      refine wp_region_held_drew (S := (fun W => W.cell? ⟨a, 0, none⟩ = some (.pointer (some ⟨b, 0, none⟩)) ∧ W.cell? ⟨a, 1, none⟩ = some (.int .i64 sg))) (by kernel_rfl) ⟨c0, c1⟩ (fun hHeld => ?_)
      refine wpAnyH_take (i := 0) (oi := ?oa1o) (v := ?oa1v) ?oa1h (by kernel_rfl) (by kernel_rfl) (by kernel_rfl) ?oa1q ?oa1y hHeld ?oa1r
      case oa1h => (simp only [List.getElem?_toArray, List.getElem?_cons_zero]; rfl)
      case oa1q => exact fun _ _ _ h => h
      case oa1y => (refine Or.inl ⟨by first | kernel_rfl | rfl, ?_⟩; intro w hSw; (try dsimp only at hSw); obtain ⟨z1, z2⟩ := hSw; go_simp <;> (try with_reducible rfl))
      try simp only [Act.put, List.setIfInBounds_toArray, List.set_cons_zero, List.set_cons_succ]
      refine wpAnyH_take (i := 1) (oi := ?oa2o) (v := ?oa2v) ?oa2h (by kernel_rfl) (by kernel_rfl) (by kernel_rfl) ?oa2q ?oa2y hHeld ?oa2r
      case oa2h => (simp only [List.getElem?_toArray, List.getElem?_cons_succ, List.getElem?_cons_zero]; rfl)
      case oa2q => exact fun _ _ _ h => h
      case oa2y => (refine Or.inl ⟨by first | kernel_rfl | rfl, ?_⟩; intro w hSw; (try dsimp only at hSw); obtain ⟨z1, z2⟩ := hSw; go_simp <;> (try with_reducible rfl))
      try simp only [Act.put, List.setIfInBounds_toArray, List.set_cons_zero, List.set_cons_succ]
      refine wpAnyH_take (i := 2) (oi := ?oa3o) (v := ?oa3v) ?oa3h (by kernel_rfl) (by kernel_rfl) (by kernel_rfl) ?oa3q ?oa3y hHeld ?oa3r
      case oa3h => (simp only [List.getElem?_toArray, List.getElem?_cons_succ, List.getElem?_cons_zero]; rfl)
      case oa3q => exact fun _ _ _ h => h
      case oa3y => (refine Or.inl ⟨by first | kernel_rfl | rfl, ?_⟩; intro w hSw; (try dsimp only at hSw); obtain ⟨z1, z2⟩ := hSw; go_simp <;> (try with_reducible rfl))
      try simp only [Act.put, List.setIfInBounds_toArray, List.set_cons_zero, List.set_cons_succ]
      refine wpAnyH_take (i := 3) (oi := ?oa4o) (v := ?oa4v) ?oa4h (by kernel_rfl) (by kernel_rfl) (by kernel_rfl) ?oa4q ?oa4y hHeld ?oa4r
      case oa4h => (simp only [List.getElem?_toArray, List.getElem?_cons_succ, List.getElem?_cons_zero]; rfl)
      case oa4q => exact fun _ _ _ h => h
      case oa4y => (refine Or.inl ⟨by first | kernel_rfl | rfl, ?_⟩; intro w hSw; (try dsimp only at hSw); obtain ⟨z1, z2⟩ := hSw; go_simp <;> (try with_reducible rfl))
      try simp only [Act.put, List.setIfInBounds_toArray, List.set_cons_zero, List.set_cons_succ]
      refine wpAnyH_take (i := 4) (oi := ?oa5o) (v := ?oa5v) ?oa5h (by kernel_rfl) (by kernel_rfl) (by kernel_rfl) ?oa5q ?oa5y hHeld ?oa5r
      case oa5h => (simp only [List.getElem?_toArray, List.getElem?_cons_succ, List.getElem?_cons_zero]; rfl)
      case oa5q => exact fun _ _ _ h => h
      case oa5y => (refine Or.inl ⟨by first | kernel_rfl | rfl, ?_⟩; intro w hSw; (try dsimp only at hSw); obtain ⟨z1, z2⟩ := hSw; go_simp <;> (try with_reducible rfl))
      try simp only [Act.put, List.setIfInBounds_toArray, List.set_cons_zero, List.set_cons_succ]
      refine wpAnyH_take (i := 5) (oi := ?oa6o) (v := ?oa6v) ?oa6h (by kernel_rfl) (by kernel_rfl) (by kernel_rfl) ?oa6q ?oa6y hHeld ?oa6r
      case oa6h => (simp only [List.getElem?_toArray, List.getElem?_cons_succ, List.getElem?_cons_zero]; rfl)
      case oa6q => exact fun _ _ _ h => h
      case oa6y => (refine Or.inl ⟨by first | kernel_rfl | rfl, ?_⟩; intro w hSw; (try dsimp only at hSw); obtain ⟨z1, z2⟩ := hSw; go_simp <;> (try with_reducible rfl))
      try simp only [Act.put, List.setIfInBounds_toArray, List.set_cons_zero, List.set_cons_succ]
      refine wpAnyH_take (i := 6) (oi := ?oa7o) (v := ?oa7v) ?oa7h (by kernel_rfl) (by kernel_rfl) (by kernel_rfl) ?oa7q ?oa7y hHeld ?oa7r
      case oa7h => (simp only [List.getElem?_toArray, List.getElem?_cons_succ, List.getElem?_cons_zero]; rfl)
      case oa7q => exact fun _ _ _ h => h
      case oa7y => (refine Or.inl ⟨by first | kernel_rfl | rfl, ?_⟩; intro w hSw; (try dsimp only at hSw); obtain ⟨z1, z2⟩ := hSw; go_simp <;> (try with_reducible rfl))
      try simp only [Act.put, List.setIfInBounds_toArray, List.set_cons_zero, List.set_cons_succ]
      refine wpAnyH_take (i := 7) (oi := ?oa8o) (v := ?oa8v) ?oa8h (by kernel_rfl) (by kernel_rfl) (by kernel_rfl) ?oa8q ?oa8y hHeld ?oa8r
      case oa8h => (simp only [List.getElem?_toArray, List.getElem?_cons_succ, List.getElem?_cons_zero]; rfl)
      case oa8q => exact fun _ _ _ h => h
      case oa8y => (refine Or.inl ⟨by first | kernel_rfl | rfl, ?_⟩; intro w hSw; (try dsimp only at hSw); obtain ⟨z1, z2⟩ := hSw; go_simp <;> (try with_reducible rfl))
      try simp only [Act.put, List.setIfInBounds_toArray, List.set_cons_zero, List.set_cons_succ]
      refine wpAnyH_ready (rs := [8]) (by kernel_rfl) (by simp) ?_
      refine (AllReadyH.cons rfl (fun K hK => ?_) AllReadyH.nil)
      go_simp
      (go_at_call 13; (with_reducible refine (ksg _ HL3.out.glob).mono ?_); rintro _ w3 ⟨rfl, hB3⟩; (have HB3 := Lib.hid (bel_next (Below.refl _ w2).drew hB3)); (have HL4 := Lib.hid (HL2.out.below HB3.out)); clear ksg hB3)
      refine hK.out _ _ (⟨HL4.out.at_.cells.c0, HC1.out _ HB3.out⟩) (fun hHeld => ?_)
      clear hK K
      try simp only [Act.put, List.setIfInBounds_toArray, List.set_cons_zero, List.set_cons_succ]
      refine wpAnyH_ready (rs := [9]) (by kernel_rfl) (by simp) ?_
      refine (AllReadyH.cons rfl (fun K hK => ?_) AllReadyH.nil)
      go_simp
      (go_at_call 34; (with_reducible refine (krd _ HL4.out.at_.dir).mono ?_); rintro _ w4 ⟨rfl, hB4⟩; (have HB4 := Lib.hid (bel_next HB3.out hB4)); (have HL5 := Lib.hid (HL2.out.below HB4.out)); clear krd hB4)
      refine hK.out _ _ (⟨HL5.out.at_.cells.c0, HC1.out _ HB4.out⟩) (fun hHeld => ?_)
      clear hK K
      try simp only [Act.put, List.setIfInBounds_toArray, List.set_cons_zero, List.set_cons_succ]
      refine wpAnyH_take (i := 10) (oi := ?oa9o) (v := ?oa9v) ?oa9h (by kernel_rfl) (by kernel_rfl) (by kernel_rfl) ?oa9q ?oa9y hHeld ?oa9r
      case oa9h => (simp only [List.getElem?_toArray, List.getElem?_cons_succ, List.getElem?_cons_zero]; rfl)
      case oa9q => exact fun _ _ _ h => h
      case oa9y => (refine Or.inl ⟨by first | kernel_rfl | rfl, ?_⟩; intro w hSw; (try dsimp only at hSw); obtain ⟨z1, z2⟩ := hSw; go_simp <;> (try with_reducible rfl))
      try simp only [Act.put, List.setIfInBounds_toArray, List.set_cons_zero, List.set_cons_succ]
      refine wpAnyH_take (i := 11) (oi := ?oa10o) (v := ?oa10v) ?oa10h (by kernel_rfl) (by kernel_rfl) (by kernel_rfl) ?oa10q ?oa10y hHeld ?oa10r
      case oa10h => (simp only [List.getElem?_toArray, List.getElem?_cons_succ, List.getElem?_cons_zero]; rfl)
      case oa10q => exact fun _ _ _ h => h
      case oa10y => (refine Or.inl ⟨by first | kernel_rfl | rfl, ?_⟩; intro w hSw; (try dsimp only at hSw); obtain ⟨z1, z2⟩ := hSw; go_simp <;> (try with_reducible rfl))
      try simp only [Act.put, List.setIfInBounds_toArray, List.set_cons_zero, List.set_cons_succ]
      refine wpAnyH_take (i := 12) (oi := ?oa11o) (v := ?oa11v) ?oa11h (by kernel_rfl) (by kernel_rfl) (by kernel_rfl) ?oa11q ?oa11y hHeld ?oa11r
      case oa11h => (simp only [List.getElem?_toArray, List.getElem?_cons_succ, List.getElem?_cons_zero]; rfl)
      case oa11q => exact fun _ _ _ h => h
      case oa11y => (refine Or.inl ⟨by first | kernel_rfl | rfl, ?_⟩; intro w hSw; (try dsimp only at hSw); obtain ⟨z1, z2⟩ := hSw; go_simp <;> (try with_reducible rfl))
      try simp only [Act.put, List.setIfInBounds_toArray, List.set_cons_zero, List.set_cons_succ]
      refine wpAnyH_take (i := 13) (oi := ?oa12o) (v := ?oa12v) ?oa12h (by kernel_rfl) (by kernel_rfl) (by kernel_rfl) ?oa12q ?oa12y hHeld ?oa12r
      case oa12h => (simp only [List.getElem?_toArray, List.getElem?_cons_succ, List.getElem?_cons_zero]; rfl)
      case oa12q => exact fun _ _ _ h => h
      case oa12y => (refine Or.inl ⟨by first | kernel_rfl | rfl, ?_⟩; intro w hSw; (try dsimp only at hSw); obtain ⟨z1, z2⟩ := hSw; go_simp <;> (try with_reducible rfl))
      try simp only [Act.put, List.setIfInBounds_toArray, List.set_cons_zero, List.set_cons_succ]
      refine wpAnyH_take (i := 14) (oi := ?oa13o) (v := ?oa13v) ?oa13h (by kernel_rfl) (by kernel_rfl) (by kernel_rfl) ?oa13q ?oa13y hHeld ?oa13r
      case oa13h => (simp only [List.getElem?_toArray, List.getElem?_cons_succ, List.getElem?_cons_zero]; rfl)
      case oa13q => exact fun _ _ _ h => h
      case oa13y => (refine Or.inl ⟨by first | kernel_rfl | rfl, ?_⟩; intro w hSw; (try dsimp only at hSw); obtain ⟨z1, z2⟩ := hSw; go_simp <;> (try with_reducible rfl))
      try simp only [Act.put, List.setIfInBounds_toArray, List.set_cons_zero, List.set_cons_succ]
      refine wpAnyH_done (by kernel_rfl) ?_ _
      clear hHeld
      have HW5 := Lib.hid (HW2.out.trans (WWent.below HL2.out.at_ HB4.out))
      have hRR := HR1.out
      by_cases h4 : tb.size ≤ 4000
      · have h4i : (tb.size : Int) ≤ 4000 := by omega
        have HR := Lib.hid (fun q => (hRR q).trans (if_pos (by rw [HTB.out]; exact h4)))
        clear hRR h4
        go_wp2
        go_ret
        exact ⟨w.heap.size, Nat.le_refl _, L2, v2, by rw [HR.out]; rfl, by rw [HR.out]; exact HW5.out⟩
      · have h4i : ¬ (tb.size : Int) ≤ 4000 := by omega
        have HR := Lib.hid (fun q => (hRR q).trans (if_neg (by rw [HTB.out]; exact h4)))
        have kb := begin_is HL5.out HFW.out false ⟨#[]⟩ (by show 0 ≤ _; omega) HCHG.out
        clear hRR h4
        go_wp2_with (go_at_call 52; (with_reducible refine kb.mono ?_); rintro _ w6 ⟨q, hq, L6, v6, rfl, hW6⟩; (have HW6 := Lib.hid (HW5.out.trans hW6)); (have HQ := Lib.hid (Nat.le_trans HW5.out.frm.size hq)); clear hW6 hq kb)
        go_ret
        exact ⟨q, HQ.out, L6, v6, by rw [HR.out]; rfl, by rw [HR.out]; exact HW6.out⟩
    · have hne : (z != 0) = true := by simpa using hz0
      have HR := Lib.hid (fun q => (hR0 q).trans (if_pos hz0))
      clear hz0 hok hR0
      go_enter Tryz.func19, Tryz.ntmps19
      go_wp2_with (first
        | (go_at_call 50; (with_reducible refine kr.mono ?_); rintro _ w1 ⟨rfl, rfl⟩; clear kr)
        | (go_at_call 51; (with_reducible refine ks.mono ?_); rintro _ w2 ⟨L2, v2, rfl, hW2⟩; (have HW2 := Lib.hid hW2); clear hW2 ks))
      go_ret
      exact ⟨w.heap.size, Nat.le_refl _, L2, v2, by rw [HR.out]; rfl, by rw [HR.out]; exact HW2.out⟩
set_option maxHeartbeats 16000000 in
theorem ckpt_is (h : Log B w b S L a W v) (hf : Fine W) (st : ByteArray) (hchg : (settleW S W).2.1.chg.length ≤ 900000) (hl : lastW W ≤ 1099511627776) : Calls Tryz.prog 22 #[.pointer (some ⟨a, 0, none⟩), .string st] w fun e w' => ∃ q, w.heap.size ≤ q ∧ WDone b S L a W v (ckptW S W st q) w e w' := by
  have hbx := heap_alloc_new w (.cells #[.pointer (some ⟨a, 0, none⟩)] 33)
  have h1 := h.below (bel_al w (.cells #[.pointer (some ⟨a, 0, none⟩)] 33))
  have HW1 := Lib.hid (WWent.below h.at_ (bel_al w (.cells #[.pointer (some ⟨a, 0, none⟩)] 33)))
  have HFN := Lib.hid hf
  obtain ⟨zr, hzr⟩ : ∃ z : Int, (if W.br then (13 : Int) else 0) = z := ⟨_, rfl⟩
  have kr := ready_is h1.at_ zr (Lib.hid hzr)
  have ks := settle_is h1 hf
  have hok := settleW_ok (S := S) (W := W)
  obtain ⟨⟨z, S1, W1⟩, hz⟩ : ∃ r, settleW S W = r := ⟨_, rfl⟩
  rw [hz] at hok ks hchg
  have hcw : ∀ q, ckptW S W st q = (if W.br = true then (13, S, W) else if 60000 < st.size then (11, S, W) else if z ≠ 0 then (z, S1, W1) else ckpt2 (beginW S1 W1 true st q) st) := fun q => by unfold ckptW; rw [hz]
  try dsimp only at hok hchg
  have HS := Lib.hid hcw
  have HCHG := Lib.hid hchg
  have HLL := Lib.hid hl
  have H := Lib.hid h
  obtain ⟨p2, hp2⟩ : ∃ p2, w.heap.size = p2 := ⟨_, rfl⟩
  have HP2 := Lib.hid hp2
  rw [hp2] at hbx
  obtain ⟨w0, hw0⟩ : ∃ x, w.alloc (.cells #[.pointer (some ⟨a, 0, none⟩)] 33) = x := ⟨_, rfl⟩
  have HW0 := Lib.hid hw0
  rw [hw0] at hbx h1 kr ks HW1
  have HL1 := Lib.hid h1
  have HBX := Lib.hid hbx
  have hc2 : w0.cell? ⟨p2, 0, none⟩ = some (.pointer (some ⟨a, 0, none⟩)) := cell_of hbx
  have hvp : v.ownBlock ≠ some p2 := fun e => by
    obtain ⟨c, e1⟩ := h.at_.rcs.heap e
    have := some_lt e1; omega
  clear h h1 hcw hz hf hchg hl hbx hp2 hw0
  cases hbr : W.br with
  | true =>
    rw [hbr, if_pos rfl] at hzr
    subst hzr
    have HR := Lib.hid (fun q => (HS.out q).trans (if_pos hbr))
    go_enter Tryz.func22, Tryz.ntmps22
    go_upto_region 1 with fail
    simp only [HW0.out, HP2.out]
    go_wp2_with (go_at_call 50; (with_reducible refine kr.mono ?_); rintro _ w1 ⟨rfl, rfl⟩)
    go_ret
    exact ⟨w.heap.size, Nat.le_refl _, L, v, by rw [HR.out]; rfl, by rw [HR.out]; exact HW1.out⟩
  | false =>
    rw [hbr, if_neg (by decide)] at hzr
    subst hzr
    have hR0 := fun q => (HS.out q).trans (if_neg (by rw [hbr]; decide))
    clear hbr
    by_cases hbig : 60000 < st.size
    · have hbi : (60000 : Int) < (st.size : Int) := by omega
      have HR := Lib.hid (fun q => (hR0 q).trans (if_pos hbig))
      clear hbig hR0
      go_enter Tryz.func22, Tryz.ntmps22
      go_upto_region 1 with fail
      simp only [HW0.out, HP2.out]
      go_wp2_with (go_at_call 50; (with_reducible refine kr.mono ?_); rintro _ w1 ⟨rfl, rfl⟩)
      go_ret
      exact ⟨w.heap.size, Nat.le_refl _, L, v, by rw [HR.out]; rfl, by rw [HR.out]; exact HW1.out⟩
    · have hbi : ¬ (60000 : Int) < (st.size : Int) := by omega
      have hst : st.size ≤ 60000 := by omega
      have hR1 := fun q => (hR0 q).trans (if_neg hbig)
      have HST := Lib.hid hst
      clear hR0 hbig
      by_cases hz0 : z = 0
      · subst hz0
        have hW1 := hok rfl
        have HR2 := Lib.hid (fun q => (hR1 q).trans (if_neg (by decide)))
        clear hR1 hok
        go_enter Tryz.func22, Tryz.ntmps22
        go_upto_region 1 with fail
        simp only [HW0.out, HP2.out]
        go_upto_region 9 with (first
          | (go_at_call 50; (with_reducible refine kr.mono ?_); rintro _ w1 ⟨rfl, rfl⟩; clear kr)
          | (go_at_call 51; (with_reducible refine ks.mono ?_); rintro _ w2 ⟨L2, v2, rfl, hW2⟩; (have HW2 := Lib.hid hW2); (have HL2 := Lib.hid (HL1.out.next hW2)); clear hW2 ks))
        try dsimp only at HW2 HL2
        have hfw : Fine W1 := by rw [hW1]; exact ⟨HFN.out.f0, HFN.out.f1, HFN.out.rc, HFN.out.s0, HFN.out.s1⟩
        have HFW := Lib.hid hfw
        have HB2 := Lib.hid (box_went HL1.out.at_ HW2.out HBX.out (by decide) (by decide) (by decide) (by decide) (by decide) hvp)
        have HV2 := Lib.hid (own_ne HL1.out.at_ HW2.out HBX.out (by decide) (by decide) (by decide) (by decide) (by decide) hvp)
        have HU2 := Lib.hid (HW1.out.trans HW2.out)
        have hlw1 : lastW W1 ≤ 1099511627776 := by rw [hW1]; exact HLL.out
        have HLW1 := Lib.hid hlw1
        have kb := begin_is HL2.out hfw true st HST.out HCHG.out
        have c22 : w2.cell? ⟨p2, 0, none⟩ = some (.pointer (some ⟨a, 0, none⟩)) := cell_of HB2.out
        clear hfw hlw1 hW1 hc2 hvp
        go_upto_if 26 with (go_at_call 52; (with_reducible refine kb.mono ?_); rintro _ w3 ⟨q, hq, L3, v3, rfl, hW3⟩; (obtain ⟨⟨e3, S3, W3⟩, hb3⟩ : ∃ r, beginW S1 W1 true st q = r := ⟨_, rfl⟩); rw [hb3] at hW3 ⊢; (have hrc3 := beginW_rc S1 W1 true st q); (have hch3 := beginW_chg S1 W1 true st q); rw [hb3] at hrc3 hch3; (have HRC3 := Lib.hid hrc3); (have HCH3 := Lib.hid hch3); (have HBB := Lib.hid hb3); (have HW3 := Lib.hid hW3); (have HL3 := Lib.hid (HL2.out.next hW3)); (have HU3 := Lib.hid (HU2.out.trans hW3)); (have HQ := Lib.hid (Nat.le_trans HU2.out.frm.size hq)); clear hW3 hq kb hrc3 hch3 hb3)
        try dsimp only at HW3 HL3 HU3 ⊢
        by_cases he3 : e3 = 0
        · subst he3
          have hR3 : ckptW S W st q = ckpt4 (removeL (fun n => ((n : Int) != W3.sg)) (numsS S3) S3 (ckpt3 W3 st)) := by rw [HR2.out, HBB.out]; rfl
          have HR3 := Lib.hid hR3
          have hc3 : Fine W3 := ⟨by rw [HRC3.out.2.1]; exact HFW.out.f0, by rw [HRC3.out.2.1]; exact HFW.out.f1, by rw [HRC3.out.1]; exact HFW.out.rc, by
            rcases HRC3.out.2.2 with e | e
            · rw [e]; exact HFW.out.s0
            · rw [e]; have := beginN_in S1; omega, by
            rcases HRC3.out.2.2 with e | e
            · rw [e]; exact HFW.out.s1
            · rw [e]; have := beginN_in S1; omega⟩
          have HF3 := Lib.hid hc3
          have hl3 : lastW W3 = lastW W1 := by unfold lastW; rw [HRC3.out.1, HRC3.out.2.1]
          have hlb : -1 ≤ lastW W3 ∧ lastW W3 ≤ 1099511627776 := ⟨by have h1 := hc3.f0; unfold lastW; omega, by rw [hl3]; exact HLW1.out⟩
          have hf3 : Fine (ckpt3 W3 st) := ⟨by show 0 ≤ lastW W3 + 1; omega, by show lastW W3 + 1 ≤ _; omega, by show 0 ≤ _; omega, hc3.s0, hc3.s1⟩
          have HFC := Lib.hid hf3
          have HB3 := Lib.hid (box_went HL2.out.at_ HW3.out HB2.out (by decide) (by decide) (by decide) (by decide) (by decide) HV2.out)
          have HV3 := Lib.hid (own_ne HL2.out.at_ HW3.out HB2.out (by decide) (by decide) (by decide) (by decide) (by decide) HV2.out)
          have hpa : p2 ≠ a := fun e => by
            have q := HB3.out
            rw [e, HL3.out.at_.cell] at q
            injection q with q
            injection q with _ q
            revert q; decide
          obtain ⟨lw, hlw⟩ : ∃ lw, lastW W3 = lw := ⟨_, rfl⟩
          have hww : IntKind.i64.wrap (lw + 1) = lw + 1 := by rw [IntKind.wrap_i64]; omega
          have HLW := Lib.hid hlw
          have kc := fun w => clone_is st w (by have := HST.out; omega)
          have HLd := Lib.hid (HL3.out.below (Below.refl _ w3).drew)
          clear hR3 hc3 hl3 hlb hf3 hlw c22
          go_upto_region 12 with fail
          refine wp_region_held_drew (S := (fun W => W.heap[p2]? = some (.cells #[.pointer (some ⟨a, 0, none⟩)] 33))) (by kernel_rfl) HB3.out (fun hHeld => ?_)
          refine wpAnyH_take (i := 0) (oi := ?ob1o) (v := ?ob1v) ?ob1h (by kernel_rfl) (by kernel_rfl) (by kernel_rfl) ?ob1q ?ob1y hHeld ?ob1r
          case ob1h => (simp only [List.getElem?_toArray, List.getElem?_cons_zero]; rfl)
          case ob1q => exact fun _ _ _ h => h
          case ob1y => (refine Or.inl ⟨by first | kernel_rfl | rfl, ?_⟩; intro w hSw; (try dsimp only at hSw); have u1 : w.cell? ⟨p2, 0, none⟩ = some (.pointer (some ⟨a, 0, none⟩)) := cell_of hSw; go_simp <;> (try with_reducible rfl))
          try simp only [Act.put, List.setIfInBounds_toArray, List.set_cons_zero, List.set_cons_succ]
          refine wpAnyH_take (i := 1) (oi := ?ob2o) (v := ?ob2v) ?ob2h (by kernel_rfl) (by kernel_rfl) (by kernel_rfl) ?ob2q ?ob2y hHeld ?ob2r
          case ob2h => (simp only [List.getElem?_toArray, List.getElem?_cons_succ, List.getElem?_cons_zero]; rfl)
          case ob2q => exact fun _ _ _ h => h
          case ob2y => (refine Or.inl ⟨by first | kernel_rfl | rfl, ?_⟩; intro w hSw; (try dsimp only at hSw); have u1 : w.cell? ⟨p2, 0, none⟩ = some (.pointer (some ⟨a, 0, none⟩)) := cell_of hSw; go_simp <;> (try with_reducible rfl))
          try simp only [Act.put, List.setIfInBounds_toArray, List.set_cons_zero, List.set_cons_succ]
          refine wpAnyH_take (i := 2) (oi := ?ob3o) (v := ?ob3v) ?ob3h (by kernel_rfl) (by kernel_rfl) (by kernel_rfl) ?ob3q ?ob3y hHeld ?ob3r
          case ob3h => (simp only [List.getElem?_toArray, List.getElem?_cons_succ, List.getElem?_cons_zero]; rfl)
          case ob3q => exact fun _ _ _ h => h
          case ob3y => (refine Or.inl ⟨by first | kernel_rfl | rfl, ?_⟩; intro w hSw; (try dsimp only at hSw); have u1 : w.cell? ⟨p2, 0, none⟩ = some (.pointer (some ⟨a, 0, none⟩)) := cell_of hSw; go_simp <;> (try with_reducible rfl))
          try simp only [Act.put, List.setIfInBounds_toArray, List.set_cons_zero, List.set_cons_succ]
          refine wpAnyH_take (i := 3) (oi := ?ob4o) (v := ?ob4v) ?ob4h (by kernel_rfl) (by kernel_rfl) (by kernel_rfl) ?ob4q ?ob4y hHeld ?ob4r
          case ob4h => (simp only [List.getElem?_toArray, List.getElem?_cons_succ, List.getElem?_cons_zero]; rfl)
          case ob4q => exact fun _ _ _ h => h
          case ob4y => (refine Or.inl ⟨by first | kernel_rfl | rfl, ?_⟩; intro w hSw; (try dsimp only at hSw); have u1 : w.cell? ⟨p2, 0, none⟩ = some (.pointer (some ⟨a, 0, none⟩)) := cell_of hSw; go_simp <;> (try with_reducible rfl))
          try simp only [Act.put, List.setIfInBounds_toArray, List.set_cons_zero, List.set_cons_succ]
          refine wpAnyH_take (i := 5) (oi := ?ob5o) (v := ?ob5v) ?ob5h (by kernel_rfl) (by kernel_rfl) (by kernel_rfl) ?ob5q ?ob5y hHeld ?ob5r
          case ob5h => (simp only [List.getElem?_toArray, List.getElem?_cons_succ, List.getElem?_cons_zero]; rfl)
          case ob5q => exact fun _ _ _ h => h
          case ob5y => (refine Or.inl ⟨by first | kernel_rfl | rfl, ?_⟩; intro w hSw; (try dsimp only at hSw); have u1 : w.cell? ⟨p2, 0, none⟩ = some (.pointer (some ⟨a, 0, none⟩)) := cell_of hSw; go_simp <;> (try with_reducible rfl))
          try simp only [Act.put, List.setIfInBounds_toArray, List.set_cons_zero, List.set_cons_succ]
          refine wpAnyH_ready (rs := [4]) (by kernel_rfl) (by simp) ?_
          refine (AllReadyH.cons rfl (fun K hK => ?_) AllReadyH.nil)
          go_simp
          (go_at_call 53; (with_reducible refine (kc _).mono ?_); rintro _ w4 ⟨rfl, hB4⟩; (have HB4 := Lib.hid (bel_next (Below.refl _ w3).drew hB4)); (have HL4 := Lib.hid (HL3.out.below HB4.out)); clear kc hB4)
          refine hK.out _ _ ((HB4.out.block _ (some_lt HB3.out)).trans HB3.out) (fun hHeld => ?_)
          clear hK K
          try simp only [Act.put, List.setIfInBounds_toArray, List.set_cons_zero, List.set_cons_succ]
          refine wpAnyH_ready (rs := [6]) (by kernel_rfl) (by simp) ?_
          refine (AllReadyH.cons rfl (fun K hK => ?_) AllReadyH.nil)
          go_simp
          (go_at_call 21; (with_reducible refine (last_is HL4.out.at_ HF3.out).mono ?_); rintro _ w5 ⟨rfl, hB5⟩; rw [HLW.out]; (have HB5 := Lib.hid (bel_next HB4.out hB5)); (have HL5 := Lib.hid (HL3.out.below HB5.out)); (obtain ⟨-, -, g2, g3, g4, -, -⟩ := HL5.out.at_.cells); (have f2 := HL5.out.at_.free 2); (have f3 := HL5.out.at_.free 3); (have f4 := HL5.out.at_.free 4); clear hB5)
          refine hK.out _ _ ((HB5.out.block _ (some_lt HB3.out)).trans HB3.out) (fun hHeld => ?_)
          clear hK K
          try simp only [Act.put, List.setIfInBounds_toArray, List.set_cons_zero, List.set_cons_succ]
          refine wpAnyH_take (i := 7) (oi := ?ob6o) (v := ?ob6v) ?ob6h (by kernel_rfl) (by kernel_rfl) (by kernel_rfl) ?ob6q ?ob6y hHeld ?ob6r
          case ob6h => (simp only [List.getElem?_toArray, List.getElem?_cons_succ, List.getElem?_cons_zero]; rfl)
          case ob6q => exact fun _ _ _ h => h
          case ob6y => (refine Or.inl ⟨by first | kernel_rfl | rfl, ?_⟩; intro w hSw; (try dsimp only at hSw); have u1 : w.cell? ⟨p2, 0, none⟩ = some (.pointer (some ⟨a, 0, none⟩)) := cell_of hSw; go_simp <;> (try with_reducible rfl))
          try simp only [Act.put, List.setIfInBounds_toArray, List.set_cons_zero, List.set_cons_succ]
          refine wpAnyH_take (i := 8) (oi := ?ob7o) (v := ?ob7v) ?ob7h (by kernel_rfl) (by kernel_rfl) (by kernel_rfl) ?ob7q ?ob7y hHeld ?ob7r
          case ob7h => (simp only [List.getElem?_toArray, List.getElem?_cons_succ, List.getElem?_cons_zero]; rfl)
          case ob7q => exact fun _ _ _ h => h
          case ob7y => (refine Or.inl ⟨by first | kernel_rfl | rfl, ?_⟩; intro w hSw; (try dsimp only at hSw); have u1 : w.cell? ⟨p2, 0, none⟩ = some (.pointer (some ⟨a, 0, none⟩)) := cell_of hSw; go_simp <;> (try with_reducible rfl))
          try simp only [Act.put, List.setIfInBounds_toArray, List.set_cons_zero, List.set_cons_succ]
          refine wpAnyH_take (i := 9) (oi := ?ob8o) (v := ?ob8v) ?ob8h (by kernel_rfl) (by kernel_rfl) (by kernel_rfl) ?ob8q ?ob8y hHeld ?ob8r
          case ob8h => (simp only [List.getElem?_toArray, List.getElem?_cons_succ, List.getElem?_cons_zero]; rfl)
          case ob8q => exact fun _ _ _ h => h
          case ob8y => (refine Or.inl ⟨by first | kernel_rfl | rfl, ?_⟩; intro w hSw; (try dsimp only at hSw); have u1 : w.cell? ⟨p2, 0, none⟩ = some (.pointer (some ⟨a, 0, none⟩)) := cell_of hSw; go_simp <;> (try with_reducible rfl))
          try simp only [Act.put, List.setIfInBounds_toArray, List.set_cons_zero, List.set_cons_succ]
          refine wpAnyH_ready (rs := [10]) (by kernel_rfl) (by simp) ?_
          refine (AllReadyH.cons rfl (fun K hK => ?_) AllReadyH.nil)
          go_simp
          skip
          refine hK.out _ _ ((heap_setCell_other _ ⟨a, 2, none⟩ p2 _ hpa).trans hHeld) (fun hHeld => ?_)
          clear hK K
          try simp only [Act.put]
          refine wpAnyH_take (i := 11) (oi := ?ob9o) (v := ?ob9v) ?ob9h (by kernel_rfl) (by kernel_rfl) (by kernel_rfl) ?ob9q ?ob9y hHeld ?ob9r
          case ob9h => (simp only [List.getElem?_toArray, List.getElem?_cons_succ, List.getElem?_cons_zero]; rfl)
          case ob9q => exact fun _ _ _ h => h
          case ob9y => (refine Or.inl ⟨by first | kernel_rfl | rfl, ?_⟩; intro w hSw; (try dsimp only at hSw); have u1 : w.cell? ⟨p2, 0, none⟩ = some (.pointer (some ⟨a, 0, none⟩)) := cell_of hSw; go_simp <;> (try with_reducible rfl))
          try simp only [Act.put, List.setIfInBounds_toArray, List.set_cons_zero, List.set_cons_succ]
          refine wpAnyH_take (i := 12) (oi := ?ob10o) (v := ?ob10v) ?ob10h (by kernel_rfl) (by kernel_rfl) (by kernel_rfl) ?ob10q ?ob10y hHeld ?ob10r
          case ob10h => (simp only [List.getElem?_toArray, List.getElem?_cons_succ, List.getElem?_cons_zero]; rfl)
          case ob10q => exact fun _ _ _ h => h
          case ob10y => (refine Or.inl ⟨by first | kernel_rfl | rfl, ?_⟩; intro w hSw; (try dsimp only at hSw); have u1 : w.cell? ⟨p2, 0, none⟩ = some (.pointer (some ⟨a, 0, none⟩)) := cell_of hSw; go_simp <;> (try with_reducible rfl))
          try simp only [Act.put, List.setIfInBounds_toArray, List.set_cons_zero, List.set_cons_succ]
          refine wpAnyH_ready (rs := [13]) (by kernel_rfl) (by simp) ?_
          refine (AllReadyH.cons rfl (fun K hK => ?_) AllReadyH.nil)
          go_simp
          skip
          refine hK.out _ _ ((heap_setCell_other _ ⟨a, 3, none⟩ p2 _ hpa).trans hHeld) (fun hHeld => ?_)
          clear hK K
          try simp only [Act.put]
          refine wpAnyH_take (i := 14) (oi := ?ob11o) (v := ?ob11v) ?ob11h (by kernel_rfl) (by kernel_rfl) (by kernel_rfl) ?ob11q ?ob11y hHeld ?ob11r
          case ob11h => (simp only [List.getElem?_toArray, List.getElem?_cons_succ, List.getElem?_cons_zero]; rfl)
          case ob11q => exact fun _ _ _ h => h
          case ob11y => (refine Or.inl ⟨by first | kernel_rfl | rfl, ?_⟩; intro w hSw; (try dsimp only at hSw); have u1 : w.cell? ⟨p2, 0, none⟩ = some (.pointer (some ⟨a, 0, none⟩)) := cell_of hSw; go_simp <;> (try with_reducible rfl))
          try simp only [Act.put, List.setIfInBounds_toArray, List.set_cons_zero, List.set_cons_succ]
          refine wpAnyH_take (i := 15) (oi := ?ob12o) (v := ?ob12v) ?ob12h (by kernel_rfl) (by kernel_rfl) (by kernel_rfl) ?ob12q ?ob12y hHeld ?ob12r
          case ob12h => (simp only [List.getElem?_toArray, List.getElem?_cons_succ, List.getElem?_cons_zero]; rfl)
          case ob12q => exact fun _ _ _ h => h
          case ob12y => (refine Or.inl ⟨by first | kernel_rfl | rfl, ?_⟩; intro w hSw; (try dsimp only at hSw); have u1 : w.cell? ⟨p2, 0, none⟩ = some (.pointer (some ⟨a, 0, none⟩)) := cell_of hSw; go_simp <;> (try with_reducible rfl))
          try simp only [Act.put, List.setIfInBounds_toArray, List.set_cons_zero, List.set_cons_succ]
          refine wpAnyH_ready (rs := [16]) (by kernel_rfl) (by simp) ?_
          refine (AllReadyH.cons rfl (fun K hK => ?_) AllReadyH.nil)
          go_simp
          skip
          refine hK.out _ _ ((heap_setCell_other _ ⟨a, 4, none⟩ p2 _ hpa).trans hHeld) (fun hHeld => ?_)
          clear hK K
          try simp only [Act.put]
          refine wpAnyH_done (by kernel_rfl) ?_ _
          clear g2 g3 g4 f2 f3 f4
          have HW6 := Lib.hid (show WWent w5 (((w5.setCell ⟨a, 2, none⟩ (.string st)).setCell ⟨a, 3, none⟩ (.int .i64 (lw + 1))).setCell ⟨a, 4, none⟩ (.slice none 0 0)) b S3 S3 L3 L3 a W3 (ckpt3 W3 st) v3 (.slice none 0 0) by unfold ckpt3; rw [HLW.out]; exact ckpt_went HL5.out.at_ (lw + 1) st)
          have HB6 := Lib.hid hHeld
          obtain ⟨w6, hw6⟩ : ∃ x, (((w5.setCell ⟨a, 2, none⟩ (.string st)).setCell ⟨a, 3, none⟩ (.int .i64 (lw + 1))).setCell ⟨a, 4, none⟩ (.slice none 0 0)) = x := ⟨_, rfl⟩
          rw [hw6] at HW6 HB6 ⊢
          clear hw6 hHeld
          have HL6 := Lib.hid (HL5.out.next HW6.out)
          have HU6 := Lib.hid ((HU3.out.trans (WWent.below HL3.out.at_ HB5.out)).trans HW6.out)
          obtain ⟨v6, hv6⟩ : ∃ v6 : Value, Value.slice none 0 0 = v6 := ⟨_, rfl⟩
          have hv6n : v6.ownBlock ≠ some p2 := by rw [← hv6]; simp [Value.ownBlock]
          rw [hv6] at HW6 HL6 HU6
          have HV6 := Lib.hid hv6n
          have km := removeC_is HL6.out HFC.out (by have h1 := HCH3.out; have h2 := HCHG.out; (try dsimp only at h1); omega) p2 HB6.out
          have hsg3 : (ckpt3 W3 st).sg = W3.sg := rfl
          rw [hsg3] at km
          obtain ⟨⟨e7, S7, W7⟩, hm7⟩ : ∃ r, removeL (fun n => ((n : Int) != W3.sg)) (numsS S3) S3 (ckpt3 W3 st) = r := ⟨_, rfl⟩
          rw [hm7] at km
          have HM7 := Lib.hid hm7
          have z6 : w6.cell? ⟨p2, 0, none⟩ = some (.pointer (some ⟨a, 0, none⟩)) := cell_of HB6.out
          clear hv6n hsg3 hm7 hv6
          go_upto_if 46 with (go_at_call 54; (with_reducible refine km.mono ?_); rintro _ w7 ⟨L7, v7, rfl, hW7⟩; (have HW7 := Lib.hid hW7); (have HL7 := Lib.hid (HL6.out.next hW7)); (have HU7 := Lib.hid (HU6.out.trans hW7)); (have HB7 := Lib.hid (box_went HL6.out.at_ hW7 HB6.out (by decide) (by decide) (by decide) (by decide) (by decide) HV6.out)); clear hW7 km)
          try dsimp only at HW7 HL7 HU7 ⊢
          by_cases he7 : e7 = 0
          · subst he7
            have hR7 : ckptW S W st q = ((syncDirS S7).1, (syncDirS S7).2, toldW W7 (syncDirS S7).1) := by rw [HR3.out, HM7.out]; rfl
            have HR7 := Lib.hid hR7
            have z7 : w7.cell? ⟨p2, 0, none⟩ = some (.pointer (some ⟨a, 0, none⟩)) := cell_of HB7.out
            have y7 := HL7.out.at_.cells.c0
            have HV7 := Lib.hid (own_ne HL6.out.at_ HW7.out HB6.out (by decide) (by decide) (by decide) (by decide) (by decide) HV6.out)
            have HLe := Lib.hid (HL7.out.below (Below.refl _ w7).drew)
            obtain ⟨⟨e8, S8⟩, hd8⟩ : ∃ r, syncDirS S7 = r := ⟨_, rfl⟩
            have HD8 := Lib.hid hd8
            clear hR7 hd8 z6
            go_upto_region 16 with fail
            refine wp_region_held_drew (S := (fun W => W.cell? ⟨p2, 0, none⟩ = some (.pointer (some ⟨a, 0, none⟩)) ∧ W.cell? ⟨a, 0, none⟩ = some (.pointer (some ⟨b, 0, none⟩)))) (by kernel_rfl) ⟨z7, y7⟩ (fun hHeld => ?_)
            refine wpAnyH_take (i := 0) (oi := ?oc1o) (v := ?oc1v) ?oc1h (by kernel_rfl) (by kernel_rfl) (by kernel_rfl) ?oc1q ?oc1y hHeld ?oc1r
            case oc1h => (simp only [List.getElem?_toArray, List.getElem?_cons_zero]; rfl)
            case oc1q => exact fun _ _ _ h => h
            case oc1y => (refine Or.inl ⟨by first | kernel_rfl | rfl, ?_⟩; intro w hSw; (try dsimp only at hSw); obtain ⟨u1, u2⟩ := hSw; go_simp <;> (try with_reducible rfl))
            try simp only [Act.put, List.setIfInBounds_toArray, List.set_cons_zero, List.set_cons_succ]
            refine wpAnyH_take (i := 1) (oi := ?oc2o) (v := ?oc2v) ?oc2h (by kernel_rfl) (by kernel_rfl) (by kernel_rfl) ?oc2q ?oc2y hHeld ?oc2r
            case oc2h => (simp only [List.getElem?_toArray, List.getElem?_cons_succ, List.getElem?_cons_zero]; rfl)
            case oc2q => exact fun _ _ _ h => h
            case oc2y => (refine Or.inl ⟨by first | kernel_rfl | rfl, ?_⟩; intro w hSw; (try dsimp only at hSw); obtain ⟨u1, u2⟩ := hSw; go_simp <;> (try with_reducible rfl))
            try simp only [Act.put, List.setIfInBounds_toArray, List.set_cons_zero, List.set_cons_succ]
            refine wpAnyH_take (i := 2) (oi := ?oc3o) (v := ?oc3v) ?oc3h (by kernel_rfl) (by kernel_rfl) (by kernel_rfl) ?oc3q ?oc3y hHeld ?oc3r
            case oc3h => (simp only [List.getElem?_toArray, List.getElem?_cons_succ, List.getElem?_cons_zero]; rfl)
            case oc3q => exact fun _ _ _ h => h
            case oc3y => (refine Or.inl ⟨by first | kernel_rfl | rfl, ?_⟩; intro w hSw; (try dsimp only at hSw); obtain ⟨u1, u2⟩ := hSw; go_simp <;> (try with_reducible rfl))
            try simp only [Act.put, List.setIfInBounds_toArray, List.set_cons_zero, List.set_cons_succ]
            refine wpAnyH_take (i := 3) (oi := ?oc4o) (v := ?oc4v) ?oc4h (by kernel_rfl) (by kernel_rfl) (by kernel_rfl) ?oc4q ?oc4y hHeld ?oc4r
            case oc4h => (simp only [List.getElem?_toArray, List.getElem?_cons_succ, List.getElem?_cons_zero]; rfl)
            case oc4q => exact fun _ _ _ h => h
            case oc4y => (refine Or.inl ⟨by first | kernel_rfl | rfl, ?_⟩; intro w hSw; (try dsimp only at hSw); obtain ⟨u1, u2⟩ := hSw; go_simp <;> (try with_reducible rfl))
            try simp only [Act.put, List.setIfInBounds_toArray, List.set_cons_zero, List.set_cons_succ]
            refine wpAnyH_take (i := 4) (oi := ?oc5o) (v := ?oc5v) ?oc5h (by kernel_rfl) (by kernel_rfl) (by kernel_rfl) ?oc5q ?oc5y hHeld ?oc5r
            case oc5h => (simp only [List.getElem?_toArray, List.getElem?_cons_succ, List.getElem?_cons_zero]; rfl)
            case oc5q => exact fun _ _ _ h => h
            case oc5y => (refine Or.inl ⟨by first | kernel_rfl | rfl, ?_⟩; intro w hSw; (try dsimp only at hSw); obtain ⟨u1, u2⟩ := hSw; go_simp <;> (try with_reducible rfl))
            try simp only [Act.put, List.setIfInBounds_toArray, List.set_cons_zero, List.set_cons_succ]
            refine wpAnyH_ready (rs := [5]) (by kernel_rfl) (by simp) ?_
            refine (AllReadyH.cons rfl (fun K hK => ?_) AllReadyH.nil)
            go_simp
            (go_at_call 57; (with_reducible refine (syncdir_dir HLe.out.at_.dir).mono ?_); rw [HD8.out]; rintro _ w8 ⟨L8, rfl, hW8, hD8⟩; (have HT8 := Lib.hid ((WWent.below HL7.out.at_ (Below.refl _ w7).drew).trans (WWent.dir HLe.out.at_ hW8 hD8))); (have HL8 := Lib.hid (HL7.out.next HT8.out)); (have HU8 := Lib.hid (HU7.out.trans HT8.out)); clear hW8 hD8)
            refine hK.out _ _ (⟨cell_of (box_went HL7.out.at_ HT8.out HB7.out (by decide) (by decide) (by decide) (by decide) (by decide) HV7.out), HL8.out.at_.cells.c0⟩) (fun hHeld => ?_)
            clear hK K
            try simp only [Act.put, List.setIfInBounds_toArray, List.set_cons_zero, List.set_cons_succ]
            refine wpAnyH_ready (rs := [6]) (by kernel_rfl) (by simp) ?_
            refine (AllReadyH.cons rfl (fun K hK => ?_) AllReadyH.nil)
            go_simp
            (go_at_call 56; (with_reducible refine (told_is HL8.out.at_ e8).mono ?_); rintro _ w9 ⟨rfl, hW9⟩; (have HT9 := Lib.hid (HT8.out.trans hW9)); (have HU9 := Lib.hid (HU8.out.trans hW9)); clear hW9)
            refine hK.out _ _ (⟨cell_of (box_went HL7.out.at_ HT9.out HB7.out (by decide) (by decide) (by decide) (by decide) (by decide) HV7.out), HT9.out.at_.cells.c0⟩) (fun hHeld => ?_)
            clear hK K
            try simp only [Act.put, List.setIfInBounds_toArray, List.set_cons_zero, List.set_cons_succ]
            refine wpAnyH_take (i := 7) (oi := ?oc6o) (v := ?oc6v) ?oc6h (by kernel_rfl) (by kernel_rfl) (by kernel_rfl) ?oc6q ?oc6y hHeld ?oc6r
            case oc6h => (simp only [List.getElem?_toArray, List.getElem?_cons_succ, List.getElem?_cons_zero]; rfl)
            case oc6q => exact fun _ _ _ h => h
            case oc6y => (refine Or.inl ⟨by first | kernel_rfl | rfl, ?_⟩; intro w hSw; (try dsimp only at hSw); obtain ⟨u1, u2⟩ := hSw; go_simp <;> (try with_reducible rfl))
            try simp only [Act.put, List.setIfInBounds_toArray, List.set_cons_zero, List.set_cons_succ]
            refine wpAnyH_done (by kernel_rfl) ?_ _
            go_wp2
            go_ret
            exact ⟨q, HQ.out, L8, v7, by rw [HR7.out, HD8.out]; rfl, by rw [HR7.out, HD8.out]; exact HU9.out⟩
          · have hR7 : ckptW S W st q = (e7, S7, W7) := by rw [HR3.out, HM7.out]; unfold ckpt4; rw [if_pos he7]
            have hne : (e7 != 0) = true := by simpa using he7
            have HR7 := Lib.hid hR7
            clear he7 hR7
            go_wp2
            go_ret
            exact ⟨q, HQ.out, L7, v7, by rw [HR7.out]; rfl, by rw [HR7.out]; exact HU7.out⟩
        · have hR3 : ckptW S W st q = (e3, S3, W3) := by rw [HR2.out, HBB.out]; unfold ckpt2; rw [if_pos he3]
          have hne : (e3 != 0) = true := by simpa using he3
          have HR3 := Lib.hid hR3
          clear he3 hR3 c22
          go_wp2
          go_ret
          exact ⟨q, HQ.out, L3, v3, by rw [HR3.out]; rfl, by rw [HR3.out]; exact HU3.out⟩
      · have hne : (z != 0) = true := by simpa using hz0
        have HR := Lib.hid (fun q => (hR1 q).trans (if_pos hz0))
        clear hz0 hok hR1
        go_enter Tryz.func22, Tryz.ntmps22
        go_upto_region 1 with fail
        simp only [HW0.out, HP2.out]
        go_wp2_with (first
          | (go_at_call 50; (with_reducible refine kr.mono ?_); rintro _ w1 ⟨rfl, rfl⟩; clear kr)
          | (go_at_call 51; (with_reducible refine ks.mono ?_); rintro _ w2 ⟨L2, v2, rfl, hW2⟩; (have HW2 := Lib.hid (HW1.out.trans hW2)); clear hW2 ks))
        go_ret
        exact ⟨w.heap.size, Nat.le_refl _, L2, v2, by rw [HR.out]; rfl, by rw [HR.out]; exact HW2.out⟩
end
end Go.Proofs.YteijmjbiaffcmaaGreatDoor
