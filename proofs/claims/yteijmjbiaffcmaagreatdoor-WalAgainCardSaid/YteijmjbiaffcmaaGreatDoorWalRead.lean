/- The contract of a log's read. -/
import Derived.Test.YteijmjbiaffcmaaGreatDoorWalC
import Derived.Deep.RegionHeld
import Derived.Deep.CutRange
import Derived.Deep.CutBlock
set_option maxRecDepth 20000
set_option linter.unusedSimpArgs false
set_option linter.unusedVariables false
namespace Go.Proofs.YteijmjbiaffcmaaGreatDoor
open Go.RowKit Go.Maps Go.Shelf Go.Proofs.YteijmjbiaffcmaaGreatDoor.Vi Go.Proofs.YteijmjbiaffcmaaGreatDoor.Crc Go.Proofs.YteijmjbiaffcmaaGreatDoor.Fr Go.Proofs.YteijmjbiaffcmaaGreatDoor.Fi

theorem get_at (s : List UInt8) (k : Nat) (hk : k ≤ s.length) (body : ByteArray) (w : World) (hs : s.length ≤ 1000000) (GL : Glob w) (g : Fr.G) (hg : Hid (getF (s.drop k) = g)) (hb : Hid (tx g.body = body)) :
    Calls Tryz.prog 97 #[.string (tx s), .int .i64 (k : Int)] w (FDone body ((k + g.len : Nat) : Int) (g.w : Int) w) := by
  have e := getG_at s k hk
  rw [hg.out] at e
  exact get_g s (k : Int) body _ _ w (by omega) (by omega) GL.tab (Lib.hid (by rw [e]; exact hb.out)) (Lib.hid (by rw [e])) (Lib.hid (by rw [e]))
theorem kept_went {w : World} {b a : Nat} {S : FS} {L : Lay} {W : WS} {v : Value} (h : WalAt w b S L a W v) (f : Int) (st : ByteArray) :
    WWent w (((w.setCell ⟨a, 3, none⟩ (.int .i64 f)).setCell ⟨a, 2, none⟩ (.string st)).setCell ⟨a, 4, none⟩ (.slice none 0 0)).drew b S S L L a W { W with fi := f, st := st, rc := [] } v (.slice none 0 0) := by
  have h1 : WWent w (w.setCell ⟨a, 3, none⟩ (.int .i64 f)) b S S L L a W { W with fi := f } v v := WWent.set h _ 3 _ rfl rfl
  have h2 : WWent _ ((w.setCell ⟨a, 3, none⟩ (.int .i64 f)).setCell ⟨a, 2, none⟩ (.string st)) b S S L L a { W with fi := f } { W with fi := f, st := st } v v := WWent.set h1.at_ _ 2 _ rfl rfl
  have h3 := WWent.recs (v' := .slice none 0 0) h2.at_ (Rec.nil _) ⟨rfl, rfl, rfl, Nat.le_refl _, fun _ _ _ => rfl⟩ (fun _ _ _ e => e) (Or.inr (Or.inl rfl))
  exact ((h1.trans h2).trans h3).trans (WWent.below h3.at_ (Below.refl _ _).drew)
theorem rec_cell {w w' : World} {b a : Nat} {S : FS} {L : Lay} {W : WS} {v : Value} (h : WalAt w b S L a W v) (hg : w.grownBy w' v.ownBlock) : w'.heap[a]? = some (.cells (walV b W v) 60) :=
  (hg.block a (some_lt h.cell) fun e => by
    obtain ⟨c, e1⟩ := h.rcs.heap e.symm
    rw [h.cell] at e1
    injection e1 with e1
    injection e1 with _ e1
    revert e1; decide).trans h.cell
theorem ws_nil (Q : WS) : { Q with rc := Q.rc ++ txL [] } = Q := by cases Q; simp [txL]
theorem ws_snoc (Q : WS) (xs : List (List UInt8)) (x : List UInt8) : { ({ Q with rc := Q.rc ++ txL xs } : WS) with rc := ({ Q with rc := Q.rc ++ txL xs } : WS).rc ++ [tx x] } = { Q with rc := Q.rc ++ txL (xs ++ [x]) } := by simp [txL]
set_option maxHeartbeats 16000000 in
theorem read_is2 {B b a : Nat} {S : FS} {L : Lay} {W : WS} {v : Value} (w : World) (h : Log B w b S L a W v) (hf : ReadOk W 0 (0, W)) (hsg : 0 ≤ W.sg ∧ W.sg ≤ 100000000) (hT : ∀ n, (textS S n).size ≤ 1000000) :
    Calls Tryz.prog 69 #[.pointer (some ⟨a, 0, none⟩)] w fun e w' => ∃ v', e = .returned (.int .i64 ((readN (textS S) (numsS S) W).1 : Int)) ∧ WWent w w' b S S L L a W (readN (textS S) (numsS S) W).2 v v' := by
  have HT := Lib.hid hT
  have H := Lib.hid h
  have c0 := h.at_.cells.c0
  have kn := numbers_is w h.at_.dir h.glob
  have hn64 : (numsS S).length ≤ 64 := by
    unfold numsS numsL
    have h1 := List.length_filterMap_le numN (S.now.map (·.1))
    rw [List.length_map] at h1
    have := h.at_.dir.whole.sane.len
    omega
  have HIN := Lib.hid (fun n (hn : n ∈ numsS S) => numsS_in hn)
  obtain ⟨l, hl⟩ : ∃ l, numsS S = l := ⟨_, rfl⟩
  rw [hl] at kn hn64 HIN
  rw [hl]
  have HF := Lib.hid hf
  clear h hl hT hf
  go_enter Tryz.func69, Tryz.ntmps69
  go_wp2
  go_step3
  go_wp2
  go_step3
  go_wp2_with (go_at_call 67; (with_reducible refine kn.mono ?_); rintro _ w1 ⟨vn, rfl, hI, hB1⟩; (obtain ⟨an, cn, rfl⟩ := hI.slice); (have HI1 := Lib.hid hI); (have HB1 := Lib.hid hB1); clear hI hB1 kn)
  obtain ⟨n, hn⟩ : ∃ n, l.length = n := ⟨_, rfl⟩
  have hil : (intsN l).length = n := by unfold intsN; rw [List.length_map]; exact hn
  simp only [hil]
  rw [hn] at hn64
  have HLN := Lib.hid hn
  have HI2 : Hid (IRow w1 w.heap.size (.slice an n cn) (intsN l)) := Lib.hid (by rw [← hil]; exact HI1.out)
  have HW1 := Lib.hid (WWent.below H.out.at_ HB1.out)
  clear hn hil HI1 c0
  go_loopg [3, 22] n (fun g bv ii wr => ∃ (i : Nat) (v' : Value), i + g = n ∧ ii = .int .i64 (i : Int) ∧ bv = .int .i64 ((readN (textS S) (l.take i) W).1 : Int) ∧ WWent w wr b S S L L a W (readN (textS S) (l.take i) W).2 v v' ∧ ReadOk W i (readN (textS S) (l.take i) W) ∧ IRow wr w.heap.size (.slice an n cn) (intsN l))
  case atStart => exact ⟨0, v, by omega, rfl, rfl, HW1.out, HF.out, HI2.out⟩
  case round =>
    obtain ⟨i, v1, hi, rfl, rfl, hW, hok, hI⟩ := hrel
    have HW := Lib.hid hW
    have HI := Lib.hid hI
    have HOK := Lib.hid hok
    have HLG := Lib.hid (H.out.next hW)
    clear hW hI hok HI2 HW1
    cases gk with
    | zero =>
      obtain rfl : i = n := by omega
      have hlt : ¬ (i : Int) < (i : Int) := by omega
      have hli := HLN.out
      subst hli
      go_wp2
      go_ret
      have hW := HW.out
      rw [List.take_length] at hW
      exact ⟨_, rfl, hW⟩
    | succ g =>
      have hlt : (i : Int) < (n : Int) := by omega
      have hil : i < l.length := by rw [HLN.out]; omega
      have hsn := readN_snoc (textS S) l W i hil
      have hin := HIN.out _ (List.getElem_mem hil)
      have hT := HT.out l[i]
      have hok := HOK.out
      have hok2 := hok.step (textS S) l[i] hin.2 hT
      obtain ⟨gn, rfl, -, -, hcn⟩ := HI.out.cell (by unfold intsN; rw [List.length_map]; omega)
      have hci := hcn i (by unfold intsN; rw [List.length_map]; exact hil)
      have hxi : (intsN l)[i]'(by unfold intsN; rw [List.length_map]; exact hil) = ((l[i] : Nat) : Int) := by unfold intsN; rw [List.getElem_map]
      rw [hxi] at hci
      obtain ⟨⟨bg, W1⟩, hacc⟩ : ∃ x, readN (textS S) (l.take i) W = x := ⟨_, rfl⟩
      have hWW := HW.out
      have hLG := HLG.out
      rw [hacc] at hsn hok hok2 hWW hLG
      rw [hacc]
      obtain ⟨x, hx⟩ : ∃ x, l[i] = x := ⟨_, rfl⟩
      rw [hx] at hsn hin hT hok2 hci
      rw [← hsn] at hok2
      have HSN := Lib.hid hsn
      have HOK2 := Lib.hid hok2
      have HWW := Lib.hid hWW
      have HLG2 := Lib.hid hLG
      have hbg := hok.beg
      dsimp only at hbg hWW hLG hok
      have hiw : IntKind.i64.wrap ((i : Int) + 1) = (i : Int) + 1 := by rw [IntKind.wrap_i64]; omega
      obtain ⟨tb, htb⟩ : ∃ tb, textS S x = tb := ⟨_, rfl⟩
      rw [htb] at hT
      unfold stepR at hsn
      rw [htb] at hsn
      obtain ⟨s, hs⟩ : ∃ s, tb.data.toList = s := ⟨_, rfl⟩
      have htx : tx s = tb := by rw [← hs, tx_list]
      rw [hs] at hsn
      have hsl : s.length ≤ 1000000 := by rw [← hs]; simpa using hT
      obtain ⟨G0, hG0⟩ : ∃ G0, getF s = G0 := ⟨_, rfl⟩
      rw [hG0] at hsn
      have hG0l : G0.len ≤ s.length ∧ G0.body.length ≤ 70000 := by
        rw [← hG0]
        by_cases hw : (getF s).w = 0
        · have q1 := getF_len hw
          have q2 := (getF_is hw).1
          exact ⟨q1.2, q2⟩
        · have q := getF_not hw
          rw [q.1, q.2]; simp
      obtain ⟨bd, hbd⟩ : ∃ bd, tx G0.body = bd := ⟨_, rfl⟩
      rw [hbd] at hsn
      have hbds : bd.size ≤ 70000 := by rw [← hbd, tx_size]; exact hG0l.2
      obtain ⟨⟨f, k, st, o⟩, hhd⟩ : ∃ q, hdQ bd = q := ⟨_, rfl⟩
      rw [hhd] at hsn
      dsimp only at hsn
      have ksg := fun w G => segment_is (x : Int) (tx (seg x)) w (by omega) (by omega) G (Lib.hid (by rw [segI_nat hin]))
      have krd := fun (W : World) (lw : Dir W b S L) => Fi.read_is b S L (tx (seg x)) W lw.at_ lw.whole.sane (by rw [tx_size, seg_len]; unfold maxLen; omega)
      obtain ⟨er, her⟩ : ∃ er, (readS S (tx (seg x))).2 = er := ⟨_, rfl⟩
      rw [show (readS S (tx (seg x))).1 = tb from htb, her, ← htx] at krd
      have kg0 : ∀ w, Glob w → Calls Tryz.prog 97 #[.string (tx s), .int .i64 0] w (FDone bd (G0.len : Int) (G0.w : Int) w) := fun w G => by
        have := get_at s 0 (Nat.zero_le _) bd w hsl G G0 (Lib.hid (by rw [List.drop_zero]; exact hG0)) (Lib.hid hbd)
        rw [Nat.zero_add] at this
        exact this
      have khd := fun w => headerOf_is bd f k st o w hbds (Lib.hid hhd)
      have HD1 := Lib.hid hLG
      obtain ⟨ad, had⟩ : ∃ ad, tx (seg x) = ad := ⟨_, rfl⟩
      rw [had] at ksg krd
      have c0 := hLG.at_.cells.c0
      obtain ⟨m0, hm0⟩ : ∃ m0, G0.len = m0 := ⟨_, rfl⟩
      rw [hm0] at kg0 hsn hG0l
      obtain ⟨wz, hwz⟩ : ∃ wz, G0.w = wz := ⟨_, rfl⟩
      rw [hwz] at kg0
      have HG0 := Lib.hid hG0
      clear hs hx hxi hacc hG0 hbd hhd her had htb hcn hT hm0 hwz htx hLG hWW
      go_upto_region 5 with fail
      refine wp_region_held_drew (S := (fun W => W.cell? ⟨a, 0, none⟩ = some (.pointer (some ⟨b, 0, none⟩)) ∧ Below wr.heap.size wr W)) (by kernel_rfl) ⟨c0, (Below.refl _ _).drew⟩ (fun hHeld => ?_)
      refine wpAnyH_take (i := 0) (oi := ?oa1o) (v := ?oa1v) ?oa1h (by kernel_rfl) (by kernel_rfl) (by kernel_rfl) ?oa1q ?oa1y hHeld ?oa1r
      case oa1h => (simp only [List.getElem?_toArray, List.getElem?_cons_zero]; rfl)
      case oa1q => exact fun _ _ _ h => h
      case oa1y => (refine Or.inl ⟨by first | kernel_rfl | rfl, ?_⟩; intro w hSw; (try dsimp only at hSw); obtain ⟨z1, z2⟩ := hSw; go_simp <;> (try with_reducible rfl))
      try simp only [Act.put, List.setIfInBounds_toArray, List.set_cons_zero, List.set_cons_succ]
      refine wpAnyH_take (i := 1) (oi := ?oa2o) (v := ?oa2v) ?oa2h (by kernel_rfl) (by kernel_rfl) (by kernel_rfl) ?oa2q ?oa2y hHeld ?oa2r
      case oa2h => (simp only [List.getElem?_toArray, List.getElem?_cons_succ, List.getElem?_cons_zero]; rfl)
      case oa2q => exact fun _ _ _ h => h
      case oa2y => (refine Or.inl ⟨by first | kernel_rfl | rfl, ?_⟩; intro w hSw; (try dsimp only at hSw); obtain ⟨z1, z2⟩ := hSw; go_simp <;> (try with_reducible rfl))
      try simp only [Act.put, List.setIfInBounds_toArray, List.set_cons_zero, List.set_cons_succ]
      refine wpAnyH_take (i := 2) (oi := ?oa3o) (v := ?oa3v) ?oa3h (by kernel_rfl) (by kernel_rfl) (by kernel_rfl) ?oa3q ?oa3y hHeld ?oa3r
      case oa3h => (simp only [List.getElem?_toArray, List.getElem?_cons_succ, List.getElem?_cons_zero]; rfl)
      case oa3q => exact fun _ _ _ h => h
      case oa3y => (refine Or.inl ⟨by first | kernel_rfl | rfl, ?_⟩; intro w hSw; (try dsimp only at hSw); obtain ⟨z1, z2⟩ := hSw; go_simp <;> (try with_reducible rfl))
      try simp only [Act.put, List.setIfInBounds_toArray, List.set_cons_zero, List.set_cons_succ]
      refine wpAnyH_take (i := 3) (oi := ?oa4o) (v := ?oa4v) ?oa4h (by kernel_rfl) (by kernel_rfl) (by kernel_rfl) ?oa4q ?oa4y hHeld ?oa4r
      case oa4h => (simp only [List.getElem?_toArray, List.getElem?_cons_succ, List.getElem?_cons_zero]; rfl)
      case oa4q => exact fun _ _ _ h => h
      case oa4y => (refine Or.inl ⟨by first | kernel_rfl | rfl, ?_⟩; intro w hSw; (try dsimp only at hSw); obtain ⟨z1, z2⟩ := hSw; go_simp <;> (try with_reducible rfl))
      try simp only [Act.put, List.setIfInBounds_toArray, List.set_cons_zero, List.set_cons_succ]
      refine wpAnyH_take (i := 4) (oi := ?oa5o) (v := ?oa5v) ?oa5h (by kernel_rfl) (by kernel_rfl) (by kernel_rfl) ?oa5q ?oa5y hHeld ?oa5r
      case oa5h => (simp only [List.getElem?_toArray, List.getElem?_cons_succ, List.getElem?_cons_zero]; rfl)
      case oa5q => exact fun _ _ _ h => h
      case oa5y => (refine Or.inl ⟨by first | kernel_rfl | rfl, ?_⟩; intro w hSw; (try dsimp only at hSw); obtain ⟨z1, z2⟩ := hSw; go_simp <;> (try with_reducible rfl))
      try simp only [Act.put, List.setIfInBounds_toArray, List.set_cons_zero, List.set_cons_succ]
      refine wpAnyH_ready (rs := [5]) (by kernel_rfl) (by simp) ?_
      refine (AllReadyH.cons rfl (fun K hK => ?_) AllReadyH.nil)
      go_simp
      (go_at_call 13; (with_reducible refine (ksg _ ((HD1.out.below hHeld.2).glob)).mono ?_); rintro _ w2 ⟨rfl, hB2⟩; (have HB2 := Lib.hid (bel_next hHeld.2 hB2)); clear ksg hB2)
      refine hK.out _ _ (⟨(HD1.out.below HB2.out).at_.cells.c0, HB2.out⟩) (fun hHeld => ?_)
      clear hK K
      try simp only [Act.put, List.setIfInBounds_toArray, List.set_cons_zero, List.set_cons_succ]
      refine wpAnyH_ready (rs := [6]) (by kernel_rfl) (by simp) ?_
      refine (AllReadyH.cons rfl (fun K hK => ?_) AllReadyH.nil)
      go_simp
      (go_at_call 34; (with_reducible refine (krd _ (HD1.out.below hHeld.2).at_.dir).mono ?_); rintro _ w3 ⟨rfl, hB3⟩; (have HB3 := Lib.hid (bel_next hHeld.2 hB3)); clear krd hB3)
      refine hK.out _ _ (⟨(HD1.out.below HB3.out).at_.cells.c0, HB3.out⟩) (fun hHeld => ?_)
      clear hK K
      try simp only [Act.put, List.setIfInBounds_toArray, List.set_cons_zero, List.set_cons_succ]
      refine wpAnyH_take (i := 7) (oi := ?oa6o) (v := ?oa6v) ?oa6h (by kernel_rfl) (by kernel_rfl) (by kernel_rfl) ?oa6q ?oa6y hHeld ?oa6r
      case oa6h => (simp only [List.getElem?_toArray, List.getElem?_cons_succ, List.getElem?_cons_zero]; rfl)
      case oa6q => exact fun _ _ _ h => h
      case oa6y => (refine Or.inl ⟨by first | kernel_rfl | rfl, ?_⟩; intro w hSw; (try dsimp only at hSw); obtain ⟨z1, z2⟩ := hSw; go_simp <;> (try with_reducible rfl))
      try simp only [Act.put, List.setIfInBounds_toArray, List.set_cons_zero, List.set_cons_succ]
      refine wpAnyH_take (i := 8) (oi := ?oa7o) (v := ?oa7v) ?oa7h (by kernel_rfl) (by kernel_rfl) (by kernel_rfl) ?oa7q ?oa7y hHeld ?oa7r
      case oa7h => (simp only [List.getElem?_toArray, List.getElem?_cons_succ, List.getElem?_cons_zero]; rfl)
      case oa7q => exact fun _ _ _ h => h
      case oa7y => (refine Or.inl ⟨by first | kernel_rfl | rfl, ?_⟩; intro w hSw; (try dsimp only at hSw); obtain ⟨z1, z2⟩ := hSw; go_simp <;> (try with_reducible rfl))
      try simp only [Act.put, List.setIfInBounds_toArray, List.set_cons_zero, List.set_cons_succ]
      refine wpAnyH_take (i := 9) (oi := ?oa8o) (v := ?oa8v) ?oa8h (by kernel_rfl) (by kernel_rfl) (by kernel_rfl) ?oa8q ?oa8y hHeld ?oa8r
      case oa8h => (simp only [List.getElem?_toArray, List.getElem?_cons_succ, List.getElem?_cons_zero]; rfl)
      case oa8q => exact fun _ _ _ h => h
      case oa8y => (refine Or.inl ⟨by first | kernel_rfl | rfl, ?_⟩; intro w hSw; (try dsimp only at hSw); obtain ⟨z1, z2⟩ := hSw; go_simp <;> (try with_reducible rfl))
      try simp only [Act.put, List.setIfInBounds_toArray, List.set_cons_zero, List.set_cons_succ]
      refine wpAnyH_take (i := 10) (oi := ?oa9o) (v := ?oa9v) ?oa9h (by kernel_rfl) (by kernel_rfl) (by kernel_rfl) ?oa9q ?oa9y hHeld ?oa9r
      case oa9h => (simp only [List.getElem?_toArray, List.getElem?_cons_succ, List.getElem?_cons_zero]; rfl)
      case oa9q => exact fun _ _ _ h => h
      case oa9y => (refine Or.inl ⟨by first | kernel_rfl | rfl, ?_⟩; intro w hSw; (try dsimp only at hSw); obtain ⟨z1, z2⟩ := hSw; go_simp <;> (try with_reducible rfl))
      try simp only [Act.put, List.setIfInBounds_toArray, List.set_cons_zero, List.set_cons_succ]
      refine wpAnyH_take (i := 11) (oi := ?oa10o) (v := ?oa10v) ?oa10h (by kernel_rfl) (by kernel_rfl) (by kernel_rfl) ?oa10q ?oa10y hHeld ?oa10r
      case oa10h => (simp only [List.getElem?_toArray, List.getElem?_cons_succ, List.getElem?_cons_zero]; rfl)
      case oa10q => exact fun _ _ _ h => h
      case oa10y => (refine Or.inl ⟨by first | kernel_rfl | rfl, ?_⟩; intro w hSw; (try dsimp only at hSw); obtain ⟨z1, z2⟩ := hSw; go_simp <;> (try with_reducible rfl))
      try simp only [Act.put, List.setIfInBounds_toArray, List.set_cons_zero, List.set_cons_succ]
      refine wpAnyH_done (by kernel_rfl) ?_ _
      go_upto_block 2 with (first
        | (go_at_call 97; (with_reducible refine (kg0 _ ((HD1.out.below HB3.out).glob)).mono ?_); rintro _ w4 ⟨rfl, hB4⟩; (have HB4 := Lib.hid (bel_next HB3.out hB4)); clear kg0 hB4)
        | (go_at_call 98; (with_reducible refine (khd _).mono ?_); rintro _ w5 ⟨rfl, hB5⟩; (have HB5 := Lib.hid (bel_next HB4.out hB5)); clear khd hB5))
      have hd6 := heap_alloc_new w5 (.cells #[.int .i64 f, .bool k, .string st] 71)
      have HB6 := Lib.hid (bel_next HB5.out (bel_al w5 (.cells #[.int .i64 f, .bool k, .string st] 71)))
      obtain ⟨dd, hdd⟩ : ∃ dd, w5.heap.size = dd := ⟨_, rfl⟩
      rw [hdd] at hd6
      simp only [hdd]
      obtain ⟨W6, hW6⟩ : ∃ x, w5.alloc (.cells #[.int .i64 f, .bool k, .string st] 71) = x := ⟨_, rfl⟩
      rw [hW6] at hd6 HB6
      simp only [hW6]
      clear hdd hW6 HB2 HB3 HB4 HB5 hHeld
      have HL6 := Lib.hid (HD1.out.below HB6.out)
      have HI6 := Lib.hid (HI.out.later HB6.out)
      have HWT := Lib.hid (HWW.out.trans (WWent.below HD1.out.at_ HB6.out))
      have q0 : W6.cell? ⟨dd, 0, none⟩ = some (.int .i64 f) := cell_of hd6
      have q1 : W6.cell? ⟨dd, 1, none⟩ = some (.bool k) := cell_of hd6
      have q2 : W6.cell? ⟨dd, 2, none⟩ = some (.string st) := cell_of hd6
      clear HB6 HI HWW HD1 c0
      cases o with
      | false =>
        rw [if_pos rfl] at hsn
        have HSN := Lib.hid hsn
        clear hsn q0 q1 q2
        go_wp2
        go_roundg g
        case measure => omega
        case rel => exact ⟨i + 1, v1, by omega, by go_num, (by rw [HSN.out]), (by rw [HSN.out]; exact HWT.out), HOK2.out, HI6.out⟩
      | true =>
        rw [if_neg (by decide)] at hsn
        cases k with
        | true =>
          rw [if_pos rfl] at hsn
          have HSN := Lib.hid hsn
          clear hsn
          have fr2 := HL6.out.at_.free 2
          have fr3 := HL6.out.at_.free 3
          have fr4 := HL6.out.at_.free 4
          obtain ⟨-, -, e2, e3, e4, -, -⟩ := HL6.out.at_.cells
          go_wp2
          go_region
          go_wp2
          have HW7 := Lib.hid (kept_went HL6.out.at_ f st)
          obtain ⟨w7, hw7⟩ : ∃ x, (((W6.setCell ⟨a, 3, none⟩ (.int .i64 f)).setCell ⟨a, 2, none⟩ (.string st)).setCell ⟨a, 4, none⟩ (.slice none 0 0)).drew = x := ⟨_, rfl⟩
          rw [hw7] at HW7 ⊢
          obtain ⟨Q, hQ⟩ : ∃ Q : WS, { W1 with fi := f, st := st, rc := [] } = Q := ⟨_, rfl⟩
          rw [hQ] at HW7
          obtain ⟨v7, hv7⟩ : ∃ v7 : Value, Value.slice none 0 0 = v7 := ⟨_, rfl⟩
          rw [hv7] at HW7
          have HT7 := Lib.hid (HWT.out.trans HW7.out)
          have HL7 := Lib.hid (HL6.out.next HW7.out)
          have HI7 := Lib.hid (irow_frm HI6.out HL6.out.at_ HW7.out.frm)
          have HQN : Hid (readN (textS S) (l.take (i + 1)) W = (x, { Q with rc := Q.rc ++ txL (Fr.scan (s.drop m0)).1 })) := Lib.hid (by rw [HSN.out, ← hQ]; rfl)
          have hqb : Q.rc.length ≤ 1000000 * i := by rw [← hQ]; exact Nat.zero_le _
          clear hw7 hQ hv7 e2 e3 e4 fr2 fr3 fr4 q0 q1 q2
          obtain ⟨tl, htl⟩ : ∃ tl, s.drop m0 = tl := ⟨_, rfl⟩
          have htll : tl.length = s.length - m0 := by rw [← htl, List.length_drop]
          have hm0s := hG0l.1
          rw [htl] at HQN
          obtain ⟨K, hK⟩ : ∃ K : Nat, s.length - m0 = K := ⟨_, rfl⟩
          rw [hK] at htll
          have HQB := Lib.hid hqb
          clear hqb
          go_wp2
          go_loopg [9] K (fun g av wn => ∃ (p j : Nat) (xs : List (List UInt8)) (v2 : Value), p = m0 + j ∧ g + j = K ∧ av = .int .i64 (p : Int) ∧ Upto tl j xs ∧ WWent w7 wn b S S L L a Q { Q with rc := Q.rc ++ txL xs } v7 v2)
          case atStart => exact ⟨m0, 0, [], v7, rfl, by omega, rfl, Upto.zero _, (by rw [ws_nil]; exact WWent.refl HL7.out.at_)⟩
          case round =>
            obtain ⟨p, j, xs, v2, hp, hj, rfl, hU, hW8⟩ := hrel
            obtain ⟨Q2, hQ2⟩ : ∃ Q2 : WS, { Q with rc := Q.rc ++ txL xs } = Q2 := ⟨_, rfl⟩
            have hnl : Q2.rc.length = Q.rc.length + xs.length := by rw [← hQ2]; show (Q.rc ++ txL xs).length = _; rw [List.length_append, txL_length]
            rw [hQ2] at hW8
            have HQ2 := Lib.hid hQ2
            clear hQ2
            have HU := Lib.hid hU
            have hj1 := hU.1
            have hxs := hU.2.1
            have HL8 := Lib.hid (HL7.out.next hW8)
            obtain ⟨va, vc, hv2⟩ := HL8.out.at_.rcs.slice
            obtain ⟨nn, hnn⟩ : ∃ nn, Q2.rc.length = nn := ⟨_, rfl⟩
            rw [hnn] at hv2 hnl
            subst hv2
            have HNN := Lib.hid hnn
            clear hnn
            have HW8 := Lib.hid hW8
            clear hW8 hU
            obtain ⟨g2, hg2⟩ : ∃ g2, getF (s.drop p) = g2 := ⟨_, rfl⟩
            obtain ⟨bd2, hbd2⟩ : ∃ q, tx g2.body = q := ⟨_, rfl⟩
            have kg := fun w GL => get_at s p (by omega) bd2 w hsl GL g2 (Lib.hid hg2) (Lib.hid hbd2)
            have hg3 : getF (tl.drop j) = g2 := by rw [← htl, List.drop_drop, ← hp]; exact hg2
            obtain ⟨p2, hp2⟩ : ∃ p2 : Nat, p + g2.len = p2 := ⟨_, rfl⟩
            rw [hp2] at kg
            have hqb := HQB.out
            have HP := Lib.hid (And.intro hp hp2)
            clear hp hp2
            by_cases hw0 : g2.w = 0
            · rw [hw0] at kg
              have kg2 : ∀ w, Glob w → Calls Tryz.prog 97 #[.string (tx s), .int .i64 (p : Int)] w (FDone bd2 (p2 : Int) 0 w) := kg
              have hl0 := getF_len (s := tl.drop j) (by rw [hg3]; exact hw0)
              rw [hg3, List.length_drop] at hl0
              have hstep := HU.out.step (by rw [hg3]; exact hw0)
              rw [hg3] at hstep
              have HU2 := Lib.hid hstep
              have HBD := Lib.hid hbd2
              have HCNT := Lib.hid (show Q2.rc.length ≤ 100000000 by rw [HNN.out]; omega)
              clear kg hw0 hbd2 hstep hnl
              go_wp2_with (first
                | (go_at_call 97; (with_reducible refine (kg2 _ HL8.out.glob).mono ?_); rintro _ w9 ⟨rfl, hB9⟩; (have HL9 := Lib.hid (HL8.out.below hB9)); (have HW9 := Lib.hid (HW8.out.trans (WWent.below HL8.out.at_ hB9))); (obtain ⟨-, -, -, -, e4, -, -⟩ := HL9.out.at_.cells); clear kg2 hB9)
                | (at_builtin; refine wpList_rec rfl _ _ rfl (.slice va nn vc) _ rfl bd2 rfl HL9.out.at_.rcs HCNT.out ?_))
              intro v3 w10 hR hgr h1 hsp
              have hca := rec_cell HL9.out.at_ hgr
              have HW10 := Lib.hid (HW9.out.trans (WWent.recs HL9.out.at_ hR hgr h1 (hsp.imp id Or.inr)))
              have e4' : w10.cell? ⟨a, 4, none⟩ = some (.slice va nn vc) := cell_of hca
              have f4' : w10.frozen? ⟨a, 4, none⟩ = false := frozen_of hca
              obtain ⟨a3, d3, rfl⟩ := hR.slice
              clear hca hR hgr h1 hsp
              obtain ⟨n3, hn3⟩ : ∃ n3, (Q2.rc ++ [bd2]).length = n3 := ⟨_, rfl⟩
              rw [hn3] at HW10 ⊢
              clear hn3
              go_wp2
              go_roundg (K - (j + g2.len))
              case measure => omega
              case rel => exact ⟨p2, j + g2.len, xs ++ [g2.body], _, (by obtain ⟨q1, q2⟩ := HP.out; omega), by omega, rfl, HU2.out, (by have q := HW10.out; rw [← HQ2.out, ← HBD.out, ws_snoc] at q; exact q)⟩
            · obtain ⟨z, hz⟩ : ∃ z : Nat, g2.w = z := ⟨_, rfl⟩
              have hstop := (HU.out.stop (by rw [hg3]; exact hw0)).1
              rw [hz] at kg hw0
              have hzn : ((z : Int) != 0) = true := by
                rw [bne_iff_ne]; omega
              rw [hstop] at HQN
              rw [HQ2.out] at HQN
              clear hz hw0
              go_wp2_with (go_at_call 97; (with_reducible refine (kg _ HL8.out.glob).mono ?_); rintro _ w9 ⟨rfl, hB9⟩; (have HW9 := Lib.hid (HW8.out.trans (WWent.below HL8.out.at_ hB9))); clear kg hB9)
              go_roundg g
              case measure => omega
              case rel => exact ⟨i + 1, _, by omega, by go_num, (by rw [HQN.out]), (by rw [HQN.out]; exact HT7.out.trans HW9.out), HOK2.out, irow_frm HI7.out HL7.out.at_ HW9.out.frm⟩
        | false =>
          rw [if_neg (by decide)] at hsn
          by_cases hm : bg = 0 ∨ f ≠ lastW W1 + 1
          · rw [if_pos hm] at hsn
            have HSN := Lib.hid hsn
            clear hsn
            by_cases hb0 : bg = 0
            · subst hb0
              go_wp2
              go_quiet (fail)
              go_wp2
              go_roundg g
              case measure => omega
              case rel => exact ⟨i + 1, v1, by omega, by go_num, (by rw [HSN.out]; rfl), (by rw [HSN.out]; exact HWT.out.trans (WWent.below HL6.out.at_ (below_drewN (Below.refl _ _) _))), HOK2.out, HI6.out.later (below_drewN (Below.refl _ _) _)⟩
            · have hfl : f ≠ lastW W1 + 1 := hm.resolve_left hb0
              have hfn : Fine W1 := ⟨hok.f0, by have := hok.f1; dsimp only at this; omega, by have := hok.rc; dsimp only at this; omega, by have := hok.sg; dsimp only at this; omega, by have := hok.sg; dsimp only at this; omega⟩
              have hlb : -1 ≤ lastW W1 ∧ lastW W1 ≤ 4398046511104 := by have h1 := hfn.f0; have h2 := hfn.f1; have h3 := hfn.rc; unfold lastW; omega
              have hbz : (((bg : Nat) : Int) == 0) = false := by simpa using hb0
              obtain ⟨lw, hlw⟩ : ∃ lw, lastW W1 = lw := ⟨_, rfl⟩
              rw [hlw] at hlb hfl
              have hlww : IntKind.i64.wrap (lw + 1) = lw + 1 := by rw [IntKind.wrap_i64]; omega
              have hne : (f != lw + 1) = true := by simpa using hfl
              clear hb0 hfl
              go_wp2
              refine wp_region_held_drew (S := (fun W => Below W6.heap.size W6 W)) (by kernel_rfl) (Below.refl _ _).drew (fun hHeld => ?_)
              refine wpAnyH_take (i := 0) (oi := ?ob1o) (v := ?ob1v) ?ob1h (by kernel_rfl) (by kernel_rfl) (by kernel_rfl) ?ob1q ?ob1y hHeld ?ob1r
              case ob1h => (simp only [List.getElem?_toArray, List.getElem?_cons_zero]; rfl)
              case ob1q => exact fun _ _ _ h => h
              case ob1y => (refine Or.inl ⟨by first | kernel_rfl | rfl, ?_⟩; intro w hSw; (try dsimp only at hSw); have z0 := (hSw.cell (p := ⟨dd, 0, none⟩) (some_lt hd6)).trans q0; go_simp <;> (try with_reducible rfl))
              try simp only [Act.put, List.setIfInBounds_toArray, List.set_cons_zero, List.set_cons_succ]
              refine wpAnyH_take (i := 1) (oi := ?ob2o) (v := ?ob2v) ?ob2h (by kernel_rfl) (by kernel_rfl) (by kernel_rfl) ?ob2q ?ob2y hHeld ?ob2r
              case ob2h => (simp only [List.getElem?_toArray, List.getElem?_cons_succ, List.getElem?_cons_zero]; rfl)
              case ob2q => exact fun _ _ _ h => h
              case ob2y => (refine Or.inl ⟨by first | kernel_rfl | rfl, ?_⟩; intro w hSw; (try dsimp only at hSw); have z0 := (hSw.cell (p := ⟨dd, 0, none⟩) (some_lt hd6)).trans q0; go_simp <;> (try with_reducible rfl))
              try simp only [Act.put, List.setIfInBounds_toArray, List.set_cons_zero, List.set_cons_succ]
              refine wpAnyH_take (i := 2) (oi := ?ob3o) (v := ?ob3v) ?ob3h (by kernel_rfl) (by kernel_rfl) (by kernel_rfl) ?ob3q ?ob3y hHeld ?ob3r
              case ob3h => (simp only [List.getElem?_toArray, List.getElem?_cons_succ, List.getElem?_cons_zero]; rfl)
              case ob3q => exact fun _ _ _ h => h
              case ob3y => (refine Or.inl ⟨by first | kernel_rfl | rfl, ?_⟩; intro w hSw; (try dsimp only at hSw); have z0 := (hSw.cell (p := ⟨dd, 0, none⟩) (some_lt hd6)).trans q0; go_simp <;> (try with_reducible rfl))
              try simp only [Act.put, List.setIfInBounds_toArray, List.set_cons_zero, List.set_cons_succ]
              refine wpAnyH_take (i := 3) (oi := ?ob4o) (v := ?ob4v) ?ob4h (by kernel_rfl) (by kernel_rfl) (by kernel_rfl) ?ob4q ?ob4y hHeld ?ob4r
              case ob4h => (simp only [List.getElem?_toArray, List.getElem?_cons_succ, List.getElem?_cons_zero]; rfl)
              case ob4q => exact fun _ _ _ h => h
              case ob4y => (refine Or.inl ⟨by first | kernel_rfl | rfl, ?_⟩; intro w hSw; (try dsimp only at hSw); have z0 := (hSw.cell (p := ⟨dd, 0, none⟩) (some_lt hd6)).trans q0; go_simp <;> (try with_reducible rfl))
              try simp only [Act.put, List.setIfInBounds_toArray, List.set_cons_zero, List.set_cons_succ]
              refine wpAnyH_take (i := 4) (oi := ?ob5o) (v := ?ob5v) ?ob5h (by kernel_rfl) (by kernel_rfl) (by kernel_rfl) ?ob5q ?ob5y hHeld ?ob5r
              case ob5h => (simp only [List.getElem?_toArray, List.getElem?_cons_succ, List.getElem?_cons_zero]; rfl)
              case ob5q => exact fun _ _ _ h => h
              case ob5y => (refine Or.inl ⟨by first | kernel_rfl | rfl, ?_⟩; intro w hSw; (try dsimp only at hSw); have z0 := (hSw.cell (p := ⟨dd, 0, none⟩) (some_lt hd6)).trans q0; go_simp <;> (try with_reducible rfl))
              try simp only [Act.put, List.setIfInBounds_toArray, List.set_cons_zero, List.set_cons_succ]
              refine wpAnyH_take (i := 5) (oi := ?ob6o) (v := ?ob6v) ?ob6h (by kernel_rfl) (by kernel_rfl) (by kernel_rfl) ?ob6q ?ob6y hHeld ?ob6r
              case ob6h => (simp only [List.getElem?_toArray, List.getElem?_cons_succ, List.getElem?_cons_zero]; rfl)
              case ob6q => exact fun _ _ _ h => h
              case ob6y => (refine Or.inl ⟨by first | kernel_rfl | rfl, ?_⟩; intro w hSw; (try dsimp only at hSw); have z0 := (hSw.cell (p := ⟨dd, 0, none⟩) (some_lt hd6)).trans q0; go_simp <;> (try with_reducible rfl))
              try simp only [Act.put, List.setIfInBounds_toArray, List.set_cons_zero, List.set_cons_succ]
              refine wpAnyH_ready (rs := [6]) (by kernel_rfl) (by simp) ?_
              refine (AllReadyH.cons rfl (fun K hK => ?_) AllReadyH.nil)
              go_simp
              (go_at_call 21; (with_reducible refine (last_is (HL6.out.below hHeld).at_ hfn).mono ?_); rintro _ w8 ⟨rfl, hB8⟩; (have HB8 := Lib.hid (bel_next hHeld hB8)); rw [hlw]; clear hB8)
              refine hK.out _ _ (HB8.out) (fun hHeld => ?_)
              clear hK K
              try simp only [Act.put, List.setIfInBounds_toArray, List.set_cons_zero, List.set_cons_succ]
              refine wpAnyH_take (i := 7) (oi := ?ob7o) (v := ?ob7v) ?ob7h (by kernel_rfl) (by kernel_rfl) (by kernel_rfl) ?ob7q ?ob7y hHeld ?ob7r
              case ob7h => (simp only [List.getElem?_toArray, List.getElem?_cons_succ, List.getElem?_cons_zero]; rfl)
              case ob7q => exact fun _ _ _ h => h
              case ob7y => (refine Or.inl ⟨by first | kernel_rfl | rfl, ?_⟩; intro w hSw; (try dsimp only at hSw); have z0 := (hSw.cell (p := ⟨dd, 0, none⟩) (some_lt hd6)).trans q0; go_simp <;> (try with_reducible rfl))
              try simp only [Act.put, List.setIfInBounds_toArray, List.set_cons_zero, List.set_cons_succ]
              refine wpAnyH_take (i := 8) (oi := ?ob8o) (v := ?ob8v) ?ob8h (by kernel_rfl) (by kernel_rfl) (by kernel_rfl) ?ob8q ?ob8y hHeld ?ob8r
              case ob8h => (simp only [List.getElem?_toArray, List.getElem?_cons_succ, List.getElem?_cons_zero]; rfl)
              case ob8q => exact fun _ _ _ h => h
              case ob8y => (refine Or.inl ⟨by first | kernel_rfl | rfl, ?_⟩; intro w hSw; (try dsimp only at hSw); have z0 := (hSw.cell (p := ⟨dd, 0, none⟩) (some_lt hd6)).trans q0; go_simp <;> (try with_reducible rfl))
              try simp only [Act.put, List.setIfInBounds_toArray, List.set_cons_zero, List.set_cons_succ]
              refine wpAnyH_take (i := 9) (oi := ?ob9o) (v := ?ob9v) ?ob9h (by kernel_rfl) (by kernel_rfl) (by kernel_rfl) ?ob9q ?ob9y hHeld ?ob9r
              case ob9h => (simp only [List.getElem?_toArray, List.getElem?_cons_succ, List.getElem?_cons_zero]; rfl)
              case ob9q => exact fun _ _ _ h => h
              case ob9y => (refine Or.inl ⟨by first | kernel_rfl | rfl, ?_⟩; intro w hSw; (try dsimp only at hSw); have z0 := (hSw.cell (p := ⟨dd, 0, none⟩) (some_lt hd6)).trans q0; go_simp <;> (try with_reducible rfl))
              try simp only [Act.put, List.setIfInBounds_toArray, List.set_cons_zero, List.set_cons_succ]
              refine wpAnyH_take (i := 10) (oi := ?ob10o) (v := ?ob10v) ?ob10h (by kernel_rfl) (by kernel_rfl) (by kernel_rfl) ?ob10q ?ob10y hHeld ?ob10r
              case ob10h => (simp only [List.getElem?_toArray, List.getElem?_cons_succ, List.getElem?_cons_zero]; rfl)
              case ob10q => exact fun _ _ _ h => h
              case ob10y => (refine Or.inl ⟨by first | kernel_rfl | rfl, ?_⟩; intro w hSw; (try dsimp only at hSw); have z0 := (hSw.cell (p := ⟨dd, 0, none⟩) (some_lt hd6)).trans q0; go_simp <;> (try with_reducible rfl))
              try simp only [Act.put, List.setIfInBounds_toArray, List.set_cons_zero, List.set_cons_succ]
              refine wpAnyH_done (by kernel_rfl) ?_ _
              go_wp2
              go_roundg g
              case measure => omega
              case rel => exact ⟨i + 1, v1, by omega, by go_num, (by rw [HSN.out]), (by rw [HSN.out]; exact HWT.out.trans (WWent.below HL6.out.at_ hHeld)), HOK2.out, HI6.out.later hHeld⟩
          · rw [if_neg hm] at hsn
            have HSN := Lib.hid hsn
            clear hsn
            have hb0 : bg ≠ 0 := fun e => hm (Or.inl e)
            have hfl : f = lastW W1 + 1 := Classical.byContradiction fun e => hm (Or.inr e)
            have hfn : Fine W1 := ⟨hok.f0, by have := hok.f1; dsimp only at this; omega, by have := hok.rc; dsimp only at this; omega, by have := hok.sg; dsimp only at this; omega, by have := hok.sg; dsimp only at this; omega⟩
            have hlb : -1 ≤ lastW W1 ∧ lastW W1 ≤ 4398046511104 := by have h1 := hfn.f0; have h2 := hfn.f1; have h3 := hfn.rc; unfold lastW; omega
            have hbz : (((bg : Nat) : Int) == 0) = false := by simpa using hb0
            obtain ⟨lw, hlw⟩ : ∃ lw, lastW W1 = lw := ⟨_, rfl⟩
            rw [hlw] at hlb hfl
            have hlww : IntKind.i64.wrap (lw + 1) = lw + 1 := by rw [IntKind.wrap_i64]; omega
            have hne : (f != lw + 1) = false := by simpa using hfl
            clear hb0 hfl
            go_wp2
            refine wp_region_held_drew (S := (fun W => Below W6.heap.size W6 W)) (by kernel_rfl) (Below.refl _ _).drew (fun hHeld => ?_)
            refine wpAnyH_take (i := 0) (oi := ?oc1o) (v := ?oc1v) ?oc1h (by kernel_rfl) (by kernel_rfl) (by kernel_rfl) ?oc1q ?oc1y hHeld ?oc1r
            case oc1h => (simp only [List.getElem?_toArray, List.getElem?_cons_zero]; rfl)
            case oc1q => exact fun _ _ _ h => h
            case oc1y => (refine Or.inl ⟨by first | kernel_rfl | rfl, ?_⟩; intro w hSw; (try dsimp only at hSw); have z0 := (hSw.cell (p := ⟨dd, 0, none⟩) (some_lt hd6)).trans q0; go_simp <;> (try with_reducible rfl))
            try simp only [Act.put, List.setIfInBounds_toArray, List.set_cons_zero, List.set_cons_succ]
            refine wpAnyH_take (i := 1) (oi := ?oc2o) (v := ?oc2v) ?oc2h (by kernel_rfl) (by kernel_rfl) (by kernel_rfl) ?oc2q ?oc2y hHeld ?oc2r
            case oc2h => (simp only [List.getElem?_toArray, List.getElem?_cons_succ, List.getElem?_cons_zero]; rfl)
            case oc2q => exact fun _ _ _ h => h
            case oc2y => (refine Or.inl ⟨by first | kernel_rfl | rfl, ?_⟩; intro w hSw; (try dsimp only at hSw); have z0 := (hSw.cell (p := ⟨dd, 0, none⟩) (some_lt hd6)).trans q0; go_simp <;> (try with_reducible rfl))
            try simp only [Act.put, List.setIfInBounds_toArray, List.set_cons_zero, List.set_cons_succ]
            refine wpAnyH_take (i := 2) (oi := ?oc3o) (v := ?oc3v) ?oc3h (by kernel_rfl) (by kernel_rfl) (by kernel_rfl) ?oc3q ?oc3y hHeld ?oc3r
            case oc3h => (simp only [List.getElem?_toArray, List.getElem?_cons_succ, List.getElem?_cons_zero]; rfl)
            case oc3q => exact fun _ _ _ h => h
            case oc3y => (refine Or.inl ⟨by first | kernel_rfl | rfl, ?_⟩; intro w hSw; (try dsimp only at hSw); have z0 := (hSw.cell (p := ⟨dd, 0, none⟩) (some_lt hd6)).trans q0; go_simp <;> (try with_reducible rfl))
            try simp only [Act.put, List.setIfInBounds_toArray, List.set_cons_zero, List.set_cons_succ]
            refine wpAnyH_take (i := 3) (oi := ?oc4o) (v := ?oc4v) ?oc4h (by kernel_rfl) (by kernel_rfl) (by kernel_rfl) ?oc4q ?oc4y hHeld ?oc4r
            case oc4h => (simp only [List.getElem?_toArray, List.getElem?_cons_succ, List.getElem?_cons_zero]; rfl)
            case oc4q => exact fun _ _ _ h => h
            case oc4y => (refine Or.inl ⟨by first | kernel_rfl | rfl, ?_⟩; intro w hSw; (try dsimp only at hSw); have z0 := (hSw.cell (p := ⟨dd, 0, none⟩) (some_lt hd6)).trans q0; go_simp <;> (try with_reducible rfl))
            try simp only [Act.put, List.setIfInBounds_toArray, List.set_cons_zero, List.set_cons_succ]
            refine wpAnyH_take (i := 4) (oi := ?oc5o) (v := ?oc5v) ?oc5h (by kernel_rfl) (by kernel_rfl) (by kernel_rfl) ?oc5q ?oc5y hHeld ?oc5r
            case oc5h => (simp only [List.getElem?_toArray, List.getElem?_cons_succ, List.getElem?_cons_zero]; rfl)
            case oc5q => exact fun _ _ _ h => h
            case oc5y => (refine Or.inl ⟨by first | kernel_rfl | rfl, ?_⟩; intro w hSw; (try dsimp only at hSw); have z0 := (hSw.cell (p := ⟨dd, 0, none⟩) (some_lt hd6)).trans q0; go_simp <;> (try with_reducible rfl))
            try simp only [Act.put, List.setIfInBounds_toArray, List.set_cons_zero, List.set_cons_succ]
            refine wpAnyH_take (i := 5) (oi := ?oc6o) (v := ?oc6v) ?oc6h (by kernel_rfl) (by kernel_rfl) (by kernel_rfl) ?oc6q ?oc6y hHeld ?oc6r
            case oc6h => (simp only [List.getElem?_toArray, List.getElem?_cons_succ, List.getElem?_cons_zero]; rfl)
            case oc6q => exact fun _ _ _ h => h
            case oc6y => (refine Or.inl ⟨by first | kernel_rfl | rfl, ?_⟩; intro w hSw; (try dsimp only at hSw); have z0 := (hSw.cell (p := ⟨dd, 0, none⟩) (some_lt hd6)).trans q0; go_simp <;> (try with_reducible rfl))
            try simp only [Act.put, List.setIfInBounds_toArray, List.set_cons_zero, List.set_cons_succ]
            refine wpAnyH_ready (rs := [6]) (by kernel_rfl) (by simp) ?_
            refine (AllReadyH.cons rfl (fun K hK => ?_) AllReadyH.nil)
            go_simp
            (go_at_call 21; (with_reducible refine (last_is (HL6.out.below hHeld).at_ hfn).mono ?_); rintro _ w8 ⟨rfl, hB8⟩; (have HB8 := Lib.hid (bel_next hHeld hB8)); rw [hlw]; clear hB8)
            refine hK.out _ _ (HB8.out) (fun hHeld => ?_)
            clear hK K
            try simp only [Act.put, List.setIfInBounds_toArray, List.set_cons_zero, List.set_cons_succ]
            refine wpAnyH_take (i := 7) (oi := ?oc7o) (v := ?oc7v) ?oc7h (by kernel_rfl) (by kernel_rfl) (by kernel_rfl) ?oc7q ?oc7y hHeld ?oc7r
            case oc7h => (simp only [List.getElem?_toArray, List.getElem?_cons_succ, List.getElem?_cons_zero]; rfl)
            case oc7q => exact fun _ _ _ h => h
            case oc7y => (refine Or.inl ⟨by first | kernel_rfl | rfl, ?_⟩; intro w hSw; (try dsimp only at hSw); have z0 := (hSw.cell (p := ⟨dd, 0, none⟩) (some_lt hd6)).trans q0; go_simp <;> (try with_reducible rfl))
            try simp only [Act.put, List.setIfInBounds_toArray, List.set_cons_zero, List.set_cons_succ]
            refine wpAnyH_take (i := 8) (oi := ?oc8o) (v := ?oc8v) ?oc8h (by kernel_rfl) (by kernel_rfl) (by kernel_rfl) ?oc8q ?oc8y hHeld ?oc8r
            case oc8h => (simp only [List.getElem?_toArray, List.getElem?_cons_succ, List.getElem?_cons_zero]; rfl)
            case oc8q => exact fun _ _ _ h => h
            case oc8y => (refine Or.inl ⟨by first | kernel_rfl | rfl, ?_⟩; intro w hSw; (try dsimp only at hSw); have z0 := (hSw.cell (p := ⟨dd, 0, none⟩) (some_lt hd6)).trans q0; go_simp <;> (try with_reducible rfl))
            try simp only [Act.put, List.setIfInBounds_toArray, List.set_cons_zero, List.set_cons_succ]
            refine wpAnyH_take (i := 9) (oi := ?oc9o) (v := ?oc9v) ?oc9h (by kernel_rfl) (by kernel_rfl) (by kernel_rfl) ?oc9q ?oc9y hHeld ?oc9r
            case oc9h => (simp only [List.getElem?_toArray, List.getElem?_cons_succ, List.getElem?_cons_zero]; rfl)
            case oc9q => exact fun _ _ _ h => h
            case oc9y => (refine Or.inl ⟨by first | kernel_rfl | rfl, ?_⟩; intro w hSw; (try dsimp only at hSw); have z0 := (hSw.cell (p := ⟨dd, 0, none⟩) (some_lt hd6)).trans q0; go_simp <;> (try with_reducible rfl))
            try simp only [Act.put, List.setIfInBounds_toArray, List.set_cons_zero, List.set_cons_succ]
            refine wpAnyH_take (i := 10) (oi := ?oc10o) (v := ?oc10v) ?oc10h (by kernel_rfl) (by kernel_rfl) (by kernel_rfl) ?oc10q ?oc10y hHeld ?oc10r
            case oc10h => (simp only [List.getElem?_toArray, List.getElem?_cons_succ, List.getElem?_cons_zero]; rfl)
            case oc10q => exact fun _ _ _ h => h
            case oc10y => (refine Or.inl ⟨by first | kernel_rfl | rfl, ?_⟩; intro w hSw; (try dsimp only at hSw); have z0 := (hSw.cell (p := ⟨dd, 0, none⟩) (some_lt hd6)).trans q0; go_simp <;> (try with_reducible rfl))
            try simp only [Act.put, List.setIfInBounds_toArray, List.set_cons_zero, List.set_cons_succ]
            refine wpAnyH_done (by kernel_rfl) ?_ _
            go_wp2
            obtain ⟨w7, hw7⟩ : ∃ x, x = w8 := ⟨_, rfl⟩
            subst hw7
            have HW7 : Hid (WWent W6 w7 b S S L L a W1 W1 v1 v1) := Lib.hid (WWent.below HL6.out.at_ hHeld)
            clear hHeld HB8 hne hbz hlww
            obtain ⟨Q, hQ⟩ : ∃ Q : WS, W1 = Q := ⟨_, rfl⟩
            obtain ⟨v7, hv7⟩ : ∃ v7 : Value, v1 = v7 := ⟨_, rfl⟩
            subst hQ hv7
            have HT7 := Lib.hid (HWT.out.trans HW7.out)
            have HL7 := Lib.hid (HL6.out.next HW7.out)
            have HI7 := Lib.hid (irow_frm HI6.out HL6.out.at_ HW7.out.frm)
            have HQN : Hid (readN (textS S) (l.take (i + 1)) W = (bg, { W1 with rc := W1.rc ++ txL (Fr.scan (s.drop m0)).1 })) := Lib.hid HSN.out
            have hqb : W1.rc.length ≤ 1000000 * i := hok.rc
            clear q0 q1 q2
            obtain ⟨tl, htl⟩ : ∃ tl, s.drop m0 = tl := ⟨_, rfl⟩
            have htll : tl.length = s.length - m0 := by rw [← htl, List.length_drop]
            have hm0s := hG0l.1
            rw [htl] at HQN
            obtain ⟨K, hK⟩ : ∃ K : Nat, s.length - m0 = K := ⟨_, rfl⟩
            rw [hK] at htll
            have HQB := Lib.hid hqb
            clear hqb
            go_wp2
            go_loopg [9] K (fun g av wn => ∃ (p j : Nat) (xs : List (List UInt8)) (v2 : Value), p = m0 + j ∧ g + j = K ∧ av = .int .i64 (p : Int) ∧ Upto tl j xs ∧ WWent w7 wn b S S L L a W1 { W1 with rc := W1.rc ++ txL xs } v1 v2)
            case atStart => exact ⟨m0, 0, [], v1, rfl, by omega, rfl, Upto.zero _, (by rw [ws_nil]; exact WWent.refl HL7.out.at_)⟩
            case round =>
              obtain ⟨p, j, xs, v2, hp, hj, rfl, hU, hW8⟩ := hrel
              obtain ⟨Q2, hQ2⟩ : ∃ Q2 : WS, { W1 with rc := W1.rc ++ txL xs } = Q2 := ⟨_, rfl⟩
              have hnl : Q2.rc.length = W1.rc.length + xs.length := by rw [← hQ2]; show (W1.rc ++ txL xs).length = _; rw [List.length_append, txL_length]
              rw [hQ2] at hW8
              have HQ2 := Lib.hid hQ2
              clear hQ2
              have HU := Lib.hid hU
              have hj1 := hU.1
              have hxs := hU.2.1
              have HL8 := Lib.hid (HL7.out.next hW8)
              obtain ⟨va, vc, hv2⟩ := HL8.out.at_.rcs.slice
              obtain ⟨nn, hnn⟩ : ∃ nn, Q2.rc.length = nn := ⟨_, rfl⟩
              rw [hnn] at hv2 hnl
              subst hv2
              have HNN := Lib.hid hnn
              clear hnn
              have HW8 := Lib.hid hW8
              clear hW8 hU
              obtain ⟨g2, hg2⟩ : ∃ g2, getF (s.drop p) = g2 := ⟨_, rfl⟩
              obtain ⟨bd2, hbd2⟩ : ∃ q, tx g2.body = q := ⟨_, rfl⟩
              have kg := fun w GL => get_at s p (by omega) bd2 w hsl GL g2 (Lib.hid hg2) (Lib.hid hbd2)
              have hg3 : getF (tl.drop j) = g2 := by rw [← htl, List.drop_drop, ← hp]; exact hg2
              obtain ⟨p2, hp2⟩ : ∃ p2 : Nat, p + g2.len = p2 := ⟨_, rfl⟩
              rw [hp2] at kg
              have hqb := HQB.out
              have HP := Lib.hid (And.intro hp hp2)
              clear hp hp2
              by_cases hw0 : g2.w = 0
              · rw [hw0] at kg
                have kg2 : ∀ w, Glob w → Calls Tryz.prog 97 #[.string (tx s), .int .i64 (p : Int)] w (FDone bd2 (p2 : Int) 0 w) := kg
                have hl0 := getF_len (s := tl.drop j) (by rw [hg3]; exact hw0)
                rw [hg3, List.length_drop] at hl0
                have hstep := HU.out.step (by rw [hg3]; exact hw0)
                rw [hg3] at hstep
                have HU2 := Lib.hid hstep
                have HBD := Lib.hid hbd2
                have HCNT := Lib.hid (show Q2.rc.length ≤ 100000000 by rw [HNN.out]; omega)
                clear kg hw0 hbd2 hstep hnl
                go_wp2_with (first
                  | (go_at_call 97; (with_reducible refine (kg2 _ HL8.out.glob).mono ?_); rintro _ w9 ⟨rfl, hB9⟩; (have HL9 := Lib.hid (HL8.out.below hB9)); (have HW9 := Lib.hid (HW8.out.trans (WWent.below HL8.out.at_ hB9))); (obtain ⟨-, -, -, -, e4, -, -⟩ := HL9.out.at_.cells); clear kg2 hB9)
                  | (at_builtin; refine wpList_rec rfl _ _ rfl (.slice va nn vc) _ rfl bd2 rfl HL9.out.at_.rcs HCNT.out ?_))
                intro v3 w10 hR hgr h1 hsp
                have hca := rec_cell HL9.out.at_ hgr
                have HW10 := Lib.hid (HW9.out.trans (WWent.recs HL9.out.at_ hR hgr h1 (hsp.imp id Or.inr)))
                have e4' : w10.cell? ⟨a, 4, none⟩ = some (.slice va nn vc) := cell_of hca
                have f4' : w10.frozen? ⟨a, 4, none⟩ = false := frozen_of hca
                obtain ⟨a3, d3, rfl⟩ := hR.slice
                clear hca hR hgr h1 hsp
                obtain ⟨n3, hn3⟩ : ∃ n3, (Q2.rc ++ [bd2]).length = n3 := ⟨_, rfl⟩
                rw [hn3] at HW10 ⊢
                clear hn3
                go_wp2
                go_roundg (K - (j + g2.len))
                case measure => omega
                case rel => exact ⟨p2, j + g2.len, xs ++ [g2.body], _, (by obtain ⟨q1, q2⟩ := HP.out; omega), by omega, rfl, HU2.out, (by have q := HW10.out; rw [← HQ2.out, ← HBD.out, ws_snoc] at q; exact q)⟩
              · obtain ⟨z, hz⟩ : ∃ z : Nat, g2.w = z := ⟨_, rfl⟩
                have hstop := (HU.out.stop (by rw [hg3]; exact hw0)).1
                rw [hz] at kg hw0
                have hzn : ((z : Int) != 0) = true := by
                  rw [bne_iff_ne]; omega
                rw [hstop] at HQN
                rw [HQ2.out] at HQN
                clear hz hw0
                go_wp2_with (go_at_call 97; (with_reducible refine (kg _ HL8.out.glob).mono ?_); rintro _ w9 ⟨rfl, hB9⟩; (have HW9 := Lib.hid (HW8.out.trans (WWent.below HL8.out.at_ hB9))); clear kg hB9)
                go_roundg g
                case measure => omega
                case rel => exact ⟨i + 1, _, by omega, by go_num, (by rw [HQN.out]), (by rw [HQN.out]; exact HT7.out.trans HW9.out), HOK2.out, irow_frm HI7.out HL7.out.at_ HW9.out.frm⟩
end Go.Proofs.YteijmjbiaffcmaaGreatDoor
