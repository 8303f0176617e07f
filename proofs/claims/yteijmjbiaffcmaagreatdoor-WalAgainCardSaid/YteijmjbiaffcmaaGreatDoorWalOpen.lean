/- The contract of Open. -/
import Derived.Test.YteijmjbiaffcmaaGreatDoorWalCkpt
import Derived.Test.YteijmjbiaffcmaaGreatDoorWalRead
import Derived.Deep.RegionHeld
import Derived.Deep.CutRange
import Derived.Deep.CutBlock
import Derived.Laws.EntriesVeiled
set_option maxRecDepth 20000
set_option linter.unusedSimpArgs false
set_option linter.unusedVariables false
namespace Go.Proofs.YteijmjbiaffcmaaGreatDoor
open Go.RowKit Go.Maps Go.Shelf Go.Proofs.YteijmjbiaffcmaaGreatDoor.Vi Go.Proofs.YteijmjbiaffcmaaGreatDoor.Crc Go.Proofs.YteijmjbiaffcmaaGreatDoor.Fr Go.Proofs.YteijmjbiaffcmaaGreatDoor.Fi

def syncL : FS → List Nat → Int × FS
  | S, [] => (0, S)
  | S, n :: l => if (syncS S (tx (seg n))).1 ≠ 0 then syncS S (tx (seg n)) else syncL (syncS S (tx (seg n))).2 l
theorem syncL_chg : ∀ (l : List Nat) (S : FS), (syncL S l).2.chg = S.chg
  | [], _ => rfl
  | n :: l, S => by
    unfold syncL
    split
    · exact syncS_chg _ _
    · rw [syncL_chg l, syncS_chg]
def newW : WS := ⟨0, ⟨#[]⟩, 1, [], 0, false⟩
def open3 (bg : Nat) (r : Int × FS × WS) : Int × FS × WS := if r.1 ≠ 0 then r else removeL (fun n => decide ((n : Int) < (if bg = 0 then r.2.2.sg else (bg : Int)))) (numsS r.2.1) r.2.1 r.2.2
def firmW (W : WS) : WS := { W with fm := lastW W }
def open2 (S : FS) (q : Nat) : Int × FS × WS := open3 (readN (textS S) (numsS S) newW).1 (beginW S (firmW (readN (textS S) (numsS S) newW).2) ((readN (textS S) (numsS S) newW).1 == 0) ⟨#[]⟩ q)
def openW (S : FS) (q : Nat) : Int × FS × WS := if (syncL S (numsS S)).1 ≠ 0 then ((syncL S (numsS S)).1, (syncL S (numsS S)).2, newW) else open2 (syncL S (numsS S)).2 q
/-- How Open ends. -/
structure Opened (b : Nat) (S : FS) (L : Lay) (r : Int × FS × WS) (w : World) (e : Ending) (w' : World) (L' : Lay) (a : Nat) (v : Value) : Prop where
  ret : e = .returned (.tuple #[if r.1 = 0 then .pointer (some ⟨a, 0, none⟩) else .pointer none, .int .i64 r.1])
  at_ : WalAt w' b r.2.1 L' a r.2.2 v
  new : w.heap.size ≤ a
  frm : Frm (mods b S L) w w'
  sub : ∀ k, wmods b r.2.1 L' a v k → mods b S L k ∨ w.heap.size ≤ k
section
variable {w : World} {B b : Nat} {S : FS} {L : Lay}
theorem new_went (D : Dir w b S L) : WalAt (w.alloc (.cells #[.pointer (some ⟨b, 0, none⟩), .int .i64 0, .string ⟨#[]⟩, .int .i64 1, .slice none 0 0, .int .i64 0, .bool false] 60)) b S L w.heap.size newW (.slice none 0 0) :=
  ⟨D.later (bel_al w _), heap_alloc_new w _, Rec.nil _⟩
theorem Opened.of {w0 w' : World} {o : Obj} {r : Int × FS × WS} {L' : Lay} {v : Value} {e : Ending} (h0 : w.alloc o = w0) (D : Dir w b S L) (k : WWent w0 w' b S r.2.1 L L' w.heap.size newW r.2.2 (.slice none 0 0) v) (he : e = .returned (.tuple #[if r.1 = 0 then .pointer (some ⟨w.heap.size, 0, none⟩) else .pointer none, .int .i64 r.1])) : Opened b S L r w e w' L' w.heap.size v := by
  subst h0
  have hm : ∀ i, wmods b S L w.heap.size (.slice none 0 0) i → mods b S L i ∨ w.heap.size ≤ i := fun i hi => by
    rcases hi with hi | rfl | hi
    · exact Or.inl hi
    · exact Or.inr (Nat.le_refl _)
    · cases hi
  refine ⟨he, k.at_, Nat.le_refl _, ⟨k.frm.os, k.frm.tape, k.frm.output, by have := k.frm.size; simp at this; omega, fun i hi hn => ?_⟩, fun i hi => ?_⟩
  · refine (k.frm.block i (by simp; omega) fun h => ?_).trans ((bel_al w _).block i hi)
    rcases hm i h with h1 | h1
    · exact hn h1
    · omega
  · rcases k.sub i hi with h | h
    · exact hm i h
    · simp at h; exact Or.inr (by omega)
theorem readN_ok (T : Nat → ByteArray) (hT : ∀ n, (T n).size ≤ 1000000) (l : List Nat) (hl : ∀ n ∈ l, n ≤ 99999999) {W : WS} (h : ReadOk W 0 (0, W)) : ReadOk W l.length (readN T l W) := by
  have key : ∀ i, i ≤ l.length → ReadOk W i (readN T (l.take i) W) := by
    intro i
    induction i with
    | zero => exact fun _ => h
    | succ i ih =>
      intro hi
      rw [readN_snoc T l W i (by omega)]
      exact (ih (by omega)).step T _ (hl _ (List.getElem_mem _)) (hT _)
  have e := key l.length (Nat.le_refl _)
  rwa [List.take_length] at e
/-- A box of the opener's own has turned. -/
theorem WWent.box {w w' : World} {b a : Nat} {S S' : FS} {L L' : Lay} {W W' : WS} {v v' : Value} (k : WWent w w' b S S' L L' a W W' v v') {p : Nat} {x : Value} (hp : w'.heap[p]? = some (.cells #[x] 3)) (hv : v'.ownBlock ≠ some p) (hs : w.heap.size ≤ p) (u : Value) : WWent w (w'.setCell ⟨p, 0, none⟩ u) b S S' L L' a W W' v v' := by
  have h := k.at_
  have hnm := h.dir.at_.not hp (by decide) (by decide) (by decide) (by decide)
  have ho : ∀ i, i ≠ p → (w'.setCell ⟨p, 0, none⟩ u).heap[i]? = w'.heap[i]? := fun i hi => heap_setCell_other w' ⟨p, 0, none⟩ i u hi
  have hpa : a ≠ p := fun e => by
    have q := h.cell
    rw [e, hp] at q
    injection q with q
    injection q with _ q
    revert q; decide
  refine ⟨⟨⟨FsAt.keep h.dir.at_ (fun i hi => ho i fun e => hnm (e ▸ hi)) (fun i cs T e hT => (ho i fun e2 => ?_).trans e), h.dir.bn, h.dir.whole⟩, (ho a hpa).trans h.cell, h.rcs.of fun i hi => ho i fun e => hv (e ▸ hi)⟩, ⟨k.frm.os, k.frm.tape, k.frm.output, by have := k.frm.size; simpa using this, fun i hi hn => (ho i (by omega)).trans (k.frm.block i hi hn)⟩, k.sub⟩
  rw [e2, hp] at e
  injection e with e
  injection e with _ e
  rw [← e] at hT
  revert hT; decide
set_option maxHeartbeats 16000000 in
theorem walOpen_is (D : Dir w b S L) (hlo : ∀ k, mods b S L k → B ≤ k) (hsz : B ≤ w.heap.size) (hgl : ∀ w', Below B w w' → Glob w') (hchg : S.chg.length ≤ 800000) (hT : ∀ n, (textS (syncL S (numsS S)).2 n).size ≤ 1000000) : Calls Tryz.prog 38 #[.pointer (some ⟨b, 0, none⟩)] w fun e w' => ∃ q, w.heap.size ≤ q ∧ ∃ L' a v, Opened b S L (openW S q) w e w' L' a v := by
  have HD := Lib.hid D
  have hnw := new_went D
  obtain ⟨w0, hw0⟩ : ∃ x, w.alloc (.cells #[.pointer (some ⟨b, 0, none⟩), .int .i64 0, .string ⟨#[]⟩, .int .i64 1, .slice none 0 0, .int .i64 0, .bool false] 60) = x := ⟨_, rfl⟩
  have hs0 : w0.heap.size = w.heap.size + 1 := by rw [← hw0]; simp
  have hbel : Below w.heap.size w w0 := by rw [← hw0]; exact bel_al w _
  rw [hw0] at hnw
  obtain ⟨a, ha⟩ : ∃ a, w.heap.size = a := ⟨_, rfl⟩
  have HOF := Lib.hid (fun (r : Int × FS × WS) (w' : World) (L' : Lay) (v : Value) (e : Ending) => Opened.of (r := r) (w' := w') (L' := L') (v := v) (e := e) hw0 D)
  rw [ha] at hnw HOF hbel
  have hlo2 : ∀ k, wmods b S L a (.slice none 0 0) k → B ≤ k := fun k hk => by
    rcases hk with hk | hk | hk
    · exact hlo k hk
    · omega
    · cases hk
  have h0 : Log B w0 b S L a newW (.slice none 0 0) := ⟨hnw, hlo2, (by omega), fun w' hk => hgl w' ((hbel.mono (by omega)).trans hk)⟩
  have H := Lib.hid h0
  have kn := numbers_is w0 h0.at_.dir h0.glob
  have HW0 := Lib.hid hw0
  have HA := Lib.hid ha
  have HCHG := Lib.hid hchg
  have HT := Lib.hid hT
  have hn64 : (numsS S).length ≤ 64 := by
    have h1 := numsS_le S
    have h2 := D.whole.sane.len
    omega
  have HIN := Lib.hid (fun n (hn : n ∈ numsS S) => numsS_in hn)
  obtain ⟨l, hl⟩ : ∃ l, numsS S = l := ⟨_, rfl⟩
  obtain ⟨r, hrr⟩ : ∃ r, syncL S (numsS S) = r := ⟨_, rfl⟩
  have hchr := syncL_chg (numsS S) S
  rw [hrr] at hchr
  have hop : ∀ q, openW S q = if r.1 ≠ 0 then (r.1, r.2, newW) else open2 r.2 q := fun q => by unfold openW; rw [hrr]
  have HOP := Lib.hid hop
  have HCHR := Lib.hid hchr
  rw [hrr] at HT
  rw [hl] at kn hn64 HIN hrr
  have HRR := Lib.hid hrr
  have HSZ := Lib.hid hsz
  have HS0 := Lib.hid hs0
  clear D h0 hnw hl hchg hrr hbel hs0 hlo hlo2 hgl hT hop hchr hw0 ha hsz
  go_enter Tryz.func38, Tryz.ntmps38
  go_wp2_with (go_at_call 67; (rw [HW0.out]); (with_reducible refine kn.mono ?_); rintro _ w1 ⟨vn, rfl, hI, hB1⟩; (obtain ⟨an, cn, rfl⟩ := hI.slice); (have HI1 := Lib.hid hI); (have HB1 := Lib.hid hB1); clear hI hB1 kn)
  obtain ⟨n, hn⟩ : ∃ n, l.length = n := ⟨_, rfl⟩
  have hil : (intsN l).length = n := by unfold intsN; rw [List.length_map]; exact hn
  simp only [hil, HA.out]
  rw [hn] at hn64
  have HLN := Lib.hid hn
  have HI2 : Hid (IRow w1 w0.heap.size (.slice an n cn) (intsN l)) := Lib.hid (by rw [← hil]; exact HI1.out)
  have HW1 := Lib.hid (WWent.below H.out.at_ HB1.out)
  clear hn hil HI1
  go_loopg [19] n (fun g ii wr => ∃ (i : Nat) (Si : FS) (Li : Lay), i + g = n ∧ ii = .int .i64 (i : Int) ∧ WWent w0 wr b S Si L Li a newW newW (.slice none 0 0) (.slice none 0 0) ∧ Hid (syncL Si (l.drop i) = r) ∧ Hid (Si.chg = S.chg) ∧ IRow wr w0.heap.size (.slice an n cn) (intsN l))
  case atStart => exact ⟨0, S, L, by omega, rfl, HW1.out, HRR, Lib.hid rfl, HI2.out⟩
  case round =>
    obtain ⟨i, Si, Li, hi, rfl, hW, hr, hch, hI⟩ := hrel
    have HW := Lib.hid hW
    have HI := Lib.hid hI
    have HLG := Lib.hid (H.out.next hW)
    clear hW hI HI2 HW1
    cases gk with
    | zero =>
      obtain rfl : i = n := by omega
      have hlt : ¬ (i : Int) < (i : Int) := by omega
      have hr2 := hr.out
      rw [List.drop_of_length_le (by rw [HLN.out]; exact Nat.le_refl _)] at hr2
      have hr3 : r = (0, Si) := hr2.symm
      subst hr3
      have HOP2 := Lib.hid (show ∀ q, openW S q = open2 Si q from fun q => (HOP.out q).trans (if_neg (by simp)))
      have HT2 := Lib.hid (show ∀ n, (textS Si n).size ≤ 1000000 from HT.out)
      clear hr hr2 HOP HT HRR HCHR
      have hrd0 : ReadOk newW 0 (0, newW) := ⟨by decide, by decide, by decide, by decide, rfl, rfl, rfl⟩
      have kr := read_is2 wr HLG.out hrd0 ⟨by decide, by decide⟩ HT2.out
      have hok := readN_ok (textS Si) HT2.out (numsS Si) (fun n hn => (numsS_in hn).2) hrd0
      have hln : (numsS Si).length ≤ 64 := by
        have h1 := numsS_le Si
        have h2 := HLG.out.at_.dir.whole.sane.len
        omega
      have hop2 : ∀ q, openW S q = open3 (readN (textS Si) (numsS Si) newW).1 (beginW Si (firmW (readN (textS Si) (numsS Si) newW).2) ((readN (textS Si) (numsS Si) newW).1 == 0) ⟨#[]⟩ q) := HOP2.out
      obtain ⟨⟨bg, W1⟩, hacc⟩ : ∃ x, readN (textS Si) (numsS Si) newW = x := ⟨_, rfl⟩
      rw [hacc] at kr hok hop2
      have hop3 : ∀ q, openW S q = open3 bg (beginW Si (firmW W1) (bg == 0) ⟨#[]⟩ q) := hop2
      have hf1 : Fine W1 := ⟨hok.f0, (by have := hok.f1; dsimp only at this; omega), (by have := hok.rc; dsimp only at this; omega), (by have := hok.sg; dsimp only at this; rw [this]; decide), (by have := hok.sg; dsimp only at this; rw [this]; decide)⟩
      have hbgl : bg ≤ 99999999 := hok.beg
      have HF1 := Lib.hid hf1
      have HO3 := Lib.hid hop3
      have hchi : Si.chg.length ≤ 800000 := by rw [hch.out]; exact HCHG.out
      have HCHI := Lib.hid hchi
      have HF2 := Lib.hid (show Fine (firmW W1) from ⟨hf1.f0, hf1.f1, hf1.rc, hf1.s0, hf1.s1⟩)
      clear hrd0 hok hln hop2 hop3 hacc hf1 HOP2 HT2 hchi hch
      go_wp2_with (go_at_call 69; (with_reducible refine kr.mono ?_); rintro _ w2 ⟨v2, rfl, hW2⟩; (have HW2 := Lib.hid (HW.out.trans hW2)); (have HL2 := Lib.hid (H.out.next HW2.out)); clear hW2 kr)
      obtain ⟨p8, hp8⟩ : ∃ p8, w2.heap.size = p8 := ⟨_, rfl⟩
      have hb3 := bel_al w2 (.cells #[.int .i64 (bg : Int)] 3)
      have hbx3 := heap_alloc_new w2 (.cells #[.int .i64 (bg : Int)] 3)
      obtain ⟨w3, hw3⟩ : ∃ x, w2.alloc (.cells #[.int .i64 (bg : Int)] 3) = x := ⟨_, rfl⟩
      have hvp : v2.ownBlock ≠ some p8 := fun e => by
        obtain ⟨c, e1⟩ := HL2.out.at_.rcs.heap e
        have := some_lt e1; omega
      have hp80 : w0.heap.size ≤ p8 := by rw [← hp8]; exact HW2.out.frm.size
      rw [hw3] at hbx3 hb3
      simp only [hw3, hp8]
      rw [hp8] at hbx3
      have HU3 := Lib.hid (HW2.out.trans (WWent.below HL2.out.at_ hb3))
      have HL3 := Lib.hid (HL2.out.below hb3)
      have HBX3 := Lib.hid hbx3
      have HV3 := Lib.hid hvp
      have HP8 := Lib.hid hp80
      have kla := last_is HL3.out.at_ HF1.out
      obtain ⟨kp, hkp⟩ : ∃ kp : Bool, (bg == 0) = kp := ⟨_, rfl⟩
      have HO4 := Lib.hid (show ∀ q, openW S q = open3 bg (beginW Si (firmW W1) kp ⟨#[]⟩ q) by rw [← hkp]; exact HO3.out)
      have hkp2 : ((bg : Int) == 0) = kp := by
        rw [← hkp, Bool.eq_iff_iff]
        simp
      have HST := Lib.hid (fun (w5 : World) (hB : Below w3.heap.size w3 w5) => (WWent.below HL3.out.at_ hB).trans (WWent.set (HL3.out.below hB).at_ (firmW W1) 5 (.int .i64 (lastW W1)) rfl rfl))
      clear hb3 hbx3 hw3 hp8 hvp hp80 HO3
      go_upto_if 43 with (first
        | (go_at_call 21; go_loud ((with_reducible refine kla.mono ?_); rintro _ w5 ⟨rfl, hB5⟩; (have HT5 := Lib.hid (HST.out w5 hB5)); (have HL5 := Lib.hid (HL3.out.next HT5.out)); (have c5 := (HL3.out.below hB5).at_.cells.c5); (have f5 := (HL3.out.below hB5).at_.free 5); (have HB5 := Lib.hid (box_went HL3.out.at_ HT5.out HBX3.out (by decide) (by decide) (by decide) (by decide) (by decide) HV3.out)); (have HV5 := Lib.hid (own_ne HL3.out.at_ HT5.out HBX3.out (by decide) (by decide) (by decide) (by decide) (by decide) HV3.out)); (have z5 : (w5.setCell ⟨a, 5, none⟩ (.int .i64 (lastW W1))).cell? ⟨p8, 0, none⟩ = some (.int .i64 (bg : Int)) := cell_of HB5.out); clear hB5 kla HST))
        | (go_at_call 52; (with_reducible refine (begin_is HL5.out HF2.out kp ⟨#[]⟩ (by decide) (by have := HCHI.out; omega)).mono ?_); rintro _ w6 ⟨q, hq, L6, v6, rfl, hW6⟩; (have HW6 := Lib.hid hW6); (have HQ0 := Lib.hid hq); clear hW6 hq))
      obtain ⟨⟨e3, S3, W3⟩, hb3⟩ : ∃ r, beginW Si (firmW W1) kp ⟨#[]⟩ q = r := ⟨_, rfl⟩
      have hrc3 := beginW_rc Si (firmW W1) kp ⟨#[]⟩ q
      have hch3 := beginW_chg Si (firmW W1) kp ⟨#[]⟩ q
      rw [hb3] at hrc3 hch3 HW6 ⊢
      have hO5 := HO4.out q
      rw [hb3] at hO5
      have HRC3 := Lib.hid hrc3
      have HCH3 := Lib.hid (show S3.chg.length ≤ 800002 by have := HCHI.out; dsimp only at hch3; omega)
      have HL6 := Lib.hid (HL5.out.next HW6.out)
      have HU6 := Lib.hid ((HU3.out.trans HT5.out).trans HW6.out)
      have HB6 := Lib.hid (box_went HL5.out.at_ HW6.out HB5.out (by decide) (by decide) (by decide) (by decide) (by decide) HV5.out)
      have HV6 := Lib.hid (own_ne HL5.out.at_ HW6.out HB5.out (by decide) (by decide) (by decide) (by decide) (by decide) HV5.out)
      have HQ := Lib.hid (show w.heap.size ≤ q by
        have h1 := (HU3.out.trans HT5.out).frm.size
        have h2 := HQ0.out
        have h3 := HS0.out
        omega)
      clear hrc3 hch3 hb3 z5 c5 f5
      try dsimp only at HW6 HL6 HU6 ⊢
      by_cases he3 : e3 = 0
      · subst he3
        have hc3 : Fine W3 := ⟨by rw [HRC3.out.2.1]; exact HF2.out.f0, by rw [HRC3.out.2.1]; exact HF2.out.f1, by rw [HRC3.out.1]; exact HF2.out.rc, by
          rcases HRC3.out.2.2 with e | e
          · rw [e]; exact HF2.out.s0
          · rw [e]; have := beginN_in Si; omega, by
          rcases HRC3.out.2.2 with e | e
          · rw [e]; exact HF2.out.s1
          · rw [e]; have := beginN_in Si; omega⟩
        have HF3 := Lib.hid hc3
        have z6 : w6.cell? ⟨p8, 0, none⟩ = some (.int .i64 (bg : Int)) := cell_of HB6.out
        have f6 : w6.frozen? ⟨p8, 0, none⟩ = false := frozen_of HB6.out
        clear hc3
        by_cases hb0 : bg = 0
        · have hkt : kp = true := by rw [← hkp, hb0]; rfl
          subst hkt
          obtain ⟨bv, hbv⟩ : ∃ bv, W3.sg = bv := ⟨_, rfl⟩
          have c16 := HL6.out.at_.cells.c1
          rw [hbv] at c16
          have hO6 : openW S q = removeL (fun n => decide ((n : Int) < bv)) (numsS S3) S3 W3 := by rw [hO5]; unfold open3; rw [if_neg (by simp)]; dsimp only; rw [if_pos hb0, hbv]
          have HO5 := Lib.hid hO6
          have HU7 := Lib.hid (WWent.box HU6.out HB6.out HV6.out HP8.out (.int .i64 bv))
          have HL7 := Lib.hid (H.out.next HU7.out)
          have HB7 := Lib.hid (show (w6.setCell ⟨p8, 0, none⟩ (.int .i64 bv)).heap[p8]? = some (.cells #[.int .i64 bv] 3) from heap_setCell_same w6 p8 0 _ _ _ HB6.out)
          clear hO5 hO6 hb0 hkp
          have km := removeO_is HL7.out HF3.out (by have := HCH3.out; omega) p8 bv HB7.out
          obtain ⟨⟨e4, S4, W4⟩, hm4⟩ : ∃ r, removeL (fun n => decide ((n : Int) < bv)) (numsS S3) S3 W3 = r := ⟨_, rfl⟩
          rw [hm4] at km
          have hR4 : openW S q = (e4, S4, W4) := by rw [HO5.out]; exact hm4
          have HR4 := Lib.hid hR4
          clear hR4 hm4
          by_cases he4 : e4 = 0
          · subst he4
            go_wp2_with (go_at_call 54; (with_reducible refine km.mono ?_); rintro _ w8 ⟨L8, v8, rfl, hW8⟩; (have HU8 := Lib.hid (HU7.out.trans hW8)); clear hW8 km)
            go_ret2
            exact ⟨q, HQ.out, L8, a, v8, by rw [HR4.out]; exact HOF.out (0, S4, W4) _ _ _ _ HU8.out rfl⟩
          · have hne4 : (e4 != 0) = true := by simpa using he4
            go_wp2_with (go_at_call 54; (with_reducible refine km.mono ?_); rintro _ w8 ⟨L8, v8, rfl, hW8⟩; (have HU8 := Lib.hid (HU7.out.trans hW8)); clear hW8 km)
            go_ret2
            exact ⟨q, HQ.out, L8, a, v8, by rw [HR4.out]; exact HOF.out (e4, S4, W4) _ _ _ _ HU8.out (by rw [if_neg he4]; rfl)⟩
        · have hkt : kp = false := by rw [← hkp]; simpa using hb0
          subst hkt
          have hO6 : openW S q = removeL (fun n => decide ((n : Int) < (bg : Int))) (numsS S3) S3 W3 := by rw [hO5]; unfold open3; rw [if_neg (by simp)]; dsimp only; rw [if_neg hb0]
          have HO5 := Lib.hid hO6
          have HU7 := HU6
          have HL7 := HL6
          have HB7 := HB6
          clear hO5 hO6 hb0 hkp
          have km := removeO_is HL7.out HF3.out (by have := HCH3.out; omega) p8 (bg : Int) HB7.out
          obtain ⟨⟨e4, S4, W4⟩, hm4⟩ : ∃ r, removeL (fun n => decide ((n : Int) < (bg : Int))) (numsS S3) S3 W3 = r := ⟨_, rfl⟩
          rw [hm4] at km
          have hR4 : openW S q = (e4, S4, W4) := by rw [HO5.out]; exact hm4
          have HR4 := Lib.hid hR4
          clear hR4 hm4
          by_cases he4 : e4 = 0
          · subst he4
            go_wp2_with (go_at_call 54; (with_reducible refine km.mono ?_); rintro _ w8 ⟨L8, v8, rfl, hW8⟩; (have HU8 := Lib.hid (HU7.out.trans hW8)); clear hW8 km)
            go_ret2
            exact ⟨q, HQ.out, L8, a, v8, by rw [HR4.out]; exact HOF.out (0, S4, W4) _ _ _ _ HU8.out rfl⟩
          · have hne4 : (e4 != 0) = true := by simpa using he4
            go_wp2_with (go_at_call 54; (with_reducible refine km.mono ?_); rintro _ w8 ⟨L8, v8, rfl, hW8⟩; (have HU8 := Lib.hid (HU7.out.trans hW8)); clear hW8 km)
            go_ret2
            exact ⟨q, HQ.out, L8, a, v8, by rw [HR4.out]; exact HOF.out (e4, S4, W4) _ _ _ _ HU8.out (by rw [if_neg he4]; rfl)⟩
      · have hne3 : (e3 != 0) = true := by simpa using he3
        have hO6 : openW S q = (e3, S3, W3) := by rw [hO5]; unfold open3; rw [if_pos he3]
        have HO5 := Lib.hid hO6
        clear hO5 hO6
        go_wp2
        go_ret2
        exact ⟨q, HQ.out, L6, a, v6, by rw [HO5.out]; exact HOF.out (e3, S3, W3) _ _ _ _ HU6.out (by rw [if_neg he3]; rfl)⟩
    | succ g =>
      have hlt : (i : Int) < (n : Int) := by omega
      have hil : i < l.length := by rw [HLN.out]; omega
      have hin := HIN.out _ (List.getElem_mem hil)
      obtain ⟨gn, rfl, -, -, hcn⟩ := HI.out.cell (by unfold intsN; rw [List.length_map]; omega)
      have hci := hcn i (by unfold intsN; rw [List.length_map]; exact hil)
      have hxi : (intsN l)[i]'(by unfold intsN; rw [List.length_map]; exact hil) = ((l[i] : Nat) : Int) := by unfold intsN; rw [List.getElem_map]
      rw [hxi] at hci
      have hdr := List.drop_eq_getElem_cons hil
      have hr2 := hr.out
      rw [hdr] at hr2
      obtain ⟨x, hx⟩ : ∃ x, l[i] = x := ⟨_, rfl⟩
      rw [hx] at hci hin hr2
      have hiw : IntKind.i64.wrap ((i : Int) + 1) = (i : Int) + 1 := by rw [IntKind.wrap_i64]; omega
      obtain ⟨ad, had⟩ : ∃ ad, tx (seg x) = ad := ⟨_, rfl⟩
      have ksg := fun w G => segment_is (x : Int) ad w (by omega) (by omega) G (Lib.hid (by rw [segI_nat hin]; exact had))
      have hns : ad.size ≤ maxLen := by rw [← had, tx_size, seg_len]; unfold maxLen; omega
      unfold syncL at hr2
      rw [had] at hr2
      have hch2 := syncS_chg Si ad
      obtain ⟨⟨dz, S8⟩, hdz⟩ : ∃ q, syncS Si ad = q := ⟨_, rfl⟩
      rw [hdz] at hr2 hch2
      have HDZ := Lib.hid hdz
      have HCH2 := Lib.hid (hch2.trans hch.out)
      clear hcn hxi hx hdr hr had hdz hch2 hch
      by_cases hz0 : dz = 0
      · subst hz0
        rw [if_neg (by simp)] at hr2
        have HR2 := Lib.hid hr2
        clear hr2
        go_wp2_with (first
          | (go_at_call 13; (with_reducible refine (ksg _ HLG.out.glob).mono ?_); rintro _ w3 ⟨rfl, hB3⟩; (have HB3 := Lib.hid hB3); (have HL3 := Lib.hid (HLG.out.below hB3)); clear ksg hB3)
          | (go_at_call 68; (with_reducible refine (sync_dir ad HL3.out.at_.dir hns).mono ?_); rw [HDZ.out]; rintro _ w4 ⟨L4, rfl, hW4, hD4⟩; (have HT4 := Lib.hid ((WWent.below HLG.out.at_ HB3.out).trans (WWent.dir HL3.out.at_ hW4 hD4))); (have HU4 := Lib.hid (HW.out.trans HT4.out)); clear hW4 hD4))
        have HI4 := Lib.hid (irow_frm HI.out HLG.out.at_ HT4.out.frm)
        go_roundg g
        case measure => omega
        case rel => exact ⟨i + 1, S8, L4, by omega, by go_num, HU4.out, HR2, HCH2, HI4.out⟩
      · have hne : (dz != 0) = true := by simpa using hz0
        rw [if_pos hz0] at hr2
        subst hr2
        have HOP2 := Lib.hid (show ∀ q, openW S q = (dz, S8, newW) from fun q => (HOP.out q).trans (if_pos hz0))
        go_wp2_with (first
          | (go_at_call 13; (with_reducible refine (ksg _ HLG.out.glob).mono ?_); rintro _ w3 ⟨rfl, hB3⟩; (have HB3 := Lib.hid hB3); (have HL3 := Lib.hid (HLG.out.below hB3)); clear ksg hB3)
          | (go_at_call 68; (with_reducible refine (sync_dir ad HL3.out.at_.dir hns).mono ?_); rw [HDZ.out]; rintro _ w4 ⟨L4, rfl, hW4, hD4⟩; (have HT4 := Lib.hid ((WWent.below HLG.out.at_ HB3.out).trans (WWent.dir HL3.out.at_ hW4 hD4))); (have HU4 := Lib.hid (HW.out.trans HT4.out)); clear hW4 hD4))
        go_ret2
        exact ⟨w.heap.size, Nat.le_refl _, L4, a, .slice none 0 0, by rw [HOP2.out]; exact HOF.out (dz, S8, newW) _ _ _ _ HU4.out (by rw [if_neg hz0]; rfl)⟩
end
end Go.Proofs.YteijmjbiaffcmaaGreatDoor
