/- own, For. -/
import Derived.Test.YtolmhlfegllfoaaHiDrop
import Derived.Test.YtolmhlfegllfoaaHiSort
import Derived.Test.YtolmhlfegllfoaaBlockCut
set_option maxRecDepth 20000
set_option linter.unusedSimpArgs false
set_option linter.unusedVariables false
namespace Go.Proofs.Ytolmhlfegllfoaa.Qu.Hi
open Go.RowKit Go.Maps Go.Proofs.Ytolmhlfegllfoaa.Vi Go.Proofs.Ytolmhlfegllfoaa.Mk

set_option maxHeartbeats 4000000 in
theorem own_is (a0 : Option Addr) (c0 : Nat) (l : List Pt) (w : World) (hS : Lst w w.heap.size a0 c0 l) (hl : l.length ≤ 900000) (hn : ∀ p ∈ l, p.s.size ≤ 100000) : Calls Try.prog 37 #[.slice a0 l.length c0] w (OwnDone l w) := by
  have kc := fun w => clone6_is a0 c0 l w
  have HS := Lib.hid hS
  have HN := Lib.hid hn
  clear hS hn
  go_enter Try.func37, Try.ntmps37
  go_wp2_with (go_at_call 54; (with_reducible refine (kc _ HS.out hl).mono ?_); rintro e w1 ⟨v, rfl, hR, hB⟩; (have hsl := hR.slice); (obtain ⟨a1, c1, rfl⟩ := hsl); (have HR := Lib.hid hR); (have HB := Lib.hid hB); clear hR hB kc)
  go_loopw [8] (fun i wr => ∃ (k : Nat), k ≤ l.length ∧ i = .int .i64 (k : Int) ∧ PRow wr w.heap.size (.slice a1 l.length c1) l ∧ Below w.heap.size w wr) (fun i _ => l.length - (intOf i).toNat)
  case atStart => exact ⟨0, by omega, rfl, HR.out, HB.out⟩
  case round =>
    obtain ⟨k, hk, rfl, hR, hB⟩ := hrel
    obtain ⟨w8, hw8⟩ : ∃ x, x = wr := ⟨_, rfl⟩
    subst hw8
    clear HR HB
    by_cases hlt : k < l.length
    · have hlti : (k : Int) < (l.length : Int) := by omega
      rcases hR.pts.at_ with rfl | ⟨b, off, rfl, hbw, hc⟩
      · simp at hlt
      · obtain ⟨x, hx⟩ : ∃ x, l[k] = x := ⟨_, rfl⟩
        have hA := hc k hlt
        have hxn := HN.out x (by rw [← hx]; exact List.getElem_mem hlt)
        rw [hx] at hA
        have kcl := fun w => clone_is x.s w hxn
        have HR := Lib.hid hR
        have HB := Lib.hid hB
        have HA := Lib.hid hA
        have y0 := hA.c0
        clear hc hx hR hB hA
        go_wp2_with (go_at_call 32; (with_reducible refine (kcl _).mono ?_); rintro e w5 ⟨rfl, hb5⟩; (have hz0 := (HA.out.below hb5 HA.out.room).c0); (have hno := setCell_noop hz0); (have hfz := (HR.out.later hb5).soft (off + k * 6)); (have HB5 := Lib.hid (bel_next HB.out hb5)); (have HR5 := Lib.hid (HR.out.later hb5)); clear hb5)
        go_roundw
        case rel => exact ⟨k + 1, by omega, by go_num, HR5.out, HB5.out⟩
        case measure => simp [intOf]; omega
    · obtain rfl : k = l.length := by omega
      have hlt2 : ¬ (l.length : Int) < (l.length : Int) := by omega
      go_wp2
      go_ret
      exact ⟨_, rfl, hR, hB⟩
theorem Hk.fine.name {x : Hk} (h : x.fine) : x.p.s.size ≤ 40 := by
  obtain ⟨h1, -, -⟩ := h
  have hok : x.p.ok = true := by
    unfold Pt.err at h1
    cases e : x.p.ok with
    | true => rfl
    | false => rw [e] at h1; cases h1
  unfold Pt.ok at hok
  rw [Bool.and_eq_true] at hok
  obtain ⟨g1, g2⟩ := Bool.and_eq_true_iff.1 hok.1
  refine Nat.le_of_not_lt fun k => ?_
  have := nameL_short (s := x.p.s.data.toList) (Or.inr (by simpa using k))
  unfold nameB at g1
  rw [this] at g1; cases g1
theorem perm_strike {L P M : List Hk} {x : Hk} (h : (P ++ M).Perm L) (hn : M.Nodup) (hx : x ∈ M) : ((P ++ [x]) ++ M.filter fun y => !decide (y = x)).Perm L := by
  refine List.Perm.trans ?_ h
  rw [List.append_assoc]
  refine List.Perm.append_left P ?_
  have e : (M.filter fun y => !decide (y = x)) = M.erase x := by
    rw [hn.erase_eq_filter]
    refine List.filter_congr fun y _ => ?_
    rw [Bool.eq_iff_iff]; simp
  rw [e]
  exact (List.perm_cons_erase hx).symm
theorem ofL_snoc_yes {P : List Hk} {x : Hk} {n : Int} (h : x.n = n) : ofL (P ++ [x]) n = ofL P n ++ [x.p] := by
  unfold ofL; rw [List.filter_append, List.map_append]; simp [h]
theorem ofL_snoc_no {P : List Hk} {x : Hk} {n : Int} (h : x.n ≠ n) : ofL (P ++ [x]) n = ofL P n := by
  unfold ofL; rw [List.filter_append, List.map_append]; simp [h]
theorem ofL_len (P : List Hk) (n : Int) : (ofL P n).length ≤ P.length := by unfold ofL; rw [List.length_map]; exact List.length_filter_le _ _
theorem ofL_perm {P L : List Hk} (h : P.Perm L) (n : Int) : (ofL P n).Perm (ofL L n) := (h.filter _).map _
theorem forL_end {P L : List Hk} (h : P.Perm L) (n most : Int) : (srtO (ofL P n)).take (min most.toNat (ofL P n).length) = forL L n most := by
  have e := ofL_perm h n
  unfold forL
  rw [srtO_cong e]
  by_cases hm : most.toNat ≤ (ofL P n).length
  · rw [Nat.min_eq_left hm]
  · have hl : (srtO (ofL L n)).length = (ofL P n).length := by rw [srtO_len, e.length_eq]
    rw [Nat.min_eq_right (by omega), List.take_of_length_le (by omega), List.take_of_length_le (by omega)]
/-- A visit of all entries by which a slice of points is gathered. -/
structure FoJ (w wr : World) (m : Nat) (L : List Hk) (n : Int) (q : Nat) (v : Value) : Prop where
  it : ∃ (left : Lit → Bool) (cnt : Nat) (D : DataW Value) (M P : List Hk), wr.ranges Try.prog TKK unitElem m w.heap.size L.length D left cnt ∧ LIs left M ∧ (P ++ M).Perm L ∧ PRow wr (w.heap.size + 1) v (ofL P n) ∧ (ofL P n).length = q ∧ P.length + M.length = L.length
  bel : Below w.heap.size w wr
  lo : w.heap.size + 1 ≤ wr.heap.size
def ForDone (L : List Hk) (n most : Int) (w : World) (e : Ending) (w' : World) : Prop := ∃ v, e = .returned v ∧ PRow w' w.heap.size v (forL L n most) ∧ Below w.heap.size w w'
theorem grown_bel {w a b : World} {g : Nat} (h : Below w.heap.size w a) (k : a.grownBy b (some g)) (hg : w.heap.size ≤ g) : Below w.heap.size w b := h.grown k h.size fun j hj => by rw [← Option.some.inj hj]; exact hg
set_option maxHeartbeats 8000000 in
theorem for_some {w : World} {B b m : Nat} {room : Int} {L : List Hk} (h : HiAt w B b (some m) room L) (n most : Int) : Calls Try.prog 19 #[.pointer (some ⟨b, 0, none⟩), .int .i64 n, .int .i64 most] w (ForDone L n most w) := by
  have ka := all_is h
  have hlen : L.length ≤ 600 := by have := h.len; have := h.rm; omega
  have HGD := Lib.hid h.good
  obtain ⟨-, ⟨D0, hD0, hI0⟩, hG0⟩ := h.some_ m rfl
  have hmlt := h.mlt
  obtain ⟨w0, hrun0, hrg0, hg0, hs0⟩ := hD0.range klaw undM
  have HJ0 := Lib.hid (show FoJ w w0 m L n 0 (.slice none 0 0) from ⟨⟨_, _, D0, L, [], hrg0, hI0.left, by rw [List.nil_append], PRow.nil _ _, rfl, by simp⟩, ⟨hg0.os, hg0.tape, hg0.output, hg0.size, fun k hk => hg0.block k hk (by simp)⟩, by omega⟩)
  have HBIG := Lib.hid (fun x (hx : x ∈ L) => (h.good.fine x hx).big)
  have ks := fun (v : Value) (l : List Pt) (W : World) (h : PRow W (w.heap.size + 1) v l) (hl : l.length ≤ 1000000) => sortp_is v l _ W h hl
  have ko := fun (a0 : Option Addr) (c0 : Nat) (l : List Pt) (W : World) (hS : Lst W W.heap.size a0 c0 l) (hl : l.length ≤ 900000) (hn : ∀ p ∈ l, p.s.size ≤ 100000) => own_is a0 c0 l W hS hl hn
  clear h hrg0 hg0 hs0 hD0 hI0 hG0
  go_enter Try.func19, Try.ntmps19
  go_wp2_with (go_at_call 30; (with_reducible refine ka.mono ?_); rintro e w1 ⟨rfl, rfl⟩)
  try go_frame
  go_loopw [7, 8] (fun s7 s8 wr => ∃ (q : Nat) (a5 : Option Addr) (c5 : Nat), s7 = .slice a5 q c5 ∧ Hid (FoJ w wr m L n q (.slice a5 q c5))) (fun _ _ wr => wr.rangeLeft m w.heap.size)
  case atStart => exact ⟨0, none, 0, rfl, HJ0⟩
  case round =>
    obtain ⟨q, a5, c5, rfl, HJ⟩ := hrel
    obtain ⟨w8, hw8⟩ : ∃ x, x = wr := ⟨_, rfl⟩
    subst hw8
    obtain ⟨left, cnt, D, M, P, hrg, hL, hP, hR, hq, hPM⟩ := HJ.out.it
    have HE8 := Lib.hid hrg.left_eq
    have hMn : M.Nodup := (List.nodup_append.1 (hP.nodup_iff.2 HGD.out.nodup)).2.1
    have hML : ∀ x ∈ M, x ∈ L := fun x hx => hP.mem_iff.1 (List.mem_append_right _ hx)
    have hq6 : q ≤ 600 := by have := ofL_len P n; omega
    rcases hrg.next klaw 0 with ⟨h0, hl0, hrun⟩ | ⟨key, v, kl, y, w9, cnt9, hkey, hlk, hv, hat, hrun, hrg9, hlt9, hg9, hs9, hen⟩
    · have hM0 := hL.none (fun x hx => HBIG.out x (hML x hx)) hl0
      subst hM0
      rw [List.append_nil] at hP
      have HEND := Lib.hid (forL_end hP n most)
      rw [hq] at HEND
      have hks := ks (.slice a5 q c5) (ofL P n) w8 hR (by omega)
      have HLN := Lib.hid (show (srtO (ofL P n)).length = q by rw [srtO_len]; exact hq)
      have HNM := Lib.hid (show ∀ p ∈ srtO (ofL P n), p.s.size ≤ 100000 from fun p hp => by
        have h1 := (srtO_perm _).mem_iff.1 hp
        unfold ofL at h1
        obtain ⟨x, hx, rfl⟩ := List.mem_map.1 h1
        have := (HGD.out.fine x (hP.mem_iff.1 (List.mem_filter.1 hx).1)).name
        omega)
      have HNE := Lib.hid (show ∀ g, (Value.slice a5 q c5).ownBlock = some g → w.heap.size + 1 ≤ g from fun g hg => (World.ownsRow.lt hR g hg).1)
      obtain ⟨j, hj⟩ : ∃ j, min most.toNat q = j := ⟨_, rfl⟩
      have hjz : min (max most 0) (q : Int) = (j : Int) := by omega
      have hjq : j ≤ q := by omega
      have hcut := at_to0
      have hcap := hR.upto.2.1
      rw [hq] at hcap
      have hc2 := cut_to0 a5 q c5 j (min (max most 0) (q : Int)) hjz (by omega)
      have hc3 := at_to0 a5 q c5 j (min (max most 0) (q : Int)) hjz (by omega)
      rw [hj] at HEND
      have HBW := Lib.hid HJ.out.bel
      have HLO := Lib.hid HJ.out.lo
      clear hrg hL hML hMn hl0 hR hcut HJ ks
      go_wp2_with (first
        | (go_at_call 35; (with_reducible refine hks.mono ?_); rintro e w10 ⟨rfl, hR10, hg10⟩; (have HB10 := Lib.hid (HBW.out.grown hg10 HBW.out.size fun g hg => by (have h1 := HNE.out g hg); omega)); (have HL10 := Lib.hid hR10.lst); (have HS10 := Lib.hid hg10.size); clear hR10 hg10)
        | (go_at_call 37; (have hL11 := HL10.out.to_ (hi := j) (by rw [HLN.out]; exact hjq)); (rw [cutP_zero] at hL11); (have hk11 := ko a5 c5 _ w10 hL11 (by (have h1 := HLN.out); rw [List.length_take]; omega) (fun p hp => HNM.out p (List.mem_of_mem_take hp))); (rw [show ((srtO (ofL P n)).take j).length = j by rw [List.length_take, HLN.out]; omega, HEND.out] at hk11); (with_reducible refine hk11.mono ?_); rintro e w11 ⟨v11, rfl, hR11, hb11⟩; (have HR11 := Lib.hid (hR11.base HB10.out.size)); (have HB11 := Lib.hid (bel_next HB10.out hb11)); clear hL11 hk11 hR11 hb11))
      go_ret
      exact ⟨_, rfl, HR11.out, HB11.out⟩
    · obtain ⟨x, rfl, rfl, hxb, rfl, hxM⟩ := step_key hkey hv hL hlk
      have hB9 := grown_bel HJ.out.bel hg9 (Nat.le_refl _)
      have hR9 : PRow w9 (w.heap.size + 1) (.slice a5 q c5) (ofL P n) := hR.grown hg9 (Or.inl fun e => by have := (World.ownsRow.lt hR _ e).1; omega)
      have hal : Below w9.heap.size w9 (w9.alloc (box7 x)) := (Below.refl _ _).alloc (Nat.le_refl _) _
      have hk7 := K7.new w9 x
      have hL9 := hL.strike hxb
      have hP9 := perm_strike hP hMn hxM
      have hrga : (w9.alloc (box7 x)).ranges Try.prog TKK unitElem m w.heap.size L.length D _ cnt9 := hrg9.alloc _
      have hlo9 : w.heap.size + 1 ≤ w9.heap.size := by have := HJ.out.lo; omega
      have hPM9 : (P ++ [x]).length + (M.filter fun y => !decide (y = x)).length = L.length := by have := hP9.length_eq; rw [List.length_append] at this; exact this
      obtain ⟨y0, y1, y2, y3, y4, y5, y6⟩ := hk7
      unfold hkV at hrun hen
      by_cases hxn : x.n = n
      · have hof := ofL_snoc_yes (P := P) hxn
        have hqx : (x.n == n) = true := by simpa using hxn
        have HST := Lib.hid (show ∀ (a6 : Option Addr) (c6 : Nat) (w11 : World), PRow w11 (w.heap.size + 1) (.slice a6 (q + 1) c6) (ofL P n ++ [x.p]) → (w9.alloc (box7 x)).grownBy w11 (Value.slice a5 q c5).ownBlock → FoJ w w11 m L n (q + 1) (.slice a6 (q + 1) c6) ∧ w11.rangeLeft m w.heap.size = cnt9 from fun a6 c6 w11 h1 h2 => by
          have hne : ∀ g, (Value.slice a5 q c5).ownBlock = some g → w.heap.size + 1 ≤ g := fun g hg => (World.ownsRow.lt hR g hg).1
          have hk : w11.ranges Try.prog TKK unitElem m w.heap.size L.length D _ cnt9 := hrga.kept h2 (fun e => by have := hne m e.symm; omega) (fun e => by have := hne _ e.symm; omega)
          refine ⟨⟨⟨_, _, _, _, P ++ [x], hk, hL9, hP9, by rw [hof]; exact h1, by rw [hof, List.length_append, hq]; rfl, hPM9⟩, ?_, ?_⟩, hk.left_eq⟩
          · exact (bel_next hB9 hal).grown h2 (by simp; omega) fun g hg => by have := hne g hg; omega
          · have := h2.size; simp at this; omega)
        have HR9 := Lib.hid (hR9.later hal)
        have HQ := Lib.hid hq
        have HSZ := Lib.hid (show w.heap.size + 1 ≤ (w9.alloc (box7 x)).heap.size by simp; omega)
        clear hrg hL hML hMn hlk hkey hv hat hrg9 hg9 hs9 hxM hB9 hR9 hal hL9 hP9 hrga hlo9 hPM9 hof hR hP hxn
        go_wp2_with (at_builtin; refine wpList_appP (w := w9.alloc (box7 x)) rfl _ _ rfl (w.heap.size + 1) q (.slice a5 q c5) (ofL P n) x.p (w9.heap.size + 1) rfl rfl (by simp) (Lib.hid HQ.out) HR9.out ?hlen HSZ.out ?_; (case hlen => omega); intro a6 c6 w11 hr11 hg11 hb11 _; (have H11 := Lib.hid (HST.out a6 c6 w11 hr11.out hg11)); clear hr11 hg11 hb11)
        go_roundw
        case rel => exact ⟨q + 1, a6, c6, rfl, Lib.hid H11.out.1⟩
        case measure => rw [H11.out.2, HE8.out]; omega
      · have hof := ofL_snoc_no (P := P) hxn
        have hqx : (x.n == n) = false := by simpa using hxn
        have HJ11 := Lib.hid (show FoJ w (w9.alloc (box7 x)) m L n q (.slice a5 q c5) from ⟨⟨_, _, _, _, P ++ [x], hrga, hL9, hP9, by rw [hof]; exact hR9.later hal, by rw [hof]; exact hq, hPM9⟩, bel_next hB9 hal, by simp; omega⟩)
        have HE11 := Lib.hid hrga.left_eq
        clear hrg hL hML hMn hlk hkey hv hat hrg9 hg9 hs9 hxM hB9 hR9 hal hL9 hP9 hrga hlo9 hPM9 hof hR hP hxn
        go_wp2
        go_roundw
        case rel => exact ⟨q, a5, c5, rfl, HJ11⟩
        case measure => rw [HE11.out, HE8.out]; omega
end Go.Proofs.Ytolmhlfegllfoaa.Qu.Hi
