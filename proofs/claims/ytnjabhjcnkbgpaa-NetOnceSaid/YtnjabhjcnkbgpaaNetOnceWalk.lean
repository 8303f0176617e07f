/- The walk of NetOnce. -/
import Derived.Test.YtnjabhjcnkbgpaaNetOnceRow
set_option maxRecDepth 20000
set_option linter.unusedSimpArgs false
set_option linter.unusedVariables false
namespace Go.Proofs.Ytnjabhjcnkbgpaa
open Go.RowKit

theorem pick_last (n : Nat) (h : 0 < n) : pickN ((n : Int) - 1) n = n - 1 := by
  unfold pickN pickI
  rw [if_neg (by omega), Int.tmod_eq_of_lt (by omega) (by omega)]
  omega
theorem double_last {S : NS} {l : List Ml} {m : Ml} (h : S.mail = l ++ [m]) (hl : S.mail.length < 2000) : doubleB S = true ∧ doubleS S ((S.mail.length : Int) - 1) = addS S m.f m.t m.s := by
  have h0 : 0 < S.mail.length := by rw [h]; simp
  have hd : doubleB S = true := by
    unfold doubleB fullB
    have e1 : (S.mail.length == 0) = false := by rw [beq_eq_false_iff_ne]; omega
    rw [e1, decide_eq_false (by omega)]; rfl
  refine ⟨hd, ?_⟩
  unfold doubleS
  rw [hd, if_pos rfl, pick_last _ h0]
  have e : S.mail[S.mail.length - 1]? = some m := by rw [h]; simp
  rw [e]
/-- Behind k sends, with doubles. -/
structure OK2 (p : Nat → Bool) (k : Nat) (S : NS) (xs : List Sn) (os : List Nat) : Prop where
  par : S.par = p
  last : S.last = (S.mail.length : Int)
  few : S.mail.length ≤ 2 * k
  low : 0 ≤ S.last
  owes : Owes S.mail xs os
  num : xs.length ≤ k
  two : ∀ o ∈ os, o ≤ 2
namespace netOnce
set_option maxHeartbeats 16000000 in
theorem walk (a0 : Option Addr) (len cap : Nat) (pa : Option Addr) (plen pcap : Nat) (n0 n1 : Int) (w : World) (harg : ArgOps w a0 len cap) (hpk : ArgInts w pa plen pcap) (_h0 : -9223372036854775808 ≤ n0 ∧ n0 ≤ 9223372036854775807) (_h1 : -9223372036854775808 ≤ n1 ∧ n1 ≤ 9223372036854775807) : Calls Try.prog 4 #[.slice a0 len cap, .slice pa plen pcap, .agg #[.int .i64 n0, .int .i64 n1]] w fun e w' => e = .returned (.bool true) ∧ Below w.heap.size w w' := by
  obtain ⟨l, hl, hops, hlm, hfit⟩ := harg.has
  obtain ⟨pl, hpl, hplc, hplb⟩ : ∃ l : List Int, l.length = plen ∧ (0 < plen → ∃ b off, pa = some ⟨b, off, none⟩ ∧ b < w.heap.size ∧ ∀ j (h : j < l.length), w.cell? ⟨b, off + j, none⟩ = some (.int .i64 l[j])) ∧ ∀ n ∈ l, -9223372036854775808 ≤ n ∧ n ≤ 9223372036854775807 := by
    rcases hpk with h0 | ⟨b, off, l, h1, h2, h3, h4, h5, h6⟩
    · exact ⟨[], h0.symm ▸ rfl, fun h => by omega, fun n h => by simp at h⟩
    · exact ⟨l, h2, fun h => ⟨b, off, h1, World.block_lt_of_cell? w _ (h5 0 (by omega)), h5⟩, h6⟩
  have hplm : plen ≤ 9223372036854775807 := by
    rcases hpk with h0 | ⟨b, off, l, h1, h2, h3, h4, h5, h6⟩
    · omega
    · unfold maxLen at h4; omega
  have HPL := Lib.hid hpl
  have HPC := Lib.hid hplc
  have HPB := Lib.hid hplb
  have HLN := Lib.hid hl
  have HOPS := Lib.hid hops
  have HFIT := Lib.hid hfit
  obtain ⟨a, ha1, ha4⟩ := and3_nat n0
  obtain ⟨b, hb1, hb4⟩ := and3_nat n1
  obtain ⟨wb, hwb⟩ : ∃ x, x = w.alloc (.cells #[.int .i64 n0, .int .i64 n1] 47) := ⟨_, rfl⟩
  have HBB := Lib.hid (show Below w.heap.size w wb by rw [hwb]; exact bel_al w _)
  have hc0 : wb.cell? ⟨w.heap.size, 0, none⟩ = some (.int .i64 n0) := by rw [hwb]; simp [go_sem]
  have hc1 : wb.cell? ⟨w.heap.size, 1, none⟩ = some (.int .i64 n1) := by rw [hwb]; simp [go_sem]
  have hbl : w.heap.size < wb.heap.size := by rw [hwb]; simp
  have HC := Lib.hid (fun (W : World) (hB : Below wb.heap.size wb W) => show W.cell? ⟨w.heap.size, 0, none⟩ = some (.int .i64 n0) ∧ W.cell? ⟨w.heap.size, 1, none⟩ = some (.int .i64 n1) from
    ⟨(hB.cell (p := ⟨w.heap.size, 0, none⟩) hbl).trans hc0, (hB.cell (p := ⟨w.heap.size, 1, none⟩) hbl).trans hc1⟩)
  clear harg hpk hl hops hfit hc0 hc1 hbl _h0 _h1 hpl hplc hplb
  go_enter Try.func4, Try.ntmps4
  go_wp2_with fail
  rw [← hwb]
  clear hwb
  go_wp2_with (first
    | (go_at_call 9; (with_reducible refine (awake_is _).mono ?_); rintro e w1 ⟨rfl, hB⟩; (have HB1 := Lib.hid hB); clear hB)
    | (go_at_call 10; (with_reducible refine (new_is w1).mono ?_); rintro e w2 ⟨rfl, rfl⟩; (have H0 := Lib.hid (One.made w1)); (obtain ⟨d0, d1⟩ := HC.out _ (HB1.out.trans ((bel_al w1 (.cells (ncells (.slice none 0 0) 0 fun _ => false) 54)).mono HB1.out.size))))
    | (go_at_call 17; (have kp := part_one (a : Int) (b : Int) H0.out); (with_reducible refine kp.mono ?_); rintro e w3 ⟨rfl, hO, -, -⟩; (have HO3 := Lib.hid hO); clear hO kp))
  have HB1 := Lib.hid (bel_next HBB.out HB1.out)
  obtain ⟨P, hP⟩ : ∃ P, setS NS.new (a : Int) (b : Int) true = P := ⟨_, rfl⟩
  have hS0 : OK2 (parAB a b) 0 P [] [] := by
    have e : P.mail = [] ∧ P.last = 0 := by
      rw [← hP]; unfold setS; split <;> exact ⟨rfl, rfl⟩
    exact ⟨by rw [← hP]; rfl, by rw [e.1, e.2]; rfl, by rw [e.1]; exact Nat.le_refl _, by rw [e.2]; decide, by rw [e.1]; exact ⟨rfl, fun m => rfl⟩, Nat.le_refl _, fun o h => by simp at h⟩
  rw [hP] at HO3
  have HS0 := Lib.hid hS0
  clear hS0 hP d0 d1
  go_loopw [11, 12, 13] (fun u v i wr => ∃ (k : Nat) (S : NS) (xs : List Sn) (os : List Nat), k ≤ 30 ∧ k ≤ len ∧ i = .int .i64 (k : Int) ∧ OK2 (parAB a b) k S xs os ∧ ORow wr w1.heap.size u xs ∧ PRow wr w1.heap.size v os ∧ One w1 wr w1.heap.size S) (fun _ _ i _ => 30 - (intOf i).toNat)
  case atStart => exact ⟨0, P, [], [], by omega, by omega, rfl, HS0.out, ORow.nil _ _, PRow.nil _ _, HO3.out⟩
  case round =>
    obtain ⟨k, S, xs, os, hk30, hkl, rfl, hos, hru, hrv, hone⟩ := hrel
    obtain ⟨w3, hw3⟩ : ∃ x, x = wr := ⟨_, rfl⟩
    subst hw3
    obtain ⟨ua, uc, rfl⟩ := hru.slice
    obtain ⟨va, vc, rfl⟩ := hrv.slice
    obtain ⟨xn, hxn⟩ : ∃ n, xs.length = n := ⟨_, rfl⟩
    have hon : os.length = xn := by rw [← hos.owes.len]; exact hxn
    rw [hon] at hrv ⊢
    rw [hxn] at hru ⊢
    have hxk : xn ≤ k := by rw [← hxn]; exact hos.num
    have HXN := Lib.hid hxn
    have HON := Lib.hid hon
    have HOS := Lib.hid hos
    have HRU := Lib.hid hru
    have HRV := Lib.hid hrv
    have HO := Lib.hid hone
    clear hos hru hrv hone hxn hon
    by_cases hgo : k < len ∧ k < 30
    · obtain ⟨hg1, hg2⟩ := hgo
      have hg1i : (k : Int) < (len : Int) := by omega
      have hg2i : (k : Int) < 30 := by omega
      have hkw : IntKind.i64.wrap ((k : Int) + 1) = (k : Int) + 1 := by rw [IntKind.wrap_i64]; omega
      have hkl2 : k < l.length := by rw [HLN.out]; exact hg1
      have hat := HOPS.out.at_
      rcases hat with hat | ⟨bb, off, rfl, hbb, hcs⟩
      · rw [hat] at hkl2; exact absurd hkl2 (Nat.not_lt_zero _)
      have hB3 : Below w.heap.size w w3 := bel_next HB1.out HO.out.bel
      obtain ⟨o0, o1, o2, o3⟩ := (hcs k hkl2).below hB3 hbb
      have hbw3 : bb < w3.heap.size := Nat.lt_of_lt_of_le hbb hB3.size
      have hbn1 : ¬ bb = w3.heap.size := by omega
      have hbn2 : ¬ w3.heap.size = bb := by omega
      have hft := HFIT.out l[k] (List.getElem_mem hkl2)
      obtain ⟨o, ho⟩ : ∃ o, l[k] = o := ⟨_, rfl⟩
      rw [ho] at o0 o1 o2 o3 hft
      obtain ⟨x, hx1, hx4⟩ := and3_nat o.a
      obtain ⟨y, hy1, hy4⟩ := and3_nat o.b
      obtain ⟨s, hs⟩ : ∃ s, cutB o.s 60 = s := ⟨_, rfl⟩
      have hs60 : s.size ≤ 60 := by rw [← hs]; exact cutB_size _ _
      have ksh := fun W => short_is o.s s 60 60 W rfl (by decide) (Lib.hid hs)
      have hfull : fullB S = false := by unfold fullB; rw [decide_eq_false]; have := HOS.out.few; omega
      have href : refuse S (x : Int) (y : Int) s = decide (x = y) := by
        unfold refuse
        rw [hfull, two_low hx4 hy4, decide_eq_false (show ¬ 80000 < s.size by omega)]
        cases decide (x = y) <;> rfl
      have HS60 := Lib.hid hs60
      have HREF := Lib.hid href
      obtain ⟨ko, hko⟩ : ∃ ko, o.k = ko := ⟨_, rfl⟩
      obtain ⟨ao, hao⟩ : ∃ ko, o.a = ko := ⟨_, rfl⟩
      obtain ⟨bo, hbo⟩ : ∃ ko, o.b = ko := ⟨_, rfl⟩
      obtain ⟨so, hso⟩ : ∃ ko, o.s = ko := ⟨_, rfl⟩
      rw [hko] at o0
      rw [hao] at o1 hx1
      rw [hbo] at o2 hy1
      rw [hso] at o3 ksh
      clear hcs ho hft hs hs60 hfull hB3 hkl2 hbb href hko hao hbo hso
      have HBX := Lib.hid (show Below w3.heap.size w3 (w3.alloc (.cells #[.int .i64 ko, .int .i64 (x : Int), .int .i64 (y : Int), .string s] 32)) from bel_al _ _)
      go_wp2_with (go_at_call 26; (with_reducible refine (ksh _).mono ?_); rintro e w4 ⟨rfl, rfl⟩)
      have ks := send_one (x : Int) (y : Int) s (by have := HS60.out; omega) (HO.out.later HBX.out)
      have HRU0 := Lib.hid (HRU.out.later HBX.out)
      have HRV0 := Lib.hid (HRV.out.later HBX.out)
      have hbox := heap_alloc_new w3 (.cells #[.int .i64 ko, .int .i64 (x : Int), .int .i64 (y : Int), .string s] 32)
      have HBXC := Lib.hid hbox
      clear hbox o0 o1 o2 o3
      by_cases hxy : x = y
      · as_aux_lemma =>
        have e1 : sendS S (x : Int) (y : Int) s = S := by unfold sendS; rw [HREF.out, decide_eq_true hxy]; rfl
        have e2 : sendN S (x : Int) (y : Int) s = 0 := by unfold sendN; rw [HREF.out, decide_eq_true hxy]; rfl
        rw [e1, e2, HREF.out, decide_eq_true hxy] at ks
        have hne : ((x : Int) != (y : Int)) = false := by simp [hxy]
        clear e1 e2 hxy
        go_wp2_with (go_at_call 27; (with_reducible refine ks.mono ?_); rintro e w4 ⟨rfl, hO, hK, -⟩; (have hb4 := (hK w3.heap.size _ _ _ HBXC.out (by decide) (by decide)).trans HBXC.out); (have d1 := cell_of (j := 1) hb4); (have d2 := cell_of (j := 2) hb4); (have HO4 := Lib.hid hO); (have HRU4 := Lib.hid (show ORow w4 _ _ _ from hK.row HRU0.out (by decide) (by decide))); (have HRV4 := Lib.hid (show PRow w4 _ _ _ from hK.row HRV0.out (by decide) (by decide))); clear hO hK ks hb4)
        have hos := HOS.out
        go_roundw
        case rel => exact ⟨k + 1, S, xs, os, by omega, by omega, by go_num, ⟨hos.par, hos.last, by have := hos.few; omega, hos.low, hos.owes, Nat.le_succ_of_le hos.num, hos.two⟩, HRU4.out, HRV4.out, HO4.out⟩
        case measure => simp [intOf]; omega
      · have e1 : sendS S (x : Int) (y : Int) s = addS S (x : Int) (y : Int) s := by unfold sendS; rw [HREF.out, decide_eq_false hxy]; rfl
        have hlast : inc S.last = ((S.mail.length + 1 : Nat) : Int) := by
          have h1 := HOS.out.last
          have h2 := HOS.out.few
          rw [inc_low (by omega) (by omega), h1]; omega
        have e2 : sendN S (x : Int) (y : Int) s = ((S.mail.length + 1 : Nat) : Int) := by unfold sendN; rw [HREF.out, decide_eq_false hxy]; exact hlast
        obtain ⟨id, hid⟩ : ∃ id, S.mail.length + 1 = id := ⟨_, rfl⟩
        rw [hid] at e2 hlast
        rw [e1, e2, HREF.out, decide_eq_false hxy] at ks
        have hne : ((x : Int) != (y : Int)) = true := by simp; omega
        have hid1 : ¬ (id : Int) < 1 := by omega
        have hsent : OK2 (parAB a b) (k + 1) (addS S (x : Int) (y : Int) s) (xs ++ [⟨ko, x, y, s⟩]) (os ++ [1]) ∧ (addS S (x : Int) (y : Int) s).mail = S.mail ++ [⟨(id : Int), x, y, s, 0⟩] := by
          have h2 := HOS.out.few
          have hm : (addS S (x : Int) (y : Int) s).mail = S.mail ++ [⟨(id : Int), x, y, s, 0⟩] := by unfold addS; rw [hlast]
          refine ⟨⟨HOS.out.par, ?_, ?_, ?_, ?_, ?_, ?_⟩, hm⟩
          · rw [hm, List.length_append]; show inc S.last = _; rw [hlast, ← hid]; rfl
          · rw [hm, List.length_append]; simp; omega
          · show 0 ≤ inc S.last; rw [hlast]; omega
          · rw [hm]; exact HOS.out.owes.sent ko x y s id 0
          · rw [List.length_append, HXN.out]; simp; omega
          · intro o ho
            rcases List.mem_append.1 ho with ho | ho
            · exact HOS.out.two o ho
            · simp at ho; omega
        obtain ⟨T, hT⟩ : ∃ T, addS S (x : Int) (y : Int) s = T := ⟨_, rfl⟩
        rw [hT] at ks hsent
        have HST := Lib.hid hsent
        obtain ⟨n1, hn1⟩ : ∃ n1, xn + 1 = n1 := ⟨_, rfl⟩
        have HN1 := Lib.hid hn1
        have HL5 := Lib.hid (show (xs ++ [(⟨ko, x, y, s⟩ : Sn)]).length = n1 by rw [List.length_append, HXN.out]; exact hn1)
        have HL6 := Lib.hid (show (os ++ [1]).length = n1 by rw [List.length_append, HON.out]; exact hn1)
        have hn1w : IntKind.i64.wrap ((n1 : Int) - 1) = (xn : Int) := by rw [IntKind.wrap_i64]; omega
        have hn1i : (xn : Int) < (n1 : Int) := by omega
        clear hn1
        have hmod := Int.tmod_lt_of_pos ko (show (0 : Int) < 4 by decide)
        clear e1 e2 hxy hsent hT hid hlast
        by_cases hk4 : ko.tmod 4 = 0
        · as_aux_lemma =>
          have hk4b : (ko.tmod 4 == 0) = true := by simpa using hk4
          have hdl : doubleB T = true ∧ doubleS T ((T.mail.length : Int) - 1) = addS T (x : Int) (y : Int) s := double_last HST.out.2 (by have := HST.out.1.few; omega)
          have HDL := Lib.hid hdl
          have HWT := Lib.hid (fun (W : World) (h : One w1 W w1.heap.size T) => waits_one h)
          have HDT := Lib.hid (fun (W : World) (h : One w1 W w1.heap.size T) => double_one ((T.mail.length : Int) - 1) (by have := HST.out.1.few; omega) h)
          obtain ⟨tl, htl⟩ : ∃ n, T.mail.length = n := ⟨_, rfl⟩
          have htl0 : 0 < tl := by rw [← htl, HST.out.2, List.length_append]; simp
          have htl60 : tl ≤ 62 := by have := HST.out.1.few; omega
          have htw : IntKind.i64.wrap ((tl : Int) - 1) = (tl : Int) - 1 := by rw [IntKind.wrap_i64]; omega
          rw [htl] at HWT HDT HDL
          rw [HDL.out.1, HDL.out.2] at HDT
          have HTL := Lib.hid htl
          clear hk4 hdl htl
          go_wp2_with (first
            | (go_at_call 27; (with_reducible refine ks.mono ?_); rintro e w4 ⟨rfl, hO, hK, hsz⟩; (have hb4 := (hK w3.heap.size _ _ _ HBXC.out (by decide) (by decide)).trans HBXC.out); (have d0 := cell_of (j := 0) hb4); (have d1 := cell_of (j := 1) hb4); (have d2 := cell_of (j := 2) hb4); (have d3 := cell_of (j := 3) hb4); (have HB4 := Lib.hid hb4); (have HSZ := Lib.hid (Nat.le_trans (Nat.le_trans HO.out.bel.size (HBX.out.size)) hsz)); (have hs34 : w3.heap.size < w4.heap.size := by have := (Array.getElem?_eq_some_iff.1 hb4).1; exact this); (have HO4 := Lib.hid hO); (have HRU4 := Lib.hid (show ORow w4 _ _ _ from hK.row HRU0.out (by decide) (by decide))); (have HRV4 := Lib.hid (show PRow w4 _ _ _ from hK.row HRV0.out (by decide) (by decide))); clear hO hK ks hb4 hsz)
            | (at_builtin; refine wpList_sent (w := w4) rfl _ _ rfl w1.heap.size (.slice ua xn uc) xs ⟨ko, x, y, s⟩ rfl rfl HRU4.out HSZ.out (by rw [HXN.out]; omega) ?_; intro v5 w5 hR5 hg5 hs5; (have hap := row_ne HRU4.out HRV4.out (by decide)); (have HRV5 := Lib.hid (show PRow w5 _ _ _ from hap.kept hg5 HRV4.out)); (have HO5 := Lib.hid (HO4.out.grown hg5 HRU4.out (by decide) (by decide) (Nat.le_refl _))); (have hb5 := (hg5.block w3.heap.size hs34 (fun e => by have := (World.ownsRow.lt HRU.out _ e.symm).2; omega)).trans HB4.out); (have d5 := cell_of (j := 0) hb5); (have HB5 := Lib.hid hb5); (have HSZ5 := Lib.hid (Nat.le_trans HSZ.out hg5.size)); (obtain ⟨u5, c5, rfl⟩ := hR5.slice); rw [HL5.out] at hR5 ⊢; (have HR5 := Lib.hid hR5); (have hs35 : w3.heap.size < w5.heap.size := Nat.lt_of_lt_of_le hs34 hg5.size); clear hg5 hs5 hap hb5 hR5 d0 d1 d2 d3 hs34)
            | (at_builtin; refine wpList_place (w := w5) rfl _ _ rfl w1.heap.size (.slice va xn vc) os 1 rfl rfl HRV5.out HSZ5.out (by rw [HON.out]; omega) ?_; intro v6 w6 hR6 hg6 hs6; (have hap := row_ne HRV5.out HR5.out (by decide)); (have HRU6 := Lib.hid (show ORow w6 _ _ _ from hap.kept hg6 HR5.out)); (have HO6 := Lib.hid (HO5.out.grown hg6 HRV5.out (by decide) (by decide) (Nat.le_refl _))); (have hb6 := (hg6.block w3.heap.size hs35 (fun e => by obtain ⟨c, h1⟩ := row_heap HRV5.out e.symm; exact kinds_ne HB5.out h1 (by decide) rfl)).trans HB5.out); (have d6 := cell_of (j := 0) hb6); (obtain ⟨u6, c6, rfl⟩ := hR6.slice); rw [HL6.out] at hR6 ⊢; (have HR6 := Lib.hid hR6); (have kw := HWT.out _ HO6.out); (have kd := HDT.out _ HO6.out); clear hg6 hs6 hap hb6 hR6 d5 hs35)
            | (go_at_call 31; (with_reducible refine kw.mono ?_); rintro e w7 ⟨rfl, rfl⟩; clear kw)
            | (go_at_call 15; (with_reducible refine kd.mono ?_); rintro e w8 ⟨rfl, hO, hK, hsz⟩; (have HO8 := Lib.hid hO); (have HRU8 := Lib.hid (show ORow w8 _ _ _ from hK.row HRU6.out (by decide) (by decide))); (have hR8 := (show PRow w8 _ _ _ from hK.row HR6.out (by decide) (by decide))); (obtain ⟨g8, rfl, c8, f8, ⟨cur8, hcur8⟩, hge8, hset8⟩ := owed_last hR8 HON.out HN1.out); (have HP9 := Lib.hid hset8); (have HO9 := Lib.hid (HO8.out.aside (w' := w8.setCell ⟨g8, xn, none⟩ (.int .i64 2)) g8 hge8 hcur8 (by decide) (by decide) (fun k hk => heap_setCell_other w8 ⟨g8, xn, none⟩ k (.int .i64 2) hk) rfl rfl rfl (by simp))); (have HRU9 := Lib.hid (show ORow (w8.setCell ⟨g8, xn, none⟩ (.int .i64 2)) _ _ _ from row_of HRU8.out fun k hk => heap_setCell_other _ _ _ _ (fun e => by obtain ⟨c, h1⟩ := row_heap HRU8.out hk; exact kinds_ne h1 hcur8 (by decide) e))); clear hO hK hsz kd hR8 hset8 hcur8 hge8))
          have hdd : OK2 (parAB a b) (k + 1) (addS T (x : Int) (y : Int) s) (xs ++ [⟨ko, x, y, s⟩]) (os ++ [2]) := by
            have h1 := HST.out.1
            have h2 := HST.out.2
            have h3 := HTL.out
            have h4 := h1.last
            have h5 := HOS.out.few
            have hl2 : T.mail.length = S.mail.length + 1 := by rw [h2, List.length_append]; rfl
            have hinc : inc T.last = ((T.mail.length + 1 : Nat) : Int) := by rw [inc_low (by omega) (by omega), h4]; omega
            have hm : (addS T (x : Int) (y : Int) s).mail = T.mail ++ [⟨inc T.last, x, y, s, 0⟩] := rfl
            refine ⟨h1.par, ?_, ?_, ?_, ?_, h1.num, ?_⟩
            · rw [hm, List.length_append]; show inc T.last = _; rw [hinc]; rfl
            · rw [hm, List.length_append, hl2]; simp; omega
            · show 0 ≤ inc T.last; rw [hinc]; omega
            · rw [hm, h2]
              have := h1.owes
              rw [h2] at this
              exact this.doubled ko x y s 0 (inc T.last) 0 0
            · intro o ho
              rcases List.mem_append.1 ho with ho | ho
              · exact HOS.out.two o ho
              · simp at ho; omega
          have HDD := Lib.hid hdd
          clear hdd
          go_roundw
          case rel => exact ⟨k + 1, _, _, _, by omega, by omega, by go_num, HDD.out, HRU9.out, HP9.out, HO9.out⟩
          case measure => simp [intOf]; omega
        · as_aux_lemma =>
          have hk4b : (ko.tmod 4 == 0) = false := by simpa using hk4
          clear hk4
          go_wp2_with (first
            | (go_at_call 27; (with_reducible refine ks.mono ?_); rintro e w4 ⟨rfl, hO, hK, hsz⟩; (have hb4 := (hK w3.heap.size _ _ _ HBXC.out (by decide) (by decide)).trans HBXC.out); (have d0 := cell_of (j := 0) hb4); (have d1 := cell_of (j := 1) hb4); (have d2 := cell_of (j := 2) hb4); (have d3 := cell_of (j := 3) hb4); (have HB4 := Lib.hid hb4); (have HSZ := Lib.hid (Nat.le_trans (Nat.le_trans HO.out.bel.size (HBX.out.size)) hsz)); (have hs34 : w3.heap.size < w4.heap.size := by have := (Array.getElem?_eq_some_iff.1 hb4).1; exact this); (have HO4 := Lib.hid hO); (have HRU4 := Lib.hid (show ORow w4 _ _ _ from hK.row HRU0.out (by decide) (by decide))); (have HRV4 := Lib.hid (show PRow w4 _ _ _ from hK.row HRV0.out (by decide) (by decide))); clear hO hK ks hb4 hsz)
            | (at_builtin; refine wpList_sent (w := w4) rfl _ _ rfl w1.heap.size (.slice ua xn uc) xs ⟨ko, x, y, s⟩ rfl rfl HRU4.out HSZ.out (by rw [HXN.out]; omega) ?_; intro v5 w5 hR5 hg5 hs5; (have hap := row_ne HRU4.out HRV4.out (by decide)); (have HRV5 := Lib.hid (show PRow w5 _ _ _ from hap.kept hg5 HRV4.out)); (have HO5 := Lib.hid (HO4.out.grown hg5 HRU4.out (by decide) (by decide) (Nat.le_refl _))); (have hb5 := (hg5.block w3.heap.size hs34 (fun e => by have := (World.ownsRow.lt HRU.out _ e.symm).2; omega)).trans HB4.out); (have d5 := cell_of (j := 0) hb5); (have HB5 := Lib.hid hb5); (have HSZ5 := Lib.hid (Nat.le_trans HSZ.out hg5.size)); (obtain ⟨u5, c5, rfl⟩ := hR5.slice); rw [HL5.out] at hR5 ⊢; (have HR5 := Lib.hid hR5); (have hs35 : w3.heap.size < w5.heap.size := Nat.lt_of_lt_of_le hs34 hg5.size); clear hg5 hs5 hap hb5 hR5 d0 d1 d2 d3 hs34)
            | (at_builtin; refine wpList_place (w := w5) rfl _ _ rfl w1.heap.size (.slice va xn vc) os 1 rfl rfl HRV5.out HSZ5.out (by rw [HON.out]; omega) ?_; intro v6 w6 hR6 hg6 hs6; (have hap := row_ne HRV5.out HR5.out (by decide)); (have HRU6 := Lib.hid (show ORow w6 _ _ _ from hap.kept hg6 HR5.out)); (have HO6 := Lib.hid (HO5.out.grown hg6 HRV5.out (by decide) (by decide) (Nat.le_refl _))); (have hb6 := (hg6.block w3.heap.size hs35 (fun e => by obtain ⟨c, h1⟩ := row_heap HRV5.out e.symm; exact kinds_ne HB5.out h1 (by decide) rfl)).trans HB5.out); (have d6 := cell_of (j := 0) hb6); (obtain ⟨u6, c6, rfl⟩ := hR6.slice); rw [HL6.out] at hR6 ⊢; (have HR6 := Lib.hid hR6); clear hg6 hs6 hap hb6 hR6 d5 hs35))
          go_roundw
          case rel => exact ⟨k + 1, T, _, _, by omega, by omega, by go_num, HST.out.1, HRU6.out, HR6.out, HO6.out⟩
          case measure => simp [intOf]; omega
    · have hc : (¬ (k : Int) < (len : Int)) ∨ ((k : Int) < (len : Int) ∧ ¬ (k : Int) < 30) := by omega
      have kw := waits_one HO.out
      obtain ⟨tl, htl⟩ : ∃ n, S.mail.length = n := ⟨_, rfl⟩
      rw [htl] at kw
      have htl60 : tl ≤ 60 := by have := HOS.out.few; omega
      have HTL := Lib.hid htl
      have htw : IntKind.i64.wrap ((tl : Int) + 2) = (tl : Int) + 2 := by rw [IntKind.wrap_i64]; omega
      clear htl hgo
      rcases hc with hc1 | ⟨hc1, hc2⟩
      all_goals as_aux_lemma =>
        go_wp2_with (go_at_call 31; (with_reducible refine kw.mono ?_); rintro e w4 ⟨rfl, rfl⟩; clear kw)
        go_loopw [18] (fun i wr => ∃ (q : Nat) (hd : Bool) (T : NS) (os2 : List Nat), q ≤ tl + 2 ∧ i = .int .i64 (q : Int) ∧ T.par = (if hd = true then fun _ => false else parAB a b) ∧ Owes T.mail xs os2 ∧ (∀ o ∈ os2, o ≤ 2) ∧ T.mail.length + q ≤ tl + (if hd = true then 1 else 0) ∧ ORow wr w1.heap.size (.slice ua xn uc) xs ∧ PRow wr w1.heap.size (.slice va xn vc) os2 ∧ One w1 wr w1.heap.size T) (fun i _ => tl + 2 - (intOf i).toNat)
        case atStart => exact ⟨0, false, S, os, by omega, rfl, HOS.out.par, HOS.out.owes, HOS.out.two, by rw [HTL.out]; simp, HRU.out, HRV.out, HO.out⟩
        case round =>
          obtain ⟨q, hd, T, os2, hq, rfl, hpar, how, htwo, hmx, hru, hrv, hone⟩ := hrel
          obtain ⟨w5, hw5⟩ : ∃ x, x = wr := ⟨_, rfl⟩
          subst hw5
          have HRU5 := Lib.hid hru
          have HRV5 := Lib.hid hrv
          have HO5 := Lib.hid hone
          have HOW := Lib.hid how
          have HTW := Lib.hid htwo
          have HO2L := Lib.hid (show os2.length = xn by rw [← how.len]; exact HXN.out)
          have hlt : q < tl + 2 := by
            by_cases h : hd = true
            · rw [if_pos h] at hmx; omega
            · rw [if_neg h] at hmx; omega
          have hqi : (q : Int) < (tl : Int) + 2 := by omega
          have hqw : IntKind.i64.wrap ((q : Int) + 1) = (q : Int) + 1 := by rw [IntKind.wrap_i64]; omega
          clear hru hrv hone how htwo
          obtain ⟨pv, hpv, hpc⟩ : ∃ pv : Int, (-9223372036854775808 ≤ pv ∧ pv ≤ 9223372036854775807) ∧ (((q : Int) < (plen : Int) ∧ ∃ bb off, pa = some ⟨bb, off, none⟩ ∧ w5.cell? ⟨bb, off + q, none⟩ = some (.int .i64 pv)) ∨ (¬ (q : Int) < (plen : Int) ∧ pv = 0)) := by
            by_cases hqp : q < plen
            · obtain ⟨bb, off, e, hbb, hcs⟩ := HPC.out (by omega)
              have hql : q < pl.length := by rw [HPL.out]; exact hqp
              exact ⟨pl[q], HPB.out _ (List.getElem_mem hql), Or.inl ⟨by omega, bb, off, e, ((bel_next HB1.out HO5.out.bel).cell (p := ⟨bb, off + q, none⟩) hbb).trans (hcs q hql)⟩⟩
            · exact ⟨0, by omega, Or.inr ⟨by omega, rfl⟩⟩
          by_cases hr : readyL T = []
          · skip
            have kt := take_one pv hpv (HO5.out)
            rw [(take_empty pv hr).1, (take_empty pv hr).2] at kt
            unfold mailV noM at kt
            dsimp only [Option.isSome] at kt
            have bx := fun (w6 : World) => bel_al w6 (.cells #[.int .i64 0, .int .i64 0, .int .i64 0, .string ⟨#[]⟩, .int .i64 0] 34)
            have BX := Lib.hid bx
            clear bx
            rcases hpc with ⟨hq1, bb, off, rfl, cq⟩ | ⟨hq1, rfl⟩
            all_goals as_aux_lemma =>
              by_cases hbr : a ≠ b ∧ hd = false
              · as_aux_lemma =>
                obtain ⟨hab, rfl⟩ := hbr
                have hne : ((a : Int) != (b : Int)) = true := by simp; omega
                have hpt : partedB T (a : Int) (b : Int) = true := by
                  unfold partedB
                  rw [two_low ha4 hb4, hpar, decide_eq_false hab]
                  show (true && parAB a b (spot (a : Int) (b : Int))) = true
                  rw [par_is ha4 hb4, if_neg hab]
                  unfold turnP
                  rw [if_pos (Or.inl rfl)]; rfl
                have KPT := Lib.hid (fun (W : World) (h : One w1 W w1.heap.size T) => parted_one (a : Int) (b : Int) h)
                rw [hpt] at KPT
                have KHL := Lib.hid (fun (W : World) (h : One w1 W w1.heap.size T) => heal_one h)
                have HM2 := Lib.hid hmx
                clear hpt hab hr hpar hmx
                go_wp2_with (first
                  | (go_at_call 11; (with_reducible refine kt.mono ?_); rintro e w6 ⟨rfl, hO, hK, -⟩; (have hO6 := hO.later (BX.out w6)); (have HRU6 := Lib.hid (show ORow _ _ _ _ from (show ORow w6 _ _ _ from hK.row HRU5.out (by decide) (by decide)).later (BX.out w6))); (have HRV6 := Lib.hid (show PRow _ _ _ _ from (show PRow w6 _ _ _ from hK.row HRV5.out (by decide) (by decide)).later (BX.out w6))); (have kpt := KPT.out _ hO6); (have khl := KHL.out _ hO6); clear hO hK kt)
                  | (go_at_call 34; (with_reducible refine kpt.mono ?_); rintro e w7 ⟨rfl, rfl⟩; clear kpt)
                  | (go_at_call 21; (with_reducible refine khl.mono ?_); rintro e w8 ⟨rfl, hO, hK, -⟩; (have HO8 := Lib.hid hO); (have HRU8 := Lib.hid (show ORow w8 _ _ _ from hK.row HRU6.out (by decide) (by decide))); (have HRV8 := Lib.hid (show PRow w8 _ _ _ from hK.row HRV6.out (by decide) (by decide))); clear hO hK khl))
                go_roundw
                case rel => exact ⟨q + 1, true, healS T, os2, by omega, by go_num, rfl, HOW.out, HTW.out, by have := HM2.out; simp only [Bool.false_eq_true, if_false, Nat.add_zero] at this; show T.mail.length + (q + 1) ≤ tl + 1; omega, HRU8.out, HRV8.out, HO8.out⟩
                case measure => simp [intOf]; omega
              · as_aux_lemma =>
                have hnone : T.par = fun _ => false := by
                  rw [hpar]
                  cases hd with
                  | true => rfl
                  | false =>
                    show parAB a b = _
                    rw [par_is ha4 hb4, if_pos (by by_cases h : a = b; exact h; exact absurd ⟨h, rfl⟩ hbr)]
                have hmz : T.mail = [] := by rw [ready_none hnone] at hr; exact hr
                rw [hmz] at HOW
                have hab : (((a : Int) != (b : Int)) = false) ∨ (((a : Int) != (b : Int)) = true ∧ partedB T (a : Int) (b : Int) = false) := by
                  by_cases h : a = b
                  · left; simp [h]
                  · right
                    exact ⟨by simp; omega, by unfold partedB; rw [hnone]; simp⟩
                have KPT := Lib.hid (fun (W : World) (h : One w1 W w1.heap.size T) => parted_one (a : Int) (b : Int) h)
                clear hbr hnone hr hpar
                rcases hab with hab1 | ⟨hab1, hab2⟩
                · go_wp2_with (go_at_call 11; (with_reducible refine kt.mono ?_); rintro e w6 ⟨rfl, hO, hK, -⟩; (have HO6 := Lib.hid (hO.later (BX.out w6))); (have HP6 := Lib.hid (show PRow _ _ _ _ from (show PRow w6 _ _ _ from hK.row HRV5.out (by decide) (by decide)).later (BX.out w6))); clear hO hK kt)
                  obtain ⟨w6b, hw6b⟩ : ∃ x, x = w6.alloc (.cells #[.int .i64 0, .int .i64 0, .int .i64 0, .string ⟨#[]⟩, .int .i64 0] 34) := ⟨_, rfl⟩
                  rw [← hw6b] at HO6 HP6 ⊢
                  clear hw6b
                  have hz := HOW.out.none
                  have HZ := Lib.hid hz
                  have HW0 := Lib.hid (fun (W : World) (h : One w1 W w1.heap.size T) => waits_one h)
                  rw [hmz] at HW0
                  have HPP := Lib.hid HP6.out
                  clear hz
                  go_wp2
                  go_loopw [24] (fun i wr => ∃ j : Nat, j ≤ xn ∧ i = .int .i64 (j : Int) ∧ w6b = wr) (fun i _ => xn - (intOf i).toNat)
                  case atStart => exact ⟨0, by omega, rfl, by simp⟩
                  case round =>
                    obtain ⟨j, hj, rfl, rfl⟩ := hrel
                    by_cases hjn : j < xn
                    · have hji : (j : Int) < (xn : Int) := by omega
                      have hjw : IntKind.i64.wrap ((j : Int) + 1) = (j : Int) + 1 := by rw [IntKind.wrap_i64]; omega
                      have hjo : j < os2.length := by rw [HO2L.out]; exact hjn
                      have hPP := HPP.out
                      rw [← HO2L.out] at hPP
                      obtain ⟨g, rfl, -, -, -, hpc⟩ := hPP.block (by omega)
                      have cj := hpc j hjo
                      rw [HZ.out _ (List.getElem_mem hjo)] at cj
                      have cj0 : w6b.cell? ⟨g, j, none⟩ = some (.int .i64 0) := cj
                      clear hpc hPP cj hjn hjo
                      go_wp2
                      go_roundw
                      case rel => exact ⟨j + 1, by omega, by go_num, by simp⟩
                      case measure => simp [intOf]; omega
                    · have hji : ¬ (j : Int) < (xn : Int) := by omega
                      have kw := HW0.out _ HO6.out
                      clear hjn
                      go_wp2_with (go_at_call 31; (with_reducible refine kw.mono ?_); rintro e w9 ⟨rfl, rfl⟩)
                      go_ret
                      exact ⟨rfl, bel_next HB1.out HO6.out.bel⟩

                · rw [hab2] at KPT
                  go_wp2_with (first
                    | (go_at_call 11; (with_reducible refine kt.mono ?_); rintro e w6 ⟨rfl, hO, hK, -⟩; (have HO6 := Lib.hid (hO.later (BX.out w6))); (have HP6 := Lib.hid (show PRow _ _ _ _ from (show PRow w6 _ _ _ from hK.row HRV5.out (by decide) (by decide)).later (BX.out w6))); (have kpt := KPT.out _ HO6.out); clear hO hK kt)
                    | (go_at_call 34; (with_reducible refine kpt.mono ?_); rintro e w7 ⟨rfl, rfl⟩; clear kpt))
                  obtain ⟨w6b, hw6b⟩ : ∃ x, x = w6.alloc (.cells #[.int .i64 0, .int .i64 0, .int .i64 0, .string ⟨#[]⟩, .int .i64 0] 34) := ⟨_, rfl⟩
                  rw [← hw6b] at HO6 HP6 ⊢
                  clear hw6b
                  have hz := HOW.out.none
                  have HZ := Lib.hid hz
                  have HW0 := Lib.hid (fun (W : World) (h : One w1 W w1.heap.size T) => waits_one h)
                  rw [hmz] at HW0
                  have HPP := Lib.hid HP6.out
                  clear hz
                  go_wp2
                  go_loopw [24] (fun i wr => ∃ j : Nat, j ≤ xn ∧ i = .int .i64 (j : Int) ∧ w6b = wr) (fun i _ => xn - (intOf i).toNat)
                  case atStart => exact ⟨0, by omega, rfl, by simp⟩
                  case round =>
                    obtain ⟨j, hj, rfl, rfl⟩ := hrel
                    by_cases hjn : j < xn
                    · have hji : (j : Int) < (xn : Int) := by omega
                      have hjw : IntKind.i64.wrap ((j : Int) + 1) = (j : Int) + 1 := by rw [IntKind.wrap_i64]; omega
                      have hjo : j < os2.length := by rw [HO2L.out]; exact hjn
                      have hPP := HPP.out
                      rw [← HO2L.out] at hPP
                      obtain ⟨g, rfl, -, -, -, hpc⟩ := hPP.block (by omega)
                      have cj := hpc j hjo
                      rw [HZ.out _ (List.getElem_mem hjo)] at cj
                      have cj0 : w6b.cell? ⟨g, j, none⟩ = some (.int .i64 0) := cj
                      clear hpc hPP cj hjn hjo
                      go_wp2
                      go_roundw
                      case rel => exact ⟨j + 1, by omega, by go_num, by simp⟩
                      case measure => simp [intOf]; omega
                    · have hji : ¬ (j : Int) < (xn : Int) := by omega
                      have kw := HW0.out _ HO6.out
                      clear hjn
                      go_wp2_with (go_at_call 31; (with_reducible refine kw.mono ?_); rintro e w9 ⟨rfl, rfl⟩)
                      go_ret
                      exact ⟨rfl, bel_next HB1.out HO6.out.bel⟩
          · skip
            obtain ⟨m, ht⟩ := takes T pv (List.length_pos_iff.2 hr)
            have kt := take_one pv hpv HO5.out
            rw [ht.took] at kt
            unfold mailV Ml.v at kt
            dsimp only [Option.isSome] at kt
            obtain ⟨T2, hT2⟩ : ∃ T2, takeS T pv = T2 := ⟨_, rfl⟩
            rw [hT2] at ht kt
            have hpf : partedB T2 m.f m.t = false := by
              unfold partedB
              have h1 := ht.open_
              unfold openB at h1
              rw [ht.par]
              have h2 : T.par (spot m.f m.t) = false := by simpa using h1
              rw [h2, Bool.and_false]
            have KPT := Lib.hid (fun (W : World) (h : One w1 W w1.heap.size T2) => parted_one m.f m.t h)
            rw [hpf] at KPT
            have HTT := Lib.hid ht
            have HPAR := Lib.hid hpar
            have HMX := Lib.hid hmx
            have HFD := Lib.hid (show ∃ (j : Nat) (x : Sn) (o : Nat), xs[j]? = some x ∧ os2[j]? = some o ∧ isOf x m = true ∧ 0 < o by
              obtain ⟨i, hi, -⟩ := ht.place
              exact HOW.out.found hi)
            have BX := Lib.hid (fun (w6 : World) => bel_al w6 (.cells #[.int .i64 m.n, .int .i64 m.f, .int .i64 m.t, .string m.s, .int .i64 m.a] 34))
            clear hpf hT2 ht hr hpar hmx
            rcases hpc with ⟨hq1, bb, off, rfl, cq⟩ | ⟨hq1, rfl⟩
            all_goals as_aux_lemma =>
              go_wp2_with (first
                | (go_at_call 11; (with_reducible refine kt.mono ?_); rintro e w6 ⟨rfl, hO, hK, -⟩; (have hbq := heap_alloc_new w6 (.cells #[.int .i64 m.n, .int .i64 m.f, .int .i64 m.t, .string m.s, .int .i64 m.a] 34)); (have HO6 := Lib.hid (hO.held (.cells #[.int .i64 m.n, .int .i64 m.f, .int .i64 m.t, .string m.s, .int .i64 m.a] 34))); (have HRU6 := Lib.hid (show ORow _ _ _ _ from (show ORow w6 _ _ _ from hK.row HRU5.out (by decide) (by decide)).later (BX.out w6))); (have HRV6 := Lib.hid (show PRow _ _ _ _ from (show PRow w6 _ _ _ from hK.row HRV5.out (by decide) (by decide)).later (BX.out w6))); (have kpt := KPT.out _ HO6.out.one); (have HBQ := Lib.hid hbq); clear hO hK kt hbq)
                | (go_at_call 34; (with_reducible refine kpt.mono ?_); rintro e w7 ⟨rfl, rfl⟩; clear kpt))
              obtain ⟨w7, hw7⟩ : ∃ x, x = w6.alloc (.cells #[.int .i64 m.n, .int .i64 m.f, .int .i64 m.t, .string m.s, .int .i64 m.a] 34) := ⟨_, rfl⟩
              have hqb : w6.heap.size < w7.heap.size := by rw [hw7]; simp
              obtain ⟨qb, hqbe⟩ : ∃ qb, w6.heap.size = qb := ⟨_, rfl⟩
              rw [← hw7] at HO6 HRU6 HRV6 HBQ ⊢
              rw [hqbe] at HO6 HBQ hqb ⊢
              clear hw7 hqbe
              go_loopw [22, 23] (fun f i wr => ∃ z : Nat, z ≤ xn ∧ i = .int .i64 (z : Int) ∧ wr.heap[qb]? = some (.cells #[.int .i64 m.n, .int .i64 m.f, .int .i64 m.t, .string m.s, .int .i64 m.a] 34) ∧ ORow wr w1.heap.size (.slice ua xn uc) xs ∧ One w1 wr w1.heap.size T2 ∧ ((f = .bool false ∧ PRow wr w1.heap.size (.slice va xn vc) os2 ∧ ∀ (j : Nat) (x : Sn) (o : Nat), j < z → xs[j]? = some x → os2[j]? = some o → ¬ (isOf x m = true ∧ 0 < o)) ∨ (f = .bool true ∧ ∃ (j : Nat) (x : Sn) (o : Nat), xs[j]? = some x ∧ os2[j]? = some (o + 1) ∧ isOf x m = true ∧ PRow wr w1.heap.size (.slice va xn vc) (os2.set j o)))) (fun _ i _ => xn - (intOf i).toNat)
              case atStart => exact ⟨0, by omega, rfl, HBQ.out, HRU6.out, HO6.out.one, Or.inl ⟨rfl, HRV6.out, fun j x o h => absurd h (Nat.not_lt_zero _)⟩⟩
              case round =>
                obtain ⟨z, hz, rfl, hbx, hru, hone, hcs⟩ := hrel
                obtain ⟨w9, hw9⟩ : ∃ x, x = wr := ⟨_, rfl⟩
                subst hw9
                have HBX9 := Lib.hid hbx
                have HRU9 := Lib.hid hru
                have HO9 := Lib.hid hone
                clear hru hone
                by_cases hzx : z < xn
                · have hzi : (z : Int) < (xn : Int) := by omega
                  have hzw : IntKind.i64.wrap ((z : Int) + 1) = (z : Int) + 1 := by rw [IntKind.wrap_i64]; omega
                  rcases hcs with ⟨rfl, hR, hall⟩ | ⟨rfl, j, x, o, j1, j2, j3, hR⟩
                  · as_aux_lemma =>
                    have HR9 := Lib.hid hR
                    have hzs : z < xs.length := by rw [HXN.out]; exact hzx
                    have hzo : z < os2.length := by rw [HO2L.out]; exact hzx
                    have hR' := hR
                    rw [← HO2L.out] at hR'
                    have hU' := HRU9.out
                    rw [← HXN.out] at hU'
                    obtain ⟨g, rfl, -, -, hgl, hpc⟩ := hR'.block (by omega)
                    obtain ⟨sg, rfl, hsl, hoc⟩ := hU'.block (by omega)
                    have cz := hpc z hzo
                    obtain ⟨-, s1, s2, s3⟩ := hoc z hzs
                    obtain ⟨x, hx⟩ : ∃ x, xs[z] = x := ⟨_, rfl⟩
                    obtain ⟨o, ho⟩ : ∃ o, os2[z] = o := ⟨_, rfl⟩
                    rw [hx] at s1 s2 s3
                    rw [ho] at cz
                    obtain ⟨xk, xf, xt, xss⟩ := x
                    dsimp only at s1 s2 s3
                    have b1 := cell_of (j := 1) hbx
                    have b2 := cell_of (j := 2) hbx
                    have b3 := cell_of (j := 3) hbx
                    have e1 : xs[z]? = some ⟨xk, xf, xt, xss⟩ := by rw [List.getElem?_eq_getElem hzs, hx]
                    have e2 : os2[z]? = some o := by rw [List.getElem?_eq_getElem hzo, ho]
                    have ho2 := HTW.out o (List.mem_of_getElem? e2)
                    by_cases hmat : isOf ⟨xk, xf, xt, xss⟩ m = true ∧ 0 < o
                    · as_aux_lemma =>
                      obtain ⟨o1, rfl⟩ : ∃ o1, o = o1 + 1 := ⟨o - 1, by omega⟩
                      obtain ⟨t1, t2, t3⟩ := (isOf_iff _ _).1 hmat.1
                      dsimp only at t1 t2 t3
                      obtain ⟨⟨cur, hcur⟩, hge, hfz⟩ := hR.heap
                      have fz := hfz z
                      have hd0 : decide (0 < o1 + 1) = true := decide_eq_true (by omega)
                      have ow : IntKind.i64.wrap (((o1 + 1 : Nat) : Int) - 1) = (o1 : Int) := by rw [IntKind.wrap_i64]; omega
                      obtain ⟨oi, hoi⟩ : ∃ oi : Nat, o1 + 1 = oi := ⟨_, rfl⟩
                      rw [hoi] at cz hd0 ow
                      have hs1 : (xf == m.f) = true := by simpa using t1
                      have hs2 : (xt == m.t) = true := by simpa using t2
                      have HS := Lib.hid (show PRow ((w9.drewN 0).setCell ⟨g, z, none⟩ (.int .i64 (o1 : Int))) w1.heap.size (.slice (some ⟨g, 0, none⟩) xn vc) (os2.set z o1) from hR.stored HO2L.out z o1)
                      have HFI := Lib.hid (And.intro e1 (And.intro e2 hmat.1))
                      have HCU := Lib.hid (And.intro hcur hge)
                      rw [t3] at s3
                      clear hR hR' hU' hpc hoc hx ho e1 e2 hmat hall hcur hge hfz t1 t2 hbx hzx hoi t3
                      go_wp2_with fail
                      go_quiet (fail)
                      go_wp2
                      have hgq : qb ≠ g := kinds_ne HBX9.out HCU.out.1 (by decide)
                      have bdr := below_drewN (Below.refl w9.heap.size w9) nq
                      have hbn : ((w9.drewN nq).setCell ⟨g, z, none⟩ (.int .i64 (o1 : Int))).heap[qb]? = some (.cells #[.int .i64 m.n, .int .i64 m.f, .int .i64 m.t, .string m.s, .int .i64 m.a] 34) := (heap_setCell_other _ _ _ _ hgq).trans HBX9.out
                      have hun : ORow ((w9.drewN nq).setCell ⟨g, z, none⟩ (.int .i64 (o1 : Int))) w1.heap.size (.slice (some ⟨sg, 0, none⟩) xn uc) xs := row_of (HRU9.out.later bdr) fun k hk => heap_setCell_other _ _ _ _ (fun e => by obtain ⟨c, h1⟩ := row_heap HRU9.out hk; exact kinds_ne h1 HCU.out.1 (by decide) e)
                      have hon : One w1 ((w9.drewN nq).setCell ⟨g, z, none⟩ (.int .i64 (o1 : Int))) w1.heap.size T2 := (HO9.out.later bdr).aside g HCU.out.2 (show (w9.drewN nq).heap[g]? = _ from HCU.out.1) (by decide) (by decide) (fun k hk => heap_setCell_other _ _ k _ hk) rfl rfl rfl (by simp)
                      go_roundw
                      case rel => exact ⟨z + 1, by omega, by go_num, hbn, hun, hon, Or.inr ⟨rfl, z, _, o1, HFI.out.1, HFI.out.2.1, HFI.out.2.2, HS.out⟩⟩
                      case measure => simp [intOf]; omega
                    · have HALL := Lib.hid (show ∀ (j : Nat) (x : Sn) (o : Nat), j < z + 1 → xs[j]? = some x → os2[j]? = some o → ¬ (isOf x m = true ∧ 0 < o) from fun j x' o' hj h1 h2 => by
                        by_cases h : j = z
                        · subst h
                          rw [e1] at h1
                          rw [e2] at h2
                          injection h1 with h1
                          injection h2 with h2
                          subst h1 h2
                          exact hmat
                        · exact hall j x' o' (by omega) h1 h2)
                      have hwhy : o = 0 ∨ (0 < o ∧ (xf ≠ m.f ∨ (xf = m.f ∧ (xt ≠ m.t ∨ (xt = m.t ∧ xss ≠ m.s))))) := by
                        by_cases h0 : o = 0
                        · exact Or.inl h0
                        · refine Or.inr ⟨by omega, ?_⟩
                          by_cases h1 : xf = m.f
                          · by_cases h2 : xt = m.t
                            · exact Or.inr ⟨h1, Or.inr ⟨h2, fun h3 => hmat ⟨(isOf_iff _ _).2 ⟨h1, h2, h3⟩, by omega⟩⟩⟩
                            · exact Or.inr ⟨h1, Or.inl h2⟩
                          · exact Or.inl h1
                      clear hR hR' hU' hpc hoc hx ho e1 e2 hmat hall hbx hzx
                      rcases hwhy with rfl | ⟨h0, h1 | ⟨h1, h2 | ⟨h2, h3⟩⟩⟩
                      · as_aux_lemma =>
                        have hd0 : decide (0 < (0 : Nat)) = false := by decide
                        go_wp2_with fail
                        go_quiet (fail)
                        go_wp2
                        go_roundw
                        case rel => exact ⟨z + 1, by omega, by go_num, HBX9.out, HRU9.out.later (below_drewN (Below.refl _ w9) nq), HO9.out.later (below_drewN (Below.refl _ w9) nq), Or.inl ⟨rfl, HR9.out.later (below_drewN (Below.refl _ w9) nq), HALL.out⟩⟩
                        case measure => simp [intOf]; omega
                      · as_aux_lemma =>
                        have hd0 : decide (0 < o) = true := decide_eq_true h0
                        have hs1 : (xf == m.f) = false := by simpa using h1
                        clear h0 h1
                        go_wp2_with fail
                        go_quiet (fail)
                        go_wp2
                        go_roundw
                        case rel => exact ⟨z + 1, by omega, by go_num, HBX9.out, HRU9.out.later (below_drewN (Below.refl _ w9) nq), HO9.out.later (below_drewN (Below.refl _ w9) nq), Or.inl ⟨rfl, HR9.out.later (below_drewN (Below.refl _ w9) nq), HALL.out⟩⟩
                        case measure => simp [intOf]; omega
                      · as_aux_lemma =>
                        have hd0 : decide (0 < o) = true := decide_eq_true h0
                        have hs1 : (xf == m.f) = true := by simpa using h1
                        have hs2 : (xt == m.t) = false := by simpa using h2
                        clear h0 h1 h2
                        go_wp2_with fail
                        go_quiet (fail)
                        go_wp2
                        go_roundw
                        case rel => exact ⟨z + 1, by omega, by go_num, HBX9.out, HRU9.out.later (below_drewN (Below.refl _ w9) nq), HO9.out.later (below_drewN (Below.refl _ w9) nq), Or.inl ⟨rfl, HR9.out.later (below_drewN (Below.refl _ w9) nq), HALL.out⟩⟩
                        case measure => simp [intOf]; omega
                      · as_aux_lemma =>
                        have hd0 : decide (0 < o) = true := decide_eq_true h0
                        have hs1 : (xf == m.f) = true := by simpa using h1
                        have hs2 : (xt == m.t) = true := by simpa using h2
                        have hs3 : (xss.toList == m.s.toList) = false := str_ne h3
                        clear h0 h1 h2 h3
                        go_wp2_with fail
                        go_quiet (fail)
                        go_wp2
                        go_roundw
                        case rel => exact ⟨z + 1, by omega, by go_num, HBX9.out, HRU9.out.later (below_drewN (Below.refl _ w9) nq), HO9.out.later (below_drewN (Below.refl _ w9) nq), Or.inl ⟨rfl, HR9.out.later (below_drewN (Below.refl _ w9) nq), HALL.out⟩⟩
                        case measure => simp [intOf]; omega
                  · as_aux_lemma =>
                    have HR9 := Lib.hid hR
                    have HJ := Lib.hid (And.intro j1 (And.intro j2 j3))
                    clear hR j1 j2 j3 hbx hzx
                    go_wp2_with fail
                    go_quiet (fail)
                    go_wp2
                    go_roundw
                    case rel => exact ⟨z + 1, by omega, by go_num, HBX9.out, HRU9.out.later (below_drewN (Below.refl _ w9) nq), HO9.out.later (below_drewN (Below.refl _ w9) nq), Or.inr ⟨rfl, j, x, o, HJ.out.1, HJ.out.2.1, HJ.out.2.2, HR9.out.later (below_drewN (Below.refl _ w9) nq)⟩⟩
                    case measure => simp [intOf]; omega
                · have hzi : ¬ (z : Int) < (xn : Int) := by omega
                  obtain rfl : z = xn := by omega
                  rcases hcs with ⟨rfl, hR, hall⟩ | ⟨rfl, j, x, o, j1, j2, j3, hR⟩
                  · exfalso
                    obtain ⟨j, x, o, h1, h2, h3, h4⟩ := HFD.out
                    exact hall j x o (by have := (List.getElem?_eq_some_iff.1 h1).1; rw [HXN.out] at this; exact this) h1 h2 ⟨h3, h4⟩
                  · obtain ⟨i, hi, hT2⟩ := HTT.out.place
                    have ho2 := HOW.out.take hi j1 j2 j3
                    have HOW2 := Lib.hid (show Owes T2.mail xs (os2.set j o) by rw [hT2]; exact ho2)
                    have HTW2 := Lib.hid (show ∀ y ∈ os2.set j o, y ≤ 2 from fun y hy => by
                      rcases List.mem_or_eq_of_mem_set hy with h | h
                      · exact HTW.out y h
                      · have := HTW.out _ (List.mem_of_getElem? j2); omega)
                    have HMX2 := Lib.hid (show T2.mail.length + (q + 1) ≤ tl + (if hd = true then 1 else 0) by have := HTT.out.one; have := HMX.out; omega)
                    have HP2 := Lib.hid (HTT.out.par.trans HPAR.out)
                    have HR9 := Lib.hid hR
                    clear hR j1 j2 j3 hbx hzx hi hT2 ho2
                    go_wp2
                    go_roundw
                    case rel => exact ⟨q + 1, hd, T2, _, by omega, by go_num, HP2.out, HOW2.out, HTW2.out, HMX2.out, HRU9.out, HR9.out, HO9.out⟩
                    case measure => simp [intOf]; omega
end netOnce
end Go.Proofs.Ytnjabhjcnkbgpaa
