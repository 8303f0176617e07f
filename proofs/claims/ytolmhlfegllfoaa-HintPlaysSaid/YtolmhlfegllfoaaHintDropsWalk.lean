/- HintDrops. -/
import Derived.Test.YtolmhlfegllfoaaHintDropsAt
import Derived.Test.YtolmhlfegllfoaaHiArgs
import Derived.Lib.AppendZeros
import Derived.Deep.CutRange
set_option maxRecDepth 20000
set_option linter.unusedSimpArgs false
set_option linter.unusedVariables false
namespace Go.Proofs.Ytolmhlfegllfoaa.Qu.Hi
open Go.RowKit Go.Maps Go.Proofs.Ytolmhlfegllfoaa.Vi Go.Proofs.Ytolmhlfegllfoaa.Mk

theorem irow_at' {X : World} {B g n c k : Nat} {M : List Int} {y : Int} (h : IRow X B (.slice (some ⟨g, 0, none⟩) n c) M) (hk : k < M.length) (hy : M[k] = y) : X.cell? ⟨g, k, none⟩ = some (.int .i64 y) := by
  obtain ⟨g', e, -, -, hc⟩ := h.cell (by omega)
  injection e with e
  injection e with e
  subst e
  rw [← hy]
  exact hc k hk
namespace hintDrops
set_option maxHeartbeats 32000000 in
theorem walk (a0 : Option Addr) (len0 cap0 : Nat) (a1 : Option Addr) (len1 cap1 : Nat) (t : Int) (w : World) (ha0 : ArgPts w a0 len0 cap0) (ha1 : ArgInts w a1 len1 cap1) (ht : -9223372036854775808 ≤ t ∧ t ≤ 9223372036854775807) : Calls Try.prog 7 #[.slice a0 len0 cap0, .slice a1 len1 cap1, .int .i64 t] w fun e w' => e = .returned (.bool true) ∧ Below w.heap.size w w' := by
  obtain ⟨l, hl, hP, hlen, hfit⟩ := ha0.has
  obtain ⟨nl, hN, hc⟩ := ns_of_args ha1
  have hcap : len1 ≤ cap1 := by
    obtain ⟨a', n', c', e, h⟩ := hc.out
    injection e with e1 e2 e3
    subst e2 e3
    exact h
  have hnl : len1 = nl.length := by
    obtain ⟨a', c', e⟩ := hN.slice
    injection e with e1 e2 e3
  obtain ⟨m1, hm1⟩ : ∃ m1, m1 = min len1 12 := ⟨_, rfl⟩
  have HNS := Lib.hid (ns_cut hN hm1)
  obtain ⟨ns, hns⟩ : ∃ ns, nl.take 12 = ns := ⟨_, rfl⟩
  rw [hns] at HNS
  have HM1 := Lib.hid (show m1 = ns.length by rw [← hns, List.length_take]; omega)
  have HL0 := Lib.hid hl
  have HP := Lib.hid hP
  have HFT := Lib.hid hfit
  have ka := awake_is w
  have knw := fun W => new_is 600 W
  have ksm := fun (p : Pt) (W : World) (h : p.fits) => small_is p W h.s
  have HCAP := Lib.hid (show capH 600 = 600 by decide)
  have HCP := Lib.hid hcap
  have HMN := Lib.hid hm1
  clear ha0 ha1 hl hP hfit hN hc hns hnl hcap hm1
  go_enter Try.func7, Try.ntmps7
  go_upto_if 24 with (first
    | (go_at_call 9; (with_reducible refine (knw _).mono ?_); rintro e w2 ⟨b, mm, rfl, hH2, hb2⟩; (rw [HCAP.out] at hH2); (have HD2 := Lib.hid (show DpS w w2 w1.heap.size b mm ns [] from ⟨hH2, (fun x hx => by cases hx), bel_next HB1.out hb2⟩)); clear hb2 hH2)
    | (go_at_call 8; (with_reducible refine ka.mono ?_); rintro e w1 ⟨rfl, hb1⟩; (have HB1 := Lib.hid hb1); clear hb1))
  go_cut [1] from 25 (fun v wx => v = .slice a1 m1 cap1 ∧ w2 = wx)
  case first =>
    by_cases h12 : 12 < len1
    · have hx1 : (12 : Int) < (len1 : Int) := by omega
      have hx2 : (12 : Int) ≤ (cap1 : Int) := by have := HCP.out; omega
      obtain rfl : m1 = 12 := by rw [HMN.out]; omega
      clear h12
      go_wp2
      go_meet
      exact ⟨rfl, rfl⟩
    · have hx1 : ¬ (12 : Int) < (len1 : Int) := by omega
      obtain rfl : m1 = len1 := by rw [HMN.out]; omega
      clear h12
      go_wp2
      go_meet
      exact ⟨rfl, rfl⟩
  case rest =>
  obtain ⟨rfl, rfl⟩ := hcut
  have HBB := Lib.hid HB1.out.size
  go_wp2
  go_loopw [9] (fun i wr => ∃ (k : Nat) (L : List Hk), k ≤ 20 ∧ i = .int .i64 (k : Int) ∧ Hid (DpS w wr w1.heap.size b mm ns L)) (fun i _ => 20 - (intOf i).toNat)
  case atStart => exact ⟨0, [], by omega, rfl, HD2⟩
  case round =>
  obtain ⟨k, L, hk, rfl, HD⟩ := hrel
  obtain ⟨w3, hw3⟩ : ∃ x, x = wr := ⟨_, rfl⟩
  subst hw3
  clear HD2
  obtain ⟨z, hz⟩ : ∃ z, decide (k < len0 ∧ k < 20) = z := ⟨_, rfl⟩
  go_upto_region 8 with fail
  go_cut [34] from 27 to 44 (fun v wx => v = .bool z ∧ w3 = wx)
  case first =>
    by_cases hk1 : k < len0
    · have hx1 : (k : Int) < (len0 : Int) := by omega
      by_cases hk2 : k < 20
      · have hx2 : (k : Int) < 20 := by omega
        obtain rfl : z = true := by rw [← hz]; exact decide_eq_true ⟨hk1, hk2⟩
        clear hz
        go_wp2
        go_meet
        exact ⟨rfl, rfl⟩
      · have hx2 : ¬ (k : Int) < 20 := by omega
        obtain rfl : z = false := by rw [← hz]; exact decide_eq_false fun h => hk2 h.2
        clear hz
        go_wp2
        go_meet
        exact ⟨rfl, rfl⟩
    · have hx1 : ¬ (k : Int) < (len0 : Int) := by omega
      obtain rfl : z = false := by rw [← hz]; exact decide_eq_false fun h => hk1 h.1
      clear hz
      go_wp2
      go_meet
      exact ⟨rfl, rfl⟩
  case rest =>
  obtain ⟨rfl, rfl⟩ := hcut
  cases z with
  | true =>
    have hgo := of_decide_eq_true hz
    have hkl : k < l.length := by rw [HL0.out]; exact hgo.1
    have hk1 : (k : Int) < (len0 : Int) := by omega
    have hP3 := HP.out.below HD.out.bel
    rcases hP3.at_ with he | ⟨g, off, rfl, hg, hc⟩
    · rw [he] at hkl; simp at hkl
    · obtain ⟨y0, y1, y2, y3, y4, y5⟩ := hc k hkl
      have hpf := HFT.out _ (List.getElem_mem hkl)
      obtain ⟨p, hp⟩ : ∃ p, l[k] = p := ⟨_, rfl⟩
      rw [hp] at hpf y0 y1 y2 y3 y4 y5
      have ks3 := ksm p w3 hpf
      have hsf := short_fits hpf
      have hss := short_size p
      obtain ⟨s, hs⟩ : ∃ s, Pt.short p = s := ⟨_, rfl⟩
      rw [hs] at ks3 hsf hss
      have kadd : ∀ W, DpS w W w1.heap.size b mm ns L → Calls Try.prog 16 #[.pointer (some ⟨b, 0, none⟩), ptV s, .slice a1 m1 cap1] W (AddDone W w1.heap.size b (some mm) 600 L s ns) := fun W hD => add_is hD.at_ s hsf (by omega) _ ns (Ns.later HNS.out hD.bel)
      unfold ptV at ks3 kadd
      clear hc hP3 hp hpf hs hsf hss hkl hz
      go_wp2_with (first
        | (go_at_call 16; (with_reducible refine (kadd _ HD4.out).mono ?_); rintro e w5 ⟨rfl, hH5, hg5⟩; (have HD5 := Lib.hid (HD4.out.added HBB.out hH5 hg5)); clear hH5 hg5)
        | (go_at_call 11; (with_reducible refine ks3.mono ?_); rintro e w4 ⟨rfl, hb4⟩; (have HD4 := Lib.hid (HD.out.later hb4)); clear hb4))
      go_roundw
      case rel => exact ⟨k + 1, _, by omega, by go_num, HD5⟩
      case measure => simp [intOf]; omega
  | false =>
  clear hz hk
  obtain ⟨w5, hw5⟩ : ∃ x, x = w3 := ⟨_, rfl⟩
  subst hw5
  have hL6 : L.length ≤ 600 := by have := HD.out.at_.len; omega
  obtain ⟨AL, hAL⟩ : ∃ AL, nodesL ns = AL := ⟨_, rfl⟩
  have HAN := Lib.hid (show ∀ x ∈ AL, 0 ≤ x ∧ x < 16 from fun x hx => (nodes_mem.1 (by rw [hAL]; exact hx)).1)
  have HAD := Lib.hid (show AL.Nodup by rw [← hAL]; exact nodes_nodup ns)
  have HAI := Lib.hid (show ∀ x ∈ L, x.n ∈ AL by rw [← hAL]; exact HD.out.nds)
  have krn := rnodes_is _ ns w5 (Ns.later HNS.out HD.out.bel)
  rw [hAL] at krn
  obtain ⟨n, hn⟩ : ∃ n, AL.length = n := ⟨_, rfl⟩
  have HN := Lib.hid hn
  have hn16 : n ≤ 16 := by rw [← hn, ← hAL]; exact pick_len _
  clear hn hAL
  go_wp2_with (go_at_call 27; ((with_reducible refine krn.mono ?_); rintro e w6 ⟨v6, rfl, hR6, hb6⟩; (obtain ⟨an, cn, rfl⟩ := hR6.slice); (rw [HN.out]); (have hR6 : IRow w6 w5.heap.size (.slice an n cn) AL := (by (rw [← HN.out]; exact hR6))); (have HJ6 := Lib.hid (show OuJ w (w6.alloc (.cells #[.slice none 0 0, .slice none 0 0, .slice none 0 0, .slice none 0 0, .slice none 0 0, .slice none 0 0, .slice none 0 0, .slice none 0 0, .slice none 0 0, .slice none 0 0, .slice none 0 0, .slice none 0 0, .slice none 0 0, .slice none 0 0, .slice none 0 0, .slice none 0 0] 63)) w1.heap.size b mm w6.heap.size L L AL (.slice an n cn) t (fun _ => .slice none 0 0) 0 from ⟨(HD.out.at_.later hb6).alloc _, bel_new (bel_next HD.out.bel hb6) _, IRow.later (own_base hR6 HD.out.bel.size) ((Below.refl _ _).alloc (Nat.le_refl _) _), Box16.new w6, (fun q hq => by (unfold hadV; rw [List.take_zero, if_neg (by simp)]; exact PRow.nil _ _)), (bel_next HD.out.bel hb6).size, (fun _ _ _ => rfl)⟩)); clear hR6 hb6 krn))
  go_loopw [12, 13, 14, 15] (fun s12 s13 s14 s15 wr => ∃ (i : Nat) (V : Nat → Value), i ≤ n ∧ s12 = .int .i64 (goneN L t (AL.take i) : Int) ∧ s13 = .int .i64 (i : Int) ∧ Hid (OuJ w wr w1.heap.size b mm w6.heap.size L L AL (.slice an n cn) t V i)) (fun _ s13 _ _ _ => n - (intOf s13).toNat)
  case atStart => exact ⟨0, _, by omega, by rw [List.take_zero, gone_nil]; rfl, rfl, HJ6⟩
  case round =>
    obtain ⟨i, V, hi, rfl, rfl, HJ⟩ := hrel
    obtain ⟨w7, hw7⟩ : ∃ x, x = wr := ⟨_, rfl⟩
    subst hw7
    by_cases hin : i < n
    · have hin2 : (i : Int) < (n : Int) := by omega
      have hil : i < AL.length := by rw [HN.out]; exact hin
      have HIL := Lib.hid hil
      obtain ⟨gA, rfl, -, hgA, hcA⟩ := HJ.out.all.cell (by rw [HN.out]; omega)
      have hr0 := HAN.out _ (List.getElem_mem hil)
      obtain ⟨q, hq⟩ : ∃ q : Nat, AL[i] = (q : Int) := ⟨AL[i].toNat, by omega⟩
      have hq16 : q < 16 := by omega
      have hqI : (q : Int) < 16 := by omega
      have z0 := irow_at' HJ.out.all hil hq
      have HQ := Lib.hid hq
      have HGS := Lib.hid (show goneN L t (AL.take (i + 1)) = goneN L t (AL.take i) + ((forL L (q : Int) 600).filter fun p => !decide (t ≤ p.t)).length by
        rw [List.take_succ_eq_append_getElem hil, ← hq]
        exact gone_snoc (take_new HAD.out hil) hL6)
      have hg6 : goneN L t (AL.take i) ≤ 600 := Nat.le_trans (List.length_filter_le _ _) hL6
      obtain ⟨g0, hg0⟩ : ∃ g0, goneN L t (AL.take i) = g0 := ⟨_, rfl⟩
      rw [hg0] at HGS hg6 ⊢
      obtain ⟨M, hM⟩ : ∃ M, forL L (q : Int) 600 = M := ⟨_, rfl⟩
      have HM := Lib.hid hM
      have hMl : M.length ≤ 600 := by rw [← hM]; exact Nat.le_trans (for_len _ _ _) hL6
      have kf := for_some HJ.out.at_ (q : Int) 600
      unfold ForDone at kf
      rw [hM] at kf HGS
      obtain ⟨r, hr⟩ : ∃ r, M.length = r := ⟨_, rfl⟩
      have HR := Lib.hid hr
      rw [hr] at hMl
      have HNW := Lib.hid (show (q : Int) ∉ AL.take i by rw [← hq]; exact take_new HAD.out hil)
      clear hcA hr0 hq hil hg0 hM hr
      go_wp2_with (go_at_call 19; (with_reducible refine kf.mono ?_); rintro e w9 ⟨v9, rfl, hR9, hb9⟩; (obtain ⟨am, cm, rfl⟩ := hR9.slice); (rw [HR.out]); (rw [HR.out] at hR9); (have HJ9 := Lib.hid (HJ.out.later hb9)); (have HM9 := Lib.hid (show PRow w9 w7.heap.size (.slice am r cm) M from hR9)); clear hb9 hR9)
      have HI0 := Lib.hid (show InJ w9 w9 w6.heap.size q V M t 0 0 (.slice none 0 0) from ⟨World.grownBy.refl _ _, (by
        have e : updV V q (.slice none 0 0) = V := by
          funext j
          unfold updV
          split
          · rename_i e; subst e; exact (HJ9.out.fresh _ hq16 HNW.out).symm
          · rfl
        rw [e]
        exact HJ9.out.box), PRow.nil _ _, rfl⟩)
      have HA9 := Lib.hid (show w6.heap.size < w9.heap.size from HJ9.out.box.lt)
      have HGA := Lib.hid (show gA < w9.heap.size ∧ gA ≠ w6.heap.size from by
        obtain ⟨cur, e2⟩ := irow_own HJ9.out.all rfl
        obtain ⟨c2, e3, -, -⟩ := HJ9.out.box.obj
        refine ⟨(Array.getElem?_eq_some_iff.1 e2).1, fun e => ?_⟩
        rw [e, e3] at e2
        injection e2 with e2
        injection e2 with _ e2
        exact absurd e2 (by decide))
      go_loopw [12, 15] (fun s12 s15 wr => ∃ (k r7 : Nat) (a7 : Option Addr) (c7 : Nat), k ≤ r ∧ s12 = .int .i64 ((g0 + goneK M t k : Nat) : Int) ∧ s15 = .int .i64 (k : Int) ∧ Hid (InJ w9 wr w6.heap.size q V M t k r7 (.slice a7 r7 c7))) (fun _ s15 _ => r - (intOf s15).toNat)
      case atStart => exact ⟨0, 0, none, 0, by omega, by rw [show goneK M t 0 = 0 by unfold goneK; simp]; rfl, rfl, HI0⟩
      case round =>
        obtain ⟨k, r7, a7, c7, hk, rfl, rfl, HI⟩ := hrel
        obtain ⟨w8, hw8⟩ : ∃ x, x = wr := ⟨_, rfl⟩
        subst hw8
        clear HI0
        have hgk : g0 + goneK M t k ≤ 1200 := by have := goneK_len M t k; omega
        obtain ⟨gk, hgk2⟩ : ∃ gk, g0 + goneK M t k = gk := ⟨_, rfl⟩
        rw [hgk2] at hgk ⊢
        have HGK := Lib.hid hgk2
        clear hgk2
        by_cases hkr : k < r
        · have hkr2 : (k : Int) < (r : Int) := by omega
          have hkM : k < M.length := by rw [HR.out]; exact hkr
          have HKM := Lib.hid hkM
          have hM8 := prow_off HM9.out HJ9.out.box HI.out.grow
          have hr76 : r7 ≤ 600 := by have h1 := HI.out.len; have h2 := keptK_len M t k; omega
          rcases hM8.pts.at_ with he | ⟨gm, om, rfl, hgm, hcm⟩
          · rw [he] at hkM; simp at hkM
          · have hGM : gm < w9.heap.size ∧ gm ≠ w6.heap.size := by
              obtain ⟨cur, e2⟩ := prow_own HM9.out rfl
              obtain ⟨c2, e3, -, -⟩ := HJ9.out.box.obj
              refine ⟨(Array.getElem?_eq_some_iff.1 e2).1, fun e => ?_⟩
              rw [e, e3] at e2
              injection e2 with e2
              injection e2 with _ e2
              exact absurd e2 (by decide)
            obtain ⟨x, hxM⟩ : ∃ x, x = M[k] := ⟨_, rfl⟩
            have hx : PtO w8 gm (om + k * 6) x := by rw [hxM]; exact hcm k hkM
            have HX := Lib.hid hx
            obtain ⟨y0, y1, y2, y3, y4, y5⟩ := hx
            by_cases hxt : t ≤ x.t
            · have hky := (kept_yes (t := t) hkM (by have h1 := hxt; rw [hxM] at h1; exact h1))
              have hgw : g0 + goneK M t (k + 1) = gk := by rw [hky.2]; exact HGK.out
              have HGW := Lib.hid hgw
              have hI8 := HI.out.later (show Below w8.heap.size w8 w8.drew from (Below.refl _ _).drew)
              have hall8 := irow_off HJ9.out.all HJ9.out.box hI8.grow
              have HS8 := Lib.hid (show S22 gA i w6.heap.size gm (om + k * 6) q x w8.drew from ⟨irow_at' hall8 HIL.out HQ.out, HX.out.below (show Below w8.heap.size w8 w8.drew from (Below.refl _ _).drew) HX.out.room⟩)
              have HS8a := Lib.hid (HS8.out.later ((Below.refl _ _).alloc (Nat.le_refl _) (.cells #[.string x.s, .int .i64 x.t, .int .i64 x.v, .int .i64 x.st.c, .int .i64 x.st.s, .int .i64 x.st.q] 31)))
              have b1 : w8.drew.cell? ⟨w6.heap.size, q, none⟩ = some (.slice a7 r7 c7) := (hI8.box.cell hq16).trans (by rw [updV_at])
              have b5 : (w8.alloc (.cells #[.string x.s, .int .i64 x.t, .int .i64 x.v, .int .i64 x.st.c, .int .i64 x.st.s, .int .i64 x.st.q] 31)).cell? ⟨w6.heap.size, q, none⟩ = some (.slice a7 r7 c7) := ((HI.out.later ((Below.refl _ _).alloc (Nat.le_refl _) (.cells #[.string x.s, .int .i64 x.t, .int .i64 x.v, .int .i64 x.st.c, .int .i64 x.st.s, .int .i64 x.st.q] 31))).box.cell hq16).trans (by rw [updV_at])
              have b2 : (w8.drew.alloc (.cells #[.string x.s, .int .i64 x.t, .int .i64 x.v, .int .i64 x.st.c, .int .i64 x.st.s, .int .i64 x.st.q] 31)).cell? ⟨w6.heap.size, q, none⟩ = some (.slice a7 r7 c7) := ((hI8.later ((Below.refl _ _).alloc (Nat.le_refl _) (.cells #[.string x.s, .int .i64 x.t, .int .i64 x.v, .int .i64 x.st.c, .int .i64 x.st.s, .int .i64 x.st.q] 31))).box.cell hq16).trans (by rw [updV_at])
              obtain ⟨a9, c9, w10, hrun, hrow, hg10⟩ := appP_run (w := w8.drew) x PTT hI8.len hI8.row (by omega) hI8.grow.size
              have hne : ∀ g, (Value.slice a7 r7 c7).ownBlock = some g → w9.heap.size ≤ g := fun g hg => (World.ownsRow.lt hI8.row g hg).1
              have hs8 := hI8.grow.size
              have HIN := Lib.hid (hI8.app hq16 HA9.out hkM (by have h1 := hxt; rw [hxM] at h1; exact h1) (by have h1 := hrow; rw [hxM] at h1; exact h1) hg10)
              have hs9 : S22 gA i w6.heap.size gm (om + k * 6) q x w10 := by
                have hfar : ∀ (g o : Nat), g < w9.heap.size → w10.cell? ⟨g, o, none⟩ = w8.drew.cell? ⟨g, o, none⟩ := fun g o hg => World.cell?_of_block (w := w8.drew) (hg10.block g (by omega) fun e => by have := hne g e.symm; omega)
                obtain ⟨z1, u0, u1, u2, u3, u4, u5⟩ := HS8.out
                exact ⟨(hfar _ _ HGA.out.1).trans z1, (hfar _ _ hGM.1).trans u0, (hfar _ _ hGM.1).trans u1, (hfar _ _ hGM.1).trans u2, (hfar _ _ hGM.1).trans u3, (hfar _ _ hGM.1).trans u4, (hfar _ _ hGM.1).trans u5⟩
              have HS9 := Lib.hid hs9
              have HS10 := Lib.hid (show S22 gA i w6.heap.size gm (om + k * 6) q x (w10.setCell ⟨w6.heap.size, q, none⟩ (.slice a9 (r7 + 1) c9)) from by
                have hfar : ∀ (g o : Nat), g ≠ w6.heap.size → (w10.setCell ⟨w6.heap.size, q, none⟩ (.slice a9 (r7 + 1) c9)).cell? ⟨g, o, none⟩ = w10.cell? ⟨g, o, none⟩ := fun g o hg => World.cell?_setCell_other _ _ _ _ fun e => hg (by have e1 := (Addr.mk.inj e).1; first | exact e1 | exact e1.symm)
                obtain ⟨z1, u0, u1, u2, u3, u4, u5⟩ := hs9
                exact ⟨(hfar _ _ HGA.out.2).trans z1, (hfar _ _ hGM.2).trans u0, (hfar _ _ hGM.2).trans u1, (hfar _ _ hGM.2).trans u2, (hfar _ _ hGM.2).trans u3, (hfar _ _ hGM.2).trans u4, (hfar _ _ hGM.2).trans u5⟩)
              have hbx : Box16 w10 w6.heap.size (updV V q (.slice a7 r7 c7)) := hI8.box.kept (hg10.block _ hI8.box.lt fun e => by have := hne _ e.symm; have := HA9.out; omega)
              have b3 := hbx.cell hq16
              rw [updV_at] at b3
              have b4 := hbx.soft q
              clear hky hkM hM8 hgm hcm hxM hgw hI8 hall8 hrow hg10 hs9 hbx hGM hne hs8
              go_wp2_with fail
              refine wp_region_held_drew (S := (S22 gA i w6.heap.size gm (om + k * 6) q x)) (by kernel_rfl) HS8.out (fun hHeld => ?_)
              refine wpAnyH_take (i := 0) (oi := ?v1o) (v := ?v1v) ?v1h (by kernel_rfl) (by kernel_rfl) (by kernel_rfl) ?v1q ?v1y hHeld ?v1r
              case v1h => (simp only [List.getElem?_toArray, List.getElem?_cons_zero]; rfl)
              case v1q => exact fun _ _ _ h => h
              case v1y => (refine Or.inl ⟨by first | kernel_rfl | rfl, ?_⟩; intro w hSw; obtain ⟨z1, ⟨u0, u1, u2, u3, u4, u5⟩⟩ := hSw; go_simp <;> (try with_reducible rfl))
              try simp only [Act.put, List.setIfInBounds_toArray, List.set_cons_zero, List.set_cons_succ]
              refine wpAnyH_take (i := 1) (oi := ?v2o) (v := ?v2v) ?v2h (by kernel_rfl) (by kernel_rfl) (by kernel_rfl) ?v2q ?v2y hHeld ?v2r
              case v2h => (simp only [List.getElem?_toArray, List.getElem?_cons_succ, List.getElem?_cons_zero]; rfl)
              case v2q => exact fun _ _ _ h => h
              case v2y => (refine Or.inl ⟨by first | kernel_rfl | rfl, ?_⟩; intro w hSw; obtain ⟨z1, ⟨u0, u1, u2, u3, u4, u5⟩⟩ := hSw; go_simp <;> (try with_reducible rfl))
              try simp only [Act.put, List.setIfInBounds_toArray, List.set_cons_zero, List.set_cons_succ]
              refine wpAnyH_take (i := 2) (oi := ?v3o) (v := ?v3v) ?v3h (by kernel_rfl) (by kernel_rfl) (by kernel_rfl) ?v3q ?v3y hHeld ?v3r
              case v3h => (simp only [List.getElem?_toArray, List.getElem?_cons_succ, List.getElem?_cons_zero]; rfl)
              case v3q => exact fun _ _ _ h => h
              case v3y => (refine Or.inl ⟨by first | kernel_rfl | rfl, ?_⟩; intro w hSw; obtain ⟨z1, ⟨u0, u1, u2, u3, u4, u5⟩⟩ := hSw; go_simp <;> (try with_reducible rfl))
              try simp only [Act.put, List.setIfInBounds_toArray, List.set_cons_zero, List.set_cons_succ]
              refine wpAnyH_take (i := 3) (oi := ?v4o) (v := ?v4v) ?v4h (by kernel_rfl) (by kernel_rfl) (by kernel_rfl) ?v4q ?v4y hHeld ?v4r
              case v4h => (simp only [List.getElem?_toArray, List.getElem?_cons_succ, List.getElem?_cons_zero]; rfl)
              case v4q => exact fun _ _ _ h => h
              case v4y => (refine Or.inl ⟨by first | kernel_rfl | rfl, ?_⟩; intro w hSw; obtain ⟨z1, ⟨u0, u1, u2, u3, u4, u5⟩⟩ := hSw; go_simp <;> (try with_reducible rfl))
              try simp only [Act.put, List.setIfInBounds_toArray, List.set_cons_zero, List.set_cons_succ]
              refine wpAnyH_take (i := 4) (oi := ?v5o) (v := ?v5v) ?v5h (by kernel_rfl) (by kernel_rfl) (by kernel_rfl) ?v5q ?v5y hHeld ?v5r
              case v5h => (simp only [List.getElem?_toArray, List.getElem?_cons_succ, List.getElem?_cons_zero]; rfl)
              case v5q => exact fun _ _ _ h => h
              case v5y => (refine Or.inl ⟨by first | kernel_rfl | rfl, ?_⟩; intro w hSw; obtain ⟨z1, ⟨u0, u1, u2, u3, u4, u5⟩⟩ := hSw; go_simp <;> (try with_reducible rfl))
              try simp only [Act.put, List.setIfInBounds_toArray, List.set_cons_zero, List.set_cons_succ]
              refine wpAnyH_take (i := 5) (oi := ?v6o) (v := ?v6v) ?v6h (by kernel_rfl) (by kernel_rfl) (by kernel_rfl) ?v6q ?v6y hHeld ?v6r
              case v6h => (simp only [List.getElem?_toArray, List.getElem?_cons_succ, List.getElem?_cons_zero]; rfl)
              case v6q => exact fun _ _ _ h => h
              case v6y => (refine Or.inl ⟨by first | kernel_rfl | rfl, ?_⟩; intro w hSw; obtain ⟨z1, ⟨u0, u1, u2, u3, u4, u5⟩⟩ := hSw; go_simp <;> (try with_reducible rfl))
              try simp only [Act.put, List.setIfInBounds_toArray, List.set_cons_zero, List.set_cons_succ]
              refine wpAnyH_take (i := 6) (oi := ?v7o) (v := ?v7v) ?v7h (by kernel_rfl) (by kernel_rfl) (by kernel_rfl) ?v7q ?v7y hHeld ?v7r
              case v7h => (simp only [List.getElem?_toArray, List.getElem?_cons_succ, List.getElem?_cons_zero]; rfl)
              case v7q => exact fun _ _ _ h => h
              case v7y => (refine Or.inl ⟨by first | kernel_rfl | rfl, ?_⟩; intro w hSw; obtain ⟨z1, ⟨u0, u1, u2, u3, u4, u5⟩⟩ := hSw; go_simp <;> (try with_reducible rfl))
              try simp only [Act.put, List.setIfInBounds_toArray, List.set_cons_zero, List.set_cons_succ]
              refine wpAnyH_take (i := 7) (oi := ?v8o) (v := ?v8v) ?v8h (by kernel_rfl) (by kernel_rfl) (by kernel_rfl) ?v8q ?v8y hHeld ?v8r
              case v8h => (simp only [List.getElem?_toArray, List.getElem?_cons_succ, List.getElem?_cons_zero]; rfl)
              case v8q => exact fun _ _ _ h => h
              case v8y => (refine Or.inl ⟨by first | kernel_rfl | rfl, ?_⟩; intro w hSw; obtain ⟨z1, ⟨u0, u1, u2, u3, u4, u5⟩⟩ := hSw; go_simp <;> (try with_reducible rfl))
              try simp only [Act.put, List.setIfInBounds_toArray, List.set_cons_zero, List.set_cons_succ]
              refine wpAnyH_take (i := 8) (oi := ?v9o) (v := ?v9v) ?v9h (by kernel_rfl) (by kernel_rfl) (by kernel_rfl) ?v9q ?v9y hHeld ?v9r
              case v9h => (simp only [List.getElem?_toArray, List.getElem?_cons_succ, List.getElem?_cons_zero]; rfl)
              case v9q => exact fun _ _ _ h => h
              case v9y => (refine Or.inl ⟨by first | kernel_rfl | rfl, ?_⟩; intro w hSw; obtain ⟨z1, ⟨u0, u1, u2, u3, u4, u5⟩⟩ := hSw; go_simp <;> (try with_reducible rfl))
              try simp only [Act.put, List.setIfInBounds_toArray, List.set_cons_zero, List.set_cons_succ]
              refine wpAnyH_take (i := 10) (oi := ?v10o) (v := ?v10v) ?v10h (by kernel_rfl) (by kernel_rfl) (by kernel_rfl) ?v10q ?v10y hHeld ?v10r
              case v10h => (simp only [List.getElem?_toArray, List.getElem?_cons_succ, List.getElem?_cons_zero]; rfl)
              case v10q => exact fun _ _ _ h => h
              case v10y => (refine Or.inl ⟨by first | kernel_rfl | rfl, ?_⟩; intro w hSw; obtain ⟨z1, ⟨u0, u1, u2, u3, u4, u5⟩⟩ := hSw; go_simp <;> (try with_reducible rfl))
              try simp only [Act.put, List.setIfInBounds_toArray, List.set_cons_zero, List.set_cons_succ]
              refine wpAnyH_take (i := 11) (oi := ?v11o) (v := ?v11v) ?v11h (by kernel_rfl) (by kernel_rfl) (by kernel_rfl) ?v11q ?v11y hHeld ?v11r
              case v11h => (simp only [List.getElem?_toArray, List.getElem?_cons_succ, List.getElem?_cons_zero]; rfl)
              case v11q => exact fun _ _ _ h => h
              case v11y => (refine Or.inl ⟨by first | kernel_rfl | rfl, ?_⟩; intro w hSw; obtain ⟨z1, ⟨u0, u1, u2, u3, u4, u5⟩⟩ := hSw; go_simp <;> (try with_reducible rfl))
              try simp only [Act.put, List.setIfInBounds_toArray, List.set_cons_zero, List.set_cons_succ]
              refine wpAnyH_take (i := 12) (oi := ?v12o) (v := ?v12v) ?v12h (by kernel_rfl) (by kernel_rfl) (by kernel_rfl) ?v12q ?v12y hHeld ?v12r
              case v12h => (simp only [List.getElem?_toArray, List.getElem?_cons_succ, List.getElem?_cons_zero]; rfl)
              case v12q => exact fun _ _ _ h => h
              case v12y => (refine Or.inl ⟨by first | kernel_rfl | rfl, ?_⟩; intro w hSw; obtain ⟨z1, ⟨u0, u1, u2, u3, u4, u5⟩⟩ := hSw; go_simp <;> (try with_reducible rfl))
              try simp only [Act.put, List.setIfInBounds_toArray, List.set_cons_zero, List.set_cons_succ]
              refine wpAnyH_take (i := 13) (oi := ?v13o) (v := ?v13v) ?v13h (by kernel_rfl) (by kernel_rfl) (by kernel_rfl) ?v13q ?v13y hHeld ?v13r
              case v13h => (simp only [List.getElem?_toArray, List.getElem?_cons_succ, List.getElem?_cons_zero]; rfl)
              case v13q => exact fun _ _ _ h => h
              case v13y => (refine Or.inl ⟨by first | kernel_rfl | rfl, ?_⟩; intro w hSw; obtain ⟨z1, ⟨u0, u1, u2, u3, u4, u5⟩⟩ := hSw; go_simp <;> (try with_reducible rfl))
              try simp only [Act.put, List.setIfInBounds_toArray, List.set_cons_zero, List.set_cons_succ]
              refine wpAnyH_ready (rs := [9, 14]) (by kernel_rfl) (by simp) ?_
              refine (AllReadyH.cons rfl (fun K hK => ?_) (AllReadyH.cons rfl (fun K hK => ?_) AllReadyH.nil))
              ·
                go_simp
                skip
                refine hK.out _ _ (hHeld) (fun hHeld => ?_)
                clear hK K
                try simp only [Act.put, List.setIfInBounds_toArray, List.set_cons_zero, List.set_cons_succ]
                refine wpAnyH_ready (rs := [14]) (by kernel_rfl) (by simp) ?_
                refine (AllReadyH.cons rfl (fun K hK => ?_) AllReadyH.nil)
                go_simp
                skip
                refine hK.out _ _ (HS8a.out) (fun hHeld => ?_)
                clear hK K
                try simp only [Act.put, List.setIfInBounds_toArray, List.set_cons_zero, List.set_cons_succ]
                refine wpAnyH_ready (rs := [15]) (by kernel_rfl) (by simp) ?_
                refine (AllReadyH.cons rfl (fun K hK => ?_) AllReadyH.nil)
                refine (if_pos (by kernel_rfl)).mpr ?_
                refine Lib.wp_append_run _ _ _ _ _ rfl _ _ rfl rfl _ _ hrun ?_
                refine hK.out _ _ (HS9.out) (fun hHeld => ?_)
                clear hK K
                try simp only [Act.put, List.setIfInBounds_toArray, List.set_cons_zero, List.set_cons_succ]
                refine wpAnyH_take (i := 16) (oi := ?v14o) (v := ?v14v) ?v14h (by kernel_rfl) (by kernel_rfl) (by kernel_rfl) ?v14q ?v14y hHeld ?v14r
                case v14h => (simp only [List.getElem?_toArray, List.getElem?_cons_succ, List.getElem?_cons_zero]; rfl)
                case v14q => exact fun _ _ _ h => h
                case v14y => (refine Or.inl ⟨by first | kernel_rfl | rfl, ?_⟩; intro w hSw; obtain ⟨z1, ⟨u0, u1, u2, u3, u4, u5⟩⟩ := hSw; go_simp <;> (try with_reducible rfl))
                try simp only [Act.put, List.setIfInBounds_toArray, List.set_cons_zero, List.set_cons_succ]
                refine wpAnyH_ready (rs := [17]) (by kernel_rfl) (by simp) ?_
                refine (AllReadyH.cons rfl (fun K hK => ?_) AllReadyH.nil)
                go_simp
                skip
                refine hK.out _ _ (HS10.out) (fun hHeld => ?_)
                clear hK K
                try simp only [Act.put]
                refine wpAnyH_done (by kernel_rfl) ?_ _
                go_wp2
                go_roundw
                case rel => exact ⟨k + 1, r7 + 1, a9, c9, by omega, by rw [HGW.out], by go_num, HIN⟩
                case measure => simp [intOf]; omega
              ·
                go_simp
                skip
                refine hK.out _ _ (HS8a.out) (fun hHeld => ?_)
                clear hK K
                try simp only [Act.put, List.setIfInBounds_toArray, List.set_cons_zero, List.set_cons_succ]
                refine wpAnyH_ready (rs := [9]) (by kernel_rfl) (by simp) ?_
                refine (AllReadyH.cons rfl (fun K hK => ?_) AllReadyH.nil)
                go_simp
                skip
                refine hK.out _ _ (hHeld) (fun hHeld => ?_)
                clear hK K
                try simp only [Act.put, List.setIfInBounds_toArray, List.set_cons_zero, List.set_cons_succ]
                refine wpAnyH_ready (rs := [15]) (by kernel_rfl) (by simp) ?_
                refine (AllReadyH.cons rfl (fun K hK => ?_) AllReadyH.nil)
                refine (if_pos (by kernel_rfl)).mpr ?_
                refine Lib.wp_append_run _ _ _ _ _ rfl _ _ rfl rfl _ _ hrun ?_
                refine hK.out _ _ (HS9.out) (fun hHeld => ?_)
                clear hK K
                try simp only [Act.put, List.setIfInBounds_toArray, List.set_cons_zero, List.set_cons_succ]
                refine wpAnyH_take (i := 16) (oi := ?v15o) (v := ?v15v) ?v15h (by kernel_rfl) (by kernel_rfl) (by kernel_rfl) ?v15q ?v15y hHeld ?v15r
                case v15h => (simp only [List.getElem?_toArray, List.getElem?_cons_succ, List.getElem?_cons_zero]; rfl)
                case v15q => exact fun _ _ _ h => h
                case v15y => (refine Or.inl ⟨by first | kernel_rfl | rfl, ?_⟩; intro w hSw; obtain ⟨z1, ⟨u0, u1, u2, u3, u4, u5⟩⟩ := hSw; go_simp <;> (try with_reducible rfl))
                try simp only [Act.put, List.setIfInBounds_toArray, List.set_cons_zero, List.set_cons_succ]
                refine wpAnyH_ready (rs := [17]) (by kernel_rfl) (by simp) ?_
                refine (AllReadyH.cons rfl (fun K hK => ?_) AllReadyH.nil)
                go_simp
                skip
                refine hK.out _ _ (HS10.out) (fun hHeld => ?_)
                clear hK K
                try simp only [Act.put]
                refine wpAnyH_done (by kernel_rfl) ?_ _
                go_wp2
                go_roundw
                case rel => exact ⟨k + 1, r7 + 1, a9, c9, by omega, by rw [HGW.out], by go_num, HIN⟩
                case measure => simp [intOf]; omega
            · have hky := (kept_no (t := t) hkM (by have h1 := hxt; rw [hxM] at h1; exact h1))
              have HIN := Lib.hid (HI.out.no hkM (by have h1 := hxt; rw [hxM] at h1; exact h1))
              have hgw : g0 + goneK M t (k + 1) = gk + 1 := by rw [hky.2, ← Nat.add_assoc, HGK.out]
              have HGW := Lib.hid hgw
              clear hky hkM hM8 hgm hcm hxM hgw
              go_wp2
              go_roundw
              case rel => exact ⟨k + 1, r7, a7, c7, by omega, by rw [HGW.out]; go_num, by go_num, HIN⟩
              case measure => simp [intOf]; omega
        · obtain rfl : k = r := by omega
          have hkr2 : ¬ (k : Int) < (k : Int) := by omega
          have HN8 := Lib.hid (HJ9.out.next HIL.out HQ.out HM.out.symm (by rw [HR.out]; exact HI.out))
          have HGE := Lib.hid (show gk = goneN L t (AL.take (i + 1)) by
            rw [HGS.out, ← HGK.out]
            unfold goneK
            rw [List.take_of_length_le (by rw [HR.out]; exact Nat.le_refl _)])
          clear hkr hk
          go_wp2
          go_roundw
          case rel => exact ⟨i + 1, _, by omega, by rw [← HGE.out], by go_num, HN8⟩
          case measure => simp [intOf]; omega
    · obtain rfl : i = n := by omega
      have hin2 : ¬ (i : Int) < (i : Int) := by omega
      have HTK := Lib.hid (show AL.take i = AL from List.take_of_length_le (by rw [HN.out]; exact Nat.le_refl _))
      have hge := gone_end (t := t) HAI.out
      rw [HTK.out]
      obtain ⟨g, hg⟩ : ∃ g, goneN L t AL = g := ⟨_, rfl⟩
      rw [hg] at hge ⊢
      have HG1 := Lib.hid (show (L.length : Int) - ((dropL L t).length : Int) = (g : Int) by omega)
      have HG2 := Lib.hid (show ((dropL L t).length : Int) - ((dropL (dropL L t) t).length : Int) = 0 by rw [drop_drop]; omega)
      have kd1 := drop_some HJ.out.at_ t
      have kd2 : ∀ W, OuJ w W w1.heap.size b mm w6.heap.size (dropL L t) L AL (.slice an i cn) t V i → Calls Try.prog 14 #[.pointer (some ⟨b, 0, none⟩), .int .i64 t] W (DropDone W w1.heap.size b (some mm) 600 (dropL L t) t) := fun W h => drop_some h.at_ t
      clear hin hg hge
      go_wp2_with (first
        | (go_at_call 14; (with_reducible refine (kd2 _ HJ8.out).mono ?_); rintro e w10 ⟨rfl, hH10, hg10⟩; (rw [HG2.out]); (rw [drop_drop] at hH10); (have HJ10 := Lib.hid (HJ8.out.drop HBB.out hH10 hg10)); clear hH10 hg10)
        | (go_at_call 14; (with_reducible refine kd1.mono ?_); rintro e w8 ⟨rfl, hH8, hg8⟩; (rw [HG1.out]); (have HJ8 := Lib.hid (HJ.out.drop HBB.out hH8 hg8)); clear hH8 hg8))
      obtain ⟨n, hn⟩ : ∃ n, n = i := ⟨_, rfl⟩
      subst hn
      go_loopw [16, 17] (fun s16 s17 wr => ∃ (i : Nat), i ≤ n ∧ s16 = .int .i64 (i : Int) ∧ Hid (OuJ w wr w1.heap.size b mm w6.heap.size (dropL L t) L AL (.slice an n cn) t V n)) (fun s16 _ _ => n - (intOf s16).toNat)
      case atStart => exact ⟨0, by omega, rfl, HJ10⟩
      case round =>
        obtain ⟨i, hi, rfl, HJ2⟩ := hrel
        obtain ⟨w12, hw12⟩ : ∃ x, x = wr := ⟨_, rfl⟩
        subst hw12
        by_cases hin : i < n
        · have hin2 : (i : Int) < (n : Int) := by omega
          have hil : i < AL.length := by rw [HN.out]; exact hin
          have HIL := Lib.hid hil
          obtain ⟨gA, rfl, -, hgA, hcA⟩ := HJ2.out.all.cell (by rw [HN.out]; omega)
          have hr0 := HAN.out _ (List.getElem_mem hil)
          obtain ⟨q, hq⟩ : ∃ q : Nat, AL[i] = (q : Int) := ⟨AL[i].toNat, by omega⟩
          have hq16 : q < 16 := by omega
          have hqI : (q : Int) < 16 := by omega
          have HQ := Lib.hid hq
          have hqm : (q : Int) ∈ AL := by rw [← hq]; exact List.getElem_mem hil
          obtain ⟨aq, cq, hVq⟩ := PRow.slice (HJ2.out.had q hq16)
          have hq0 : ∀ X, OuJ w X w1.heap.size b mm w6.heap.size (dropL L t) L AL (.slice (some ⟨gA, 0, none⟩) n cn) t V n → Pts X X.heap.size aq (hadV L t AL n q) := fun X hX => by
            have := hX.had q hq16
            rw [hVq] at this
            exact this.pts
          have hhv : hadV L t AL n q = hadL L t (q : Int) := by unfold hadV; rw [HTK.out, if_pos hqm]
          have HLQ := Lib.hid (show (hadV L t AL n q).length ≤ 600 by
            rw [hhv]; unfold hadL
            exact Nat.le_trans (List.length_filter_le _ _) (Nat.le_trans (for_len _ _ _) hL6))
          have HSM := Lib.hid (show sameP (forL (dropL L t) (q : Int) 600) (hadV L t AL n q) = true by rw [hhv, had_is hL6]; unfold sameP; exact decide_eq_true rfl)
          have HJd := Lib.hid (HJ2.out.later (show Below w12.heap.size w12 w12.drew from (Below.refl _ _).drew))
          clear hcA hr0 hq hil hhv hqm
          go_wp2_with fail
          refine wp_region_held_drew (S := (fun X : World => OuJ w X w1.heap.size b mm w6.heap.size (dropL L t) L AL (.slice (some ⟨gA, 0, none⟩) n cn) t V n)) (by kernel_rfl) HJd.out (fun hHeld => ?_)
          refine wpAnyH_take (i := 0) (oi := ?n1o) (v := ?n1v) ?n1h (by kernel_rfl) (by kernel_rfl) (by kernel_rfl) ?n1q ?n1y hHeld ?n1r
          case n1h => (simp only [List.getElem?_toArray, List.getElem?_cons_zero]; rfl)
          case n1q => exact fun _ _ _ h => h
          case n1y => (refine Or.inl ⟨by first | kernel_rfl | rfl, ?_⟩; intro w hSw; (have z1 := irow_at' hSw.all HIL.out HQ.out); (have z2 := hSw.box.cell hq16); (rw [hVq] at z2); go_simp <;> (try with_reducible rfl))
          try simp only [Act.put, List.setIfInBounds_toArray, List.set_cons_zero, List.set_cons_succ]
          refine wpAnyH_take (i := 1) (oi := ?n2o) (v := ?n2v) ?n2h (by kernel_rfl) (by kernel_rfl) (by kernel_rfl) ?n2q ?n2y hHeld ?n2r
          case n2h => (simp only [List.getElem?_toArray, List.getElem?_cons_succ, List.getElem?_cons_zero]; rfl)
          case n2q => exact fun _ _ _ h => h
          case n2y => (refine Or.inl ⟨by first | kernel_rfl | rfl, ?_⟩; intro w hSw; (have z1 := irow_at' hSw.all HIL.out HQ.out); (have z2 := hSw.box.cell hq16); (rw [hVq] at z2); go_simp <;> (try with_reducible rfl))
          try simp only [Act.put, List.setIfInBounds_toArray, List.set_cons_zero, List.set_cons_succ]
          refine wpAnyH_take (i := 2) (oi := ?n3o) (v := ?n3v) ?n3h (by kernel_rfl) (by kernel_rfl) (by kernel_rfl) ?n3q ?n3y hHeld ?n3r
          case n3h => (simp only [List.getElem?_toArray, List.getElem?_cons_succ, List.getElem?_cons_zero]; rfl)
          case n3q => exact fun _ _ _ h => h
          case n3y => (refine Or.inl ⟨by first | kernel_rfl | rfl, ?_⟩; intro w hSw; (have z1 := irow_at' hSw.all HIL.out HQ.out); (have z2 := hSw.box.cell hq16); (rw [hVq] at z2); go_simp <;> (try with_reducible rfl))
          try simp only [Act.put, List.setIfInBounds_toArray, List.set_cons_zero, List.set_cons_succ]
          refine wpAnyH_take (i := 3) (oi := ?n4o) (v := ?n4v) ?n4h (by kernel_rfl) (by kernel_rfl) (by kernel_rfl) ?n4q ?n4y hHeld ?n4r
          case n4h => (simp only [List.getElem?_toArray, List.getElem?_cons_succ, List.getElem?_cons_zero]; rfl)
          case n4q => exact fun _ _ _ h => h
          case n4y => (refine Or.inl ⟨by first | kernel_rfl | rfl, ?_⟩; intro w hSw; (have z1 := irow_at' hSw.all HIL.out HQ.out); (have z2 := hSw.box.cell hq16); (rw [hVq] at z2); go_simp <;> (try with_reducible rfl))
          try simp only [Act.put, List.setIfInBounds_toArray, List.set_cons_zero, List.set_cons_succ]
          refine wpAnyH_take (i := 4) (oi := ?n5o) (v := ?n5v) ?n5h (by kernel_rfl) (by kernel_rfl) (by kernel_rfl) ?n5q ?n5y hHeld ?n5r
          case n5h => (simp only [List.getElem?_toArray, List.getElem?_cons_succ, List.getElem?_cons_zero]; rfl)
          case n5q => exact fun _ _ _ h => h
          case n5y => (refine Or.inl ⟨by first | kernel_rfl | rfl, ?_⟩; intro w hSw; (have z1 := irow_at' hSw.all HIL.out HQ.out); (have z2 := hSw.box.cell hq16); (rw [hVq] at z2); go_simp <;> (try with_reducible rfl))
          try simp only [Act.put, List.setIfInBounds_toArray, List.set_cons_zero, List.set_cons_succ]
          refine wpAnyH_take (i := 6) (oi := ?n6o) (v := ?n6v) ?n6h (by kernel_rfl) (by kernel_rfl) (by kernel_rfl) ?n6q ?n6y hHeld ?n6r
          case n6h => (simp only [List.getElem?_toArray, List.getElem?_cons_succ, List.getElem?_cons_zero]; rfl)
          case n6q => exact fun _ _ _ h => h
          case n6y => (refine Or.inl ⟨by first | kernel_rfl | rfl, ?_⟩; intro w hSw; (have z1 := irow_at' hSw.all HIL.out HQ.out); (have z2 := hSw.box.cell hq16); (rw [hVq] at z2); go_simp <;> (try with_reducible rfl))
          try simp only [Act.put, List.setIfInBounds_toArray, List.set_cons_zero, List.set_cons_succ]
          refine wpAnyH_take (i := 7) (oi := ?n7o) (v := ?n7v) ?n7h (by kernel_rfl) (by kernel_rfl) (by kernel_rfl) ?n7q ?n7y hHeld ?n7r
          case n7h => (simp only [List.getElem?_toArray, List.getElem?_cons_succ, List.getElem?_cons_zero]; rfl)
          case n7q => exact fun _ _ _ h => h
          case n7y => (refine Or.inl ⟨by first | kernel_rfl | rfl, ?_⟩; intro w hSw; (have z1 := irow_at' hSw.all HIL.out HQ.out); (have z2 := hSw.box.cell hq16); (rw [hVq] at z2); go_simp <;> (try with_reducible rfl))
          try simp only [Act.put, List.setIfInBounds_toArray, List.set_cons_zero, List.set_cons_succ]
          refine wpAnyH_take (i := 8) (oi := ?n8o) (v := ?n8v) ?n8h (by kernel_rfl) (by kernel_rfl) (by kernel_rfl) ?n8q ?n8y hHeld ?n8r
          case n8h => (simp only [List.getElem?_toArray, List.getElem?_cons_succ, List.getElem?_cons_zero]; rfl)
          case n8q => exact fun _ _ _ h => h
          case n8y => (refine Or.inl ⟨by first | kernel_rfl | rfl, ?_⟩; intro w hSw; (have z1 := irow_at' hSw.all HIL.out HQ.out); (have z2 := hSw.box.cell hq16); (rw [hVq] at z2); go_simp <;> (try with_reducible rfl))
          try simp only [Act.put, List.setIfInBounds_toArray, List.set_cons_zero, List.set_cons_succ]
          refine wpAnyH_take (i := 9) (oi := ?n9o) (v := ?n9v) ?n9h (by kernel_rfl) (by kernel_rfl) (by kernel_rfl) ?n9q ?n9y hHeld ?n9r
          case n9h => (simp only [List.getElem?_toArray, List.getElem?_cons_succ, List.getElem?_cons_zero]; rfl)
          case n9q => exact fun _ _ _ h => h
          case n9y => (refine Or.inl ⟨by first | kernel_rfl | rfl, ?_⟩; intro w hSw; (have z1 := irow_at' hSw.all HIL.out HQ.out); (have z2 := hSw.box.cell hq16); (rw [hVq] at z2); go_simp <;> (try with_reducible rfl))
          try simp only [Act.put, List.setIfInBounds_toArray, List.set_cons_zero, List.set_cons_succ]
          refine wpAnyH_take (i := 10) (oi := ?n10o) (v := ?n10v) ?n10h (by kernel_rfl) (by kernel_rfl) (by kernel_rfl) ?n10q ?n10y hHeld ?n10r
          case n10h => (simp only [List.getElem?_toArray, List.getElem?_cons_succ, List.getElem?_cons_zero]; rfl)
          case n10q => exact fun _ _ _ h => h
          case n10y => (refine Or.inl ⟨by first | kernel_rfl | rfl, ?_⟩; intro w hSw; (have z1 := irow_at' hSw.all HIL.out HQ.out); (have z2 := hSw.box.cell hq16); (rw [hVq] at z2); go_simp <;> (try with_reducible rfl))
          try simp only [Act.put, List.setIfInBounds_toArray, List.set_cons_zero, List.set_cons_succ]
          refine wpAnyH_take (i := 11) (oi := ?n11o) (v := ?n11v) ?n11h (by kernel_rfl) (by kernel_rfl) (by kernel_rfl) ?n11q ?n11y hHeld ?n11r
          case n11h => (simp only [List.getElem?_toArray, List.getElem?_cons_succ, List.getElem?_cons_zero]; rfl)
          case n11q => exact fun _ _ _ h => h
          case n11y => (refine Or.inl ⟨by first | kernel_rfl | rfl, ?_⟩; intro w hSw; (have z1 := irow_at' hSw.all HIL.out HQ.out); (have z2 := hSw.box.cell hq16); (rw [hVq] at z2); go_simp <;> (try with_reducible rfl))
          try simp only [Act.put, List.setIfInBounds_toArray, List.set_cons_zero, List.set_cons_succ]
          refine wpAnyH_ready (rs := [5]) (by kernel_rfl) (by simp) ?_
          refine (AllReadyH.cons rfl (fun K hK => ?_) AllReadyH.nil)
          go_simp
          (go_at_call 19; (have kk := for_some hHeld.at_ (q : Int) 600); (with_reducible refine kk.mono ?_); rintro e w31 ⟨v31, rfl, hR31, hb31⟩; (obtain ⟨a31, c31, rfl⟩ := hR31.slice); (have HR31 := Lib.hid hR31); clear hR31 kk)
          refine hK.out _ _ (hHeld.later hb31) (fun hHeld => ?_)
          clear hK K
          try simp only [Act.put, List.setIfInBounds_toArray, List.set_cons_zero, List.set_cons_succ]
          refine wpAnyH_ready (rs := [12]) (by kernel_rfl) (by simp) ?_
          refine (AllReadyH.cons rfl (fun K hK => ?_) AllReadyH.nil)
          go_simp
          (go_at_call 18; (have kk := rsamep_is a31 aq c31 cq _ _ true _ HR31.out.pts (hq0 _ hHeld) (Nat.le_trans (for_len _ _ _) (by (have h1 := hHeld.at_.len); omega)) (by (have h1 := HLQ.out); omega) HSM); (with_reducible refine kk.mono ?_); rintro e w32 ⟨rfl, hb32⟩; clear kk)
          refine hK.out _ _ (hHeld.later hb32) (fun hHeld => ?_)
          clear hK K
          try simp only [Act.put, List.setIfInBounds_toArray, List.set_cons_zero, List.set_cons_succ]
          refine wpAnyH_take (i := 13) (oi := ?n12o) (v := ?n12v) ?n12h (by kernel_rfl) (by kernel_rfl) (by kernel_rfl) ?n12q ?n12y hHeld ?n12r
          case n12h => (simp only [List.getElem?_toArray, List.getElem?_cons_succ, List.getElem?_cons_zero]; rfl)
          case n12q => exact fun _ _ _ h => h
          case n12y => (refine Or.inl ⟨by first | kernel_rfl | rfl, ?_⟩; intro w hSw; (have z1 := irow_at' hSw.all HIL.out HQ.out); (have z2 := hSw.box.cell hq16); (rw [hVq] at z2); go_simp <;> (try with_reducible rfl))
          try simp only [Act.put, List.setIfInBounds_toArray, List.set_cons_zero, List.set_cons_succ]
          refine wpAnyH_done (by kernel_rfl) ?_ _
          go_wp2
          go_roundw
          case rel => exact ⟨i + 1, by omega, by go_num, Lib.hid hHeld⟩
          case measure => simp [intOf]; omega
        · obtain rfl : i = n := by omega
          have hin2 : ¬ (i : Int) < (i : Int) := by omega
          clear hin
          go_wp2
          go_ret
          exact ⟨rfl, HJ2.out.bel⟩
end hintDrops
end Go.Proofs.Ytolmhlfegllfoaa.Qu.Hi
