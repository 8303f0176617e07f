/- OriginTrims. -/
import Derived.Test.YthbajlfkgbfkgaaOgSame
import Derived.Test.YthbajlfkgbfkgaaOriginTrimsAid
set_option maxRecDepth 200000
set_option linter.unusedSimpArgs false
set_option linter.unusedVariables false
namespace Go.Proofs.Ythbajlfkgbfkgaa.Og
open Go.RowKit Go.Proofs.Ythbajlfkgbfkgaa.Vi Go.Proofs.Ythbajlfkgbfkgaa.Mk
namespace originTrims
set_option maxHeartbeats 16000000 in
theorem walk (a : Option Addr) (len cap : Nat) (oa : Option Addr) (ol oc : Nat) (w : World) (hA : ArgGOps w a len cap) (hV : ArgInts w oa ol oc) : Calls Try.prog 7 #[.slice a len cap, .slice oa ol oc] w fun e w' => e = .returned (.bool true) ∧ Below w.heap.size w w' := by
  obtain ⟨ops, rfl, hat, hlen, hfit⟩ := hA.has
  obtain ⟨oV, hVA⟩ := argNs_of hV
  obtain ⟨rfl⟩ : ol = oV.length := by obtain ⟨a', c', e⟩ := hVA.ns.slice; injection e
  have HVA := Lib.hid hVA
  obtain ⟨V12, hV12⟩ : ∃ V12, oV.take 12 = V12 := ⟨_, rfl⟩
  have HV12 := Lib.hid hV12
  have HV12N := Lib.hid (show Ns w (.slice oa V12.length oc) V12 from by rw [← hV12]; exact take12 hVA)
  have HFIT := Lib.hid hfit
  have HAT0 := Lib.hid hat
  have ka := awake_is w
  obtain ⟨n, hn⟩ : ∃ n, ops.length = n := ⟨_, rfl⟩
  rw [hn] at hlen ⊢
  have HN := Lib.hid hn
  have HG0 := Lib.hid (Grew0.new (room := 60) (by omega))
  clear hfit hat hA hn hV12 hVA hV
  go_enter Try.func7, Try.ntmps7
  go_wp2_with (first
    | (go_at_call 8; (with_reducible refine ka.mono ?_); rintro e w1 ⟨rfl, hb1⟩; (have HB1 := Lib.hid hb1); clear hb1)
    | (go_at_call 10; (with_reducible refine (Lg.New HB1.out 60).mono ?_); rintro e w2 ⟨b, rfl, hL2, hb2, -⟩; (have HL0 := Lib.hid hL2); clear hL2 hb2))
  go_loopw [7] (fun i wr => ∃ (k : Nat) (S : OS), k ≤ 40 ∧ i = .int .i64 (k : Int) ∧ Hid (Lg w wr b S) ∧ Hid (Grew0 S 60 k)) (fun i _ => 40 - (intOf i).toNat)
  case atStart => exact ⟨0, _, by omega, rfl, HL0, HG0⟩
  case round =>
    obtain ⟨k, S, hk, rfl, HL, HG⟩ := hrel
    clear HL0 HG0
    by_cases hlt : k < n ∧ k < 40
    · obtain ⟨hlt1, hlt60⟩ := hlt
      have hlt2 : (k : Int) < (n : Int) := by omega
      have hlt3 : (k : Int) < 40 := by omega
      have hkl : k < ops.length := by rw [HN.out]; exact hlt1
      rcases HAT0.out with h0 | ⟨g, off, rfl, hgw, hops⟩
      · rw [h0] at hkl; simp at hkl
      · have HBr := Lib.hid HL.out.bel
        have HG1 := Lib.hid HG.out.add
        have hx := hops k hkl
        have hfx := HFIT.out _ (List.getElem_mem hkl)
        obtain ⟨x, hxe⟩ : ∃ x, ops[k] = x := ⟨_, rfl⟩
        rw [hxe] at hx hfx
        have hx := hx.below HBr.out hgw
        have HF := Lib.hid hfx
        clear hfx
        obtain ⟨ok, om, of, ⟨⟨rk, rs, rt, rv, rtier, ⟨rc, rst, rq⟩, rd⟩, ra, rcc⟩, uV, ua, uc⟩ := x
        obtain ⟨x0, x1, x2, x3, x4, x5, x6, x7, x8, x9, x10, x11, x12⟩ := hx
        dsimp only at x0 x1 x2 x3 x4 x5 x6 x7 x8 x9 x10 x11 x12
        obtain ⟨s6, hs6⟩ : ∃ s6, cutB rs 60 = s6 := ⟨_, rfl⟩
        obtain ⟨d12, hd12⟩ : ∃ d12, rd.take 12 = d12 := ⟨_, rfl⟩
        have HS6 := Lib.hid hs6
        have HD12 := Lib.hid hd12
        have HALO := Lib.hid (Below.refl wr.heap.size wr)
        have HSM := Lib.hid (small_lit rk rt rv rtier rc rst rq rs s6 rd d12 ra rcc wr (ArgNs.later HF.out.d HBr.out) HF.out.rc.s HS6 HD12)
        have hst := HF.out.rc.ss
        dsimp only at hst
        have HFITS := Lib.hid (show Rec.fits ⟨rk, s6, rt, rv, rtier, ⟨rc, rst, rq⟩, d12⟩ from by have h8 := Rd.small_fits (x := ⟨⟨rk, rs, rt, rv, rtier, ⟨rc, rst, rq⟩, rd⟩, ra, rcc⟩) HF.out.rc; unfold Rd.small Rec.small at h8; dsimp only at h8; rw [hs6, hd12] at h8; exact h8)
        have HS60 := Lib.hid (show s6.size ≤ 60 by rw [← hs6]; exact cutB_len _ _)
        have HL12 := Lib.hid (show d12.length ≤ 12 by rw [← hd12, List.length_take]; omega)
        clear hs6 hd12 hxe
        clear hops hgw
        by_cases h1 : 0 ≤ rst
        · have g1 : decide (0 ≤ rst) = true := decide_eq_true h1
          by_cases h2 : rst < 8
          · have g2 : decide (rst < 8) = true := decide_eq_true h2
            obtain ⟨y, hy⟩ : ∃ y, atL S.know rst = y := ⟨_, rfl⟩
            have hyb := atL_bounds S.know rst
            rw [hy] at hyb
            have hwr : IntKind.i64.wrap (y + 1) = y + 1 := by rw [IntKind.wrap_i64]; omega
            have HY := Lib.hid hy
            clear hy hyb
            go_wp2_with (first
              | (go_at_call 17; (with_reducible refine HSM.out.mono ?_); rintro e wS ⟨rfl, hnS, hbS⟩
                 have HNS := Lib.hid hnS
                 have HBS := Lib.hid (bel_next HALO.out hbS)
                 replace HL := Lib.hid (HL.out.later (bel_next HALO.out hbS))
                 have halq := (Below.refl wS.heap.size wS).alloc (Nat.le_refl _) (box9 ⟨⟨rk, s6, rt, rv, rtier, ⟨rc, rst, rq⟩, d12⟩, ra, rcc⟩)
                 have HALQ := Lib.hid halq
                 have HQ := Lib.hid (RecW.new wS ⟨rk, s6, rt, rv, rtier, ⟨rc, rst, rq⟩, d12⟩ (.slice ra d12.length rcc))
                 clear hnS hbS halq)
              | (go_at_call 26; (with_reducible refine ((HL.out.later HALQ.out).Know).mono ?_); rintro e wK ⟨vK, rfl, hnK, hbK, hfK⟩
                 obtain ⟨aK, cK, rfl⟩ := hnK.slice
                 have HNK := Lib.hid hnK
                 have HBK := Lib.hid (bel_next HALQ.out hbK)
                 have HFK := Lib.hid (show ∀ q, (Value.slice aK S.know.length cK).ownBlock = some q → wS.heap.size < q from fun q hq => by have := (hfK q hq).1; rw [World.size_alloc] at this; omega)
                 have hqk := HQ.out.below hbK
                 have HQK := Lib.hid hqk
                 obtain ⟨⟨y0, y1, y2, y3, y4, y5, y6, y7, y8⟩, -, -, -, -, -, -, -, -, -⟩ := hqk
                 dsimp only at y0 y1 y2 y3 y4 y5 y6 y7 y8
                 have HAT := Lib.hid (rat_is _ S.know rst wK hnK)
                 clear hnK hbK hfK)
              | (go_at_call 19; (with_reducible refine (HAT.out).mono ?_); rintro e wA ⟨rfl, hbA⟩
                 rw [HY.out]
                 have HBA := Lib.hid (bel_next HBK.out hbA)
                 have HNA := Lib.hid (Ns.later HNK.out hbA)
                 have hqa := HQK.out.below hbA
                 obtain ⟨⟨z0, z1, z2, z3, z4, z5, z6, z7, z8⟩, f0, f1, f2, f3, f4, f5, f6, f7, f8⟩ := hqa
                 dsimp only at z0 z1 z2 z3 z4 z5 z6 z7 z8
                 have hb2 := (HBA.out.setCell (p := ⟨wS.heap.size, 7, none⟩) (Nat.le_refl _) (.int .i64 (y + 1))).setCell (p := ⟨wS.heap.size, 8, none⟩) (Nat.le_refl _) (.slice aK S.know.length cK)
                 have hne : ∀ q, (Value.slice aK S.know.length cK).ownBlock = some q → q ≠ wS.heap.size := fun q hq e => by have := HFK.out q hq; omega
                 have HADD := Lib.hid ((HL.out.later hb2).AddR ⟨⟨rk, s6, rt, rv, rtier, ⟨rc, rst, y + 1⟩, S.know⟩, aK, cK⟩ (Ns.set (Ns.set HNA.out wS.heap.size 7 (.int .i64 (y + 1)) hne) wS.heap.size 8 (.slice aK S.know.length cK) hne) ⟨HFITS.out.k, HFITS.out.s, HFITS.out.t, HFITS.out.v, HFITS.out.tier, HFITS.out.ss⟩ (by have := HS60.out; dsimp only; omega) (by have := know_len HL.out.good; dsimp only; omega))
                 clear hbA hb2 hne)
              | (go_at_call 20; (with_reducible refine (HADD.out).mono ?_); rintro e wE ⟨rfl, hLE⟩; (have HLE := Lib.hid hLE); clear hLE))
            go_roundw
            case rel => exact ⟨k + 1, _, by omega, by go_num, HLE, Lib.hid (HG1.out _)⟩
            case measure => simp [intOf]; omega
          · have g2 : decide (rst < 8) = false := decide_eq_false h2
            clear h2
            go_wp2_with (first
              | (go_at_call 17; (with_reducible refine HSM.out.mono ?_); rintro e wS ⟨rfl, hnS, hbS⟩
                 have HNS := Lib.hid hnS
                 have HBS := Lib.hid (bel_next HALO.out hbS)
                 replace HL := Lib.hid (HL.out.later (bel_next HALO.out hbS))
                 have halq := (Below.refl wS.heap.size wS).alloc (Nat.le_refl _) (box9 ⟨⟨rk, s6, rt, rv, rtier, ⟨rc, rst, rq⟩, d12⟩, ra, rcc⟩)
                 have HALQ := Lib.hid halq
                 have HQ := Lib.hid (RecW.new wS ⟨rk, s6, rt, rv, rtier, ⟨rc, rst, rq⟩, d12⟩ (.slice ra d12.length rcc))
                 clear hnS hbS halq)
              | (go_at_call 20; (with_reducible refine ((HL.out.later HALQ.out).AddR ⟨⟨rk, s6, rt, rv, rtier, ⟨rc, rst, rq⟩, d12⟩, ra, rcc⟩ (Ns.later HNS.out HALQ.out) HFITS.out (by have := HS60.out; dsimp only; omega) (by have := HL12.out; dsimp only; omega)).mono ?_); rintro e wE ⟨rfl, hLE⟩; (have HLE := Lib.hid hLE); clear hLE))
            go_roundw
            case rel => exact ⟨k + 1, _, by omega, by go_num, HLE, Lib.hid (HG1.out _)⟩
            case measure => simp [intOf]; omega
        · have g1 : decide (0 ≤ rst) = false := decide_eq_false h1
          clear h1
          go_wp2_with (first
            | (go_at_call 17; (with_reducible refine HSM.out.mono ?_); rintro e wS ⟨rfl, hnS, hbS⟩
               have HNS := Lib.hid hnS
               have HBS := Lib.hid (bel_next HALO.out hbS)
               replace HL := Lib.hid (HL.out.later (bel_next HALO.out hbS))
               have halq := (Below.refl wS.heap.size wS).alloc (Nat.le_refl _) (box9 ⟨⟨rk, s6, rt, rv, rtier, ⟨rc, rst, rq⟩, d12⟩, ra, rcc⟩)
               have HALQ := Lib.hid halq
               have HQ := Lib.hid (RecW.new wS ⟨rk, s6, rt, rv, rtier, ⟨rc, rst, rq⟩, d12⟩ (.slice ra d12.length rcc))
               clear hnS hbS halq)
            | (go_at_call 20; (with_reducible refine ((HL.out.later HALQ.out).AddR ⟨⟨rk, s6, rt, rv, rtier, ⟨rc, rst, rq⟩, d12⟩, ra, rcc⟩ (Ns.later HNS.out HALQ.out) HFITS.out (by have := HS60.out; dsimp only; omega) (by have := HL12.out; dsimp only; omega)).mono ?_); rintro e wE ⟨rfl, hLE⟩; (have HLE := Lib.hid hLE); clear hLE))
          go_roundw
          case rel => exact ⟨k + 1, _, by omega, by go_num, HLE, Lib.hid (HG1.out _)⟩
          case measure => simp [intOf]; omega
    · have hlt2 : ((k : Int) < (n : Int) ∧ ¬ (k : Int) < 40) ∨ ¬ (k : Int) < (n : Int) := by omega
      rcases hlt2 with ⟨hlt2, hlt3⟩ | hlt2
      · obtain ⟨F, hLF, hbF⟩ := HL.out
        have HLF := Lib.hid hLF
        have HBF := Lib.hid hbF
        obtain ⟨nl, hnl⟩ : ∃ nl, S.L.length = nl := ⟨_, rfl⟩
        obtain ⟨tn, htn⟩ : ∃ tn, trimN V12 S.L = tn := ⟨_, rfl⟩
        have hnl4 : nl ≤ 40 := by have := HG.out.len; omega
        have htl : tn ≤ nl := by rw [← hnl, ← htn]; exact trimN_le _ _
        have HNL := Lib.hid hnl
        have HTN := Lib.hid htn
        have kA := HL.out.All
        have kT := fun (W : World) (hW : Below wr.heap.size wr W) => trim_is (hLF.later hW) (.slice oa V12.length oc) V12 (Ns.later (HV12N.out) (bel_next hbF hW))
        have HKT := Lib.hid kT
        have kfw := fun (W : World) (hW : Below w.heap.size w W) => few_lit oa oc oV V12 W (ArgNs.later HVA.out hW) HV12
        have HKF := Lib.hid kfw
        have HG9 := Lib.hid hLF.good
        clear hLF hbF hnl htn kT kfw
        have hd1 : decide ((nl : Int) < (tn : Int)) = false := decide_eq_false (by omega)
        have hd2 : decide (nl < tn) = false := decide_eq_false (by omega)
        have hd3 : decide ((tn : Int) < 0) = false := decide_eq_false (by omega)
        obtain ⟨m9, hm9⟩ : ∃ m9, nl - tn = m9 := ⟨_, rfl⟩
        have HM9 := Lib.hid (show (S.L.drop tn).length = m9 by rw [List.length_drop, HNL.out]; exact hm9)
        have hw1 : IntKind.i64.wrap (60 - (nl : Int)) = 60 - (nl : Int) := by rw [IntKind.wrap_i64]; omega
        have hw2 : IntKind.i64.wrap (60 - (nl : Int) + (tn : Int)) = 60 - (nl : Int) + (tn : Int) := by rw [IntKind.wrap_i64]; omega
        obtain ⟨z2, hz2⟩ : ∃ z2, 60 - (nl : Int) + (tn : Int) = z2 := ⟨_, rfl⟩
        rw [hz2] at hw2
        have HROOM := Lib.hid (show (trimS S V12).room - ((trimS S V12).L.length : Int) = z2 by
          have h7 := HG.out.rm
          unfold trimS; dsimp only
          rw [List.length_drop, HNL.out, HTN.out, h7]; omega)
        have hm9x := Lib.hid hm9
        have HZ2 := Lib.hid hz2
        clear hm9 hz2
        obtain ⟨zn, hzn, hzn1⟩ : ∃ zn : Bool, decide (trimN V12 S.L = 0) = zn ∧ ((tn : Int) == 0) = zn := ⟨decide (tn = 0), by rw [HTN.out], by
          by_cases e : tn = 0
          · subst e; rfl
          · rw [decide_eq_false e]; simpa using e⟩
        have HZN := Lib.hid hzn
        clear hzn
        have hzz : (zn == zn) = true := by simp
        go_wp2_with (first
          | (go_at_call 24; (with_reducible refine kA.mono ?_); rintro e wC ⟨vC, rfl, hrC, hbC⟩
             obtain ⟨aC, cC, rfl⟩ := hrC.slice
             have HRC := Lib.hid hrC
             have HBC := Lib.hid hbC
             have kK := (HL.out.later hbC).Know
             rw [HNL.out]
             clear hrC hbC)
          | (go_at_call 26; (with_reducible refine kK.mono ?_); rintro e wD ⟨vD, rfl, hnD, hbD, hfD⟩
             have HND := Lib.hid hnD
             have HFD := Lib.hid hfD
             have HBD := Lib.hid (bel_next HBC.out hbD)
             have HRD := Lib.hid (HRC.out.later hbD)
             have kC := (HL.out.later HBD.out).Clock
             clear hnD hbD hfD kK)
          | (go_at_call 28; (with_reducible refine kC.mono ?_); rintro e wD2 ⟨rfl, rfl⟩; clear kC)
          | (go_at_call 9; (with_reducible refine (HKF.out _ (bel_next HBF.out HBD.out)).mono ?_); rintro e wF ⟨rfl, hnF, rfl⟩; clear hnF)
          | (go_at_call 12; (with_reducible refine (HKT.out _ HBD.out).mono ?_); rintro e wE ⟨rfl, hLE, hfE⟩
             rw [HTN.out]
             have HLE := Lib.hid (show Lg w wE b (trimS S V12) from ⟨F, hLE, (bel_next HBF.out HBD.out).trans (hfE.below (fun q hq => (HLF.out.fp q hq).1) (bel_next HBF.out HBD.out).size)⟩)
             have hnf : ∀ g, wr.heap.size ≤ g → ¬ F g := fun g hg e => by have := (HLF.out.fp g e).2; omega
             have HRE := Lib.hid (HRD.out.other hfE.size (fun g h1 h2 => hfE.block g h2 (hnf g h1)))
             have HNE := Lib.hid (Ns.other HND.out hfE.size (fun q hq hl => hfE.block q hl (hnf q (by have := (HFD.out q hq).1; have := HBC.out.size; omega))))
             clear hLE hfE hnf)
          | (go_at_call 27; (with_reducible refine (HLE.out.Base).mono ?_); rintro e wG ⟨vG, rfl, hnG, hbG, -⟩
             have HNG := Lib.hid hnG
             replace HLE := Lib.hid (HLE.out.later hbG)
             replace HRE := Lib.hid (HRE.out.later hbG)
             replace HNE := Lib.hid (Ns.later HNE.out hbG)
             have kA1 := HLE.out.After vG (trimS S V12).base hnG 400
             clear hnG hbG)
          | (go_at_call 14; (with_reducible refine kA1.mono ?_); rintro e wH ⟨vH, rfl, hrH, hbH⟩
             have hgd := HLE.out.good
             have e1 : covL (trimS S V12).base (trimS S V12).base = true := cov_self _
             have e2 : aftR (trimS S V12) (trimS S V12).base 400 = S.L.drop tn := by unfold aftR; rw [e1, if_pos rfl, some_all hgd, ← HTN.out]; rfl
             rw [e2] at hrH
             rw [e1]
             obtain ⟨aH, cH, rfl⟩ := hrH.slice
             rw [HM9.out]
             have HRH := Lib.hid hrH
             replace HLE := Lib.hid (HLE.out.later hbH)
             replace HRE := Lib.hid (HRE.out.later hbH)
             replace HNE := Lib.hid (Ns.later HNE.out hbH)
             replace HNG := Lib.hid (Ns.later HNG.out hbH)
             have kA2 := HLE.out.After (.slice none 0 0) [] (ns_nil _) 400
             clear hrH hbH e1 e2 hgd kA1)
          | (go_at_call 14; (with_reducible refine kA2.mono ?_); rintro e wI ⟨vI, rfl, hrI, hbI⟩
             have e1 : covL [] (trimS S V12).base = zn := (trim_none_cov HG9.out HG.out.base V12).trans HZN.out
             rw [e1]
             obtain ⟨aI, cI, rfl⟩ := hrI.slice
             replace HLE := Lib.hid (HLE.out.later hbI)
             replace HNE := Lib.hid (Ns.later HNE.out hbI)
             replace HNG := Lib.hid (Ns.later HNG.out hbI)
             have hrt := (HRE.out.later hbI)
             obtain ⟨p9, c9, s9, s9', hrd⟩ := hrt.tail tn (by rw [HNL.out]; exact htl)
             rw [HNL.out, hm9x.out] at s9 s9'
             have kS := rsame17 aH p9 cH c9 (S.L.drop tn) wI ((HRH.out.later hbI).rd) hrd (by have h7 := hm9x.out; rw [HM9.out]; omega)
             rw [HM9.out] at kS
             clear hrI hbI e1 hrt hrd kA2)
          | (go_at_call 16; (with_reducible refine kS.mono ?_); rintro e wJ ⟨rfl, hbJ⟩
             replace HLE := Lib.hid (HLE.out.later hbJ)
             replace HNE := Lib.hid (Ns.later HNE.out hbJ)
             replace HNG := Lib.hid (Ns.later HNG.out hbJ)
             have kK2 := HLE.out.Know
             clear hbJ kS s9 s9')
          | (go_at_call 26; (with_reducible refine kK2.mono ?_); rintro e wK ⟨vK, rfl, hnK, hbK, -⟩
             rw [trim_know] at hnK
             replace HLE := Lib.hid (HLE.out.later hbK)
             replace HNG := Lib.hid (Ns.later HNG.out hbK)
             have kS2 := rsameN vK _ S.know S.know wK hnK (Ns.later HNE.out hbK)
             rw [sameL_self] at kS2
             clear hnK hbK kK2)
          | (go_at_call 25; (with_reducible refine kS2.mono ?_); rintro e wL ⟨rfl, hbL⟩
             replace HLE := Lib.hid (HLE.out.later hbL)
             replace HNG := Lib.hid (Ns.later HNG.out hbL)
             clear hbL kS2)
          | (go_at_call 9; (with_reducible refine (HKF.out _ (HLE.out.bel)).mono ?_); rintro e wM ⟨rfl, hnM, rfl⟩
             have kCv := rcovers_is _ _ V12 (trimS S V12).base _ hnM HNG.out
             rw [trim_cov HG9.out HG.out.base V12] at kCv
             clear hnM)
          | (go_at_call 31; (with_reducible refine kCv.mono ?_); rintro e wN ⟨rfl, hbN⟩
             replace HLE := Lib.hid (HLE.out.later hbN)
             have kC2 := HLE.out.Clock
             have kR2 := HLE.out.Room
             rw [HROOM.out] at kR2
             rw [show (trimS S V12).clock = S.clock from rfl] at kC2
             clear hbN kCv)
          | (go_at_call 28; (with_reducible refine kC2.mono ?_); rintro e wN2 ⟨rfl, rfl⟩; clear kC2)
          | (go_at_call 30; (with_reducible refine kR2.mono ?_); rintro e wO ⟨rfl, hbO⟩; (replace HLE := Lib.hid (HLE.out.later hbO)); clear kR2 hbO))
        go_ret
        exact ⟨by show Ending.returned (.bool (z2 == 60 - (nl : Int) + (tn : Int))) = _; rw [HZ2.out]; simp, HLE.out.bel⟩
      · obtain ⟨F, hLF, hbF⟩ := HL.out
        have HLF := Lib.hid hLF
        have HBF := Lib.hid hbF
        obtain ⟨nl, hnl⟩ : ∃ nl, S.L.length = nl := ⟨_, rfl⟩
        obtain ⟨tn, htn⟩ : ∃ tn, trimN V12 S.L = tn := ⟨_, rfl⟩
        have hnl4 : nl ≤ 40 := by have := HG.out.len; omega
        have htl : tn ≤ nl := by rw [← hnl, ← htn]; exact trimN_le _ _
        have HNL := Lib.hid hnl
        have HTN := Lib.hid htn
        have kA := HL.out.All
        have kT := fun (W : World) (hW : Below wr.heap.size wr W) => trim_is (hLF.later hW) (.slice oa V12.length oc) V12 (Ns.later (HV12N.out) (bel_next hbF hW))
        have HKT := Lib.hid kT
        have kfw := fun (W : World) (hW : Below w.heap.size w W) => few_lit oa oc oV V12 W (ArgNs.later HVA.out hW) HV12
        have HKF := Lib.hid kfw
        have HG9 := Lib.hid hLF.good
        clear hLF hbF hnl htn kT kfw
        have hd1 : decide ((nl : Int) < (tn : Int)) = false := decide_eq_false (by omega)
        have hd2 : decide (nl < tn) = false := decide_eq_false (by omega)
        have hd3 : decide ((tn : Int) < 0) = false := decide_eq_false (by omega)
        obtain ⟨m9, hm9⟩ : ∃ m9, nl - tn = m9 := ⟨_, rfl⟩
        have HM9 := Lib.hid (show (S.L.drop tn).length = m9 by rw [List.length_drop, HNL.out]; exact hm9)
        have hw1 : IntKind.i64.wrap (60 - (nl : Int)) = 60 - (nl : Int) := by rw [IntKind.wrap_i64]; omega
        have hw2 : IntKind.i64.wrap (60 - (nl : Int) + (tn : Int)) = 60 - (nl : Int) + (tn : Int) := by rw [IntKind.wrap_i64]; omega
        obtain ⟨z2, hz2⟩ : ∃ z2, 60 - (nl : Int) + (tn : Int) = z2 := ⟨_, rfl⟩
        rw [hz2] at hw2
        have HROOM := Lib.hid (show (trimS S V12).room - ((trimS S V12).L.length : Int) = z2 by
          have h7 := HG.out.rm
          unfold trimS; dsimp only
          rw [List.length_drop, HNL.out, HTN.out, h7]; omega)
        have hm9x := Lib.hid hm9
        have HZ2 := Lib.hid hz2
        clear hm9 hz2
        obtain ⟨zn, hzn, hzn1⟩ : ∃ zn : Bool, decide (trimN V12 S.L = 0) = zn ∧ ((tn : Int) == 0) = zn := ⟨decide (tn = 0), by rw [HTN.out], by
          by_cases e : tn = 0
          · subst e; rfl
          · rw [decide_eq_false e]; simpa using e⟩
        have HZN := Lib.hid hzn
        clear hzn
        have hzz : (zn == zn) = true := by simp
        go_wp2_with (first
          | (go_at_call 24; (with_reducible refine kA.mono ?_); rintro e wC ⟨vC, rfl, hrC, hbC⟩
             obtain ⟨aC, cC, rfl⟩ := hrC.slice
             have HRC := Lib.hid hrC
             have HBC := Lib.hid hbC
             have kK := (HL.out.later hbC).Know
             rw [HNL.out]
             clear hrC hbC)
          | (go_at_call 26; (with_reducible refine kK.mono ?_); rintro e wD ⟨vD, rfl, hnD, hbD, hfD⟩
             have HND := Lib.hid hnD
             have HFD := Lib.hid hfD
             have HBD := Lib.hid (bel_next HBC.out hbD)
             have HRD := Lib.hid (HRC.out.later hbD)
             have kC := (HL.out.later HBD.out).Clock
             clear hnD hbD hfD kK)
          | (go_at_call 28; (with_reducible refine kC.mono ?_); rintro e wD2 ⟨rfl, rfl⟩; clear kC)
          | (go_at_call 9; (with_reducible refine (HKF.out _ (bel_next HBF.out HBD.out)).mono ?_); rintro e wF ⟨rfl, hnF, rfl⟩; clear hnF)
          | (go_at_call 12; (with_reducible refine (HKT.out _ HBD.out).mono ?_); rintro e wE ⟨rfl, hLE, hfE⟩
             rw [HTN.out]
             have HLE := Lib.hid (show Lg w wE b (trimS S V12) from ⟨F, hLE, (bel_next HBF.out HBD.out).trans (hfE.below (fun q hq => (HLF.out.fp q hq).1) (bel_next HBF.out HBD.out).size)⟩)
             have hnf : ∀ g, wr.heap.size ≤ g → ¬ F g := fun g hg e => by have := (HLF.out.fp g e).2; omega
             have HRE := Lib.hid (HRD.out.other hfE.size (fun g h1 h2 => hfE.block g h2 (hnf g h1)))
             have HNE := Lib.hid (Ns.other HND.out hfE.size (fun q hq hl => hfE.block q hl (hnf q (by have := (HFD.out q hq).1; have := HBC.out.size; omega))))
             clear hLE hfE hnf)
          | (go_at_call 27; (with_reducible refine (HLE.out.Base).mono ?_); rintro e wG ⟨vG, rfl, hnG, hbG, -⟩
             have HNG := Lib.hid hnG
             replace HLE := Lib.hid (HLE.out.later hbG)
             replace HRE := Lib.hid (HRE.out.later hbG)
             replace HNE := Lib.hid (Ns.later HNE.out hbG)
             have kA1 := HLE.out.After vG (trimS S V12).base hnG 400
             clear hnG hbG)
          | (go_at_call 14; (with_reducible refine kA1.mono ?_); rintro e wH ⟨vH, rfl, hrH, hbH⟩
             have hgd := HLE.out.good
             have e1 : covL (trimS S V12).base (trimS S V12).base = true := cov_self _
             have e2 : aftR (trimS S V12) (trimS S V12).base 400 = S.L.drop tn := by unfold aftR; rw [e1, if_pos rfl, some_all hgd, ← HTN.out]; rfl
             rw [e2] at hrH
             rw [e1]
             obtain ⟨aH, cH, rfl⟩ := hrH.slice
             rw [HM9.out]
             have HRH := Lib.hid hrH
             replace HLE := Lib.hid (HLE.out.later hbH)
             replace HRE := Lib.hid (HRE.out.later hbH)
             replace HNE := Lib.hid (Ns.later HNE.out hbH)
             replace HNG := Lib.hid (Ns.later HNG.out hbH)
             have kA2 := HLE.out.After (.slice none 0 0) [] (ns_nil _) 400
             clear hrH hbH e1 e2 hgd kA1)
          | (go_at_call 14; (with_reducible refine kA2.mono ?_); rintro e wI ⟨vI, rfl, hrI, hbI⟩
             have e1 : covL [] (trimS S V12).base = zn := (trim_none_cov HG9.out HG.out.base V12).trans HZN.out
             rw [e1]
             obtain ⟨aI, cI, rfl⟩ := hrI.slice
             replace HLE := Lib.hid (HLE.out.later hbI)
             replace HNE := Lib.hid (Ns.later HNE.out hbI)
             replace HNG := Lib.hid (Ns.later HNG.out hbI)
             have hrt := (HRE.out.later hbI)
             obtain ⟨p9, c9, s9, s9', hrd⟩ := hrt.tail tn (by rw [HNL.out]; exact htl)
             rw [HNL.out, hm9x.out] at s9 s9'
             have kS := rsame17 aH p9 cH c9 (S.L.drop tn) wI ((HRH.out.later hbI).rd) hrd (by have h7 := hm9x.out; rw [HM9.out]; omega)
             rw [HM9.out] at kS
             clear hrI hbI e1 hrt hrd kA2)
          | (go_at_call 16; (with_reducible refine kS.mono ?_); rintro e wJ ⟨rfl, hbJ⟩
             replace HLE := Lib.hid (HLE.out.later hbJ)
             replace HNE := Lib.hid (Ns.later HNE.out hbJ)
             replace HNG := Lib.hid (Ns.later HNG.out hbJ)
             have kK2 := HLE.out.Know
             clear hbJ kS s9 s9')
          | (go_at_call 26; (with_reducible refine kK2.mono ?_); rintro e wK ⟨vK, rfl, hnK, hbK, -⟩
             rw [trim_know] at hnK
             replace HLE := Lib.hid (HLE.out.later hbK)
             replace HNG := Lib.hid (Ns.later HNG.out hbK)
             have kS2 := rsameN vK _ S.know S.know wK hnK (Ns.later HNE.out hbK)
             rw [sameL_self] at kS2
             clear hnK hbK kK2)
          | (go_at_call 25; (with_reducible refine kS2.mono ?_); rintro e wL ⟨rfl, hbL⟩
             replace HLE := Lib.hid (HLE.out.later hbL)
             replace HNG := Lib.hid (Ns.later HNG.out hbL)
             clear hbL kS2)
          | (go_at_call 9; (with_reducible refine (HKF.out _ (HLE.out.bel)).mono ?_); rintro e wM ⟨rfl, hnM, rfl⟩
             have kCv := rcovers_is _ _ V12 (trimS S V12).base _ hnM HNG.out
             rw [trim_cov HG9.out HG.out.base V12] at kCv
             clear hnM)
          | (go_at_call 31; (with_reducible refine kCv.mono ?_); rintro e wN ⟨rfl, hbN⟩
             replace HLE := Lib.hid (HLE.out.later hbN)
             have kC2 := HLE.out.Clock
             have kR2 := HLE.out.Room
             rw [HROOM.out] at kR2
             rw [show (trimS S V12).clock = S.clock from rfl] at kC2
             clear hbN kCv)
          | (go_at_call 28; (with_reducible refine kC2.mono ?_); rintro e wN2 ⟨rfl, rfl⟩; clear kC2)
          | (go_at_call 30; (with_reducible refine kR2.mono ?_); rintro e wO ⟨rfl, hbO⟩; (replace HLE := Lib.hid (HLE.out.later hbO)); clear kR2 hbO))
        go_ret
        exact ⟨by show Ending.returned (.bool (z2 == 60 - (nl : Int) + (tn : Int))) = _; rw [HZ2.out]; simp, HLE.out.bel⟩
end originTrims
end Go.Proofs.Ythbajlfkgbfkgaa.Og
