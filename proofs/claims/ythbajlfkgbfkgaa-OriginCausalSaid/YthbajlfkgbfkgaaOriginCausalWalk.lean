/- OriginCausal. -/
import Derived.Test.YthbajlfkgbfkgaaOgLaws
set_option maxRecDepth 200000
set_option linter.unusedSimpArgs false
set_option linter.unusedVariables false
namespace Go.Proofs.Ythbajlfkgbfkgaa.Og
open Go.RowKit Go.Proofs.Ythbajlfkgbfkgaa.Vi Go.Proofs.Ythbajlfkgbfkgaa.Mk
namespace originCausal
structure CaJ (w wr : World) (S : OS) (i : Nat) (v : Value) : Prop where
  bel : Below w.heap.size w wr
  ns : Ns wr v (knowL S.base (S.L.take i))
set_option maxHeartbeats 16000000 in
theorem walk (a : Option Addr) (len cap : Nat) (w : World) (hA : ArgGOps w a len cap) : Calls Try.prog 4 #[.slice a len cap] w fun e w' => e = .returned (.bool true) ∧ Below w.heap.size w w' := by
  obtain ⟨ops, rfl, hat, hlen, hfit⟩ := hA.has
  have HFIT := Lib.hid hfit
  have HAT0 := Lib.hid hat
  have ka := awake_is w
  obtain ⟨n, hn⟩ : ∃ n, ops.length = n := ⟨_, rfl⟩
  rw [hn] at hlen ⊢
  have HN := Lib.hid hn
  clear hfit hat hA hn
  go_enter Try.func4, Try.ntmps4
  go_wp2_with (first
    | (go_at_call 8; (with_reducible refine ka.mono ?_); rintro e w1 ⟨rfl, hb1⟩; (have HB1 := Lib.hid hb1); clear hb1)
    | (go_at_call 10; (with_reducible refine (Lg.New HB1.out 400).mono ?_); rintro e w2 ⟨b, rfl, hL2, hb2, -⟩; (have HL0 := Lib.hid hL2); clear hL2 hb2))
  go_loopw [5] (fun i wr => ∃ (k : Nat) (S : OS), k ≤ 60 ∧ i = .int .i64 (k : Int) ∧ Hid (Lg w wr b S)) (fun i _ => 60 - (intOf i).toNat)
  case atStart => exact ⟨0, _, by omega, rfl, HL0⟩
  case round =>
    obtain ⟨k, S, hk, rfl, HL⟩ := hrel
    clear HL0
    by_cases hlt : k < n ∧ k < 60
    · obtain ⟨hlt1, hlt60⟩ := hlt
      have hlt2 : (k : Int) < (n : Int) := by omega
      have hlt3 : (k : Int) < 60 := by omega
      have hkl : k < ops.length := by rw [HN.out]; exact hlt1
      rcases HAT0.out with h0 | ⟨g, off, rfl, hgw, hops⟩
      · rw [h0] at hkl; simp at hkl
      · have HBr := Lib.hid HL.out.bel
        have hx := hops k hkl
        have hfx := HFIT.out _ (List.getElem_mem hkl)
        obtain ⟨x, hxe⟩ : ∃ x, ops[k] = x := ⟨_, rfl⟩
        rw [hxe] at hx hfx
        have hx := hx.below HBr.out hgw
        have HF := Lib.hid hfx
        clear hfx
        obtain ⟨ok, om, of, ⟨⟨rk, rs, rt, rv, rtier, ⟨rc, rst, rq⟩, rd⟩, ra, rcc⟩, oV, oa, oc⟩ := x
        obtain ⟨x0, x1, x2, x3, x4, x5, x6, x7, x8, x9, x10, x11, x12⟩ := hx
        dsimp only at x0 x1 x2 x3 x4 x5 x6 x7 x8 x9 x10 x11 x12
        obtain ⟨s6, hs6⟩ : ∃ s6, cutB rs 60 = s6 := ⟨_, rfl⟩
        obtain ⟨d12, hd12⟩ : ∃ d12, rd.take 12 = d12 := ⟨_, rfl⟩
        obtain ⟨V12, hV12⟩ : ∃ V12, oV.take 12 = V12 := ⟨_, rfl⟩
        have HV12 := Lib.hid hV12
        have HS6 := Lib.hid hs6
        have HD12 := Lib.hid hd12
        have halo := (Below.refl wr.heap.size wr).alloc (Nat.le_refl _) (boxG ok om of rk rt rv rtier rc rst rq rs rd ra rcc oV oa oc)
        have HALO := Lib.hid halo
        have HBO := Lib.hid (bel_next HBr.out halo)
        have HSM := Lib.hid (small_lit rk rt rv rtier rc rst rq rs s6 rd d12 ra rcc (wr.alloc (boxG ok om of rk rt rv rtier rc rst rq rs rd ra rcc oV oa oc)) (ArgNs.later HF.out.d (bel_next HBr.out halo)) HF.out.rc.s HS6 HD12)
        have HOB := Lib.hid (GOpO.new wr ⟨ok, om, of, ⟨⟨rk, rs, rt, rv, rtier, ⟨rc, rst, rq⟩, rd⟩, ra, rcc⟩, oV, oa, oc⟩)
        have hst := HF.out.rc.ss
        dsimp only at hst
        have HFITS := Lib.hid (show Rec.fits ⟨rk, s6, rt, rv, rtier, ⟨rc, rst, rq⟩, d12⟩ from by have h8 := Rd.small_fits (x := ⟨⟨rk, rs, rt, rv, rtier, ⟨rc, rst, rq⟩, rd⟩, ra, rcc⟩) HF.out.rc; unfold Rd.small Rec.small at h8; dsimp only at h8; rw [hs6, hd12] at h8; exact h8)
        have HS60 := Lib.hid (show s6.size ≤ 60 by rw [← hs6]; exact cutB_len _ _)
        have HL12 := Lib.hid (show d12.length ≤ 12 by rw [← hd12, List.length_take]; omega)
        clear halo hs6 hd12 hV12 hxe
        clear hops hgw
        by_cases h3 : ok.tmod 5 = 3
        · have g3 : (ok.tmod 5 == 3) = true := by simpa using h3
          clear h3
          go_wp2_with (first
            | (go_at_call 9; (with_reducible refine (few_lit oa oc oV V12 _ (ArgNs.later HF.out.V HBO.out) HV12).mono ?_); rintro e wF ⟨rfl, hnF, rfl⟩; (have HTR := Lib.hid ((HL.out.later HALO.out).Trim _ _ hnF)); clear hnF)
            | (go_at_call 12; (with_reducible refine (HTR.out).mono ?_); rintro e wE ⟨rfl, hLE⟩; (have HLE := Lib.hid hLE); clear hLE))
          go_roundw
          case rel => exact ⟨k + 1, _, by omega, by go_num, HLE⟩
          case measure => simp [intOf]; omega
        · have g3 : (ok.tmod 5 == 3) = false := by simpa using h3
          clear h3
          cases of with
          | true =>
            by_cases h1 : 0 ≤ rst
            · have g1 : decide (0 ≤ rst) = true := decide_eq_true h1
              by_cases h2 : rst < 8
              · have g2 : decide (rst < 8) = true := decide_eq_true h2
                obtain ⟨y, hy⟩ : ∃ y, atL S.know rst = y := ⟨_, rfl⟩
                have hyb := atL_bounds S.know rst
                rw [hy] at hyb
                have hwr : IntKind.i64.wrap (y + 1) = y + 1 := by rw [IntKind.wrap_i64]; omega
                have HY := Lib.hid hy
                clear hy hyb
                go_wp2_with (first
                  | (go_at_call 17; (with_reducible refine HSM.out.mono ?_); rintro e wS ⟨rfl, hnS, hbS⟩
                     have HNS := Lib.hid hnS
                     have HBS := Lib.hid (bel_next HALO.out hbS)
                     replace HL := Lib.hid (HL.out.later (bel_next HALO.out hbS))
                     obtain ⟨o0, o1, o2, o3, o4, o5, o6, o7, o8, o9, o10, o11, o12⟩ := HOB.out.other (hbS.block wr.heap.size (by simp))
                     dsimp only at o0 o1 o2 o3 o4 o5 o6 o7 o8 o9 o10 o11 o12
                     have hlt9 : wr.heap.size < wS.heap.size := by have := hbS.size; rw [World.size_alloc] at this; omega
                     have hne9 : ¬ wr.heap.size = wS.heap.size := by omega
                     have hne8 : ¬ wS.heap.size = wr.heap.size := by omega
                     have halq := (Below.refl wS.heap.size wS).alloc (Nat.le_refl _) (box9 ⟨⟨rk, s6, rt, rv, rtier, ⟨rc, rst, rq⟩, d12⟩, ra, rcc⟩)
                     have HALQ := Lib.hid halq
                     have HQ := Lib.hid (RecW.new wS ⟨rk, s6, rt, rv, rtier, ⟨rc, rst, rq⟩, d12⟩ (.slice ra d12.length rcc))
                     clear hnS hbS halq)
                  | (go_at_call 26; (with_reducible refine ((HL.out.later HALQ.out).Know).mono ?_); rintro e wK ⟨vK, rfl, hnK, hbK, hfK⟩
                     obtain ⟨aK, cK, rfl⟩ := hnK.slice
                     have HNK := Lib.hid hnK
                     have HBK := Lib.hid (bel_next HALQ.out hbK)
                     have HFK := Lib.hid (show ∀ q, (Value.slice aK S.know.length cK).ownBlock = some q → wS.heap.size < q from fun q hq => by have := (hfK q hq).1; rw [World.size_alloc] at this; omega)
                     have hqk := HQ.out.below hbK
                     have HQK := Lib.hid hqk
                     obtain ⟨⟨y0, y1, y2, y3, y4, y5, y6, y7, y8⟩, -, -, -, -, -, -, -, -, -⟩ := hqk
                     dsimp only at y0 y1 y2 y3 y4 y5 y6 y7 y8
                     have HAT := Lib.hid (rat_is _ S.know rst wK hnK)
                     clear hnK hbK hfK)
                  | (go_at_call 19; (with_reducible refine (HAT.out).mono ?_); rintro e wA ⟨rfl, hbA⟩
                     rw [HY.out]
                     have HBA := Lib.hid (bel_next HBK.out hbA)
                     have HNA := Lib.hid (Ns.later HNK.out hbA)
                     have hqa := HQK.out.below hbA
                     obtain ⟨⟨z0, z1, z2, z3, z4, z5, z6, z7, z8⟩, f0, f1, f2, f3, f4, f5, f6, f7, f8⟩ := hqa
                     dsimp only at z0 z1 z2 z3 z4 z5 z6 z7 z8
                     have hb2 := (HBA.out.setCell (p := ⟨wS.heap.size, 7, none⟩) (Nat.le_refl _) (.int .i64 (y + 1))).setCell (p := ⟨wS.heap.size, 8, none⟩) (Nat.le_refl _) (.slice aK S.know.length cK)
                     have hne : ∀ q, (Value.slice aK S.know.length cK).ownBlock = some q → q ≠ wS.heap.size := fun q hq e => by have := HFK.out q hq; omega
                     have HADD := Lib.hid ((HL.out.later hb2).AddR ⟨⟨rk, s6, rt, rv, rtier, ⟨rc, rst, y + 1⟩, S.know⟩, aK, cK⟩ (Ns.set (Ns.set HNA.out wS.heap.size 7 (.int .i64 (y + 1)) hne) wS.heap.size 8 (.slice aK S.know.length cK) hne) ⟨HFITS.out.k, HFITS.out.s, HFITS.out.t, HFITS.out.v, HFITS.out.tier, HFITS.out.ss⟩ (by have := HS60.out; dsimp only; omega) (by have := know_len HL.out.good; dsimp only; omega))
                     clear hbA hb2 hne)
                  | (go_at_call 20; (with_reducible refine (HADD.out).mono ?_); rintro e wE ⟨rfl, hLE⟩; (have HLE := Lib.hid hLE); clear hLE))
                go_roundw
                case rel => exact ⟨k + 1, _, by omega, by go_num, HLE⟩
                case measure => simp [intOf]; omega
              · have g2 : decide (rst < 8) = false := decide_eq_false h2
                clear h2
                go_wp2_with (first
                  | (go_at_call 17; (with_reducible refine HSM.out.mono ?_); rintro e wS ⟨rfl, hnS, hbS⟩
                     have HNS := Lib.hid hnS
                     have HBS := Lib.hid (bel_next HALO.out hbS)
                     replace HL := Lib.hid (HL.out.later (bel_next HALO.out hbS))
                     obtain ⟨o0, o1, o2, o3, o4, o5, o6, o7, o8, o9, o10, o11, o12⟩ := HOB.out.other (hbS.block wr.heap.size (by simp))
                     dsimp only at o0 o1 o2 o3 o4 o5 o6 o7 o8 o9 o10 o11 o12
                     have hlt9 : wr.heap.size < wS.heap.size := by have := hbS.size; rw [World.size_alloc] at this; omega
                     have hne9 : ¬ wr.heap.size = wS.heap.size := by omega
                     have hne8 : ¬ wS.heap.size = wr.heap.size := by omega
                     have halq := (Below.refl wS.heap.size wS).alloc (Nat.le_refl _) (box9 ⟨⟨rk, s6, rt, rv, rtier, ⟨rc, rst, rq⟩, d12⟩, ra, rcc⟩)
                     have HALQ := Lib.hid halq
                     have HQ := Lib.hid (RecW.new wS ⟨rk, s6, rt, rv, rtier, ⟨rc, rst, rq⟩, d12⟩ (.slice ra d12.length rcc))
                     clear hnS hbS halq)
                  | (go_at_call 20; (with_reducible refine ((HL.out.later HALQ.out).AddR ⟨⟨rk, s6, rt, rv, rtier, ⟨rc, rst, rq⟩, d12⟩, ra, rcc⟩ (Ns.later HNS.out HALQ.out) HFITS.out (by have := HS60.out; dsimp only; omega) (by have := HL12.out; dsimp only; omega)).mono ?_); rintro e wE ⟨rfl, hLE⟩; (have HLE := Lib.hid hLE); clear hLE))
                go_roundw
                case rel => exact ⟨k + 1, _, by omega, by go_num, HLE⟩
                case measure => simp [intOf]; omega
            · have g1 : decide (0 ≤ rst) = false := decide_eq_false h1
              clear h1
              go_wp2_with (first
                | (go_at_call 17; (with_reducible refine HSM.out.mono ?_); rintro e wS ⟨rfl, hnS, hbS⟩
                   have HNS := Lib.hid hnS
                   have HBS := Lib.hid (bel_next HALO.out hbS)
                   replace HL := Lib.hid (HL.out.later (bel_next HALO.out hbS))
                   obtain ⟨o0, o1, o2, o3, o4, o5, o6, o7, o8, o9, o10, o11, o12⟩ := HOB.out.other (hbS.block wr.heap.size (by simp))
                   dsimp only at o0 o1 o2 o3 o4 o5 o6 o7 o8 o9 o10 o11 o12
                   have hlt9 : wr.heap.size < wS.heap.size := by have := hbS.size; rw [World.size_alloc] at this; omega
                   have hne9 : ¬ wr.heap.size = wS.heap.size := by omega
                   have hne8 : ¬ wS.heap.size = wr.heap.size := by omega
                   have halq := (Below.refl wS.heap.size wS).alloc (Nat.le_refl _) (box9 ⟨⟨rk, s6, rt, rv, rtier, ⟨rc, rst, rq⟩, d12⟩, ra, rcc⟩)
                   have HALQ := Lib.hid halq
                   have HQ := Lib.hid (RecW.new wS ⟨rk, s6, rt, rv, rtier, ⟨rc, rst, rq⟩, d12⟩ (.slice ra d12.length rcc))
                   clear hnS hbS halq)
                | (go_at_call 20; (with_reducible refine ((HL.out.later HALQ.out).AddR ⟨⟨rk, s6, rt, rv, rtier, ⟨rc, rst, rq⟩, d12⟩, ra, rcc⟩ (Ns.later HNS.out HALQ.out) HFITS.out (by have := HS60.out; dsimp only; omega) (by have := HL12.out; dsimp only; omega)).mono ?_); rintro e wE ⟨rfl, hLE⟩; (have HLE := Lib.hid hLE); clear hLE))
              go_roundw
              case rel => exact ⟨k + 1, _, by omega, by go_num, HLE⟩
              case measure => simp [intOf]; omega
          | false =>
            go_wp2_with (first
              | (go_at_call 17; (with_reducible refine HSM.out.mono ?_); rintro e wS ⟨rfl, hnS, hbS⟩
                 have HNS := Lib.hid hnS
                 have HBS := Lib.hid (bel_next HALO.out hbS)
                 replace HL := Lib.hid (HL.out.later (bel_next HALO.out hbS))
                 obtain ⟨o0, o1, o2, o3, o4, o5, o6, o7, o8, o9, o10, o11, o12⟩ := HOB.out.other (hbS.block wr.heap.size (by simp))
                 dsimp only at o0 o1 o2 o3 o4 o5 o6 o7 o8 o9 o10 o11 o12
                 have hlt9 : wr.heap.size < wS.heap.size := by have := hbS.size; rw [World.size_alloc] at this; omega
                 have hne9 : ¬ wr.heap.size = wS.heap.size := by omega
                 have hne8 : ¬ wS.heap.size = wr.heap.size := by omega
                 have halq := (Below.refl wS.heap.size wS).alloc (Nat.le_refl _) (box9 ⟨⟨rk, s6, rt, rv, rtier, ⟨rc, rst, rq⟩, d12⟩, ra, rcc⟩)
                 have HALQ := Lib.hid halq
                 have HQ := Lib.hid (RecW.new wS ⟨rk, s6, rt, rv, rtier, ⟨rc, rst, rq⟩, d12⟩ (.slice ra d12.length rcc))
                 clear hnS hbS halq)
              | (go_at_call 20; (with_reducible refine ((HL.out.later HALQ.out).AddR ⟨⟨rk, s6, rt, rv, rtier, ⟨rc, rst, rq⟩, d12⟩, ra, rcc⟩ (Ns.later HNS.out HALQ.out) HFITS.out (by have := HS60.out; dsimp only; omega) (by have := HL12.out; dsimp only; omega)).mono ?_); rintro e wE ⟨rfl, hLE⟩; (have HLE := Lib.hid hLE); clear hLE))
            go_roundw
            case rel => exact ⟨k + 1, _, by omega, by go_num, HLE⟩
            case measure => simp [intOf]; omega
    · have hlt2 : ((k : Int) < (n : Int) ∧ ¬ (k : Int) < 60) ∨ ¬ (k : Int) < (n : Int) := by omega
      rcases hlt2 with ⟨hlt2, hlt3⟩ | hlt2
      · go_wp2_with (first
          | (go_at_call 27; (with_reducible refine (HL.out.Base).mono ?_); rintro e wB ⟨vB, rfl, hnB, hbB, -⟩
             have HNB := Lib.hid hnB
             replace HL := Lib.hid (HL.out.later hbB)
             clear hnB hbB)
          | (go_at_call 24; (with_reducible refine (HL.out.All).mono ?_); rintro e wC ⟨vC, rfl, hrC, hbC⟩
             obtain ⟨aC, cC, rfl⟩ := hrC.slice
             have HRC := Lib.hid hrC
             have HLC := Lib.hid (HL.out.later hbC)
             have HJ0 := Lib.hid (show CaJ wC wC S 0 vB from ⟨Below.refl _ _, by rw [List.take_zero]; exact Ns.later HNB.out hbC⟩)
             clear hrC hbC))
        obtain ⟨nl, hnl⟩ : ∃ nl, S.L.length = nl := ⟨_, rfl⟩
        have hnl4 : nl ≤ 400 := by have := HLC.out.good.l400; omega
        rw [hnl]
        have HNL := Lib.hid hnl
        clear hnl
        go_loopw [9, 11] (fun v i wr2 => ∃ (j : Nat), j ≤ nl ∧ i = .int .i64 (j : Int) ∧ Hid (CaJ wC wr2 S j v)) (fun _ i _ => nl - (intOf i).toNat)
        case atStart => exact ⟨0, by omega, rfl, HJ0⟩
        case round =>
          obtain ⟨j, hj, rfl, HJ⟩ := hrel
          clear HJ0
          by_cases hjl : j < nl
          · have hj2 : (j : Int) < (nl : Int) := by omega
            have HJL := Lib.hid hjl
            have hjL : j < S.L.length := by rw [HNL.out]; exact hjl
            obtain ⟨hok, hq, hcov⟩ := chain_at HLC.out.good.ch hjL
            have hks := know_step S.base S.L j hjL
            obtain ⟨ys, hy1, hy2, hy3⟩ := HRC.out.has
            have hjy : j < ys.length := by rw [← List.length_map (f := Rd.r), hy2]; exact hjL
            have hy1' : ORow wC wB.heap.size (.slice aC S.L.length cC) ys := hy1
            obtain ⟨g2, off2, rfl, -, -, hgl2, hcs2⟩ := hy1'.cell (by omega)
            have hr9 := R9.later (hcs2 j hjy) HJ.out.bel
            obtain ⟨z, hz⟩ : ∃ z, ys[j] = z := ⟨_, rfl⟩
            have hzr : z.r = S.L[j] := by
              have : (ys.map Rd.r)[j]'(by rw [List.length_map]; exact hjy) = S.L[j] := by simp only [hy2]
              rw [← this, List.getElem_map, hz]
            have hzn : Ns wr z.dv z.r.d := Ns.later (by rw [← hz]; exact (hy3 _ (List.getElem_mem hjy)).1) HJ.out.bel
            rw [← hzr] at hok hq hcov hks
            rw [hz] at hr9
            have hg4 : g2 < wr.heap.size := hr9.room
            have hg5 : ¬ g2 = wr.heap.size := by have := hr9.room; omega
            have hg6 : ¬ wr.heap.size = g2 := by omega
            have hp := Rec.ok_parts hok
            obtain ⟨⟨zk, zss, zt, zv, ztier, ⟨zc, zst, zq⟩, zd⟩, za, zcc⟩ := z
            unfold Rd.dv at hzn
            dsimp only at *
            obtain ⟨x0, x1, x2, x3, x4, x5, x6, x7, x8⟩ := hr9
            dsimp only at x0 x1 x2 x3 x4 x5 x6 x7 x8
            obtain ⟨K, hK⟩ : ∃ K, knowL S.base (S.L.take j) = K := ⟨_, rfl⟩
            rw [hK] at hq hcov hks
            have HKS := Lib.hid hks
            have HNV := Lib.hid (show Ns wr _ K from by rw [← hK]; exact HJ.out.ns)
            have hat9 : atL K zst = zq - 1 := by omega
            have hwr9 : IntKind.i64.wrap (zq - 1) = zq - 1 := by rw [IntKind.wrap_i64]; omega
            have hal5 := (Below.refl wr.heap.size wr).alloc (Nat.le_refl _) (.cells #[.int .i64 zc, .int .i64 zst, .int .i64 zq] 31)
            have HAL5 := Lib.hid hal5
            have hb5 := StAt.new wr ⟨zc, zst, zq⟩
            have HB5 := Lib.hid hb5
            have hcv := rcovers_is _ (.slice za zd.length zcc) K zd _ (Ns.later HNV.out hal5) (Ns.later hzn hal5)
            rw [hcov] at hcv
            have hatq := fun (W : World) (h : Below wr.heap.size wr W) => rat_is _ K zst W (Ns.later HNV.out h)
            rw [hat9] at hatq
            have HATQ := Lib.hid hatq
            have HWQ := Lib.hid (fun (W : World) (h : Below wr.heap.size wr W) => rwith_is _ K zst zq W (Ns.later HNV.out h) (by omega))
            have hne5 : (zq - 1 != zq - 1) = false := by simp
            have hne6 : (zq - 1 == zq - 1) = true := by simp
            clear hok hq hcov hks hy1 hy2 hy3 hy1' hcs2 hgl2 hz hzr hzn hp hK hat9 hal5 hb5 hatq hjy
            go_wp2_with (first
              | (go_at_call 31; (with_reducible refine hcv.mono ?_); rintro e w6 ⟨rfl, hb6⟩
                 have HB6 := Lib.hid (bel_next HAL5.out hb6)
                 have hs6 := StAt.below HB5.out hb6
                 have HS6B := Lib.hid hs6
                 obtain ⟨z0, z1, z2⟩ := hs6
                 dsimp only at z0 z1 z2
                 clear hb6))
            refine wp_region_held_drew (S := (fun X : World => StAt X wr.heap.size ⟨zc, zst, zq⟩)) (by kernel_rfl) (StAt.below HS6B.out (Below.refl _ _).drew) (fun hHeld => ?_)
            refine wpAnyH_take (i := 0) (oi := ?ox1o) (v := ?ox1v) ?ox1h (by kernel_rfl) (by kernel_rfl) (by kernel_rfl) ?ox1q ?ox1y hHeld ?ox1r
            case ox1h => (simp only [List.getElem?_toArray, List.getElem?_cons_zero]; rfl)
            case ox1q => exact fun _ _ _ h => h
            case ox1y => (refine Or.inl ⟨by first | kernel_rfl | rfl, ?_⟩; intro w hSw; (try dsimp only at hSw); obtain ⟨q0, q1, q2⟩ := hSw; dsimp only at q0 q1 q2; go_simp <;> (try with_reducible rfl))
            try simp only [Act.put, List.setIfInBounds_toArray, List.set_cons_zero, List.set_cons_succ]
            refine wpAnyH_take (i := 1) (oi := ?ox2o) (v := ?ox2v) ?ox2h (by kernel_rfl) (by kernel_rfl) (by kernel_rfl) ?ox2q ?ox2y hHeld ?ox2r
            case ox2h => (simp only [List.getElem?_toArray, List.getElem?_cons_succ, List.getElem?_cons_zero]; rfl)
            case ox2q => exact fun _ _ _ h => h
            case ox2y => (refine Or.inl ⟨by first | kernel_rfl | rfl, ?_⟩; intro w hSw; (try dsimp only at hSw); obtain ⟨q0, q1, q2⟩ := hSw; dsimp only at q0 q1 q2; go_simp <;> (try with_reducible rfl))
            try simp only [Act.put, List.setIfInBounds_toArray, List.set_cons_zero, List.set_cons_succ]
            refine wpAnyH_take (i := 2) (oi := ?ox3o) (v := ?ox3v) ?ox3h (by kernel_rfl) (by kernel_rfl) (by kernel_rfl) ?ox3q ?ox3y hHeld ?ox3r
            case ox3h => (simp only [List.getElem?_toArray, List.getElem?_cons_succ, List.getElem?_cons_zero]; rfl)
            case ox3q => exact fun _ _ _ h => h
            case ox3y => (refine Or.inl ⟨by first | kernel_rfl | rfl, ?_⟩; intro w hSw; (try dsimp only at hSw); obtain ⟨q0, q1, q2⟩ := hSw; dsimp only at q0 q1 q2; go_simp <;> (try with_reducible rfl))
            try simp only [Act.put, List.setIfInBounds_toArray, List.set_cons_zero, List.set_cons_succ]
            refine wpAnyH_take (i := 3) (oi := ?ox4o) (v := ?ox4v) ?ox4h (by kernel_rfl) (by kernel_rfl) (by kernel_rfl) ?ox4q ?ox4y hHeld ?ox4r
            case ox4h => (simp only [List.getElem?_toArray, List.getElem?_cons_succ, List.getElem?_cons_zero]; rfl)
            case ox4q => exact fun _ _ _ h => h
            case ox4y => (refine Or.inl ⟨by first | kernel_rfl | rfl, ?_⟩; intro w hSw; (try dsimp only at hSw); obtain ⟨q0, q1, q2⟩ := hSw; dsimp only at q0 q1 q2; go_simp <;> (try with_reducible rfl))
            try simp only [Act.put, List.setIfInBounds_toArray, List.set_cons_zero, List.set_cons_succ]
            refine wpAnyH_take (i := 4) (oi := ?ox5o) (v := ?ox5v) ?ox5h (by kernel_rfl) (by kernel_rfl) (by kernel_rfl) ?ox5q ?ox5y hHeld ?ox5r
            case ox5h => (simp only [List.getElem?_toArray, List.getElem?_cons_succ, List.getElem?_cons_zero]; rfl)
            case ox5q => exact fun _ _ _ h => h
            case ox5y => (refine Or.inl ⟨by first | kernel_rfl | rfl, ?_⟩; intro w hSw; (try dsimp only at hSw); obtain ⟨q0, q1, q2⟩ := hSw; dsimp only at q0 q1 q2; go_simp <;> (try with_reducible rfl))
            try simp only [Act.put, List.setIfInBounds_toArray, List.set_cons_zero, List.set_cons_succ]
            refine wpAnyH_take (i := 5) (oi := ?ox6o) (v := ?ox6v) ?ox6h (by kernel_rfl) (by kernel_rfl) (by kernel_rfl) ?ox6q ?ox6y hHeld ?ox6r
            case ox6h => (simp only [List.getElem?_toArray, List.getElem?_cons_succ, List.getElem?_cons_zero]; rfl)
            case ox6q => exact fun _ _ _ h => h
            case ox6y => (refine Or.inl ⟨by first | kernel_rfl | rfl, ?_⟩; intro w hSw; (try dsimp only at hSw); obtain ⟨q0, q1, q2⟩ := hSw; dsimp only at q0 q1 q2; go_simp <;> (try with_reducible rfl))
            try simp only [Act.put, List.setIfInBounds_toArray, List.set_cons_zero, List.set_cons_succ]
            refine wpAnyH_take (i := 7) (oi := ?ox7o) (v := ?ox7v) ?ox7h (by kernel_rfl) (by kernel_rfl) (by kernel_rfl) ?ox7q ?ox7y hHeld ?ox7r
            case ox7h => (simp only [List.getElem?_toArray, List.getElem?_cons_succ, List.getElem?_cons_zero]; rfl)
            case ox7q => exact fun _ _ _ h => h
            case ox7y => (refine Or.inl ⟨by first | kernel_rfl | rfl, ?_⟩; intro w hSw; (try dsimp only at hSw); obtain ⟨q0, q1, q2⟩ := hSw; dsimp only at q0 q1 q2; go_simp <;> (try with_reducible rfl))
            try simp only [Act.put, List.setIfInBounds_toArray, List.set_cons_zero, List.set_cons_succ]
            refine wpAnyH_take (i := 8) (oi := ?ox8o) (v := ?ox8v) ?ox8h (by kernel_rfl) (by kernel_rfl) (by kernel_rfl) ?ox8q ?ox8y hHeld ?ox8r
            case ox8h => (simp only [List.getElem?_toArray, List.getElem?_cons_succ, List.getElem?_cons_zero]; rfl)
            case ox8q => exact fun _ _ _ h => h
            case ox8y => (refine Or.inl ⟨by first | kernel_rfl | rfl, ?_⟩; intro w hSw; (try dsimp only at hSw); obtain ⟨q0, q1, q2⟩ := hSw; dsimp only at q0 q1 q2; go_simp <;> (try with_reducible rfl))
            try simp only [Act.put, List.setIfInBounds_toArray, List.set_cons_zero, List.set_cons_succ]
            refine wpAnyH_take (i := 9) (oi := ?ox9o) (v := ?ox9v) ?ox9h (by kernel_rfl) (by kernel_rfl) (by kernel_rfl) ?ox9q ?ox9y hHeld ?ox9r
            case ox9h => (simp only [List.getElem?_toArray, List.getElem?_cons_succ, List.getElem?_cons_zero]; rfl)
            case ox9q => exact fun _ _ _ h => h
            case ox9y => (refine Or.inl ⟨by first | kernel_rfl | rfl, ?_⟩; intro w hSw; (try dsimp only at hSw); obtain ⟨q0, q1, q2⟩ := hSw; dsimp only at q0 q1 q2; go_simp <;> (try with_reducible rfl))
            try simp only [Act.put, List.setIfInBounds_toArray, List.set_cons_zero, List.set_cons_succ]
            refine wpAnyH_ready (rs := [6]) (by kernel_rfl) (by simp) ?_
            refine (AllReadyH.cons rfl (fun K hK => ?_) AllReadyH.nil)
            go_simp
            (go_at_call 19; (with_reducible refine (HATQ.out _ HB6.out.drew).mono ?_); rintro e w7 ⟨rfl, hb7⟩; (have hHeld := StAt.below hHeld hb7); (have HB7 := Lib.hid (bel_next HB6.out.drew hb7)); clear hb7)
            refine hK.out _ _ (hHeld) (fun hHeld => ?_)
            clear hK K
            try simp only [Act.put, List.setIfInBounds_toArray, List.set_cons_zero, List.set_cons_succ]
            refine wpAnyH_take (i := 10) (oi := ?ox10o) (v := ?ox10v) ?ox10h (by kernel_rfl) (by kernel_rfl) (by kernel_rfl) ?ox10q ?ox10y hHeld ?ox10r
            case ox10h => (simp only [List.getElem?_toArray, List.getElem?_cons_succ, List.getElem?_cons_zero]; rfl)
            case ox10q => exact fun _ _ _ h => h
            case ox10y => (refine Or.inl ⟨by first | kernel_rfl | rfl, ?_⟩; intro w hSw; (try dsimp only at hSw); obtain ⟨q0, q1, q2⟩ := hSw; dsimp only at q0 q1 q2; go_simp <;> (try with_reducible rfl))
            try simp only [Act.put, List.setIfInBounds_toArray, List.set_cons_zero, List.set_cons_succ]
            refine wpAnyH_take (i := 11) (oi := ?ox11o) (v := ?ox11v) ?ox11h (by kernel_rfl) (by kernel_rfl) (by kernel_rfl) ?ox11q ?ox11y hHeld ?ox11r
            case ox11h => (simp only [List.getElem?_toArray, List.getElem?_cons_succ, List.getElem?_cons_zero]; rfl)
            case ox11q => exact fun _ _ _ h => h
            case ox11y => (refine Or.inl ⟨by first | kernel_rfl | rfl, ?_⟩; intro w hSw; (try dsimp only at hSw); obtain ⟨q0, q1, q2⟩ := hSw; dsimp only at q0 q1 q2; go_simp <;> (try with_reducible rfl))
            try simp only [Act.put, List.setIfInBounds_toArray, List.set_cons_zero, List.set_cons_succ]
            refine wpAnyH_done (by kernel_rfl) ?_ _
            obtain ⟨u0, u1, u2⟩ := hHeld
            dsimp only at u0 u1 u2
            go_wp2_with (first
              | (go_at_call 32; (with_reducible refine (HWQ.out _ HB7.out).mono ?_); rintro e w8 ⟨v8, rfl, hn8, hb8⟩; (have HJ8 := Lib.hid (show CaJ wC w8 S (j + 1) v8 from ⟨bel_next HJ.out.bel (bel_next HB7.out hb8), by rw [HKS.out]; exact hn8⟩)); clear hn8 hb8))
            go_roundw
            case rel => exact ⟨j + 1, HJL.out, by go_num, HJ8⟩
            case measure => have := HJL.out; simp [intOf]; omega
          · obtain rfl : j = nl := by omega
            have hj2 : ¬ (j : Int) < (j : Int) := by omega
            have hT : S.L.take j = S.L := List.take_of_length_le (by rw [HNL.out]; exact Nat.le_refl _)
            have hnv := HJ.out.ns
            rw [hT] at hnv
            have HNV := Lib.hid (show Ns wr _ S.know from hnv)
            clear hjl hT hnv
            go_wp2_with (first
              | (go_at_call 26; (with_reducible refine ((HLC.out.later HJ.out.bel).Know).mono ?_); rintro e w6 ⟨v6, rfl, hn6, hb6, -⟩
                 have hsm := rsameN _ v6 S.know S.know w6 (Ns.later HNV.out hb6) hn6
                 rw [sameL_self] at hsm
                 have HSM := Lib.hid hsm
                 have HB6 := Lib.hid (bel_next HJ.out.bel hb6)
                 clear hsm hn6 hb6)
              | (go_at_call 25; (with_reducible refine HSM.out.mono ?_); rintro e w7 ⟨rfl, hb7⟩; (have HB7 := Lib.hid (bel_next HB6.out hb7)); clear hb7))
            go_ret
            exact ⟨rfl, (HLC.out.later HB7.out).bel⟩
      · go_wp2_with (first
          | (go_at_call 27; (with_reducible refine (HL.out.Base).mono ?_); rintro e wB ⟨vB, rfl, hnB, hbB, -⟩
             have HNB := Lib.hid hnB
             replace HL := Lib.hid (HL.out.later hbB)
             clear hnB hbB)
          | (go_at_call 24; (with_reducible refine (HL.out.All).mono ?_); rintro e wC ⟨vC, rfl, hrC, hbC⟩
             obtain ⟨aC, cC, rfl⟩ := hrC.slice
             have HRC := Lib.hid hrC
             have HLC := Lib.hid (HL.out.later hbC)
             have HJ0 := Lib.hid (show CaJ wC wC S 0 vB from ⟨Below.refl _ _, by rw [List.take_zero]; exact Ns.later HNB.out hbC⟩)
             clear hrC hbC))
        obtain ⟨nl, hnl⟩ : ∃ nl, S.L.length = nl := ⟨_, rfl⟩
        have hnl4 : nl ≤ 400 := by have := HLC.out.good.l400; omega
        rw [hnl]
        have HNL := Lib.hid hnl
        clear hnl
        go_loopw [9, 11] (fun v i wr2 => ∃ (j : Nat), j ≤ nl ∧ i = .int .i64 (j : Int) ∧ Hid (CaJ wC wr2 S j v)) (fun _ i _ => nl - (intOf i).toNat)
        case atStart => exact ⟨0, by omega, rfl, HJ0⟩
        case round =>
          obtain ⟨j, hj, rfl, HJ⟩ := hrel
          clear HJ0
          by_cases hjl : j < nl
          · have hj2 : (j : Int) < (nl : Int) := by omega
            have HJL := Lib.hid hjl
            have hjL : j < S.L.length := by rw [HNL.out]; exact hjl
            obtain ⟨hok, hq, hcov⟩ := chain_at HLC.out.good.ch hjL
            have hks := know_step S.base S.L j hjL
            obtain ⟨ys, hy1, hy2, hy3⟩ := HRC.out.has
            have hjy : j < ys.length := by rw [← List.length_map (f := Rd.r), hy2]; exact hjL
            have hy1' : ORow wC wB.heap.size (.slice aC S.L.length cC) ys := hy1
            obtain ⟨g2, off2, rfl, -, -, hgl2, hcs2⟩ := hy1'.cell (by omega)
            have hr9 := R9.later (hcs2 j hjy) HJ.out.bel
            obtain ⟨z, hz⟩ : ∃ z, ys[j] = z := ⟨_, rfl⟩
            have hzr : z.r = S.L[j] := by
              have : (ys.map Rd.r)[j]'(by rw [List.length_map]; exact hjy) = S.L[j] := by simp only [hy2]
              rw [← this, List.getElem_map, hz]
            have hzn : Ns wr z.dv z.r.d := Ns.later (by rw [← hz]; exact (hy3 _ (List.getElem_mem hjy)).1) HJ.out.bel
            rw [← hzr] at hok hq hcov hks
            rw [hz] at hr9
            have hg4 : g2 < wr.heap.size := hr9.room
            have hg5 : ¬ g2 = wr.heap.size := by have := hr9.room; omega
            have hg6 : ¬ wr.heap.size = g2 := by omega
            have hp := Rec.ok_parts hok
            obtain ⟨⟨zk, zss, zt, zv, ztier, ⟨zc, zst, zq⟩, zd⟩, za, zcc⟩ := z
            unfold Rd.dv at hzn
            dsimp only at *
            obtain ⟨x0, x1, x2, x3, x4, x5, x6, x7, x8⟩ := hr9
            dsimp only at x0 x1 x2 x3 x4 x5 x6 x7 x8
            obtain ⟨K, hK⟩ : ∃ K, knowL S.base (S.L.take j) = K := ⟨_, rfl⟩
            rw [hK] at hq hcov hks
            have HKS := Lib.hid hks
            have HNV := Lib.hid (show Ns wr _ K from by rw [← hK]; exact HJ.out.ns)
            have hat9 : atL K zst = zq - 1 := by omega
            have hwr9 : IntKind.i64.wrap (zq - 1) = zq - 1 := by rw [IntKind.wrap_i64]; omega
            have hal5 := (Below.refl wr.heap.size wr).alloc (Nat.le_refl _) (.cells #[.int .i64 zc, .int .i64 zst, .int .i64 zq] 31)
            have HAL5 := Lib.hid hal5
            have hb5 := StAt.new wr ⟨zc, zst, zq⟩
            have HB5 := Lib.hid hb5
            have hcv := rcovers_is _ (.slice za zd.length zcc) K zd _ (Ns.later HNV.out hal5) (Ns.later hzn hal5)
            rw [hcov] at hcv
            have hatq := fun (W : World) (h : Below wr.heap.size wr W) => rat_is _ K zst W (Ns.later HNV.out h)
            rw [hat9] at hatq
            have HATQ := Lib.hid hatq
            have HWQ := Lib.hid (fun (W : World) (h : Below wr.heap.size wr W) => rwith_is _ K zst zq W (Ns.later HNV.out h) (by omega))
            have hne5 : (zq - 1 != zq - 1) = false := by simp
            have hne6 : (zq - 1 == zq - 1) = true := by simp
            clear hok hq hcov hks hy1 hy2 hy3 hy1' hcs2 hgl2 hz hzr hzn hp hK hat9 hal5 hb5 hatq hjy
            go_wp2_with (first
              | (go_at_call 31; (with_reducible refine hcv.mono ?_); rintro e w6 ⟨rfl, hb6⟩
                 have HB6 := Lib.hid (bel_next HAL5.out hb6)
                 have hs6 := StAt.below HB5.out hb6
                 have HS6B := Lib.hid hs6
                 obtain ⟨z0, z1, z2⟩ := hs6
                 dsimp only at z0 z1 z2
                 clear hb6))
            refine wp_region_held_drew (S := (fun X : World => StAt X wr.heap.size ⟨zc, zst, zq⟩)) (by kernel_rfl) (StAt.below HS6B.out (Below.refl _ _).drew) (fun hHeld => ?_)
            refine wpAnyH_take (i := 0) (oi := ?oy1o) (v := ?oy1v) ?oy1h (by kernel_rfl) (by kernel_rfl) (by kernel_rfl) ?oy1q ?oy1y hHeld ?oy1r
            case oy1h => (simp only [List.getElem?_toArray, List.getElem?_cons_zero]; rfl)
            case oy1q => exact fun _ _ _ h => h
            case oy1y => (refine Or.inl ⟨by first | kernel_rfl | rfl, ?_⟩; intro w hSw; (try dsimp only at hSw); obtain ⟨q0, q1, q2⟩ := hSw; dsimp only at q0 q1 q2; go_simp <;> (try with_reducible rfl))
            try simp only [Act.put, List.setIfInBounds_toArray, List.set_cons_zero, List.set_cons_succ]
            refine wpAnyH_take (i := 1) (oi := ?oy2o) (v := ?oy2v) ?oy2h (by kernel_rfl) (by kernel_rfl) (by kernel_rfl) ?oy2q ?oy2y hHeld ?oy2r
            case oy2h => (simp only [List.getElem?_toArray, List.getElem?_cons_succ, List.getElem?_cons_zero]; rfl)
            case oy2q => exact fun _ _ _ h => h
            case oy2y => (refine Or.inl ⟨by first | kernel_rfl | rfl, ?_⟩; intro w hSw; (try dsimp only at hSw); obtain ⟨q0, q1, q2⟩ := hSw; dsimp only at q0 q1 q2; go_simp <;> (try with_reducible rfl))
            try simp only [Act.put, List.setIfInBounds_toArray, List.set_cons_zero, List.set_cons_succ]
            refine wpAnyH_take (i := 2) (oi := ?oy3o) (v := ?oy3v) ?oy3h (by kernel_rfl) (by kernel_rfl) (by kernel_rfl) ?oy3q ?oy3y hHeld ?oy3r
            case oy3h => (simp only [List.getElem?_toArray, List.getElem?_cons_succ, List.getElem?_cons_zero]; rfl)
            case oy3q => exact fun _ _ _ h => h
            case oy3y => (refine Or.inl ⟨by first | kernel_rfl | rfl, ?_⟩; intro w hSw; (try dsimp only at hSw); obtain ⟨q0, q1, q2⟩ := hSw; dsimp only at q0 q1 q2; go_simp <;> (try with_reducible rfl))
            try simp only [Act.put, List.setIfInBounds_toArray, List.set_cons_zero, List.set_cons_succ]
            refine wpAnyH_take (i := 3) (oi := ?oy4o) (v := ?oy4v) ?oy4h (by kernel_rfl) (by kernel_rfl) (by kernel_rfl) ?oy4q ?oy4y hHeld ?oy4r
            case oy4h => (simp only [List.getElem?_toArray, List.getElem?_cons_succ, List.getElem?_cons_zero]; rfl)
            case oy4q => exact fun _ _ _ h => h
            case oy4y => (refine Or.inl ⟨by first | kernel_rfl | rfl, ?_⟩; intro w hSw; (try dsimp only at hSw); obtain ⟨q0, q1, q2⟩ := hSw; dsimp only at q0 q1 q2; go_simp <;> (try with_reducible rfl))
            try simp only [Act.put, List.setIfInBounds_toArray, List.set_cons_zero, List.set_cons_succ]
            refine wpAnyH_take (i := 4) (oi := ?oy5o) (v := ?oy5v) ?oy5h (by kernel_rfl) (by kernel_rfl) (by kernel_rfl) ?oy5q ?oy5y hHeld ?oy5r
            case oy5h => (simp only [List.getElem?_toArray, List.getElem?_cons_succ, List.getElem?_cons_zero]; rfl)
            case oy5q => exact fun _ _ _ h => h
            case oy5y => (refine Or.inl ⟨by first | kernel_rfl | rfl, ?_⟩; intro w hSw; (try dsimp only at hSw); obtain ⟨q0, q1, q2⟩ := hSw; dsimp only at q0 q1 q2; go_simp <;> (try with_reducible rfl))
            try simp only [Act.put, List.setIfInBounds_toArray, List.set_cons_zero, List.set_cons_succ]
            refine wpAnyH_take (i := 5) (oi := ?oy6o) (v := ?oy6v) ?oy6h (by kernel_rfl) (by kernel_rfl) (by kernel_rfl) ?oy6q ?oy6y hHeld ?oy6r
            case oy6h => (simp only [List.getElem?_toArray, List.getElem?_cons_succ, List.getElem?_cons_zero]; rfl)
            case oy6q => exact fun _ _ _ h => h
            case oy6y => (refine Or.inl ⟨by first | kernel_rfl | rfl, ?_⟩; intro w hSw; (try dsimp only at hSw); obtain ⟨q0, q1, q2⟩ := hSw; dsimp only at q0 q1 q2; go_simp <;> (try with_reducible rfl))
            try simp only [Act.put, List.setIfInBounds_toArray, List.set_cons_zero, List.set_cons_succ]
            refine wpAnyH_take (i := 7) (oi := ?oy7o) (v := ?oy7v) ?oy7h (by kernel_rfl) (by kernel_rfl) (by kernel_rfl) ?oy7q ?oy7y hHeld ?oy7r
            case oy7h => (simp only [List.getElem?_toArray, List.getElem?_cons_succ, List.getElem?_cons_zero]; rfl)
            case oy7q => exact fun _ _ _ h => h
            case oy7y => (refine Or.inl ⟨by first | kernel_rfl | rfl, ?_⟩; intro w hSw; (try dsimp only at hSw); obtain ⟨q0, q1, q2⟩ := hSw; dsimp only at q0 q1 q2; go_simp <;> (try with_reducible rfl))
            try simp only [Act.put, List.setIfInBounds_toArray, List.set_cons_zero, List.set_cons_succ]
            refine wpAnyH_take (i := 8) (oi := ?oy8o) (v := ?oy8v) ?oy8h (by kernel_rfl) (by kernel_rfl) (by kernel_rfl) ?oy8q ?oy8y hHeld ?oy8r
            case oy8h => (simp only [List.getElem?_toArray, List.getElem?_cons_succ, List.getElem?_cons_zero]; rfl)
            case oy8q => exact fun _ _ _ h => h
            case oy8y => (refine Or.inl ⟨by first | kernel_rfl | rfl, ?_⟩; intro w hSw; (try dsimp only at hSw); obtain ⟨q0, q1, q2⟩ := hSw; dsimp only at q0 q1 q2; go_simp <;> (try with_reducible rfl))
            try simp only [Act.put, List.setIfInBounds_toArray, List.set_cons_zero, List.set_cons_succ]
            refine wpAnyH_take (i := 9) (oi := ?oy9o) (v := ?oy9v) ?oy9h (by kernel_rfl) (by kernel_rfl) (by kernel_rfl) ?oy9q ?oy9y hHeld ?oy9r
            case oy9h => (simp only [List.getElem?_toArray, List.getElem?_cons_succ, List.getElem?_cons_zero]; rfl)
            case oy9q => exact fun _ _ _ h => h
            case oy9y => (refine Or.inl ⟨by first | kernel_rfl | rfl, ?_⟩; intro w hSw; (try dsimp only at hSw); obtain ⟨q0, q1, q2⟩ := hSw; dsimp only at q0 q1 q2; go_simp <;> (try with_reducible rfl))
            try simp only [Act.put, List.setIfInBounds_toArray, List.set_cons_zero, List.set_cons_succ]
            refine wpAnyH_ready (rs := [6]) (by kernel_rfl) (by simp) ?_
            refine (AllReadyH.cons rfl (fun K hK => ?_) AllReadyH.nil)
            go_simp
            (go_at_call 19; (with_reducible refine (HATQ.out _ HB6.out.drew).mono ?_); rintro e w7 ⟨rfl, hb7⟩; (have hHeld := StAt.below hHeld hb7); (have HB7 := Lib.hid (bel_next HB6.out.drew hb7)); clear hb7)
            refine hK.out _ _ (hHeld) (fun hHeld => ?_)
            clear hK K
            try simp only [Act.put, List.setIfInBounds_toArray, List.set_cons_zero, List.set_cons_succ]
            refine wpAnyH_take (i := 10) (oi := ?oy10o) (v := ?oy10v) ?oy10h (by kernel_rfl) (by kernel_rfl) (by kernel_rfl) ?oy10q ?oy10y hHeld ?oy10r
            case oy10h => (simp only [List.getElem?_toArray, List.getElem?_cons_succ, List.getElem?_cons_zero]; rfl)
            case oy10q => exact fun _ _ _ h => h
            case oy10y => (refine Or.inl ⟨by first | kernel_rfl | rfl, ?_⟩; intro w hSw; (try dsimp only at hSw); obtain ⟨q0, q1, q2⟩ := hSw; dsimp only at q0 q1 q2; go_simp <;> (try with_reducible rfl))
            try simp only [Act.put, List.setIfInBounds_toArray, List.set_cons_zero, List.set_cons_succ]
            refine wpAnyH_take (i := 11) (oi := ?oy11o) (v := ?oy11v) ?oy11h (by kernel_rfl) (by kernel_rfl) (by kernel_rfl) ?oy11q ?oy11y hHeld ?oy11r
            case oy11h => (simp only [List.getElem?_toArray, List.getElem?_cons_succ, List.getElem?_cons_zero]; rfl)
            case oy11q => exact fun _ _ _ h => h
            case oy11y => (refine Or.inl ⟨by first | kernel_rfl | rfl, ?_⟩; intro w hSw; (try dsimp only at hSw); obtain ⟨q0, q1, q2⟩ := hSw; dsimp only at q0 q1 q2; go_simp <;> (try with_reducible rfl))
            try simp only [Act.put, List.setIfInBounds_toArray, List.set_cons_zero, List.set_cons_succ]
            refine wpAnyH_done (by kernel_rfl) ?_ _
            obtain ⟨u0, u1, u2⟩ := hHeld
            dsimp only at u0 u1 u2
            go_wp2_with (first
              | (go_at_call 32; (with_reducible refine (HWQ.out _ HB7.out).mono ?_); rintro e w8 ⟨v8, rfl, hn8, hb8⟩; (have HJ8 := Lib.hid (show CaJ wC w8 S (j + 1) v8 from ⟨bel_next HJ.out.bel (bel_next HB7.out hb8), by rw [HKS.out]; exact hn8⟩)); clear hn8 hb8))
            go_roundw
            case rel => exact ⟨j + 1, HJL.out, by go_num, HJ8⟩
            case measure => have := HJL.out; simp [intOf]; omega
          · obtain rfl : j = nl := by omega
            have hj2 : ¬ (j : Int) < (j : Int) := by omega
            have hT : S.L.take j = S.L := List.take_of_length_le (by rw [HNL.out]; exact Nat.le_refl _)
            have hnv := HJ.out.ns
            rw [hT] at hnv
            have HNV := Lib.hid (show Ns wr _ S.know from hnv)
            clear hjl hT hnv
            go_wp2_with (first
              | (go_at_call 26; (with_reducible refine ((HLC.out.later HJ.out.bel).Know).mono ?_); rintro e w6 ⟨v6, rfl, hn6, hb6, -⟩
                 have hsm := rsameN _ v6 S.know S.know w6 (Ns.later HNV.out hb6) hn6
                 rw [sameL_self] at hsm
                 have HSM := Lib.hid hsm
                 have HB6 := Lib.hid (bel_next HJ.out.bel hb6)
                 clear hsm hn6 hb6)
              | (go_at_call 25; (with_reducible refine HSM.out.mono ?_); rintro e w7 ⟨rfl, hb7⟩; (have HB7 := Lib.hid (bel_next HB6.out hb7)); clear hb7))
            go_ret
            exact ⟨rfl, (HLC.out.later HB7.out).bel⟩
end originCausal
end Go.Proofs.Ythbajlfkgbfkgaa.Og
