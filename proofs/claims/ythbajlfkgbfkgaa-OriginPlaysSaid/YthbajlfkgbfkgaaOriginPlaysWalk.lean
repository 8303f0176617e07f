/- OriginPlays. -/
import Derived.Test.YthbajlfkgbfkgaaOriginPlaysAt
import Derived.Deep.CutRange
import Derived.Deep.CutBlock
set_option maxRecDepth 200000
set_option linter.unusedSimpArgs false
set_option linter.unusedVariables false
namespace Go.Proofs.Ythbajlfkgbfkgaa.Og
open Go.RowKit Go.Proofs.Ythbajlfkgbfkgaa.Vi Go.Proofs.Ythbajlfkgbfkgaa.Mk
namespace originPlays
set_option maxHeartbeats 64000000 in
theorem walk (room : Int) (a1 : Option Addr) (len1 cap1 : Nat) (a : Option Addr) (len cap : Nat) (w : World) (hr : -9223372036854775808 ≤ room ∧ room ≤ 9223372036854775807) (hI : ArgInts w a1 len1 cap1) (hA : ArgGOps w a len cap) : Calls Try.prog 3 #[.int .i64 room, .slice a1 len1 cap1, .slice a len cap] w fun e w' => e = .returned (.bool true) ∧ Below w.heap.size w w' := by
  obtain ⟨l1, hl1⟩ := argNs_of hI
  obtain ⟨a1', c1', e1⟩ := hl1.ns.slice
  injection e1 with e1 e2 e3
  subst e1 e2 e3
  obtain ⟨b12, hb12⟩ : ∃ b12, l1.take 12 = b12 := ⟨_, rfl⟩
  have HB12 := Lib.hid hb12
  have HL1 := Lib.hid hl1
  obtain ⟨ops, rfl, hat, hlen, hfit⟩ := hA.has
  have HFIT := Lib.hid hfit
  have HAT0 := Lib.hid hat
  have ka := awake_is w
  obtain ⟨n, hn⟩ : ∃ n, ops.length = n := ⟨_, rfl⟩
  rw [hn] at hlen ⊢
  have HN := Lib.hid hn
  clear hfit hat hA hn hI hl1 hb12
  go_enter Try.func3, Try.ntmps3
  go_wp2_with (first
    | (go_at_call 8; (with_reducible refine ka.mono ?_); rintro e w1 ⟨rfl, hb1⟩; (have HB1 := Lib.hid hb1); clear hb1)
    | (go_at_call 9; (with_reducible refine (few_lit a1 cap1 l1 b12 _ (ArgNs.later HL1.out HB1.out) HB12).mono ?_); rintro e wF ⟨rfl, hnF, rfl⟩; (have HNB := Lib.hid hnF); clear hnF)
    | (go_at_call 11; (with_reducible refine (dnew_is room _ b12 _ HNB2.out).mono ?_); rintro e w3 ⟨b2, rfl, hlo3, hlog3, hb3⟩; (have HXI := Lib.hid (Duo.start HB1.out HLOG2.out HB2.out hlog3 hb3)); clear hlo3 hlog3 hb3)
    | (go_at_call 10; (with_reducible refine (new_is room _ b12 _ HNB.out).mono ?_); rintro e w2 ⟨b, rfl, hlo2, hlog2, hb2⟩; (have HLOG2 := Lib.hid hlog2); (have HB2 := Lib.hid hb2); (have HNB2 := Lib.hid (Ns.later HNB.out hb2)); clear hlo2 hlog2 hb2))
  go_loopw [11, 12, 13, 14, 15, 16, 17, 18, 19, 20, 21, 22, 23, 24, 25, 26, 27, 28, 29, 30, 31] (fun s11 _ _ _ _ _ _ _ _ _ _ _ _ _ _ _ _ _ _ _ _ wr => ∃ (k : Nat) (S : OS), k ≤ 60 ∧ s11 = .int .i64 (k : Int) ∧ Hid (Duo noH w wr b S b2 S (.slice none 0 0) [])) (fun s11 _ _ _ _ _ _ _ _ _ _ _ _ _ _ _ _ _ _ _ _ _ => 60 - (intOf s11).toNat)
  case atStart => exact ⟨0, _, by omega, rfl, HXI⟩
  case round =>
  obtain ⟨k, S, hk, rfl, HX⟩ := hrel
  clear HXI
  obtain ⟨w8, hw8⟩ : ∃ x, x = wr := ⟨_, rfl⟩
  subst hw8
  obtain ⟨z, hz⟩ : ∃ z, decide (k < n ∧ k < 60) = z := ⟨_, rfl⟩
  go_upto_region 8 with fail
  go_cut [50] from 43 to 241 (fun v wx => v = .bool z ∧ w8 = wx)
  case first =>
    by_cases hk1 : k < n
    · have hx1 : (k : Int) < (n : Int) := by omega
      by_cases hk2 : k < 60
      · have hx2 : (k : Int) < 60 := by omega
        obtain rfl : z = true := by rw [← hz]; exact decide_eq_true ⟨hk1, hk2⟩
        clear hz
        go_wp2
        go_meet
        exact ⟨rfl, rfl⟩
      · have hx2 : ¬ (k : Int) < 60 := by omega
        obtain rfl : z = false := by rw [← hz]; exact decide_eq_false fun h => hk2 h.2
        clear hz
        go_wp2
        go_meet
        exact ⟨rfl, rfl⟩
    · have hx1 : ¬ (k : Int) < (n : Int) := by omega
      obtain rfl : z = false := by rw [← hz]; exact decide_eq_false fun h => hk1 h.1
      clear hz
      go_wp2
      go_meet
      exact ⟨rfl, rfl⟩
  case rest =>
  obtain ⟨rfl, rfl⟩ := hcut
  obtain ⟨wr, hwr0⟩ : ∃ x, x = w8 := ⟨_, rfl⟩
  subst hwr0
  cases z with
  | false =>
    clear hz
    go_wp2
    go_ret
    exact ⟨rfl, HX.out.bel⟩
  | true =>
    obtain ⟨hlt1, hlt60⟩ := of_decide_eq_true hz
    clear hz
    have hkl : k < ops.length := by rw [HN.out]; exact hlt1
    rcases HAT0.out with h0 | ⟨g, off, rfl, hgw, hops⟩
    · rw [h0] at hkl; simp at hkl
    · have HBr := Lib.hid HX.out.bel
      have hx := hops k hkl
      have hfx := HFIT.out _ (List.getElem_mem hkl)
      obtain ⟨x, hxe⟩ : ∃ x, ops[k] = x := ⟨_, rfl⟩
      rw [hxe] at hx hfx
      have hx := hx.below HBr.out hgw
      have HF := Lib.hid hfx
      clear hfx
      obtain ⟨ok, om, of, ⟨⟨rk, rs, rt, rv, rtier, ⟨rc, rst, rq⟩, rd⟩, ra, rcc⟩, oV, oa, oc⟩ := x
      obtain ⟨x0, x1, x2, x3, x4, x5, x6, x7, x8, x9, x10, x11, x12⟩ := hx
      dsimp only at x0 x1 x2 x3 x4 x5 x6 x7 x8 x9 x10 x11 x12
      obtain ⟨s6, hs6⟩ : ∃ s6, cutB rs 60 = s6 := ⟨_, rfl⟩
      obtain ⟨d12, hd12⟩ : ∃ d12, rd.take 12 = d12 := ⟨_, rfl⟩
      obtain ⟨V12, hV12⟩ : ∃ V12, oV.take 12 = V12 := ⟨_, rfl⟩
      have HV12 := Lib.hid hV12
      have HS6 := Lib.hid hs6
      have HD12 := Lib.hid hd12
      have halo := (Below.refl wr.heap.size wr).alloc (Nat.le_refl _) (boxG ok om of rk rt rv rtier rc rst rq rs rd ra rcc oV oa oc)
      have HALO := Lib.hid halo
      have HBO := Lib.hid (bel_next HBr.out halo)
      have HSM := Lib.hid (small_lit rk rt rv rtier rc rst rq rs s6 rd d12 ra rcc (wr.alloc (boxG ok om of rk rt rv rtier rc rst rq rs rd ra rcc oV oa oc)) (ArgNs.later HF.out.d (bel_next HBr.out halo)) HF.out.rc.s HS6 HD12)
      have HOB := Lib.hid (GOpO.new wr ⟨ok, om, of, ⟨⟨rk, rs, rt, rv, rtier, ⟨rc, rst, rq⟩, rd⟩, ra, rcc⟩, oV, oa, oc⟩)
      have hst := HF.out.rc.ss
      dsimp only at hst
      have HFITS := Lib.hid (show Rec.fits ⟨rk, s6, rt, rv, rtier, ⟨rc, rst, rq⟩, d12⟩ from by have h8 := Rd.small_fits (x := ⟨⟨rk, rs, rt, rv, rtier, ⟨rc, rst, rq⟩, rd⟩, ra, rcc⟩) HF.out.rc; unfold Rd.small Rec.small at h8; dsimp only at h8; rw [hs6, hd12] at h8; exact h8)
      have HS60 := Lib.hid (show s6.size ≤ 60 by rw [← hs6]; exact cutB_len _ _)
      have HL12 := Lib.hid (show d12.length ≤ 12 by rw [← hd12, List.length_take]; omega)
      have HV0 := Lib.hid (show Ns w (.slice oa V12.length oc) V12 by have h9 := take12 HF.out.V; dsimp only at h9; rw [hV12] at h9; exact h9)
      have HD0 := Lib.hid (show Ns w (.slice ra d12.length rcc) d12 by have h9 := take12 HF.out.d; dsimp only at h9; rw [hd12] at h9; exact h9)
      have HVB := Lib.hid (fun (hd : V12 ≠ []) q (hq : (Value.slice oa V12.length oc).ownBlock = some q) => Ns.own_lt HV0.out hd q hq)
      have HDB := Lib.hid (fun (hd : d12 ≠ []) q (hq : (Value.slice ra d12.length rcc).ownBlock = some q) => Ns.own_lt HD0.out hd q hq)
      have HX0 := Lib.hid ((HX.out.hold halo).less (H' := fun q => q = wr.heap.size) (fun q hq => Or.inr (by subst hq; rw [World.size_alloc]; omega)))
      have HPO := Lib.hid (show wr.heap.size < (wr.alloc (boxG ok om of rk rt rv rtier rc rst rq rs rd ra rcc oV oa oc)).heap.size by simp)
      clear halo hs6 hd12 hV12 hxe
      have hltI : (k : Int) < (n : Int) := by omega
      clear hops hgw
      go_upto_region 12 with (go_at_call 9; (with_reducible refine (few_lit oa oc oV V12 _ (ArgNs.later HF.out.V HBO.out) HV12).mono ?_); rintro e wF ⟨rfl, hnF, rfl⟩; (have HNV := Lib.hid hnF); clear hnF)
      obtain ⟨wo, hwo⟩ : ∃ x, wr.alloc (boxG ok om of rk rt rv rtier rc rst rq rs rd ra rcc oV oa oc) = x := ⟨_, rfl⟩
      rw [hwo] at HNV HX0 HPO HSM HOB HALO HBO ⊢
      clear hwo x0 x1 x2 x3 x4 x5 x6 x7 x8 x9 x10 x11 x12
      obtain ⟨x0, x1, x2, x3, x4, x5, x6, x7, x8, x9, x10, x11, x12⟩ := HOB.out
      dsimp only at x0 x1 x2 x3 x4 x5 x6 x7 x8 x9 x10 x11 x12
      obtain ⟨q0, kk, q0q, hkk, q0c⟩ := tm5 ok
      obtain ⟨kI, hkI⟩ : ∃ kI : Int, (kk : Int) = kI := ⟨_, rfl⟩
      rw [hkI] at q0c
      clear hkI hkk
      go_upto_if 64 with fail

      go_cut [14] from 63 to 241 (fun v wx => v = .int .i64 kI ∧ wo = wx)
      case first =>
        rcases q0c with ⟨c1, c2⟩ | ⟨c1, c2⟩
        · go_wp2_with fail
          go_meet
          exact ⟨by simp [*], rfl⟩
        · subst c2
          go_wp2_with fail
          go_meet
          exact ⟨rfl, rfl⟩
      case rest =>
      obtain ⟨rfl, rfl⟩ := hcut
      clear q0c q0q
      go_upto_block 2 with fail
      go_cut [15, 16, 17, 18, 19, 20, 21, 22] from 67 to 241 (fun v15 v16 v17 v18 v19 v20 v21 v22 wx => v15 = .bool true ∧ ∃ S', Hid (PlJ w wo wx b b2 wr.heap.size S'))
      case first =>
        by_cases hk3 : kI = 3
        · subst hk3
          as_aux_lemma =>
            go_wp2_with (first
              | (go_at_call 12; (with_reducible refine (HX0.out.Trim _ V12 HNV.out).mono ?_); rintro e wA ⟨rfl, hdA, hsA⟩; (have HXA := Lib.hid hdA); (have HSA := Lib.hid (hsA _ rfl)); clear hdA hsA)
              | (go_at_call 13; (with_reducible refine (HXA.out.DTrim _ V12 (Ns.later HV0.out HXA.out.bel) HVB.out).mono ?_); rintro e wB ⟨rfl, hdB, hsB⟩; (have HXB := Lib.hid (show PlJ w wo wB b b2 wr.heap.size (trimS S V12) from ⟨hdB, (hsB _ rfl).trans HSA.out⟩)); clear hdB hsB))
            go_meet
            exact ⟨by simp, _, HXB⟩
        by_cases hk4 : kI = 4
        · subst hk4
          as_aux_lemma =>
            obtain ⟨cz, hcz⟩ : ∃ z, covL V12 S.base = z := ⟨_, rfl⟩
            obtain ⟨nl, hnl⟩ : ∃ z, (aftR S V12 om).length = z := ⟨_, rfl⟩
            have HNL := Lib.hid hnl
            have HCZ := Lib.hid hcz
            have hle : (aftR S V12 om).length ≤ 1000000 := by
              have h1 := aftL_le V12 S.L
              have h2 := HX0.out.goodT.l400
              unfold aftR someL
              split
              · rw [List.length_take]; omega
              · simp
            have HLE := Lib.hid hle
            have hbb : (cz == cz) = true := by simp
            clear hnl hcz hle
            go_wp2_with (first
              | (go_at_call 14; (with_reducible refine (HX0.out.lg.After _ V12 HNV.out om).mono ?_); rintro e wA ⟨vA, rfl, hrA, hbA⟩
                 obtain ⟨aA, cA, rfl⟩ := hrA.slice
                 rw [HCZ.out, HNL.out]
                 have HRA := Lib.hid (show RdL wA aA (aftR S V12 om) from hrA.rd)
                 have HXA := Lib.hid (HX0.out.later hbA)
                 have o1 := (HOB.out.other (hbA.block _ HPO.out)).c1
                 have HOA := Lib.hid (hbA.block _ HPO.out)
                 clear hrA hbA)
              | (go_at_call 15; (with_reducible refine (HXA.out.DAfter _ V12 (Ns.later HV0.out HXA.out.bel) om).mono ?_); rintro e wB ⟨aB, cB, rfl, hrB, hbB⟩
                 have kS := rsame17 aA aB cA cB _ wB (HRA.out.later hbB) hrB HLE.out
                 rw [HNL.out] at kS
                 rw [HCZ.out, HNL.out]
                 have HXB := Lib.hid (HXA.out.later hbB)
                 have HOB2 := Lib.hid ((hbB.block _ (HXA.out.has.elim fun _ ⟨_, _, _, _, _, h4, _⟩ => (h4 _ rfl).2.2.2)).trans HOA.out)
                 clear hrB hbB)
              | (go_at_call 16; (with_reducible refine kS.mono ?_); rintro e wC ⟨rfl, hbC⟩
                 have HXC := Lib.hid (show PlJ w wo wC b b2 wr.heap.size S from ⟨HXB.out.later hbC, (hbC.block _ (HXB.out.has.elim fun _ ⟨_, _, _, _, _, h4, _⟩ => (h4 _ rfl).2.2.2)).trans HOB2.out⟩)
                 clear hbC kS))
            go_meet
            exact ⟨by simp, _, HXC⟩
        · have e3 : (kI == 3) = false := by simpa using hk3
          have e4 : (kI == 4) = false := by simpa using hk4
          cases of with
          | true =>
            by_cases h1 : 0 ≤ rst
            · have g1 : decide (0 ≤ rst) = true := decide_eq_true h1
              by_cases h2 : rst < 8
              · have g2 : decide (rst < 8) = true := decide_eq_true h2
                as_aux_lemma =>
                  obtain ⟨y, hy⟩ : ∃ y, atL S.know rst = y := ⟨_, rfl⟩
                  have hyb := atL_bounds S.know rst
                  rw [hy] at hyb
                  have hwr : IntKind.i64.wrap (y + 1) = y + 1 := by rw [IntKind.wrap_i64]; omega
                  have HY := Lib.hid hy
                  clear hy hyb
                  go_wp2_with (first
                    | (go_at_call 17; (with_reducible refine HSM.out.mono ?_); rintro e wS ⟨rfl, hnS, hbS⟩
                       have HNS := Lib.hid hnS
                       have hxS := HX0.out.later hbS
                       have halq := (Below.refl wS.heap.size wS).alloc (Nat.le_refl _) (box9 ⟨⟨rk, s6, rt, rv, rtier, ⟨rc, rst, rq⟩, d12⟩, ra, rcc⟩)
                       have HALQ := Lib.hid halq
                       have HXQ := Lib.hid ((hxS.hold halq).less (H' := fun q => q = wr.heap.size ∨ q = wS.heap.size) (fun q hq => hq.imp id (fun e => by rw [World.size_alloc]; omega)))
                       have hboS := hbS.block _ HPO.out
                       obtain ⟨o0, o1, o2, o3, o4, o5, o6, o7, o8, o9, o10, o11, o12⟩ := HOB.out.other hboS
                       dsimp only at o0 o1 o2 o3 o4 o5 o6 o7 o8 o9 o10 o11 o12
                       have hlt9 : wr.heap.size < wS.heap.size := Nat.lt_of_lt_of_le HPO.out hbS.size
                       have hne9 : ¬ wr.heap.size = wS.heap.size := by omega
                       have hne8 : ¬ wS.heap.size = wr.heap.size := by omega
                       have HBOQ := Lib.hid (show (wS.alloc (box9 ⟨⟨rk, s6, rt, rv, rtier, ⟨rc, rst, rq⟩, d12⟩, ra, rcc⟩)).heap[wr.heap.size]? = wo.heap[wr.heap.size]? from (halq.block _ hlt9).trans hboS)
                       have HQ := Lib.hid (BoxR.new wS ⟨⟨rk, s6, rt, rv, rtier, ⟨rc, rst, rq⟩, d12⟩, ra, rcc⟩)
                       clear hnS hbS halq hxS hboS)
                    | (go_at_call 18; (with_reducible refine (HXQ.out.DKnow).mono ?_); rintro e wK ⟨aK, cK, rfl, hdK, hnK, hbK⟩
                       have HXK := Lib.hid hdK
                       have hqK := HQ.out.later hbK
                       have HQK := Lib.hid hqK
                       obtain ⟨y0, y1, y2, y3, y4, y5, y6, y7, y8⟩ := hqK.r9
                       dsimp only at y0 y1 y2 y3 y4 y5 y6 y7 y8
                       have HAT := Lib.hid (rat_is _ S.know rst wK hnK)
                       have HBOK := Lib.hid ((hbK.block _ (HXQ.out.has.elim fun _ ⟨_, _, _, _, _, h4, _⟩ => (h4 _ (Or.inl rfl)).2.2.2)).trans HBOQ.out)
                       clear hdK hnK hbK hqK)
                    | (go_at_call 19; (with_reducible refine (HAT.out).mono ?_); rintro e wA ⟨rfl, hbA⟩
                       rw [HY.out]
                       have hqA := HQK.out.later hbA
                       obtain ⟨z0, z1, z2, z3, z4, z5, z6, z7, z8⟩ := hqA.r9
                       dsimp only at z0 z1 z2 z3 z4 z5 z6 z7 z8
                       have f7 := hqA.fz 7
                       have f8 := hqA.fz 8
                       have HQF := Lib.hid (hqA.fit (y + 1) S.know aK cK)
                       have HXG := Lib.hid (((HXK.out.later hbA).put (p := wS.heap.size) (Or.inr rfl) 7 (.int .i64 (y + 1))).put (p := wS.heap.size) (Or.inr rfl) 8 (.slice aK S.know.length cK))
                       have hboA := (hbA.block _ (HXK.out.has.elim fun _ ⟨_, _, _, _, _, h4, _⟩ => (h4 _ (Or.inl rfl)).2.2.2)).trans HBOK.out
                       have HBOG := Lib.hid (((World.heap_setCell_off (wA.setCell ⟨wS.heap.size, 7, none⟩ (.int .i64 (y + 1))) wS.heap.size 8 (.slice aK S.know.length cK) wr.heap.size hne9).trans (World.heap_setCell_off wA wS.heap.size 7 (.int .i64 (y + 1)) wr.heap.size hne9)).trans hboA)
                       clear hbA hqA hboA))
                  have HFT := Lib.hid (show Rec.fits ⟨rk, s6, rt, rv, rtier, ⟨rc, rst, y + 1⟩, S.know⟩ from ⟨HFITS.out.k, HFITS.out.s, HFITS.out.t, HFITS.out.v, HFITS.out.tier, HFITS.out.ss⟩)
                  have HLN := Lib.hid (show S.know.length ≤ 12 by have := know_len HX0.out.goodT; omega)
                  as_aux_lemma =>
                    go_wp2_with fail
                    refine wp_region_held_drew (S := (fun X : World => R9 X wS.heap.size 0 ⟨⟨rk, s6, rt, rv, rtier, ⟨rc, rst, y + 1⟩, S.know⟩, aK, cK⟩)) (by kernel_rfl) (R9.later HQF.out.r9 (Below.refl _ _).drew) (fun hHeld => ?_)
                    refine wpAnyH_take (i := 0) (oi := ?ka1o) (v := ?ka1v) ?ka1h (by kernel_rfl) (by kernel_rfl) (by kernel_rfl) ?ka1q ?ka1y hHeld ?ka1r
                    case ka1h => (simp only [List.getElem?_toArray, List.getElem?_cons_zero]; rfl)
                    case ka1q => exact fun _ _ _ h => h
                    case ka1y => (refine Or.inl ⟨by first | kernel_rfl | rfl, ?_⟩; intro w hSw; (try dsimp only at hSw); obtain ⟨q0, q1, q2, q3, q4, q5, q6, q7, q8⟩ := hSw; dsimp only at q0 q1 q2 q3 q4 q5 q6 q7 q8; go_simp <;> (try with_reducible rfl))
                    try simp only [Act.put, List.setIfInBounds_toArray, List.set_cons_zero, List.set_cons_succ]
                    refine wpAnyH_take (i := 1) (oi := ?ka2o) (v := ?ka2v) ?ka2h (by kernel_rfl) (by kernel_rfl) (by kernel_rfl) ?ka2q ?ka2y hHeld ?ka2r
                    case ka2h => (simp only [List.getElem?_toArray, List.getElem?_cons_succ, List.getElem?_cons_zero]; rfl)
                    case ka2q => exact fun _ _ _ h => h
                    case ka2y => (refine Or.inl ⟨by first | kernel_rfl | rfl, ?_⟩; intro w hSw; (try dsimp only at hSw); obtain ⟨q0, q1, q2, q3, q4, q5, q6, q7, q8⟩ := hSw; dsimp only at q0 q1 q2 q3 q4 q5 q6 q7 q8; go_simp <;> (try with_reducible rfl))
                    try simp only [Act.put, List.setIfInBounds_toArray, List.set_cons_zero, List.set_cons_succ]
                    refine wpAnyH_take (i := 3) (oi := ?ka3o) (v := ?ka3v) ?ka3h (by kernel_rfl) (by kernel_rfl) (by kernel_rfl) ?ka3q ?ka3y hHeld ?ka3r
                    case ka3h => (simp only [List.getElem?_toArray, List.getElem?_cons_succ, List.getElem?_cons_zero]; rfl)
                    case ka3q => exact fun _ _ _ h => h
                    case ka3y => (refine Or.inl ⟨by first | kernel_rfl | rfl, ?_⟩; intro w hSw; (try dsimp only at hSw); obtain ⟨q0, q1, q2, q3, q4, q5, q6, q7, q8⟩ := hSw; dsimp only at q0 q1 q2 q3 q4 q5 q6 q7 q8; go_simp <;> (try with_reducible rfl))
                    try simp only [Act.put, List.setIfInBounds_toArray, List.set_cons_zero, List.set_cons_succ]
                    refine wpAnyH_take (i := 4) (oi := ?ka4o) (v := ?ka4v) ?ka4h (by kernel_rfl) (by kernel_rfl) (by kernel_rfl) ?ka4q ?ka4y hHeld ?ka4r
                    case ka4h => (simp only [List.getElem?_toArray, List.getElem?_cons_succ, List.getElem?_cons_zero]; rfl)
                    case ka4q => exact fun _ _ _ h => h
                    case ka4y => (refine Or.inl ⟨by first | kernel_rfl | rfl, ?_⟩; intro w hSw; (try dsimp only at hSw); obtain ⟨q0, q1, q2, q3, q4, q5, q6, q7, q8⟩ := hSw; dsimp only at q0 q1 q2 q3 q4 q5 q6 q7 q8; go_simp <;> (try with_reducible rfl))
                    try simp only [Act.put, List.setIfInBounds_toArray, List.set_cons_zero, List.set_cons_succ]
                    refine wpAnyH_ready (rs := [2]) (by kernel_rfl) (by simp) ?_
                    refine (AllReadyH.cons rfl (fun K hK => ?_) AllReadyH.nil)
                    go_simp
                    (have kA := (HXG.out.later (Below.refl _ _).drew).Add ⟨⟨rk, s6, rt, rv, rtier, ⟨rc, rst, y + 1⟩, S.know⟩, aK, cK⟩ rfl rfl HFT.out (by have := HS60.out; dsimp only; omega) (by have := HLN.out; dsimp only; omega)); (unfold recV Rd.dv at kA); (dsimp only at kA); (go_at_call 20; (with_reducible refine kA.mono ?_); rintro e wA ⟨rfl, hdA, hsA⟩; (have HXA := Lib.hid hdA); (have HSA := Lib.hid hsA); (have HR2 := Lib.hid (R9.other hHeld (hsA _ (Or.inr rfl)))); clear hdA hsA)
                    refine hK.out _ _ (HR2.out) (fun hHeld => ?_)
                    clear hK K
                    try simp only [Act.put, List.setIfInBounds_toArray, List.set_cons_zero, List.set_cons_succ]
                    refine wpAnyH_ready (rs := [5]) (by kernel_rfl) (by simp) ?_
                    refine (AllReadyH.cons rfl (fun K hK => ?_) AllReadyH.nil)
                    go_simp
                    (have kB := HXA.out.DAdd ⟨⟨rk, s6, rt, rv, rtier, ⟨rc, rst, y + 1⟩, S.know⟩, aK, cK⟩ rfl rfl HFT.out); (unfold recV Rd.dv at kB); (dsimp only at kB); (go_at_call 21; (with_reducible refine kB.mono ?_); rintro e wB ⟨rfl, hdB, hsB⟩; (have HXB := Lib.hid hdB); (have HSB := Lib.hid hsB); (have HR3 := Lib.hid (R9.other HR2.out (hsB _ (Or.inr rfl)))); clear hdB hsB)
                    refine hK.out _ _ (HR3.out) (fun hHeld => ?_)
                    clear hK K
                    try simp only [Act.put, List.setIfInBounds_toArray, List.set_cons_zero, List.set_cons_succ]
                    refine wpAnyH_take (i := 6) (oi := ?ka5o) (v := ?ka5v) ?ka5h (by kernel_rfl) (by kernel_rfl) (by kernel_rfl) ?ka5q ?ka5y hHeld ?ka5r
                    case ka5h => (simp only [List.getElem?_toArray, List.getElem?_cons_succ, List.getElem?_cons_zero]; rfl)
                    case ka5q => exact fun _ _ _ h => h
                    case ka5y => (refine Or.inl ⟨by first | kernel_rfl | rfl, ?_⟩; intro w hSw; (try dsimp only at hSw); obtain ⟨q0, q1, q2, q3, q4, q5, q6, q7, q8⟩ := hSw; dsimp only at q0 q1 q2 q3 q4 q5 q6 q7 q8; go_simp <;> (try with_reducible rfl))
                    try simp only [Act.put, List.setIfInBounds_toArray, List.set_cons_zero, List.set_cons_succ]
                    refine wpAnyH_take (i := 7) (oi := ?ka6o) (v := ?ka6v) ?ka6h (by kernel_rfl) (by kernel_rfl) (by kernel_rfl) ?ka6q ?ka6y hHeld ?ka6r
                    case ka6h => (simp only [List.getElem?_toArray, List.getElem?_cons_succ, List.getElem?_cons_zero]; rfl)
                    case ka6q => exact fun _ _ _ h => h
                    case ka6y => (refine Or.inl ⟨by first | kernel_rfl | rfl, ?_⟩; intro w hSw; (try dsimp only at hSw); obtain ⟨q0, q1, q2, q3, q4, q5, q6, q7, q8⟩ := hSw; dsimp only at q0 q1 q2 q3 q4 q5 q6 q7 q8; go_simp <;> (try with_reducible rfl))
                    try simp only [Act.put, List.setIfInBounds_toArray, List.set_cons_zero, List.set_cons_succ]
                    refine wpAnyH_done (by kernel_rfl) ?_ _

                    have HFIN := Lib.hid (show PlJ w wo wB b b2 wr.heap.size (addS S (Rd.r ⟨⟨rk, s6, rt, rv, rtier, ⟨rc, rst, y + 1⟩, S.know⟩, aK, cK⟩)) from ⟨HXB.out.drop.less (fun q hq => Or.inl hq), (HSB.out _ (Or.inl rfl)).trans ((HSA.out _ (Or.inl rfl)).trans HBOG.out)⟩)
                    go_wp2
                    go_meet
                    exact ⟨by simp, _, HFIN⟩
              · have g2 : decide (rst < 8) = false := decide_eq_false h2
                clear h2
                as_aux_lemma =>
                  go_wp2_with (first
                    | (go_at_call 17; (with_reducible refine HSM.out.mono ?_); rintro e wS ⟨rfl, hnS, hbS⟩
                       have HNS := Lib.hid hnS
                       have hxS := HX0.out.later hbS
                       have halq := (Below.refl wS.heap.size wS).alloc (Nat.le_refl _) (box9 ⟨⟨rk, s6, rt, rv, rtier, ⟨rc, rst, rq⟩, d12⟩, ra, rcc⟩)
                       have HALQ := Lib.hid halq
                       have HXQ := Lib.hid ((hxS.hold halq).less (H' := fun q => q = wr.heap.size ∨ q = wS.heap.size) (fun q hq => hq.imp id (fun e => by rw [World.size_alloc]; omega)))
                       have hboS := hbS.block _ HPO.out
                       obtain ⟨o0, o1, o2, o3, o4, o5, o6, o7, o8, o9, o10, o11, o12⟩ := HOB.out.other hboS
                       dsimp only at o0 o1 o2 o3 o4 o5 o6 o7 o8 o9 o10 o11 o12
                       have hlt9 : wr.heap.size < wS.heap.size := Nat.lt_of_lt_of_le HPO.out hbS.size
                       have hne9 : ¬ wr.heap.size = wS.heap.size := by omega
                       have hne8 : ¬ wS.heap.size = wr.heap.size := by omega
                       have HBOQ := Lib.hid (show (wS.alloc (box9 ⟨⟨rk, s6, rt, rv, rtier, ⟨rc, rst, rq⟩, d12⟩, ra, rcc⟩)).heap[wr.heap.size]? = wo.heap[wr.heap.size]? from (halq.block _ hlt9).trans hboS)
                       have HQ := Lib.hid (BoxR.new wS ⟨⟨rk, s6, rt, rv, rtier, ⟨rc, rst, rq⟩, d12⟩, ra, rcc⟩)
                       clear hnS hbS halq hxS hboS))
                  have HXG := Lib.hid (HXQ.out.give (Ns.later HNS.out HALQ.out) HDB.out)
                  have HBOG := HBOQ
                  have HFT := HFITS
                  have HLN := HL12
                  as_aux_lemma =>
                    go_wp2_with fail
                    refine wp_region_held_drew (S := (fun X : World => R9 X wS.heap.size 0 ⟨⟨rk, s6, rt, rv, rtier, ⟨rc, rst, rq⟩, d12⟩, ra, rcc⟩)) (by kernel_rfl) (R9.later HQ.out.r9 (Below.refl _ _).drew) (fun hHeld => ?_)
                    refine wpAnyH_take (i := 0) (oi := ?kb1o) (v := ?kb1v) ?kb1h (by kernel_rfl) (by kernel_rfl) (by kernel_rfl) ?kb1q ?kb1y hHeld ?kb1r
                    case kb1h => (simp only [List.getElem?_toArray, List.getElem?_cons_zero]; rfl)
                    case kb1q => exact fun _ _ _ h => h
                    case kb1y => (refine Or.inl ⟨by first | kernel_rfl | rfl, ?_⟩; intro w hSw; (try dsimp only at hSw); obtain ⟨q0, q1, q2, q3, q4, q5, q6, q7, q8⟩ := hSw; dsimp only at q0 q1 q2 q3 q4 q5 q6 q7 q8; go_simp <;> (try with_reducible rfl))
                    try simp only [Act.put, List.setIfInBounds_toArray, List.set_cons_zero, List.set_cons_succ]
                    refine wpAnyH_take (i := 1) (oi := ?kb2o) (v := ?kb2v) ?kb2h (by kernel_rfl) (by kernel_rfl) (by kernel_rfl) ?kb2q ?kb2y hHeld ?kb2r
                    case kb2h => (simp only [List.getElem?_toArray, List.getElem?_cons_succ, List.getElem?_cons_zero]; rfl)
                    case kb2q => exact fun _ _ _ h => h
                    case kb2y => (refine Or.inl ⟨by first | kernel_rfl | rfl, ?_⟩; intro w hSw; (try dsimp only at hSw); obtain ⟨q0, q1, q2, q3, q4, q5, q6, q7, q8⟩ := hSw; dsimp only at q0 q1 q2 q3 q4 q5 q6 q7 q8; go_simp <;> (try with_reducible rfl))
                    try simp only [Act.put, List.setIfInBounds_toArray, List.set_cons_zero, List.set_cons_succ]
                    refine wpAnyH_take (i := 3) (oi := ?kb3o) (v := ?kb3v) ?kb3h (by kernel_rfl) (by kernel_rfl) (by kernel_rfl) ?kb3q ?kb3y hHeld ?kb3r
                    case kb3h => (simp only [List.getElem?_toArray, List.getElem?_cons_succ, List.getElem?_cons_zero]; rfl)
                    case kb3q => exact fun _ _ _ h => h
                    case kb3y => (refine Or.inl ⟨by first | kernel_rfl | rfl, ?_⟩; intro w hSw; (try dsimp only at hSw); obtain ⟨q0, q1, q2, q3, q4, q5, q6, q7, q8⟩ := hSw; dsimp only at q0 q1 q2 q3 q4 q5 q6 q7 q8; go_simp <;> (try with_reducible rfl))
                    try simp only [Act.put, List.setIfInBounds_toArray, List.set_cons_zero, List.set_cons_succ]
                    refine wpAnyH_take (i := 4) (oi := ?kb4o) (v := ?kb4v) ?kb4h (by kernel_rfl) (by kernel_rfl) (by kernel_rfl) ?kb4q ?kb4y hHeld ?kb4r
                    case kb4h => (simp only [List.getElem?_toArray, List.getElem?_cons_succ, List.getElem?_cons_zero]; rfl)
                    case kb4q => exact fun _ _ _ h => h
                    case kb4y => (refine Or.inl ⟨by first | kernel_rfl | rfl, ?_⟩; intro w hSw; (try dsimp only at hSw); obtain ⟨q0, q1, q2, q3, q4, q5, q6, q7, q8⟩ := hSw; dsimp only at q0 q1 q2 q3 q4 q5 q6 q7 q8; go_simp <;> (try with_reducible rfl))
                    try simp only [Act.put, List.setIfInBounds_toArray, List.set_cons_zero, List.set_cons_succ]
                    refine wpAnyH_ready (rs := [2]) (by kernel_rfl) (by simp) ?_
                    refine (AllReadyH.cons rfl (fun K hK => ?_) AllReadyH.nil)
                    go_simp
                    (have kA := (HXG.out.later (Below.refl _ _).drew).Add ⟨⟨rk, s6, rt, rv, rtier, ⟨rc, rst, rq⟩, d12⟩, ra, rcc⟩ rfl rfl HFT.out (by have := HS60.out; dsimp only; omega) (by have := HLN.out; dsimp only; omega)); (unfold recV Rd.dv at kA); (dsimp only at kA); (go_at_call 20; (with_reducible refine kA.mono ?_); rintro e wA ⟨rfl, hdA, hsA⟩; (have HXA := Lib.hid hdA); (have HSA := Lib.hid hsA); (have HR2 := Lib.hid (R9.other hHeld (hsA _ (Or.inr rfl)))); clear hdA hsA)
                    refine hK.out _ _ (HR2.out) (fun hHeld => ?_)
                    clear hK K
                    try simp only [Act.put, List.setIfInBounds_toArray, List.set_cons_zero, List.set_cons_succ]
                    refine wpAnyH_ready (rs := [5]) (by kernel_rfl) (by simp) ?_
                    refine (AllReadyH.cons rfl (fun K hK => ?_) AllReadyH.nil)
                    go_simp
                    (have kB := HXA.out.DAdd ⟨⟨rk, s6, rt, rv, rtier, ⟨rc, rst, rq⟩, d12⟩, ra, rcc⟩ rfl rfl HFT.out); (unfold recV Rd.dv at kB); (dsimp only at kB); (go_at_call 21; (with_reducible refine kB.mono ?_); rintro e wB ⟨rfl, hdB, hsB⟩; (have HXB := Lib.hid hdB); (have HSB := Lib.hid hsB); (have HR3 := Lib.hid (R9.other HR2.out (hsB _ (Or.inr rfl)))); clear hdB hsB)
                    refine hK.out _ _ (HR3.out) (fun hHeld => ?_)
                    clear hK K
                    try simp only [Act.put, List.setIfInBounds_toArray, List.set_cons_zero, List.set_cons_succ]
                    refine wpAnyH_take (i := 6) (oi := ?kb5o) (v := ?kb5v) ?kb5h (by kernel_rfl) (by kernel_rfl) (by kernel_rfl) ?kb5q ?kb5y hHeld ?kb5r
                    case kb5h => (simp only [List.getElem?_toArray, List.getElem?_cons_succ, List.getElem?_cons_zero]; rfl)
                    case kb5q => exact fun _ _ _ h => h
                    case kb5y => (refine Or.inl ⟨by first | kernel_rfl | rfl, ?_⟩; intro w hSw; (try dsimp only at hSw); obtain ⟨q0, q1, q2, q3, q4, q5, q6, q7, q8⟩ := hSw; dsimp only at q0 q1 q2 q3 q4 q5 q6 q7 q8; go_simp <;> (try with_reducible rfl))
                    try simp only [Act.put, List.setIfInBounds_toArray, List.set_cons_zero, List.set_cons_succ]
                    refine wpAnyH_take (i := 7) (oi := ?kb6o) (v := ?kb6v) ?kb6h (by kernel_rfl) (by kernel_rfl) (by kernel_rfl) ?kb6q ?kb6y hHeld ?kb6r
                    case kb6h => (simp only [List.getElem?_toArray, List.getElem?_cons_succ, List.getElem?_cons_zero]; rfl)
                    case kb6q => exact fun _ _ _ h => h
                    case kb6y => (refine Or.inl ⟨by first | kernel_rfl | rfl, ?_⟩; intro w hSw; (try dsimp only at hSw); obtain ⟨q0, q1, q2, q3, q4, q5, q6, q7, q8⟩ := hSw; dsimp only at q0 q1 q2 q3 q4 q5 q6 q7 q8; go_simp <;> (try with_reducible rfl))
                    try simp only [Act.put, List.setIfInBounds_toArray, List.set_cons_zero, List.set_cons_succ]
                    refine wpAnyH_done (by kernel_rfl) ?_ _

                    have HFIN := Lib.hid (show PlJ w wo wB b b2 wr.heap.size (addS S (Rd.r ⟨⟨rk, s6, rt, rv, rtier, ⟨rc, rst, rq⟩, d12⟩, ra, rcc⟩)) from ⟨HXB.out.drop.less (fun q hq => Or.inl hq), (HSB.out _ (Or.inl rfl)).trans ((HSA.out _ (Or.inl rfl)).trans HBOG.out)⟩)
                    go_wp2
                    go_meet
                    exact ⟨by simp, _, HFIN⟩
            · have g1 : decide (0 ≤ rst) = false := decide_eq_false h1
              clear h1
              as_aux_lemma =>
                go_wp2_with (first
                  | (go_at_call 17; (with_reducible refine HSM.out.mono ?_); rintro e wS ⟨rfl, hnS, hbS⟩
                     have HNS := Lib.hid hnS
                     have hxS := HX0.out.later hbS
                     have halq := (Below.refl wS.heap.size wS).alloc (Nat.le_refl _) (box9 ⟨⟨rk, s6, rt, rv, rtier, ⟨rc, rst, rq⟩, d12⟩, ra, rcc⟩)
                     have HALQ := Lib.hid halq
                     have HXQ := Lib.hid ((hxS.hold halq).less (H' := fun q => q = wr.heap.size ∨ q = wS.heap.size) (fun q hq => hq.imp id (fun e => by rw [World.size_alloc]; omega)))
                     have hboS := hbS.block _ HPO.out
                     obtain ⟨o0, o1, o2, o3, o4, o5, o6, o7, o8, o9, o10, o11, o12⟩ := HOB.out.other hboS
                     dsimp only at o0 o1 o2 o3 o4 o5 o6 o7 o8 o9 o10 o11 o12
                     have hlt9 : wr.heap.size < wS.heap.size := Nat.lt_of_lt_of_le HPO.out hbS.size
                     have hne9 : ¬ wr.heap.size = wS.heap.size := by omega
                     have hne8 : ¬ wS.heap.size = wr.heap.size := by omega
                     have HBOQ := Lib.hid (show (wS.alloc (box9 ⟨⟨rk, s6, rt, rv, rtier, ⟨rc, rst, rq⟩, d12⟩, ra, rcc⟩)).heap[wr.heap.size]? = wo.heap[wr.heap.size]? from (halq.block _ hlt9).trans hboS)
                     have HQ := Lib.hid (BoxR.new wS ⟨⟨rk, s6, rt, rv, rtier, ⟨rc, rst, rq⟩, d12⟩, ra, rcc⟩)
                     clear hnS hbS halq hxS hboS))
                have HXG := Lib.hid (HXQ.out.give (Ns.later HNS.out HALQ.out) HDB.out)
                have HBOG := HBOQ
                have HFT := HFITS
                have HLN := HL12
                as_aux_lemma =>
                  go_wp2_with fail
                  refine wp_region_held_drew (S := (fun X : World => R9 X wS.heap.size 0 ⟨⟨rk, s6, rt, rv, rtier, ⟨rc, rst, rq⟩, d12⟩, ra, rcc⟩)) (by kernel_rfl) (R9.later HQ.out.r9 (Below.refl _ _).drew) (fun hHeld => ?_)
                  refine wpAnyH_take (i := 0) (oi := ?kc1o) (v := ?kc1v) ?kc1h (by kernel_rfl) (by kernel_rfl) (by kernel_rfl) ?kc1q ?kc1y hHeld ?kc1r
                  case kc1h => (simp only [List.getElem?_toArray, List.getElem?_cons_zero]; rfl)
                  case kc1q => exact fun _ _ _ h => h
                  case kc1y => (refine Or.inl ⟨by first | kernel_rfl | rfl, ?_⟩; intro w hSw; (try dsimp only at hSw); obtain ⟨q0, q1, q2, q3, q4, q5, q6, q7, q8⟩ := hSw; dsimp only at q0 q1 q2 q3 q4 q5 q6 q7 q8; go_simp <;> (try with_reducible rfl))
                  try simp only [Act.put, List.setIfInBounds_toArray, List.set_cons_zero, List.set_cons_succ]
                  refine wpAnyH_take (i := 1) (oi := ?kc2o) (v := ?kc2v) ?kc2h (by kernel_rfl) (by kernel_rfl) (by kernel_rfl) ?kc2q ?kc2y hHeld ?kc2r
                  case kc2h => (simp only [List.getElem?_toArray, List.getElem?_cons_succ, List.getElem?_cons_zero]; rfl)
                  case kc2q => exact fun _ _ _ h => h
                  case kc2y => (refine Or.inl ⟨by first | kernel_rfl | rfl, ?_⟩; intro w hSw; (try dsimp only at hSw); obtain ⟨q0, q1, q2, q3, q4, q5, q6, q7, q8⟩ := hSw; dsimp only at q0 q1 q2 q3 q4 q5 q6 q7 q8; go_simp <;> (try with_reducible rfl))
                  try simp only [Act.put, List.setIfInBounds_toArray, List.set_cons_zero, List.set_cons_succ]
                  refine wpAnyH_take (i := 3) (oi := ?kc3o) (v := ?kc3v) ?kc3h (by kernel_rfl) (by kernel_rfl) (by kernel_rfl) ?kc3q ?kc3y hHeld ?kc3r
                  case kc3h => (simp only [List.getElem?_toArray, List.getElem?_cons_succ, List.getElem?_cons_zero]; rfl)
                  case kc3q => exact fun _ _ _ h => h
                  case kc3y => (refine Or.inl ⟨by first | kernel_rfl | rfl, ?_⟩; intro w hSw; (try dsimp only at hSw); obtain ⟨q0, q1, q2, q3, q4, q5, q6, q7, q8⟩ := hSw; dsimp only at q0 q1 q2 q3 q4 q5 q6 q7 q8; go_simp <;> (try with_reducible rfl))
                  try simp only [Act.put, List.setIfInBounds_toArray, List.set_cons_zero, List.set_cons_succ]
                  refine wpAnyH_take (i := 4) (oi := ?kc4o) (v := ?kc4v) ?kc4h (by kernel_rfl) (by kernel_rfl) (by kernel_rfl) ?kc4q ?kc4y hHeld ?kc4r
                  case kc4h => (simp only [List.getElem?_toArray, List.getElem?_cons_succ, List.getElem?_cons_zero]; rfl)
                  case kc4q => exact fun _ _ _ h => h
                  case kc4y => (refine Or.inl ⟨by first | kernel_rfl | rfl, ?_⟩; intro w hSw; (try dsimp only at hSw); obtain ⟨q0, q1, q2, q3, q4, q5, q6, q7, q8⟩ := hSw; dsimp only at q0 q1 q2 q3 q4 q5 q6 q7 q8; go_simp <;> (try with_reducible rfl))
                  try simp only [Act.put, List.setIfInBounds_toArray, List.set_cons_zero, List.set_cons_succ]
                  refine wpAnyH_ready (rs := [2]) (by kernel_rfl) (by simp) ?_
                  refine (AllReadyH.cons rfl (fun K hK => ?_) AllReadyH.nil)
                  go_simp
                  (have kA := (HXG.out.later (Below.refl _ _).drew).Add ⟨⟨rk, s6, rt, rv, rtier, ⟨rc, rst, rq⟩, d12⟩, ra, rcc⟩ rfl rfl HFT.out (by have := HS60.out; dsimp only; omega) (by have := HLN.out; dsimp only; omega)); (unfold recV Rd.dv at kA); (dsimp only at kA); (go_at_call 20; (with_reducible refine kA.mono ?_); rintro e wA ⟨rfl, hdA, hsA⟩; (have HXA := Lib.hid hdA); (have HSA := Lib.hid hsA); (have HR2 := Lib.hid (R9.other hHeld (hsA _ (Or.inr rfl)))); clear hdA hsA)
                  refine hK.out _ _ (HR2.out) (fun hHeld => ?_)
                  clear hK K
                  try simp only [Act.put, List.setIfInBounds_toArray, List.set_cons_zero, List.set_cons_succ]
                  refine wpAnyH_ready (rs := [5]) (by kernel_rfl) (by simp) ?_
                  refine (AllReadyH.cons rfl (fun K hK => ?_) AllReadyH.nil)
                  go_simp
                  (have kB := HXA.out.DAdd ⟨⟨rk, s6, rt, rv, rtier, ⟨rc, rst, rq⟩, d12⟩, ra, rcc⟩ rfl rfl HFT.out); (unfold recV Rd.dv at kB); (dsimp only at kB); (go_at_call 21; (with_reducible refine kB.mono ?_); rintro e wB ⟨rfl, hdB, hsB⟩; (have HXB := Lib.hid hdB); (have HSB := Lib.hid hsB); (have HR3 := Lib.hid (R9.other HR2.out (hsB _ (Or.inr rfl)))); clear hdB hsB)
                  refine hK.out _ _ (HR3.out) (fun hHeld => ?_)
                  clear hK K
                  try simp only [Act.put, List.setIfInBounds_toArray, List.set_cons_zero, List.set_cons_succ]
                  refine wpAnyH_take (i := 6) (oi := ?kc5o) (v := ?kc5v) ?kc5h (by kernel_rfl) (by kernel_rfl) (by kernel_rfl) ?kc5q ?kc5y hHeld ?kc5r
                  case kc5h => (simp only [List.getElem?_toArray, List.getElem?_cons_succ, List.getElem?_cons_zero]; rfl)
                  case kc5q => exact fun _ _ _ h => h
                  case kc5y => (refine Or.inl ⟨by first | kernel_rfl | rfl, ?_⟩; intro w hSw; (try dsimp only at hSw); obtain ⟨q0, q1, q2, q3, q4, q5, q6, q7, q8⟩ := hSw; dsimp only at q0 q1 q2 q3 q4 q5 q6 q7 q8; go_simp <;> (try with_reducible rfl))
                  try simp only [Act.put, List.setIfInBounds_toArray, List.set_cons_zero, List.set_cons_succ]
                  refine wpAnyH_take (i := 7) (oi := ?kc6o) (v := ?kc6v) ?kc6h (by kernel_rfl) (by kernel_rfl) (by kernel_rfl) ?kc6q ?kc6y hHeld ?kc6r
                  case kc6h => (simp only [List.getElem?_toArray, List.getElem?_cons_succ, List.getElem?_cons_zero]; rfl)
                  case kc6q => exact fun _ _ _ h => h
                  case kc6y => (refine Or.inl ⟨by first | kernel_rfl | rfl, ?_⟩; intro w hSw; (try dsimp only at hSw); obtain ⟨q0, q1, q2, q3, q4, q5, q6, q7, q8⟩ := hSw; dsimp only at q0 q1 q2 q3 q4 q5 q6 q7 q8; go_simp <;> (try with_reducible rfl))
                  try simp only [Act.put, List.setIfInBounds_toArray, List.set_cons_zero, List.set_cons_succ]
                  refine wpAnyH_done (by kernel_rfl) ?_ _

                  have HFIN := Lib.hid (show PlJ w wo wB b b2 wr.heap.size (addS S (Rd.r ⟨⟨rk, s6, rt, rv, rtier, ⟨rc, rst, rq⟩, d12⟩, ra, rcc⟩)) from ⟨HXB.out.drop.less (fun q hq => Or.inl hq), (HSB.out _ (Or.inl rfl)).trans ((HSA.out _ (Or.inl rfl)).trans HBOG.out)⟩)
                  go_wp2
                  go_meet
                  exact ⟨by simp, _, HFIN⟩
          | false =>
            as_aux_lemma =>
              go_wp2_with (first
                | (go_at_call 17; (with_reducible refine HSM.out.mono ?_); rintro e wS ⟨rfl, hnS, hbS⟩
                   have HNS := Lib.hid hnS
                   have hxS := HX0.out.later hbS
                   have halq := (Below.refl wS.heap.size wS).alloc (Nat.le_refl _) (box9 ⟨⟨rk, s6, rt, rv, rtier, ⟨rc, rst, rq⟩, d12⟩, ra, rcc⟩)
                   have HALQ := Lib.hid halq
                   have HXQ := Lib.hid ((hxS.hold halq).less (H' := fun q => q = wr.heap.size ∨ q = wS.heap.size) (fun q hq => hq.imp id (fun e => by rw [World.size_alloc]; omega)))
                   have hboS := hbS.block _ HPO.out
                   obtain ⟨o0, o1, o2, o3, o4, o5, o6, o7, o8, o9, o10, o11, o12⟩ := HOB.out.other hboS
                   dsimp only at o0 o1 o2 o3 o4 o5 o6 o7 o8 o9 o10 o11 o12
                   have hlt9 : wr.heap.size < wS.heap.size := Nat.lt_of_lt_of_le HPO.out hbS.size
                   have hne9 : ¬ wr.heap.size = wS.heap.size := by omega
                   have hne8 : ¬ wS.heap.size = wr.heap.size := by omega
                   have HBOQ := Lib.hid (show (wS.alloc (box9 ⟨⟨rk, s6, rt, rv, rtier, ⟨rc, rst, rq⟩, d12⟩, ra, rcc⟩)).heap[wr.heap.size]? = wo.heap[wr.heap.size]? from (halq.block _ hlt9).trans hboS)
                   have HQ := Lib.hid (BoxR.new wS ⟨⟨rk, s6, rt, rv, rtier, ⟨rc, rst, rq⟩, d12⟩, ra, rcc⟩)
                   clear hnS hbS halq hxS hboS))
              have HXG := Lib.hid (HXQ.out.give (Ns.later HNS.out HALQ.out) HDB.out)
              have HBOG := HBOQ
              have HFT := HFITS
              have HLN := HL12
              as_aux_lemma =>
                go_wp2_with fail
                refine wp_region_held_drew (S := (fun X : World => R9 X wS.heap.size 0 ⟨⟨rk, s6, rt, rv, rtier, ⟨rc, rst, rq⟩, d12⟩, ra, rcc⟩)) (by kernel_rfl) (R9.later HQ.out.r9 (Below.refl _ _).drew) (fun hHeld => ?_)
                refine wpAnyH_take (i := 0) (oi := ?kd1o) (v := ?kd1v) ?kd1h (by kernel_rfl) (by kernel_rfl) (by kernel_rfl) ?kd1q ?kd1y hHeld ?kd1r
                case kd1h => (simp only [List.getElem?_toArray, List.getElem?_cons_zero]; rfl)
                case kd1q => exact fun _ _ _ h => h
                case kd1y => (refine Or.inl ⟨by first | kernel_rfl | rfl, ?_⟩; intro w hSw; (try dsimp only at hSw); obtain ⟨q0, q1, q2, q3, q4, q5, q6, q7, q8⟩ := hSw; dsimp only at q0 q1 q2 q3 q4 q5 q6 q7 q8; go_simp <;> (try with_reducible rfl))
                try simp only [Act.put, List.setIfInBounds_toArray, List.set_cons_zero, List.set_cons_succ]
                refine wpAnyH_take (i := 1) (oi := ?kd2o) (v := ?kd2v) ?kd2h (by kernel_rfl) (by kernel_rfl) (by kernel_rfl) ?kd2q ?kd2y hHeld ?kd2r
                case kd2h => (simp only [List.getElem?_toArray, List.getElem?_cons_succ, List.getElem?_cons_zero]; rfl)
                case kd2q => exact fun _ _ _ h => h
                case kd2y => (refine Or.inl ⟨by first | kernel_rfl | rfl, ?_⟩; intro w hSw; (try dsimp only at hSw); obtain ⟨q0, q1, q2, q3, q4, q5, q6, q7, q8⟩ := hSw; dsimp only at q0 q1 q2 q3 q4 q5 q6 q7 q8; go_simp <;> (try with_reducible rfl))
                try simp only [Act.put, List.setIfInBounds_toArray, List.set_cons_zero, List.set_cons_succ]
                refine wpAnyH_take (i := 3) (oi := ?kd3o) (v := ?kd3v) ?kd3h (by kernel_rfl) (by kernel_rfl) (by kernel_rfl) ?kd3q ?kd3y hHeld ?kd3r
                case kd3h => (simp only [List.getElem?_toArray, List.getElem?_cons_succ, List.getElem?_cons_zero]; rfl)
                case kd3q => exact fun _ _ _ h => h
                case kd3y => (refine Or.inl ⟨by first | kernel_rfl | rfl, ?_⟩; intro w hSw; (try dsimp only at hSw); obtain ⟨q0, q1, q2, q3, q4, q5, q6, q7, q8⟩ := hSw; dsimp only at q0 q1 q2 q3 q4 q5 q6 q7 q8; go_simp <;> (try with_reducible rfl))
                try simp only [Act.put, List.setIfInBounds_toArray, List.set_cons_zero, List.set_cons_succ]
                refine wpAnyH_take (i := 4) (oi := ?kd4o) (v := ?kd4v) ?kd4h (by kernel_rfl) (by kernel_rfl) (by kernel_rfl) ?kd4q ?kd4y hHeld ?kd4r
                case kd4h => (simp only [List.getElem?_toArray, List.getElem?_cons_succ, List.getElem?_cons_zero]; rfl)
                case kd4q => exact fun _ _ _ h => h
                case kd4y => (refine Or.inl ⟨by first | kernel_rfl | rfl, ?_⟩; intro w hSw; (try dsimp only at hSw); obtain ⟨q0, q1, q2, q3, q4, q5, q6, q7, q8⟩ := hSw; dsimp only at q0 q1 q2 q3 q4 q5 q6 q7 q8; go_simp <;> (try with_reducible rfl))
                try simp only [Act.put, List.setIfInBounds_toArray, List.set_cons_zero, List.set_cons_succ]
                refine wpAnyH_ready (rs := [2]) (by kernel_rfl) (by simp) ?_
                refine (AllReadyH.cons rfl (fun K hK => ?_) AllReadyH.nil)
                go_simp
                (have kA := (HXG.out.later (Below.refl _ _).drew).Add ⟨⟨rk, s6, rt, rv, rtier, ⟨rc, rst, rq⟩, d12⟩, ra, rcc⟩ rfl rfl HFT.out (by have := HS60.out; dsimp only; omega) (by have := HLN.out; dsimp only; omega)); (unfold recV Rd.dv at kA); (dsimp only at kA); (go_at_call 20; (with_reducible refine kA.mono ?_); rintro e wA ⟨rfl, hdA, hsA⟩; (have HXA := Lib.hid hdA); (have HSA := Lib.hid hsA); (have HR2 := Lib.hid (R9.other hHeld (hsA _ (Or.inr rfl)))); clear hdA hsA)
                refine hK.out _ _ (HR2.out) (fun hHeld => ?_)
                clear hK K
                try simp only [Act.put, List.setIfInBounds_toArray, List.set_cons_zero, List.set_cons_succ]
                refine wpAnyH_ready (rs := [5]) (by kernel_rfl) (by simp) ?_
                refine (AllReadyH.cons rfl (fun K hK => ?_) AllReadyH.nil)
                go_simp
                (have kB := HXA.out.DAdd ⟨⟨rk, s6, rt, rv, rtier, ⟨rc, rst, rq⟩, d12⟩, ra, rcc⟩ rfl rfl HFT.out); (unfold recV Rd.dv at kB); (dsimp only at kB); (go_at_call 21; (with_reducible refine kB.mono ?_); rintro e wB ⟨rfl, hdB, hsB⟩; (have HXB := Lib.hid hdB); (have HSB := Lib.hid hsB); (have HR3 := Lib.hid (R9.other HR2.out (hsB _ (Or.inr rfl)))); clear hdB hsB)
                refine hK.out _ _ (HR3.out) (fun hHeld => ?_)
                clear hK K
                try simp only [Act.put, List.setIfInBounds_toArray, List.set_cons_zero, List.set_cons_succ]
                refine wpAnyH_take (i := 6) (oi := ?kd5o) (v := ?kd5v) ?kd5h (by kernel_rfl) (by kernel_rfl) (by kernel_rfl) ?kd5q ?kd5y hHeld ?kd5r
                case kd5h => (simp only [List.getElem?_toArray, List.getElem?_cons_succ, List.getElem?_cons_zero]; rfl)
                case kd5q => exact fun _ _ _ h => h
                case kd5y => (refine Or.inl ⟨by first | kernel_rfl | rfl, ?_⟩; intro w hSw; (try dsimp only at hSw); obtain ⟨q0, q1, q2, q3, q4, q5, q6, q7, q8⟩ := hSw; dsimp only at q0 q1 q2 q3 q4 q5 q6 q7 q8; go_simp <;> (try with_reducible rfl))
                try simp only [Act.put, List.setIfInBounds_toArray, List.set_cons_zero, List.set_cons_succ]
                refine wpAnyH_take (i := 7) (oi := ?kd6o) (v := ?kd6v) ?kd6h (by kernel_rfl) (by kernel_rfl) (by kernel_rfl) ?kd6q ?kd6y hHeld ?kd6r
                case kd6h => (simp only [List.getElem?_toArray, List.getElem?_cons_succ, List.getElem?_cons_zero]; rfl)
                case kd6q => exact fun _ _ _ h => h
                case kd6y => (refine Or.inl ⟨by first | kernel_rfl | rfl, ?_⟩; intro w hSw; (try dsimp only at hSw); obtain ⟨q0, q1, q2, q3, q4, q5, q6, q7, q8⟩ := hSw; dsimp only at q0 q1 q2 q3 q4 q5 q6 q7 q8; go_simp <;> (try with_reducible rfl))
                try simp only [Act.put, List.setIfInBounds_toArray, List.set_cons_zero, List.set_cons_succ]
                refine wpAnyH_done (by kernel_rfl) ?_ _

                have HFIN := Lib.hid (show PlJ w wo wB b b2 wr.heap.size (addS S (Rd.r ⟨⟨rk, s6, rt, rv, rtier, ⟨rc, rst, rq⟩, d12⟩, ra, rcc⟩)) from ⟨HXB.out.drop.less (fun q hq => Or.inl hq), (HSB.out _ (Or.inl rfl)).trans ((HSA.out _ (Or.inl rfl)).trans HBOG.out)⟩)
                go_wp2
                go_meet
                exact ⟨by simp, _, HFIN⟩
      case rest =>
      obtain ⟨rfl, S, HP⟩ := hcut
      rename World => wt
      have HXT := Lib.hid (HP.out.duo.less (H' := noH) (fun q hq => hq.elim))
      obtain ⟨x0, x1, x2, x3, x4, x5, x6, x7, x8, x9, x10, x11, x12⟩ := HOB.out.other HP.out.box
      dsimp only at x0 x1 x2 x3 x4 x5 x6 x7 x8 x9 x10 x11 x12
      obtain ⟨nl, hnl⟩ : ∃ z, S.L.length = z := ⟨_, rfl⟩
      have hnl4 : nl ≤ 400 := by have := HXT.out.goodT.l400; omega
      have HNL := Lib.hid hnl
      obtain ⟨gz, hgz⟩ : ∃ z, (getL S.L rst rq).isSome = z := ⟨_, rfl⟩
      have HGZ := Lib.hid hgz
      have hals := (Below.refl wt.heap.size wt).alloc (Nat.le_refl _) (.cells #[.int .i64 rc, .int .i64 rst, .int .i64 rq] 31)
      have HXS := Lib.hid (HXT.out.later hals)
      have HST9 := Lib.hid (StAt.new wt ⟨rc, rst, rq⟩)
      clear hnl hgz hals
      go_wp2_with (first
        | (go_at_call 22; (with_reducible refine (HXS.out.Get rst rq).mono ?_); rintro e wG ⟨⟨⟨gk, gs, gt, gv, gtier, ⟨gc, gst, gq⟩, gd⟩, ga, gcc⟩, rfl, hgr, hgn, hgb, -⟩
           unfold recV Rd.dv at *
           dsimp only at *
           rw [HGZ.out]
           have HGR := Lib.hid hgr
           have halx := (Below.refl wG.heap.size wG).alloc (Nat.le_refl _) (box9 ⟨⟨gk, gs, gt, gv, gtier, ⟨gc, gst, gq⟩, gd⟩, ga, gcc⟩)
           have HGN := Lib.hid (Ns.later hgn halx)
           have HXG := Lib.hid ((HXS.out.later hgb).later halx)
           have HGB := Lib.hid (BoxR.new wG ⟨⟨gk, gs, gt, gv, gtier, ⟨gc, gst, gq⟩, gd⟩, ga, gcc⟩)
           obtain ⟨s0, s1, s2⟩ := StAt.below (StAt.below HST9.out hgb) halx
           dsimp only at s0 s1 s2
           clear hgr hgn hgb halx)
        | (go_at_call 23; (with_reducible refine (HXG.out.DGet rst rq).mono ?_); rintro e wY ⟨⟨⟨hk9, hs9, ht9, hv9, htier9, ⟨hc9, hst9, hq9⟩, hd9⟩, ha9, hcc9⟩, rfl, hhr, hhn, hhb⟩
           unfold recV Rd.dv at *
           dsimp only at *
           rw [HGZ.out]
           have HHR := Lib.hid hhr
           have HHN := Lib.hid hhn
           have HXY := Lib.hid (HXG.out.later hhb)
           have HGN2 := Lib.hid (Ns.later HGN.out hhb)
           have hgb2 := HGB.out.later hhb
           have hglt : wG.heap.size < wY.heap.size := hgb2.lt
           have hgne1 : ¬ wG.heap.size = wY.heap.size := by omega
           have hgne2 : ¬ wY.heap.size = wG.heap.size := by omega
           obtain ⟨t0, t1, t2, t3, t4, t5, t6, t7, t8⟩ := hgb2.r9
           dsimp only at t0 t1 t2 t3 t4 t5 t6 t7 t8
           have hb3 : Below wY.heap.size wY (((wY.alloc (box9 ⟨⟨hk9, hs9, ht9, hv9, htier9, ⟨hc9, hst9, hq9⟩, hd9⟩, ha9, hcc9⟩)).alloc (box9 ⟨⟨gk, gs, gt, gv, gtier, ⟨gc, gst, gq⟩, gd⟩, ga, gcc⟩)).alloc (box9 ⟨⟨hk9, hs9, ht9, hv9, htier9, ⟨hc9, hst9, hq9⟩, hd9⟩, ha9, hcc9⟩)) := (((Below.refl _ _).alloc (Nat.le_refl _) (box9 ⟨⟨hk9, hs9, ht9, hv9, htier9, ⟨hc9, hst9, hq9⟩, hd9⟩, ha9, hcc9⟩)).alloc (by simp) (box9 ⟨⟨gk, gs, gt, gv, gtier, ⟨gc, gst, gq⟩, gd⟩, ga, gcc⟩)).alloc (by simp; omega) (box9 ⟨⟨hk9, hs9, ht9, hv9, htier9, ⟨hc9, hst9, hq9⟩, hd9⟩, ha9, hcc9⟩)
           have hr1 : R9 (((wY.alloc (box9 ⟨⟨hk9, hs9, ht9, hv9, htier9, ⟨hc9, hst9, hq9⟩, hd9⟩, ha9, hcc9⟩)).alloc (box9 ⟨⟨gk, gs, gt, gv, gtier, ⟨gc, gst, gq⟩, gd⟩, ga, gcc⟩)).alloc (box9 ⟨⟨hk9, hs9, ht9, hv9, htier9, ⟨hc9, hst9, hq9⟩, hd9⟩, ha9, hcc9⟩)) (wY.heap.size + 1) 0 ⟨⟨gk, gs, gt, gv, gtier, ⟨gc, gst, gq⟩, gd⟩, ga, gcc⟩ := by
             have h9 := R9.later (R9.new (wY.alloc (box9 ⟨⟨hk9, hs9, ht9, hv9, htier9, ⟨hc9, hst9, hq9⟩, hd9⟩, ha9, hcc9⟩)) ⟨⟨gk, gs, gt, gv, gtier, ⟨gc, gst, gq⟩, gd⟩, ga, gcc⟩) ((Below.refl _ _).alloc (Nat.le_refl _) (box9 ⟨⟨hk9, hs9, ht9, hv9, htier9, ⟨hc9, hst9, hq9⟩, hd9⟩, ha9, hcc9⟩))
             simpa only [World.size_alloc] using h9
           have hr2 : R9 (((wY.alloc (box9 ⟨⟨hk9, hs9, ht9, hv9, htier9, ⟨hc9, hst9, hq9⟩, hd9⟩, ha9, hcc9⟩)).alloc (box9 ⟨⟨gk, gs, gt, gv, gtier, ⟨gc, gst, gq⟩, gd⟩, ga, gcc⟩)).alloc (box9 ⟨⟨hk9, hs9, ht9, hv9, htier9, ⟨hc9, hst9, hq9⟩, hd9⟩, ha9, hcc9⟩)) (wY.heap.size + 1 + 1) 0 ⟨⟨hk9, hs9, ht9, hv9, htier9, ⟨hc9, hst9, hq9⟩, hd9⟩, ha9, hcc9⟩ := by
             have h9 := R9.new ((wY.alloc (box9 ⟨⟨hk9, hs9, ht9, hv9, htier9, ⟨hc9, hst9, hq9⟩, hd9⟩, ha9, hcc9⟩)).alloc (box9 ⟨⟨gk, gs, gt, gv, gtier, ⟨gc, gst, gq⟩, gd⟩, ga, gcc⟩)) ⟨⟨hk9, hs9, ht9, hv9, htier9, ⟨hc9, hst9, hq9⟩, hd9⟩, ha9, hcc9⟩
             simpa only [World.size_alloc] using h9
           have kS := rsame17 (some ⟨wY.heap.size + 1, 0, none⟩) (some ⟨wY.heap.size + 1 + 1, 0, none⟩) 1 1 [(getL S.L rst rq).getD Rec.zero] (((wY.alloc (box9 ⟨⟨hk9, hs9, ht9, hv9, htier9, ⟨hc9, hst9, hq9⟩, hd9⟩, ha9, hcc9⟩)).alloc (box9 ⟨⟨gk, gs, gt, gv, gtier, ⟨gc, gst, gq⟩, gd⟩, ga, gcc⟩)).alloc (box9 ⟨⟨hk9, hs9, ht9, hv9, htier9, ⟨hc9, hst9, hq9⟩, hd9⟩, ha9, hcc9⟩)) (RdL.one (z := ⟨⟨gk, gs, gt, gv, gtier, ⟨gc, gst, gq⟩, gd⟩, ga, gcc⟩) hr1 (Ns.later HGN2.out hb3) HGR.out) (RdL.one (z := ⟨⟨hk9, hs9, ht9, hv9, htier9, ⟨hc9, hst9, hq9⟩, hd9⟩, ha9, hcc9⟩) hr2 (Ns.later HHN.out hb3) HHR.out) (by simp)
           have HB3 := Lib.hid hb3
           unfold box9 at kS
           dsimp only [List.length_cons, List.length_nil] at kS
           clear hhr hhn hhb hgb2 hb3 hr1 hr2)
        | (go_at_call 16; (with_reducible refine kS.mono ?_); rintro e wC ⟨rfl, hbC⟩
           have HXC := Lib.hid ((HXY.out.later HB3.out).later hbC)
           clear hbC))
      obtain ⟨abC, cbC, aaC, caC, hDDC⟩ := HXC.out.doc
      have HDC := Lib.hid hDDC
      clear hDDC
      as_aux_lemma =>
        go_wp2_with fail
        refine wp_region_held_drew (S := (fun X : World => Below wC.heap.size wC X)) (by kernel_rfl) (Below.refl _ _).drew (fun hHeld => ?_)
        refine wpAnyH_take (i := 0) (oi := ?tb1o) (v := ?tb1v) ?tb1h (by kernel_rfl) (by kernel_rfl) (by kernel_rfl) ?tb1q ?tb1y hHeld ?tb1r
        case tb1h => (simp only [List.getElem?_toArray, List.getElem?_cons_zero]; rfl)
        case tb1q => exact fun _ _ _ h => h
        case tb1y => (refine Or.inl ⟨by first | kernel_rfl | rfl, ?_⟩; intro w hSw; (try dsimp only at hSw); have d2 := (HDC.out _ hSw).c2; rw [HNL.out] at d2; go_simp <;> (try with_reducible rfl))
        try simp only [Act.put, List.setIfInBounds_toArray, List.set_cons_zero, List.set_cons_succ]
        refine wpAnyH_take (i := 2) (oi := ?tb2o) (v := ?tb2v) ?tb2h (by kernel_rfl) (by kernel_rfl) (by kernel_rfl) ?tb2q ?tb2y hHeld ?tb2r
        case tb2h => (simp only [List.getElem?_toArray, List.getElem?_cons_succ, List.getElem?_cons_zero]; rfl)
        case tb2q => exact fun _ _ _ h => h
        case tb2y => (refine Or.inl ⟨by first | kernel_rfl | rfl, ?_⟩; intro w hSw; (try dsimp only at hSw); have d2 := (HDC.out _ hSw).c2; rw [HNL.out] at d2; go_simp <;> (try with_reducible rfl))
        try simp only [Act.put, List.setIfInBounds_toArray, List.set_cons_zero, List.set_cons_succ]
        refine wpAnyH_take (i := 3) (oi := ?tb3o) (v := ?tb3v) ?tb3h (by kernel_rfl) (by kernel_rfl) (by kernel_rfl) ?tb3q ?tb3y hHeld ?tb3r
        case tb3h => (simp only [List.getElem?_toArray, List.getElem?_cons_succ, List.getElem?_cons_zero]; rfl)
        case tb3q => exact fun _ _ _ h => h
        case tb3y => (refine Or.inl ⟨by first | kernel_rfl | rfl, ?_⟩; intro w hSw; (try dsimp only at hSw); have d2 := (HDC.out _ hSw).c2; rw [HNL.out] at d2; go_simp <;> (try with_reducible rfl))
        try simp only [Act.put, List.setIfInBounds_toArray, List.set_cons_zero, List.set_cons_succ]
        refine wpAnyH_take (i := 4) (oi := ?tb4o) (v := ?tb4v) ?tb4h (by kernel_rfl) (by kernel_rfl) (by kernel_rfl) ?tb4q ?tb4y hHeld ?tb4r
        case tb4h => (simp only [List.getElem?_toArray, List.getElem?_cons_succ, List.getElem?_cons_zero]; rfl)
        case tb4q => exact fun _ _ _ h => h
        case tb4y => (refine Or.inl ⟨by first | kernel_rfl | rfl, ?_⟩; intro w hSw; (try dsimp only at hSw); have d2 := (HDC.out _ hSw).c2; rw [HNL.out] at d2; go_simp <;> (try with_reducible rfl))
        try simp only [Act.put, List.setIfInBounds_toArray, List.set_cons_zero, List.set_cons_succ]
        refine wpAnyH_take (i := 5) (oi := ?tb5o) (v := ?tb5v) ?tb5h (by kernel_rfl) (by kernel_rfl) (by kernel_rfl) ?tb5q ?tb5y hHeld ?tb5r
        case tb5h => (simp only [List.getElem?_toArray, List.getElem?_cons_succ, List.getElem?_cons_zero]; rfl)
        case tb5q => exact fun _ _ _ h => h
        case tb5y => (refine Or.inl ⟨by first | kernel_rfl | rfl, ?_⟩; intro w hSw; (try dsimp only at hSw); have d2 := (HDC.out _ hSw).c2; rw [HNL.out] at d2; go_simp <;> (try with_reducible rfl))
        try simp only [Act.put, List.setIfInBounds_toArray, List.set_cons_zero, List.set_cons_succ]
        refine wpAnyH_ready (rs := [1]) (by kernel_rfl) (by simp) ?_
        refine (AllReadyH.cons rfl (fun K hK => ?_) AllReadyH.nil)
        go_simp
        (go_at_call 24; (with_reducible refine ((HXC.out.later hHeld).lg.All).mono ?_); rintro e wD ⟨vD, rfl, hrD, hbD⟩; (obtain ⟨aD, cD, rfl⟩ := hrD.slice); (have HRD := Lib.hid hrD.rd); (have HBD := Lib.hid (bel_next hHeld hbD)); (rw [HNL.out]); clear hrD hbD)
        refine hK.out _ _ (HBD.out) (fun hHeld => ?_)
        clear hK K
        try simp only [Act.put, List.setIfInBounds_toArray, List.set_cons_zero, List.set_cons_succ]
        refine wpAnyH_ready (rs := [6]) (by kernel_rfl) (by simp) ?_
        refine (AllReadyH.cons rfl (fun K hK => ?_) AllReadyH.nil)
        go_simp
        (have kS := rsame17 aD aaC cD caC S.L _ HRD.out (HDC.out _ HBD.out).rd (by rw [HNL.out]; omega)); (rw [HNL.out] at kS); (go_at_call 16; (with_reducible refine kS.mono ?_); rintro e wE ⟨rfl, hbE⟩; (have HBE := Lib.hid (bel_next HBD.out hbE)); clear hbE)
        refine hK.out _ _ (HBE.out) (fun hHeld => ?_)
        clear hK K
        try simp only [Act.put, List.setIfInBounds_toArray, List.set_cons_zero, List.set_cons_succ]
        refine wpAnyH_take (i := 7) (oi := ?tb6o) (v := ?tb6v) ?tb6h (by kernel_rfl) (by kernel_rfl) (by kernel_rfl) ?tb6q ?tb6y hHeld ?tb6r
        case tb6h => (simp only [List.getElem?_toArray, List.getElem?_cons_succ, List.getElem?_cons_zero]; rfl)
        case tb6q => exact fun _ _ _ h => h
        case tb6y => (refine Or.inl ⟨by first | kernel_rfl | rfl, ?_⟩; intro w hSw; (try dsimp only at hSw); have d2 := (HDC.out _ hSw).c2; rw [HNL.out] at d2; go_simp <;> (try with_reducible rfl))
        try simp only [Act.put, List.setIfInBounds_toArray, List.set_cons_zero, List.set_cons_succ]
        refine wpAnyH_done (by kernel_rfl) ?_ _
        have HXE := Lib.hid (HXC.out.later HBE.out)
        as_aux_lemma =>
          go_wp2_with (first
            | (go_at_call 26; (with_reducible refine (HXE.out.lg.Know).mono ?_); rintro e wP ⟨vP, rfl, hnP, hbP, -⟩; (obtain ⟨aP, cP, rfl⟩ := hnP.slice); (have HNP := Lib.hid hnP); (have HXP := Lib.hid (HXE.out.later hbP)); clear hnP hbP)
            | (go_at_call 18; (with_reducible refine (HXP.out.DKnow).mono ?_); rintro e wQ ⟨aQ, cQ, rfl, hdQ, hnQ, hbQ⟩; (have kQ := rsameN _ _ S.know S.know wQ (Ns.later HNP.out hbQ) hnQ); (rw [sameL_self] at kQ); (have HXQ2 := Lib.hid hdQ.drop); clear hdQ hnQ hbQ)
            | (go_at_call 25; (with_reducible refine kQ.mono ?_); rintro e wF ⟨rfl, hbF⟩; (have HXF := Lib.hid (HXQ2.out.later hbF)); clear hbF kQ))
          obtain ⟨abF, cbF, aaF, caF, hDDF⟩ := HXF.out.doc
          have HDF := Lib.hid hDDF
          clear hDDF
          as_aux_lemma =>
            go_wp2_with fail
            refine wp_region_held_drew (S := (fun X : World => Below wF.heap.size wF X)) (by kernel_rfl) (Below.refl _ _).drew (fun hHeld => ?_)
            refine wpAnyH_take (i := 0) (oi := ?td1o) (v := ?td1v) ?td1h (by kernel_rfl) (by kernel_rfl) (by kernel_rfl) ?td1q ?td1y hHeld ?td1r
            case td1h => (simp only [List.getElem?_toArray, List.getElem?_cons_zero]; rfl)
            case td1q => exact fun _ _ _ h => h
            case td1y => (refine Or.inl ⟨by first | kernel_rfl | rfl, ?_⟩; intro w hSw; (try dsimp only at hSw); have d1 := (HDF.out _ hSw).c1; go_simp <;> (try with_reducible rfl))
            try simp only [Act.put, List.setIfInBounds_toArray, List.set_cons_zero, List.set_cons_succ]
            refine wpAnyH_take (i := 2) (oi := ?td2o) (v := ?td2v) ?td2h (by kernel_rfl) (by kernel_rfl) (by kernel_rfl) ?td2q ?td2y hHeld ?td2r
            case td2h => (simp only [List.getElem?_toArray, List.getElem?_cons_succ, List.getElem?_cons_zero]; rfl)
            case td2q => exact fun _ _ _ h => h
            case td2y => (refine Or.inl ⟨by first | kernel_rfl | rfl, ?_⟩; intro w hSw; (try dsimp only at hSw); have d1 := (HDF.out _ hSw).c1; go_simp <;> (try with_reducible rfl))
            try simp only [Act.put, List.setIfInBounds_toArray, List.set_cons_zero, List.set_cons_succ]
            refine wpAnyH_take (i := 3) (oi := ?td3o) (v := ?td3v) ?td3h (by kernel_rfl) (by kernel_rfl) (by kernel_rfl) ?td3q ?td3y hHeld ?td3r
            case td3h => (simp only [List.getElem?_toArray, List.getElem?_cons_succ, List.getElem?_cons_zero]; rfl)
            case td3q => exact fun _ _ _ h => h
            case td3y => (refine Or.inl ⟨by first | kernel_rfl | rfl, ?_⟩; intro w hSw; (try dsimp only at hSw); have d1 := (HDF.out _ hSw).c1; go_simp <;> (try with_reducible rfl))
            try simp only [Act.put, List.setIfInBounds_toArray, List.set_cons_zero, List.set_cons_succ]
            refine wpAnyH_take (i := 4) (oi := ?td4o) (v := ?td4v) ?td4h (by kernel_rfl) (by kernel_rfl) (by kernel_rfl) ?td4q ?td4y hHeld ?td4r
            case td4h => (simp only [List.getElem?_toArray, List.getElem?_cons_succ, List.getElem?_cons_zero]; rfl)
            case td4q => exact fun _ _ _ h => h
            case td4y => (refine Or.inl ⟨by first | kernel_rfl | rfl, ?_⟩; intro w hSw; (try dsimp only at hSw); have d1 := (HDF.out _ hSw).c1; go_simp <;> (try with_reducible rfl))
            try simp only [Act.put, List.setIfInBounds_toArray, List.set_cons_zero, List.set_cons_succ]
            refine wpAnyH_take (i := 5) (oi := ?td5o) (v := ?td5v) ?td5h (by kernel_rfl) (by kernel_rfl) (by kernel_rfl) ?td5q ?td5y hHeld ?td5r
            case td5h => (simp only [List.getElem?_toArray, List.getElem?_cons_succ, List.getElem?_cons_zero]; rfl)
            case td5q => exact fun _ _ _ h => h
            case td5y => (refine Or.inl ⟨by first | kernel_rfl | rfl, ?_⟩; intro w hSw; (try dsimp only at hSw); have d1 := (HDF.out _ hSw).c1; go_simp <;> (try with_reducible rfl))
            try simp only [Act.put, List.setIfInBounds_toArray, List.set_cons_zero, List.set_cons_succ]
            refine wpAnyH_ready (rs := [1]) (by kernel_rfl) (by simp) ?_
            refine (AllReadyH.cons rfl (fun K hK => ?_) AllReadyH.nil)
            go_simp
            (go_at_call 27; (with_reducible refine ((HXF.out.later hHeld).lg.Base).mono ?_); rintro e wG ⟨vG, rfl, hnG, hbG, -⟩; (obtain ⟨aG, cG, rfl⟩ := hnG.slice); (have HNG := Lib.hid hnG); (have HBG := Lib.hid (bel_next hHeld hbG)); clear hnG hbG)
            refine hK.out _ _ (HBG.out) (fun hHeld => ?_)
            clear hK K
            try simp only [Act.put, List.setIfInBounds_toArray, List.set_cons_zero, List.set_cons_succ]
            refine wpAnyH_ready (rs := [6]) (by kernel_rfl) (by simp) ?_
            refine (AllReadyH.cons rfl (fun K hK => ?_) AllReadyH.nil)
            go_simp
            (go_at_call 25; (with_reducible refine (rsameN _ _ S.base S.base _ HNG.out (HDF.out _ HBG.out).ns).mono ?_); rw [sameL_self]; rintro e wH ⟨rfl, hbH⟩; (have HBH := Lib.hid (bel_next HBG.out hbH)); clear hbH)
            refine hK.out _ _ (HBH.out) (fun hHeld => ?_)
            clear hK K
            try simp only [Act.put, List.setIfInBounds_toArray, List.set_cons_zero, List.set_cons_succ]
            refine wpAnyH_take (i := 7) (oi := ?td6o) (v := ?td6v) ?td6h (by kernel_rfl) (by kernel_rfl) (by kernel_rfl) ?td6q ?td6y hHeld ?td6r
            case td6h => (simp only [List.getElem?_toArray, List.getElem?_cons_succ, List.getElem?_cons_zero]; rfl)
            case td6q => exact fun _ _ _ h => h
            case td6y => (refine Or.inl ⟨by first | kernel_rfl | rfl, ?_⟩; intro w hSw; (try dsimp only at hSw); have d1 := (HDF.out _ hSw).c1; go_simp <;> (try with_reducible rfl))
            try simp only [Act.put, List.setIfInBounds_toArray, List.set_cons_zero, List.set_cons_succ]
            refine wpAnyH_done (by kernel_rfl) ?_ _
            have HXH := Lib.hid (HXF.out.later HBH.out)
            obtain ⟨abH, cbH, aaH, caH, hDDH⟩ := HXH.out.doc
            have HDH := Lib.hid hDDH
            clear hDDH
            have hbk1 : (gz != gz) = false := by simp
            have hbk2 : (S.clock != S.clock) = false := by simp
            have hbk3 : ((nl : Int) != (nl : Int)) = false := by simp
            have hbk4 : IntKind.i64.wrap (S.room - (nl : Int)) = S.room - (nl : Int) := by
              have h1 := HXH.out.goodT.rm
              rw [IntKind.wrap_i64]; omega
            have hbk5 : ((S.room - (nl : Int)) != (S.room - (nl : Int))) = false := by simp
            as_aux_lemma =>
              go_wp2_with fail
              refine wp_region_held_drew (S := (fun X : World => Below wH.heap.size wH X)) (by kernel_rfl) (Below.refl _ _).drew (fun hHeld => ?_)
              refine wpAnyH_take (i := 0) (oi := ?te1o) (v := ?te1v) ?te1h (by kernel_rfl) (by kernel_rfl) (by kernel_rfl) ?te1q ?te1y hHeld ?te1r
              case te1h => (simp only [List.getElem?_toArray, List.getElem?_cons_zero]; rfl)
              case te1q => exact fun _ _ _ h => h
              case te1y => (refine Or.inl ⟨by first | kernel_rfl | rfl, ?_⟩; intro w hSw; (try dsimp only at hSw); have d0 := (HDH.out _ hSw).c0; have d2 := (HDH.out _ hSw).c2; have d3 := (HDH.out _ hSw).c3; rw [HNL.out] at d2; go_simp <;> (try with_reducible rfl))
              try simp only [Act.put, List.setIfInBounds_toArray, List.set_cons_zero, List.set_cons_succ]
              refine wpAnyH_take (i := 1) (oi := ?te2o) (v := ?te2v) ?te2h (by kernel_rfl) (by kernel_rfl) (by kernel_rfl) ?te2q ?te2y hHeld ?te2r
              case te2h => (simp only [List.getElem?_toArray, List.getElem?_cons_succ, List.getElem?_cons_zero]; rfl)
              case te2q => exact fun _ _ _ h => h
              case te2y => (refine Or.inl ⟨by first | kernel_rfl | rfl, ?_⟩; intro w hSw; (try dsimp only at hSw); have d0 := (HDH.out _ hSw).c0; have d2 := (HDH.out _ hSw).c2; have d3 := (HDH.out _ hSw).c3; rw [HNL.out] at d2; go_simp <;> (try with_reducible rfl))
              try simp only [Act.put, List.setIfInBounds_toArray, List.set_cons_zero, List.set_cons_succ]
              refine wpAnyH_take (i := 2) (oi := ?te3o) (v := ?te3v) ?te3h (by kernel_rfl) (by kernel_rfl) (by kernel_rfl) ?te3q ?te3y hHeld ?te3r
              case te3h => (simp only [List.getElem?_toArray, List.getElem?_cons_succ, List.getElem?_cons_zero]; rfl)
              case te3q => exact fun _ _ _ h => h
              case te3y => (refine Or.inl ⟨by first | kernel_rfl | rfl, ?_⟩; intro w hSw; (try dsimp only at hSw); have d0 := (HDH.out _ hSw).c0; have d2 := (HDH.out _ hSw).c2; have d3 := (HDH.out _ hSw).c3; rw [HNL.out] at d2; go_simp <;> (try with_reducible rfl))
              try simp only [Act.put, List.setIfInBounds_toArray, List.set_cons_zero, List.set_cons_succ]
              refine wpAnyH_take (i := 3) (oi := ?te4o) (v := ?te4v) ?te4h (by kernel_rfl) (by kernel_rfl) (by kernel_rfl) ?te4q ?te4y hHeld ?te4r
              case te4h => (simp only [List.getElem?_toArray, List.getElem?_cons_succ, List.getElem?_cons_zero]; rfl)
              case te4q => exact fun _ _ _ h => h
              case te4y => (refine Or.inl ⟨by first | kernel_rfl | rfl, ?_⟩; intro w hSw; (try dsimp only at hSw); have d0 := (HDH.out _ hSw).c0; have d2 := (HDH.out _ hSw).c2; have d3 := (HDH.out _ hSw).c3; rw [HNL.out] at d2; go_simp <;> (try with_reducible rfl))
              try simp only [Act.put, List.setIfInBounds_toArray, List.set_cons_zero, List.set_cons_succ]
              refine wpAnyH_take (i := 4) (oi := ?te5o) (v := ?te5v) ?te5h (by kernel_rfl) (by kernel_rfl) (by kernel_rfl) ?te5q ?te5y hHeld ?te5r
              case te5h => (simp only [List.getElem?_toArray, List.getElem?_cons_succ, List.getElem?_cons_zero]; rfl)
              case te5q => exact fun _ _ _ h => h
              case te5y => (refine Or.inl ⟨by first | kernel_rfl | rfl, ?_⟩; intro w hSw; (try dsimp only at hSw); have d0 := (HDH.out _ hSw).c0; have d2 := (HDH.out _ hSw).c2; have d3 := (HDH.out _ hSw).c3; rw [HNL.out] at d2; go_simp <;> (try with_reducible rfl))
              try simp only [Act.put, List.setIfInBounds_toArray, List.set_cons_zero, List.set_cons_succ]
              refine wpAnyH_take (i := 5) (oi := ?te6o) (v := ?te6v) ?te6h (by kernel_rfl) (by kernel_rfl) (by kernel_rfl) ?te6q ?te6y hHeld ?te6r
              case te6h => (simp only [List.getElem?_toArray, List.getElem?_cons_succ, List.getElem?_cons_zero]; rfl)
              case te6q => exact fun _ _ _ h => h
              case te6y => (refine Or.inl ⟨by first | kernel_rfl | rfl, ?_⟩; intro w hSw; (try dsimp only at hSw); have d0 := (HDH.out _ hSw).c0; have d2 := (HDH.out _ hSw).c2; have d3 := (HDH.out _ hSw).c3; rw [HNL.out] at d2; go_simp <;> (try with_reducible rfl))
              try simp only [Act.put, List.setIfInBounds_toArray, List.set_cons_zero, List.set_cons_succ]
              refine wpAnyH_take (i := 6) (oi := ?te7o) (v := ?te7v) ?te7h (by kernel_rfl) (by kernel_rfl) (by kernel_rfl) ?te7q ?te7y hHeld ?te7r
              case te7h => (simp only [List.getElem?_toArray, List.getElem?_cons_succ, List.getElem?_cons_zero]; rfl)
              case te7q => exact fun _ _ _ h => h
              case te7y => (refine Or.inl ⟨by first | kernel_rfl | rfl, ?_⟩; intro w hSw; (try dsimp only at hSw); have d0 := (HDH.out _ hSw).c0; have d2 := (HDH.out _ hSw).c2; have d3 := (HDH.out _ hSw).c3; rw [HNL.out] at d2; go_simp <;> (try with_reducible rfl))
              try simp only [Act.put, List.setIfInBounds_toArray, List.set_cons_zero, List.set_cons_succ]
              refine wpAnyH_take (i := 7) (oi := ?te8o) (v := ?te8v) ?te8h (by kernel_rfl) (by kernel_rfl) (by kernel_rfl) ?te8q ?te8y hHeld ?te8r
              case te8h => (simp only [List.getElem?_toArray, List.getElem?_cons_succ, List.getElem?_cons_zero]; rfl)
              case te8q => exact fun _ _ _ h => h
              case te8y => (refine Or.inl ⟨by first | kernel_rfl | rfl, ?_⟩; intro w hSw; (try dsimp only at hSw); have d0 := (HDH.out _ hSw).c0; have d2 := (HDH.out _ hSw).c2; have d3 := (HDH.out _ hSw).c3; rw [HNL.out] at d2; go_simp <;> (try with_reducible rfl))
              try simp only [Act.put, List.setIfInBounds_toArray, List.set_cons_zero, List.set_cons_succ]
              refine wpAnyH_take (i := 8) (oi := ?te9o) (v := ?te9v) ?te9h (by kernel_rfl) (by kernel_rfl) (by kernel_rfl) ?te9q ?te9y hHeld ?te9r
              case te9h => (simp only [List.getElem?_toArray, List.getElem?_cons_succ, List.getElem?_cons_zero]; rfl)
              case te9q => exact fun _ _ _ h => h
              case te9y => (refine Or.inl ⟨by first | kernel_rfl | rfl, ?_⟩; intro w hSw; (try dsimp only at hSw); have d0 := (HDH.out _ hSw).c0; have d2 := (HDH.out _ hSw).c2; have d3 := (HDH.out _ hSw).c3; rw [HNL.out] at d2; go_simp <;> (try with_reducible rfl))
              try simp only [Act.put, List.setIfInBounds_toArray, List.set_cons_zero, List.set_cons_succ]
              refine wpAnyH_take (i := 9) (oi := ?te10o) (v := ?te10v) ?te10h (by kernel_rfl) (by kernel_rfl) (by kernel_rfl) ?te10q ?te10y hHeld ?te10r
              case te10h => (simp only [List.getElem?_toArray, List.getElem?_cons_succ, List.getElem?_cons_zero]; rfl)
              case te10q => exact fun _ _ _ h => h
              case te10y => (refine Or.inl ⟨by first | kernel_rfl | rfl, ?_⟩; intro w hSw; (try dsimp only at hSw); have d0 := (HDH.out _ hSw).c0; have d2 := (HDH.out _ hSw).c2; have d3 := (HDH.out _ hSw).c3; rw [HNL.out] at d2; go_simp <;> (try with_reducible rfl))
              try simp only [Act.put, List.setIfInBounds_toArray, List.set_cons_zero, List.set_cons_succ]
              refine wpAnyH_take (i := 10) (oi := ?te11o) (v := ?te11v) ?te11h (by kernel_rfl) (by kernel_rfl) (by kernel_rfl) ?te11q ?te11y hHeld ?te11r
              case te11h => (simp only [List.getElem?_toArray, List.getElem?_cons_succ, List.getElem?_cons_zero]; rfl)
              case te11q => exact fun _ _ _ h => h
              case te11y => (refine Or.inl ⟨by first | kernel_rfl | rfl, ?_⟩; intro w hSw; (try dsimp only at hSw); have d0 := (HDH.out _ hSw).c0; have d2 := (HDH.out _ hSw).c2; have d3 := (HDH.out _ hSw).c3; rw [HNL.out] at d2; go_simp <;> (try with_reducible rfl))
              try simp only [Act.put, List.setIfInBounds_toArray, List.set_cons_zero, List.set_cons_succ]
              refine wpAnyH_take (i := 11) (oi := ?te12o) (v := ?te12v) ?te12h (by kernel_rfl) (by kernel_rfl) (by kernel_rfl) ?te12q ?te12y hHeld ?te12r
              case te12h => (simp only [List.getElem?_toArray, List.getElem?_cons_succ, List.getElem?_cons_zero]; rfl)
              case te12q => exact fun _ _ _ h => h
              case te12y => (refine Or.inl ⟨by first | kernel_rfl | rfl, ?_⟩; intro w hSw; (try dsimp only at hSw); have d0 := (HDH.out _ hSw).c0; have d2 := (HDH.out _ hSw).c2; have d3 := (HDH.out _ hSw).c3; rw [HNL.out] at d2; go_simp <;> (try with_reducible rfl))
              try simp only [Act.put, List.setIfInBounds_toArray, List.set_cons_zero, List.set_cons_succ]
              refine wpAnyH_take (i := 12) (oi := ?te13o) (v := ?te13v) ?te13h (by kernel_rfl) (by kernel_rfl) (by kernel_rfl) ?te13q ?te13y hHeld ?te13r
              case te13h => (simp only [List.getElem?_toArray, List.getElem?_cons_succ, List.getElem?_cons_zero]; rfl)
              case te13q => exact fun _ _ _ h => h
              case te13y => (refine Or.inl ⟨by first | kernel_rfl | rfl, ?_⟩; intro w hSw; (try dsimp only at hSw); have d0 := (HDH.out _ hSw).c0; have d2 := (HDH.out _ hSw).c2; have d3 := (HDH.out _ hSw).c3; rw [HNL.out] at d2; go_simp <;> (try with_reducible rfl))
              try simp only [Act.put, List.setIfInBounds_toArray, List.set_cons_zero, List.set_cons_succ]
              refine wpAnyH_take (i := 13) (oi := ?te14o) (v := ?te14v) ?te14h (by kernel_rfl) (by kernel_rfl) (by kernel_rfl) ?te14q ?te14y hHeld ?te14r
              case te14h => (simp only [List.getElem?_toArray, List.getElem?_cons_succ, List.getElem?_cons_zero]; rfl)
              case te14q => exact fun _ _ _ h => h
              case te14y => (refine Or.inl ⟨by first | kernel_rfl | rfl, ?_⟩; intro w hSw; (try dsimp only at hSw); have d0 := (HDH.out _ hSw).c0; have d2 := (HDH.out _ hSw).c2; have d3 := (HDH.out _ hSw).c3; rw [HNL.out] at d2; go_simp <;> (try with_reducible rfl))
              try simp only [Act.put, List.setIfInBounds_toArray, List.set_cons_zero, List.set_cons_succ]
              refine wpAnyH_take (i := 14) (oi := ?te15o) (v := ?te15v) ?te15h (by kernel_rfl) (by kernel_rfl) (by kernel_rfl) ?te15q ?te15y hHeld ?te15r
              case te15h => (simp only [List.getElem?_toArray, List.getElem?_cons_succ, List.getElem?_cons_zero]; rfl)
              case te15q => exact fun _ _ _ h => h
              case te15y => (refine Or.inl ⟨by first | kernel_rfl | rfl, ?_⟩; intro w hSw; (try dsimp only at hSw); have d0 := (HDH.out _ hSw).c0; have d2 := (HDH.out _ hSw).c2; have d3 := (HDH.out _ hSw).c3; rw [HNL.out] at d2; go_simp <;> (try with_reducible rfl))
              try simp only [Act.put, List.setIfInBounds_toArray, List.set_cons_zero, List.set_cons_succ]
              refine wpAnyH_take (i := 15) (oi := ?te16o) (v := ?te16v) ?te16h (by kernel_rfl) (by kernel_rfl) (by kernel_rfl) ?te16q ?te16y hHeld ?te16r
              case te16h => (simp only [List.getElem?_toArray, List.getElem?_cons_succ, List.getElem?_cons_zero]; rfl)
              case te16q => exact fun _ _ _ h => h
              case te16y => (refine Or.inl ⟨by first | kernel_rfl | rfl, ?_⟩; intro w hSw; (try dsimp only at hSw); have d0 := (HDH.out _ hSw).c0; have d2 := (HDH.out _ hSw).c2; have d3 := (HDH.out _ hSw).c3; rw [HNL.out] at d2; go_simp <;> (try with_reducible rfl))
              try simp only [Act.put, List.setIfInBounds_toArray, List.set_cons_zero, List.set_cons_succ]
              refine wpAnyH_take (i := 16) (oi := ?te17o) (v := ?te17v) ?te17h (by kernel_rfl) (by kernel_rfl) (by kernel_rfl) ?te17q ?te17y hHeld ?te17r
              case te17h => (simp only [List.getElem?_toArray, List.getElem?_cons_succ, List.getElem?_cons_zero]; rfl)
              case te17q => exact fun _ _ _ h => h
              case te17y => (refine Or.inl ⟨by first | kernel_rfl | rfl, ?_⟩; intro w hSw; (try dsimp only at hSw); have d0 := (HDH.out _ hSw).c0; have d2 := (HDH.out _ hSw).c2; have d3 := (HDH.out _ hSw).c3; rw [HNL.out] at d2; go_simp <;> (try with_reducible rfl))
              try simp only [Act.put, List.setIfInBounds_toArray, List.set_cons_zero, List.set_cons_succ]
              refine wpAnyH_take (i := 17) (oi := ?te18o) (v := ?te18v) ?te18h (by kernel_rfl) (by kernel_rfl) (by kernel_rfl) ?te18q ?te18y hHeld ?te18r
              case te18h => (simp only [List.getElem?_toArray, List.getElem?_cons_succ, List.getElem?_cons_zero]; rfl)
              case te18q => exact fun _ _ _ h => h
              case te18y => (refine Or.inl ⟨by first | kernel_rfl | rfl, ?_⟩; intro w hSw; (try dsimp only at hSw); have d0 := (HDH.out _ hSw).c0; have d2 := (HDH.out _ hSw).c2; have d3 := (HDH.out _ hSw).c3; rw [HNL.out] at d2; go_simp <;> (try with_reducible rfl))
              try simp only [Act.put, List.setIfInBounds_toArray, List.set_cons_zero, List.set_cons_succ]
              refine wpAnyH_take (i := 18) (oi := ?te19o) (v := ?te19v) ?te19h (by kernel_rfl) (by kernel_rfl) (by kernel_rfl) ?te19q ?te19y hHeld ?te19r
              case te19h => (simp only [List.getElem?_toArray, List.getElem?_cons_succ, List.getElem?_cons_zero]; rfl)
              case te19q => exact fun _ _ _ h => h
              case te19y => (refine Or.inl ⟨by first | kernel_rfl | rfl, ?_⟩; intro w hSw; (try dsimp only at hSw); have d0 := (HDH.out _ hSw).c0; have d2 := (HDH.out _ hSw).c2; have d3 := (HDH.out _ hSw).c3; rw [HNL.out] at d2; go_simp <;> (try with_reducible rfl))
              try simp only [Act.put, List.setIfInBounds_toArray, List.set_cons_zero, List.set_cons_succ]
              refine wpAnyH_take (i := 19) (oi := ?te20o) (v := ?te20v) ?te20h (by kernel_rfl) (by kernel_rfl) (by kernel_rfl) ?te20q ?te20y hHeld ?te20r
              case te20h => (simp only [List.getElem?_toArray, List.getElem?_cons_succ, List.getElem?_cons_zero]; rfl)
              case te20q => exact fun _ _ _ h => h
              case te20y => (refine Or.inl ⟨by first | kernel_rfl | rfl, ?_⟩; intro w hSw; (try dsimp only at hSw); have d0 := (HDH.out _ hSw).c0; have d2 := (HDH.out _ hSw).c2; have d3 := (HDH.out _ hSw).c3; rw [HNL.out] at d2; go_simp <;> (try with_reducible rfl))
              try simp only [Act.put, List.setIfInBounds_toArray, List.set_cons_zero, List.set_cons_succ]
              refine wpAnyH_take (i := 20) (oi := ?te21o) (v := ?te21v) ?te21h (by kernel_rfl) (by kernel_rfl) (by kernel_rfl) ?te21q ?te21y hHeld ?te21r
              case te21h => (simp only [List.getElem?_toArray, List.getElem?_cons_succ, List.getElem?_cons_zero]; rfl)
              case te21q => exact fun _ _ _ h => h
              case te21y => (refine Or.inl ⟨by first | kernel_rfl | rfl, ?_⟩; intro w hSw; (try dsimp only at hSw); have d0 := (HDH.out _ hSw).c0; have d2 := (HDH.out _ hSw).c2; have d3 := (HDH.out _ hSw).c3; rw [HNL.out] at d2; go_simp <;> (try with_reducible rfl))
              try simp only [Act.put, List.setIfInBounds_toArray, List.set_cons_zero, List.set_cons_succ]
              refine wpAnyH_take (i := 21) (oi := ?te22o) (v := ?te22v) ?te22h (by kernel_rfl) (by kernel_rfl) (by kernel_rfl) ?te22q ?te22y hHeld ?te22r
              case te22h => (simp only [List.getElem?_toArray, List.getElem?_cons_succ, List.getElem?_cons_zero]; rfl)
              case te22q => exact fun _ _ _ h => h
              case te22y => (refine Or.inl ⟨by first | kernel_rfl | rfl, ?_⟩; intro w hSw; (try dsimp only at hSw); have d0 := (HDH.out _ hSw).c0; have d2 := (HDH.out _ hSw).c2; have d3 := (HDH.out _ hSw).c3; rw [HNL.out] at d2; go_simp <;> (try with_reducible rfl))
              try simp only [Act.put, List.setIfInBounds_toArray, List.set_cons_zero, List.set_cons_succ]
              refine wpAnyH_take (i := 22) (oi := ?te23o) (v := ?te23v) ?te23h (by kernel_rfl) (by kernel_rfl) (by kernel_rfl) ?te23q ?te23y hHeld ?te23r
              case te23h => (simp only [List.getElem?_toArray, List.getElem?_cons_succ, List.getElem?_cons_zero]; rfl)
              case te23q => exact fun _ _ _ h => h
              case te23y => (refine Or.inl ⟨by first | kernel_rfl | rfl, ?_⟩; intro w hSw; (try dsimp only at hSw); have d0 := (HDH.out _ hSw).c0; have d2 := (HDH.out _ hSw).c2; have d3 := (HDH.out _ hSw).c3; rw [HNL.out] at d2; go_simp <;> (try with_reducible rfl))
              try simp only [Act.put, List.setIfInBounds_toArray, List.set_cons_zero, List.set_cons_succ]
              refine wpAnyH_take (i := 23) (oi := ?te24o) (v := ?te24v) ?te24h (by kernel_rfl) (by kernel_rfl) (by kernel_rfl) ?te24q ?te24y hHeld ?te24r
              case te24h => (simp only [List.getElem?_toArray, List.getElem?_cons_succ, List.getElem?_cons_zero]; rfl)
              case te24q => exact fun _ _ _ h => h
              case te24y => (refine Or.inl ⟨by first | kernel_rfl | rfl, ?_⟩; intro w hSw; (try dsimp only at hSw); have d0 := (HDH.out _ hSw).c0; have d2 := (HDH.out _ hSw).c2; have d3 := (HDH.out _ hSw).c3; rw [HNL.out] at d2; go_simp <;> (try with_reducible rfl))
              try simp only [Act.put, List.setIfInBounds_toArray, List.set_cons_zero, List.set_cons_succ]
              refine wpAnyH_take (i := 24) (oi := ?te25o) (v := ?te25v) ?te25h (by kernel_rfl) (by kernel_rfl) (by kernel_rfl) ?te25q ?te25y hHeld ?te25r
              case te25h => (simp only [List.getElem?_toArray, List.getElem?_cons_succ, List.getElem?_cons_zero]; rfl)
              case te25q => exact fun _ _ _ h => h
              case te25y => (refine Or.inl ⟨by first | kernel_rfl | rfl, ?_⟩; intro w hSw; (try dsimp only at hSw); have d0 := (HDH.out _ hSw).c0; have d2 := (HDH.out _ hSw).c2; have d3 := (HDH.out _ hSw).c3; rw [HNL.out] at d2; go_simp <;> (try with_reducible rfl))
              try simp only [Act.put, List.setIfInBounds_toArray, List.set_cons_zero, List.set_cons_succ]
              refine wpAnyH_take (i := 26) (oi := ?te26o) (v := ?te26v) ?te26h (by kernel_rfl) (by kernel_rfl) (by kernel_rfl) ?te26q ?te26y hHeld ?te26r
              case te26h => (simp only [List.getElem?_toArray, List.getElem?_cons_succ, List.getElem?_cons_zero]; rfl)
              case te26q => exact fun _ _ _ h => h
              case te26y => (refine Or.inl ⟨by first | kernel_rfl | rfl, ?_⟩; intro w hSw; (try dsimp only at hSw); have d0 := (HDH.out _ hSw).c0; have d2 := (HDH.out _ hSw).c2; have d3 := (HDH.out _ hSw).c3; rw [HNL.out] at d2; go_simp <;> (try with_reducible rfl))
              try simp only [Act.put, List.setIfInBounds_toArray, List.set_cons_zero, List.set_cons_succ]
              refine wpAnyH_take (i := 27) (oi := ?te27o) (v := ?te27v) ?te27h (by kernel_rfl) (by kernel_rfl) (by kernel_rfl) ?te27q ?te27y hHeld ?te27r
              case te27h => (simp only [List.getElem?_toArray, List.getElem?_cons_succ, List.getElem?_cons_zero]; rfl)
              case te27q => exact fun _ _ _ h => h
              case te27y => (refine Or.inl ⟨by first | kernel_rfl | rfl, ?_⟩; intro w hSw; (try dsimp only at hSw); have d0 := (HDH.out _ hSw).c0; have d2 := (HDH.out _ hSw).c2; have d3 := (HDH.out _ hSw).c3; rw [HNL.out] at d2; go_simp <;> (try with_reducible rfl))
              try simp only [Act.put, List.setIfInBounds_toArray, List.set_cons_zero, List.set_cons_succ]
              refine wpAnyH_take (i := 28) (oi := ?te28o) (v := ?te28v) ?te28h (by kernel_rfl) (by kernel_rfl) (by kernel_rfl) ?te28q ?te28y hHeld ?te28r
              case te28h => (simp only [List.getElem?_toArray, List.getElem?_cons_succ, List.getElem?_cons_zero]; rfl)
              case te28q => exact fun _ _ _ h => h
              case te28y => (refine Or.inl ⟨by first | kernel_rfl | rfl, ?_⟩; intro w hSw; (try dsimp only at hSw); have d0 := (HDH.out _ hSw).c0; have d2 := (HDH.out _ hSw).c2; have d3 := (HDH.out _ hSw).c3; rw [HNL.out] at d2; go_simp <;> (try with_reducible rfl))
              try simp only [Act.put, List.setIfInBounds_toArray, List.set_cons_zero, List.set_cons_succ]
              refine wpAnyH_take (i := 29) (oi := ?te29o) (v := ?te29v) ?te29h (by kernel_rfl) (by kernel_rfl) (by kernel_rfl) ?te29q ?te29y hHeld ?te29r
              case te29h => (simp only [List.getElem?_toArray, List.getElem?_cons_succ, List.getElem?_cons_zero]; rfl)
              case te29q => exact fun _ _ _ h => h
              case te29y => (refine Or.inl ⟨by first | kernel_rfl | rfl, ?_⟩; intro w hSw; (try dsimp only at hSw); have d0 := (HDH.out _ hSw).c0; have d2 := (HDH.out _ hSw).c2; have d3 := (HDH.out _ hSw).c3; rw [HNL.out] at d2; go_simp <;> (try with_reducible rfl))
              try simp only [Act.put, List.setIfInBounds_toArray, List.set_cons_zero, List.set_cons_succ]
              refine wpAnyH_ready (rs := [25]) (by kernel_rfl) (by simp) ?_
              refine (AllReadyH.cons rfl (fun K hK => ?_) AllReadyH.nil)
              go_simp
              (go_at_call 28; (with_reducible refine ((HXH.out.later hHeld).lg.Clock).mono ?_); rintro e wI ⟨rfl, rfl⟩)
              refine hK.out _ _ (hHeld) (fun hHeld => ?_)
              clear hK K
              try simp only [Act.put, List.setIfInBounds_toArray, List.set_cons_zero, List.set_cons_succ]
              refine wpAnyH_take (i := 30) (oi := ?te30o) (v := ?te30v) ?te30h (by kernel_rfl) (by kernel_rfl) (by kernel_rfl) ?te30q ?te30y hHeld ?te30r
              case te30h => (simp only [List.getElem?_toArray, List.getElem?_cons_succ, List.getElem?_cons_zero]; rfl)
              case te30q => exact fun _ _ _ h => h
              case te30y => (refine Or.inl ⟨by first | kernel_rfl | rfl, ?_⟩; intro w hSw; (try dsimp only at hSw); have d0 := (HDH.out _ hSw).c0; have d2 := (HDH.out _ hSw).c2; have d3 := (HDH.out _ hSw).c3; rw [HNL.out] at d2; go_simp <;> (try with_reducible rfl))
              try simp only [Act.put, List.setIfInBounds_toArray, List.set_cons_zero, List.set_cons_succ]
              refine wpAnyH_take (i := 31) (oi := ?te31o) (v := ?te31v) ?te31h (by kernel_rfl) (by kernel_rfl) (by kernel_rfl) ?te31q ?te31y hHeld ?te31r
              case te31h => (simp only [List.getElem?_toArray, List.getElem?_cons_succ, List.getElem?_cons_zero]; rfl)
              case te31q => exact fun _ _ _ h => h
              case te31y => (refine Or.inl ⟨by first | kernel_rfl | rfl, ?_⟩; intro w hSw; (try dsimp only at hSw); have d0 := (HDH.out _ hSw).c0; have d2 := (HDH.out _ hSw).c2; have d3 := (HDH.out _ hSw).c3; rw [HNL.out] at d2; go_simp <;> (try with_reducible rfl))
              try simp only [Act.put, List.setIfInBounds_toArray, List.set_cons_zero, List.set_cons_succ]
              refine wpAnyH_take (i := 32) (oi := ?te32o) (v := ?te32v) ?te32h (by kernel_rfl) (by kernel_rfl) (by kernel_rfl) ?te32q ?te32y hHeld ?te32r
              case te32h => (simp only [List.getElem?_toArray, List.getElem?_cons_succ, List.getElem?_cons_zero]; rfl)
              case te32q => exact fun _ _ _ h => h
              case te32y => (refine Or.inl ⟨by first | kernel_rfl | rfl, ?_⟩; intro w hSw; (try dsimp only at hSw); have d0 := (HDH.out _ hSw).c0; have d2 := (HDH.out _ hSw).c2; have d3 := (HDH.out _ hSw).c3; rw [HNL.out] at d2; go_simp <;> (try with_reducible rfl))
              try simp only [Act.put, List.setIfInBounds_toArray, List.set_cons_zero, List.set_cons_succ]
              refine wpAnyH_take (i := 33) (oi := ?te33o) (v := ?te33v) ?te33h (by kernel_rfl) (by kernel_rfl) (by kernel_rfl) ?te33q ?te33y hHeld ?te33r
              case te33h => (simp only [List.getElem?_toArray, List.getElem?_cons_succ, List.getElem?_cons_zero]; rfl)
              case te33q => exact fun _ _ _ h => h
              case te33y => (refine Or.inl ⟨by first | kernel_rfl | rfl, ?_⟩; intro w hSw; (try dsimp only at hSw); have d0 := (HDH.out _ hSw).c0; have d2 := (HDH.out _ hSw).c2; have d3 := (HDH.out _ hSw).c3; rw [HNL.out] at d2; go_simp <;> (try with_reducible rfl))
              try simp only [Act.put, List.setIfInBounds_toArray, List.set_cons_zero, List.set_cons_succ]
              refine wpAnyH_take (i := 35) (oi := ?te34o) (v := ?te34v) ?te34h (by kernel_rfl) (by kernel_rfl) (by kernel_rfl) ?te34q ?te34y hHeld ?te34r
              case te34h => (simp only [List.getElem?_toArray, List.getElem?_cons_succ, List.getElem?_cons_zero]; rfl)
              case te34q => exact fun _ _ _ h => h
              case te34y => (refine Or.inl ⟨by first | kernel_rfl | rfl, ?_⟩; intro w hSw; (try dsimp only at hSw); have d0 := (HDH.out _ hSw).c0; have d2 := (HDH.out _ hSw).c2; have d3 := (HDH.out _ hSw).c3; rw [HNL.out] at d2; go_simp <;> (try with_reducible rfl))
              try simp only [Act.put, List.setIfInBounds_toArray, List.set_cons_zero, List.set_cons_succ]
              refine wpAnyH_take (i := 36) (oi := ?te35o) (v := ?te35v) ?te35h (by kernel_rfl) (by kernel_rfl) (by kernel_rfl) ?te35q ?te35y hHeld ?te35r
              case te35h => (simp only [List.getElem?_toArray, List.getElem?_cons_succ, List.getElem?_cons_zero]; rfl)
              case te35q => exact fun _ _ _ h => h
              case te35y => (refine Or.inl ⟨by first | kernel_rfl | rfl, ?_⟩; intro w hSw; (try dsimp only at hSw); have d0 := (HDH.out _ hSw).c0; have d2 := (HDH.out _ hSw).c2; have d3 := (HDH.out _ hSw).c3; rw [HNL.out] at d2; go_simp <;> (try with_reducible rfl))
              try simp only [Act.put, List.setIfInBounds_toArray, List.set_cons_zero, List.set_cons_succ]
              refine wpAnyH_take (i := 37) (oi := ?te36o) (v := ?te36v) ?te36h (by kernel_rfl) (by kernel_rfl) (by kernel_rfl) ?te36q ?te36y hHeld ?te36r
              case te36h => (simp only [List.getElem?_toArray, List.getElem?_cons_succ, List.getElem?_cons_zero]; rfl)
              case te36q => exact fun _ _ _ h => h
              case te36y => (refine Or.inl ⟨by first | kernel_rfl | rfl, ?_⟩; intro w hSw; (try dsimp only at hSw); have d0 := (HDH.out _ hSw).c0; have d2 := (HDH.out _ hSw).c2; have d3 := (HDH.out _ hSw).c3; rw [HNL.out] at d2; go_simp <;> (try with_reducible rfl))
              try simp only [Act.put, List.setIfInBounds_toArray, List.set_cons_zero, List.set_cons_succ]
              refine wpAnyH_take (i := 38) (oi := ?te37o) (v := ?te37v) ?te37h (by kernel_rfl) (by kernel_rfl) (by kernel_rfl) ?te37q ?te37y hHeld ?te37r
              case te37h => (simp only [List.getElem?_toArray, List.getElem?_cons_succ, List.getElem?_cons_zero]; rfl)
              case te37q => exact fun _ _ _ h => h
              case te37y => (refine Or.inl ⟨by first | kernel_rfl | rfl, ?_⟩; intro w hSw; (try dsimp only at hSw); have d0 := (HDH.out _ hSw).c0; have d2 := (HDH.out _ hSw).c2; have d3 := (HDH.out _ hSw).c3; rw [HNL.out] at d2; go_simp <;> (try with_reducible rfl))
              try simp only [Act.put, List.setIfInBounds_toArray, List.set_cons_zero, List.set_cons_succ]
              refine wpAnyH_take (i := 39) (oi := ?te38o) (v := ?te38v) ?te38h (by kernel_rfl) (by kernel_rfl) (by kernel_rfl) ?te38q ?te38y hHeld ?te38r
              case te38h => (simp only [List.getElem?_toArray, List.getElem?_cons_succ, List.getElem?_cons_zero]; rfl)
              case te38q => exact fun _ _ _ h => h
              case te38y => (refine Or.inl ⟨by first | kernel_rfl | rfl, ?_⟩; intro w hSw; (try dsimp only at hSw); have d0 := (HDH.out _ hSw).c0; have d2 := (HDH.out _ hSw).c2; have d3 := (HDH.out _ hSw).c3; rw [HNL.out] at d2; go_simp <;> (try with_reducible rfl))
              try simp only [Act.put, List.setIfInBounds_toArray, List.set_cons_zero, List.set_cons_succ]
              refine wpAnyH_ready (rs := [34]) (by kernel_rfl) (by simp) ?_
              refine (AllReadyH.cons rfl (fun K hK => ?_) AllReadyH.nil)
              go_simp
              (go_at_call 29; (with_reducible refine ((HXH.out.later hHeld).Len).mono ?_); rw [HNL.out]; rintro e wJ ⟨rfl, rfl⟩)
              refine hK.out _ _ (hHeld) (fun hHeld => ?_)
              clear hK K
              try simp only [Act.put, List.setIfInBounds_toArray, List.set_cons_zero, List.set_cons_succ]
              refine wpAnyH_take (i := 40) (oi := ?te39o) (v := ?te39v) ?te39h (by kernel_rfl) (by kernel_rfl) (by kernel_rfl) ?te39q ?te39y hHeld ?te39r
              case te39h => (simp only [List.getElem?_toArray, List.getElem?_cons_succ, List.getElem?_cons_zero]; rfl)
              case te39q => exact fun _ _ _ h => h
              case te39y => (refine Or.inl ⟨by first | kernel_rfl | rfl, ?_⟩; intro w hSw; (try dsimp only at hSw); have d0 := (HDH.out _ hSw).c0; have d2 := (HDH.out _ hSw).c2; have d3 := (HDH.out _ hSw).c3; rw [HNL.out] at d2; go_simp <;> (try with_reducible rfl))
              try simp only [Act.put, List.setIfInBounds_toArray, List.set_cons_zero, List.set_cons_succ]
              refine wpAnyH_take (i := 41) (oi := ?te40o) (v := ?te40v) ?te40h (by kernel_rfl) (by kernel_rfl) (by kernel_rfl) ?te40q ?te40y hHeld ?te40r
              case te40h => (simp only [List.getElem?_toArray, List.getElem?_cons_succ, List.getElem?_cons_zero]; rfl)
              case te40q => exact fun _ _ _ h => h
              case te40y => (refine Or.inl ⟨by first | kernel_rfl | rfl, ?_⟩; intro w hSw; (try dsimp only at hSw); have d0 := (HDH.out _ hSw).c0; have d2 := (HDH.out _ hSw).c2; have d3 := (HDH.out _ hSw).c3; rw [HNL.out] at d2; go_simp <;> (try with_reducible rfl))
              try simp only [Act.put, List.setIfInBounds_toArray, List.set_cons_zero, List.set_cons_succ]
              refine wpAnyH_take (i := 42) (oi := ?te41o) (v := ?te41v) ?te41h (by kernel_rfl) (by kernel_rfl) (by kernel_rfl) ?te41q ?te41y hHeld ?te41r
              case te41h => (simp only [List.getElem?_toArray, List.getElem?_cons_succ, List.getElem?_cons_zero]; rfl)
              case te41q => exact fun _ _ _ h => h
              case te41y => (refine Or.inl ⟨by first | kernel_rfl | rfl, ?_⟩; intro w hSw; (try dsimp only at hSw); have d0 := (HDH.out _ hSw).c0; have d2 := (HDH.out _ hSw).c2; have d3 := (HDH.out _ hSw).c3; rw [HNL.out] at d2; go_simp <;> (try with_reducible rfl))
              try simp only [Act.put, List.setIfInBounds_toArray, List.set_cons_zero, List.set_cons_succ]
              refine wpAnyH_take (i := 43) (oi := ?te42o) (v := ?te42v) ?te42h (by kernel_rfl) (by kernel_rfl) (by kernel_rfl) ?te42q ?te42y hHeld ?te42r
              case te42h => (simp only [List.getElem?_toArray, List.getElem?_cons_succ, List.getElem?_cons_zero]; rfl)
              case te42q => exact fun _ _ _ h => h
              case te42y => (refine Or.inl ⟨by first | kernel_rfl | rfl, ?_⟩; intro w hSw; (try dsimp only at hSw); have d0 := (HDH.out _ hSw).c0; have d2 := (HDH.out _ hSw).c2; have d3 := (HDH.out _ hSw).c3; rw [HNL.out] at d2; go_simp <;> (try with_reducible rfl))
              try simp only [Act.put, List.setIfInBounds_toArray, List.set_cons_zero, List.set_cons_succ]
              refine wpAnyH_take (i := 45) (oi := ?te43o) (v := ?te43v) ?te43h (by kernel_rfl) (by kernel_rfl) (by kernel_rfl) ?te43q ?te43y hHeld ?te43r
              case te43h => (simp only [List.getElem?_toArray, List.getElem?_cons_succ, List.getElem?_cons_zero]; rfl)
              case te43q => exact fun _ _ _ h => h
              case te43y => (refine Or.inl ⟨by first | kernel_rfl | rfl, ?_⟩; intro w hSw; (try dsimp only at hSw); have d0 := (HDH.out _ hSw).c0; have d2 := (HDH.out _ hSw).c2; have d3 := (HDH.out _ hSw).c3; rw [HNL.out] at d2; go_simp <;> (try with_reducible rfl))
              try simp only [Act.put, List.setIfInBounds_toArray, List.set_cons_zero, List.set_cons_succ]
              refine wpAnyH_take (i := 46) (oi := ?te44o) (v := ?te44v) ?te44h (by kernel_rfl) (by kernel_rfl) (by kernel_rfl) ?te44q ?te44y hHeld ?te44r
              case te44h => (simp only [List.getElem?_toArray, List.getElem?_cons_succ, List.getElem?_cons_zero]; rfl)
              case te44q => exact fun _ _ _ h => h
              case te44y => (refine Or.inl ⟨by first | kernel_rfl | rfl, ?_⟩; intro w hSw; (try dsimp only at hSw); have d0 := (HDH.out _ hSw).c0; have d2 := (HDH.out _ hSw).c2; have d3 := (HDH.out _ hSw).c3; rw [HNL.out] at d2; go_simp <;> (try with_reducible rfl))
              try simp only [Act.put, List.setIfInBounds_toArray, List.set_cons_zero, List.set_cons_succ]
              refine wpAnyH_take (i := 47) (oi := ?te45o) (v := ?te45v) ?te45h (by kernel_rfl) (by kernel_rfl) (by kernel_rfl) ?te45q ?te45y hHeld ?te45r
              case te45h => (simp only [List.getElem?_toArray, List.getElem?_cons_succ, List.getElem?_cons_zero]; rfl)
              case te45q => exact fun _ _ _ h => h
              case te45y => (refine Or.inl ⟨by first | kernel_rfl | rfl, ?_⟩; intro w hSw; (try dsimp only at hSw); have d0 := (HDH.out _ hSw).c0; have d2 := (HDH.out _ hSw).c2; have d3 := (HDH.out _ hSw).c3; rw [HNL.out] at d2; go_simp <;> (try with_reducible rfl))
              try simp only [Act.put, List.setIfInBounds_toArray, List.set_cons_zero, List.set_cons_succ]
              refine wpAnyH_take (i := 48) (oi := ?te46o) (v := ?te46v) ?te46h (by kernel_rfl) (by kernel_rfl) (by kernel_rfl) ?te46q ?te46y hHeld ?te46r
              case te46h => (simp only [List.getElem?_toArray, List.getElem?_cons_succ, List.getElem?_cons_zero]; rfl)
              case te46q => exact fun _ _ _ h => h
              case te46y => (refine Or.inl ⟨by first | kernel_rfl | rfl, ?_⟩; intro w hSw; (try dsimp only at hSw); have d0 := (HDH.out _ hSw).c0; have d2 := (HDH.out _ hSw).c2; have d3 := (HDH.out _ hSw).c3; rw [HNL.out] at d2; go_simp <;> (try with_reducible rfl))
              try simp only [Act.put, List.setIfInBounds_toArray, List.set_cons_zero, List.set_cons_succ]
              refine wpAnyH_take (i := 49) (oi := ?te47o) (v := ?te47v) ?te47h (by kernel_rfl) (by kernel_rfl) (by kernel_rfl) ?te47q ?te47y hHeld ?te47r
              case te47h => (simp only [List.getElem?_toArray, List.getElem?_cons_succ, List.getElem?_cons_zero]; rfl)
              case te47q => exact fun _ _ _ h => h
              case te47y => (refine Or.inl ⟨by first | kernel_rfl | rfl, ?_⟩; intro w hSw; (try dsimp only at hSw); have d0 := (HDH.out _ hSw).c0; have d2 := (HDH.out _ hSw).c2; have d3 := (HDH.out _ hSw).c3; rw [HNL.out] at d2; go_simp <;> (try with_reducible rfl))
              try simp only [Act.put, List.setIfInBounds_toArray, List.set_cons_zero, List.set_cons_succ]
              refine wpAnyH_take (i := 50) (oi := ?te48o) (v := ?te48v) ?te48h (by kernel_rfl) (by kernel_rfl) (by kernel_rfl) ?te48q ?te48y hHeld ?te48r
              case te48h => (simp only [List.getElem?_toArray, List.getElem?_cons_succ, List.getElem?_cons_zero]; rfl)
              case te48q => exact fun _ _ _ h => h
              case te48y => (refine Or.inl ⟨by first | kernel_rfl | rfl, ?_⟩; intro w hSw; (try dsimp only at hSw); have d0 := (HDH.out _ hSw).c0; have d2 := (HDH.out _ hSw).c2; have d3 := (HDH.out _ hSw).c3; rw [HNL.out] at d2; go_simp <;> (try with_reducible rfl))
              try simp only [Act.put, List.setIfInBounds_toArray, List.set_cons_zero, List.set_cons_succ]
              refine wpAnyH_take (i := 51) (oi := ?te49o) (v := ?te49v) ?te49h (by kernel_rfl) (by kernel_rfl) (by kernel_rfl) ?te49q ?te49y hHeld ?te49r
              case te49h => (simp only [List.getElem?_toArray, List.getElem?_cons_succ, List.getElem?_cons_zero]; rfl)
              case te49q => exact fun _ _ _ h => h
              case te49y => (refine Or.inl ⟨by first | kernel_rfl | rfl, ?_⟩; intro w hSw; (try dsimp only at hSw); have d0 := (HDH.out _ hSw).c0; have d2 := (HDH.out _ hSw).c2; have d3 := (HDH.out _ hSw).c3; rw [HNL.out] at d2; go_simp <;> (try with_reducible rfl))
              try simp only [Act.put, List.setIfInBounds_toArray, List.set_cons_zero, List.set_cons_succ]
              refine wpAnyH_take (i := 52) (oi := ?te50o) (v := ?te50v) ?te50h (by kernel_rfl) (by kernel_rfl) (by kernel_rfl) ?te50q ?te50y hHeld ?te50r
              case te50h => (simp only [List.getElem?_toArray, List.getElem?_cons_succ, List.getElem?_cons_zero]; rfl)
              case te50q => exact fun _ _ _ h => h
              case te50y => (refine Or.inl ⟨by first | kernel_rfl | rfl, ?_⟩; intro w hSw; (try dsimp only at hSw); have d0 := (HDH.out _ hSw).c0; have d2 := (HDH.out _ hSw).c2; have d3 := (HDH.out _ hSw).c3; rw [HNL.out] at d2; go_simp <;> (try with_reducible rfl))
              try simp only [Act.put, List.setIfInBounds_toArray, List.set_cons_zero, List.set_cons_succ]
              refine wpAnyH_take (i := 53) (oi := ?te51o) (v := ?te51v) ?te51h (by kernel_rfl) (by kernel_rfl) (by kernel_rfl) ?te51q ?te51y hHeld ?te51r
              case te51h => (simp only [List.getElem?_toArray, List.getElem?_cons_succ, List.getElem?_cons_zero]; rfl)
              case te51q => exact fun _ _ _ h => h
              case te51y => (refine Or.inl ⟨by first | kernel_rfl | rfl, ?_⟩; intro w hSw; (try dsimp only at hSw); have d0 := (HDH.out _ hSw).c0; have d2 := (HDH.out _ hSw).c2; have d3 := (HDH.out _ hSw).c3; rw [HNL.out] at d2; go_simp <;> (try with_reducible rfl))
              try simp only [Act.put, List.setIfInBounds_toArray, List.set_cons_zero, List.set_cons_succ]
              refine wpAnyH_take (i := 54) (oi := ?te52o) (v := ?te52v) ?te52h (by kernel_rfl) (by kernel_rfl) (by kernel_rfl) ?te52q ?te52y hHeld ?te52r
              case te52h => (simp only [List.getElem?_toArray, List.getElem?_cons_succ, List.getElem?_cons_zero]; rfl)
              case te52q => exact fun _ _ _ h => h
              case te52y => (refine Or.inl ⟨by first | kernel_rfl | rfl, ?_⟩; intro w hSw; (try dsimp only at hSw); have d0 := (HDH.out _ hSw).c0; have d2 := (HDH.out _ hSw).c2; have d3 := (HDH.out _ hSw).c3; rw [HNL.out] at d2; go_simp <;> (try with_reducible rfl))
              try simp only [Act.put, List.setIfInBounds_toArray, List.set_cons_zero, List.set_cons_succ]
              refine wpAnyH_ready (rs := [44]) (by kernel_rfl) (by simp) ?_
              refine (AllReadyH.cons rfl (fun K hK => ?_) AllReadyH.nil)
              go_simp
              (go_at_call 30; (with_reducible refine ((HXH.out.later hHeld).lg.Room).mono ?_); rw [HNL.out]; rintro e wK ⟨rfl, hbK⟩)
              refine hK.out _ _ (bel_next hHeld hbK) (fun hHeld => ?_)
              clear hK K
              try simp only [Act.put, List.setIfInBounds_toArray, List.set_cons_zero, List.set_cons_succ]
              refine wpAnyH_take (i := 55) (oi := ?te53o) (v := ?te53v) ?te53h (by kernel_rfl) (by kernel_rfl) (by kernel_rfl) ?te53q ?te53y hHeld ?te53r
              case te53h => (simp only [List.getElem?_toArray, List.getElem?_cons_succ, List.getElem?_cons_zero]; rfl)
              case te53q => exact fun _ _ _ h => h
              case te53y => (refine Or.inl ⟨by first | kernel_rfl | rfl, ?_⟩; intro w hSw; (try dsimp only at hSw); have d0 := (HDH.out _ hSw).c0; have d2 := (HDH.out _ hSw).c2; have d3 := (HDH.out _ hSw).c3; rw [HNL.out] at d2; go_simp <;> (try with_reducible rfl))
              try simp only [Act.put, List.setIfInBounds_toArray, List.set_cons_zero, List.set_cons_succ]
              refine wpAnyH_take (i := 56) (oi := ?te54o) (v := ?te54v) ?te54h (by kernel_rfl) (by kernel_rfl) (by kernel_rfl) ?te54q ?te54y hHeld ?te54r
              case te54h => (simp only [List.getElem?_toArray, List.getElem?_cons_succ, List.getElem?_cons_zero]; rfl)
              case te54q => exact fun _ _ _ h => h
              case te54y => (refine Or.inl ⟨by first | kernel_rfl | rfl, ?_⟩; intro w hSw; (try dsimp only at hSw); have d0 := (HDH.out _ hSw).c0; have d2 := (HDH.out _ hSw).c2; have d3 := (HDH.out _ hSw).c3; rw [HNL.out] at d2; go_simp <;> (try with_reducible rfl))
              try simp only [Act.put, List.setIfInBounds_toArray, List.set_cons_zero, List.set_cons_succ]
              refine wpAnyH_done (by kernel_rfl) ?_ _

              have HFIN := Lib.hid ((HXH.out.later hHeld).less (H' := noH) (fun q hq => hq.elim))
              go_wp2
              go_roundw
              case rel => exact ⟨k + 1, S, by omega, by go_num, HFIN⟩
              case measure => simp [intOf]; omega
end originPlays
end Go.Proofs.Ythbajlfkgbfkgaa.Og
