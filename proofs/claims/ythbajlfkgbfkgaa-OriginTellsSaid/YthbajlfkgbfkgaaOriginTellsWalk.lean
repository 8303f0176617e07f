/- OriginTells. -/
import Derived.Test.YthbajlfkgbfkgaaOgTwo
import Derived.Deep.CutRange
set_option maxRecDepth 200000
set_option linter.unusedSimpArgs false
set_option linter.unusedVariables false
namespace Go.Proofs.Ythbajlfkgbfkgaa.Og
open Go.RowKit Go.Proofs.Ythbajlfkgbfkgaa.Vi Go.Proofs.Ythbajlfkgbfkgaa.Mk
theorem and7 (n : Int) : bits .and .i64 n 7 = n % 8 := by
  have h7 : (BitVec.ofInt 64 7).toNat = 2 ^ 3 - 1 := by decide
  have key : (BitVec.ofInt 64 n &&& BitVec.ofInt 64 7).toNat = (n % ((2 ^ 64 : Nat) : Int)).toNat % 2 ^ 3 := by
    rw [BitVec.toNat_and, BitVec.toNat_ofInt, h7, Nat.and_two_pow_sub_one_eq_mod]
  show IntKind.i64.wrap ((BitVec.ofInt 64 n &&& BitVec.ofInt 64 7).toNat : Nat) = n % 8
  rw [key, IntKind.wrap_i64]
  omega
def AllFit (S : OS) : Prop := ∀ r ∈ S.L, r.fits
theorem AllFit.add {S : OS} (h : AllFit S) {r : Rec} (hf : r.fits) : AllFit (addS S r) := by
  by_cases e : addE S r = 0
  · rw [addS_yes e]
    intro x hx
    rcases List.mem_append.1 hx with hx | hx
    · exact h x hx
    · rw [List.mem_singleton] at hx; subst hx; exact hf
  · rw [addS_no e]; exact h
namespace originTells
structure TeJ (H : Nat → Prop) (w wK wT W : World) (b : Nat) (S : OS) (b2 j i : Nat) : Prop where
  two : Two (fun q => H q ∨ (wK.heap.size ≤ q ∧ q < wT.heap.size)) w W b S b2 (preS S (j + i))
  same : ∀ q, wK.heap.size ≤ q → q < wT.heap.size → W.heap[q]? = wT.heap[q]?
  sz : wT.heap.size ≤ W.heap.size
set_option maxHeartbeats 16000000 in
theorem walk (a : Option Addr) (len cap : Nat) (most : Int) (w : World) (hA : ArgGOps w a len cap) (hmost : -9223372036854775808 ≤ most ∧ most ≤ 9223372036854775807) : Calls Try.prog 5 #[.slice a len cap, .int .i64 most] w fun e w' => e = .returned (.bool true) ∧ Below w.heap.size w w' := by
  obtain ⟨ops, rfl, hat, hlen, hfit⟩ := hA.has
  have HFIT := Lib.hid hfit
  have HAT0 := Lib.hid hat
  have ka := awake_is w
  obtain ⟨n, hn⟩ : ∃ n, ops.length = n := ⟨_, rfl⟩
  rw [hn] at hlen ⊢
  have HN := Lib.hid hn
  have HG0 := Lib.hid (Grew0.new (room := 400) (by omega))
  clear hfit hat hA hn
  go_enter Try.func5, Try.ntmps5
  go_wp2_with (first
    | (go_at_call 8; (with_reducible refine ka.mono ?_); rintro e w1 ⟨rfl, hb1⟩; (have HB1 := Lib.hid hb1); clear hb1)
    | (go_at_call 10; (with_reducible refine (Two.made HLA.out 400).mono ?_); rintro e w3 ⟨b2, rfl, hT3⟩; (have HL0 := Lib.hid hT3); clear hT3)
    | (go_at_call 10; (with_reducible refine (Lg.New HB1.out 400).mono ?_); rintro e w2 ⟨b, rfl, hL2, hb2, -⟩; (have HLA := Lib.hid hL2); clear hL2 hb2))
  go_loopw [8] (fun i wr => ∃ (k : Nat) (S : OS), k ≤ 60 ∧ i = .int .i64 (k : Int) ∧ Hid (Two noH w wr b S b2 (newS 400 [])) ∧ Hid (Grew0 S 400 k) ∧ Hid (AllFit S)) (fun i _ => 60 - (intOf i).toNat)
  case atStart => exact ⟨0, _, by omega, rfl, HL0, HG0, Lib.hid (show AllFit (newS 400 []) from fun r hr => by cases hr)⟩
  case round =>
  obtain ⟨k, S, hk, rfl, HL, HG, HFA⟩ := hrel
  clear HL0 HG0
  obtain ⟨w8, hw8⟩ : ∃ x, x = wr := ⟨_, rfl⟩
  subst hw8
  obtain ⟨z, hz⟩ : ∃ z, decide (k < n ∧ k < 60) = z := ⟨_, rfl⟩
  go_upto_region 7 with fail
  go_cut [34] from 27 to 67 (fun v wx => v = .bool z ∧ w8 = wx)
  case first =>
    by_cases hk1 : k < n
    · have hx1 : (k : Int) < (n : Int) := by omega
      by_cases hk2 : k < 60
      · have hx2 : (k : Int) < 60 := by omega
        obtain rfl : z = true := by rw [← hz]; exact decide_eq_true ⟨hk1, hk2⟩
        clear hz
        go_wp2
        go_meet
        exact ⟨rfl, rfl⟩
      · have hx2 : ¬ (k : Int) < 60 := by omega
        obtain rfl : z = false := by rw [← hz]; exact decide_eq_false fun h => hk2 h.2
        clear hz
        go_wp2
        go_meet
        exact ⟨rfl, rfl⟩
    · have hx1 : ¬ (k : Int) < (n : Int) := by omega
      obtain rfl : z = false := by rw [← hz]; exact decide_eq_false fun h => hk1 h.1
      clear hz
      go_wp2
      go_meet
      exact ⟨rfl, rfl⟩
  case rest =>
  obtain ⟨rfl, rfl⟩ := hcut
  obtain ⟨wr, hwr0⟩ : ∃ x, x = w8 := ⟨_, rfl⟩
  subst hwr0
  cases z with
  | true =>
    obtain ⟨hlt1, hlt60⟩ := of_decide_eq_true hz
    clear hz
    have hkl : k < ops.length := by rw [HN.out]; exact hlt1
    rcases HAT0.out with h0 | ⟨g, off, rfl, hgw, hops⟩
    · rw [h0] at hkl; simp at hkl
    · have HBr := Lib.hid HL.out.bel
      have HG1 := Lib.hid HG.out.add
      have hx := hops k hkl
      have hfx := HFIT.out _ (List.getElem_mem hkl)
      obtain ⟨x, hxe⟩ : ∃ x, ops[k] = x := ⟨_, rfl⟩
      rw [hxe] at hx hfx
      have hx := hx.below HBr.out hgw
      have HF := Lib.hid hfx
      clear hfx
      obtain ⟨ok, om, of, ⟨⟨rk, rs, rt, rv, rtier, ⟨rc, rst, rq⟩, rd⟩, ra, rcc⟩, oV, oa, oc⟩ := x
      obtain ⟨x0, x1, x2, x3, x4, x5, x6, x7, x8, x9, x10, x11, x12⟩ := hx
      dsimp only at x0 x1 x2 x3 x4 x5 x6 x7 x8 x9 x10 x11 x12
      obtain ⟨s6, hs6⟩ : ∃ s6, cutB rs 60 = s6 := ⟨_, rfl⟩
      obtain ⟨d12, hd12⟩ : ∃ d12, rd.take 12 = d12 := ⟨_, rfl⟩
      have HS6 := Lib.hid hs6
      have HD12 := Lib.hid hd12
      have HALO := Lib.hid (Below.refl wr.heap.size wr)
      have HSM := Lib.hid (small_lit rk rt rv rtier rc rst rq rs s6 rd d12 ra rcc wr (ArgNs.later HF.out.d HBr.out) HF.out.rc.s HS6 HD12)
      have hst := HF.out.rc.ss
      dsimp only at hst
      have HFITS := Lib.hid (show Rec.fits ⟨rk, s6, rt, rv, rtier, ⟨rc, rst, rq⟩, d12⟩ from by have h8 := Rd.small_fits (x := ⟨⟨rk, rs, rt, rv, rtier, ⟨rc, rst, rq⟩, rd⟩, ra, rcc⟩) HF.out.rc; unfold Rd.small Rec.small at h8; dsimp only at h8; rw [hs6, hd12] at h8; exact h8)
      have HS60 := Lib.hid (show s6.size ≤ 60 by rw [← hs6]; exact cutB_len _ _)
      have HL12 := Lib.hid (show d12.length ≤ 12 by rw [← hd12, List.length_take]; omega)
      clear hs6 hd12 hxe
      clear hops hgw
      by_cases h1 : 0 ≤ rst
      · have g1 : decide (0 ≤ rst) = true := decide_eq_true h1
        by_cases h2 : rst < 8
        · have g2 : decide (rst < 8) = true := decide_eq_true h2
          obtain ⟨y, hy⟩ : ∃ y, atL S.know rst = y := ⟨_, rfl⟩
          have hyb := atL_bounds S.know rst
          rw [hy] at hyb
          have hwr : IntKind.i64.wrap (y + 1) = y + 1 := by rw [IntKind.wrap_i64]; omega
          have HY := Lib.hid hy
          clear hy hyb
          go_wp2_with (first
            | (go_at_call 17; (with_reducible refine HSM.out.mono ?_); rintro e wS ⟨rfl, hnS, hbS⟩
               have HNS := Lib.hid hnS
               have HBS := Lib.hid (bel_next HALO.out hbS)
               replace HL := Lib.hid (HL.out.later (bel_next HALO.out hbS))
               have halq := (Below.refl wS.heap.size wS).alloc (Nat.le_refl _) (box9 ⟨⟨rk, s6, rt, rv, rtier, ⟨rc, rst, rq⟩, d12⟩, ra, rcc⟩)
               have HALQ := Lib.hid halq
               have HQ := Lib.hid (RecW.new wS ⟨rk, s6, rt, rv, rtier, ⟨rc, rst, rq⟩, d12⟩ (.slice ra d12.length rcc))
               clear hnS hbS halq)
            | (go_at_call 26; (with_reducible refine ((HL.out.later HALQ.out).Know).mono ?_); rintro e wK ⟨vK, rfl, hnK, hbK, hfK⟩
               obtain ⟨aK, cK, rfl⟩ := hnK.slice
               have HNK := Lib.hid hnK
               have HBK := Lib.hid (bel_next HALQ.out hbK)
               have HFK := Lib.hid (show ∀ q, (Value.slice aK S.know.length cK).ownBlock = some q → wS.heap.size < q from fun q hq => by have := (hfK q hq).1; rw [World.size_alloc] at this; omega)
               have hqk := HQ.out.below hbK
               have HQK := Lib.hid hqk
               obtain ⟨⟨y0, y1, y2, y3, y4, y5, y6, y7, y8⟩, -, -, -, -, -, -, -, -, -⟩ := hqk
               dsimp only at y0 y1 y2 y3 y4 y5 y6 y7 y8
               have HAT := Lib.hid (rat_is _ S.know rst wK hnK)
               clear hnK hbK hfK)
            | (go_at_call 19; (with_reducible refine (HAT.out).mono ?_); rintro e wA ⟨rfl, hbA⟩
               rw [HY.out]
               have HBA := Lib.hid (bel_next HBK.out hbA)
               have HNA := Lib.hid (Ns.later HNK.out hbA)
               have hqa := HQK.out.below hbA
               obtain ⟨⟨z0, z1, z2, z3, z4, z5, z6, z7, z8⟩, f0, f1, f2, f3, f4, f5, f6, f7, f8⟩ := hqa
               dsimp only at z0 z1 z2 z3 z4 z5 z6 z7 z8
               have hb2 := (HBA.out.setCell (p := ⟨wS.heap.size, 7, none⟩) (Nat.le_refl _) (.int .i64 (y + 1))).setCell (p := ⟨wS.heap.size, 8, none⟩) (Nat.le_refl _) (.slice aK S.know.length cK)
               have hne : ∀ q, (Value.slice aK S.know.length cK).ownBlock = some q → q ≠ wS.heap.size := fun q hq e => by have := HFK.out q hq; omega
               have HADD := Lib.hid ((HL.out.later hb2).AddR ⟨⟨rk, s6, rt, rv, rtier, ⟨rc, rst, y + 1⟩, S.know⟩, aK, cK⟩ (Ns.set (Ns.set HNA.out wS.heap.size 7 (.int .i64 (y + 1)) hne) wS.heap.size 8 (.slice aK S.know.length cK) hne) ⟨HFITS.out.k, HFITS.out.s, HFITS.out.t, HFITS.out.v, HFITS.out.tier, HFITS.out.ss⟩ (by have := HS60.out; dsimp only; omega) (by have := know_len HL.out.good; dsimp only; omega))
               clear hbA hb2 hne)
            | (go_at_call 20; (with_reducible refine (HADD.out).mono ?_); rintro e wE ⟨rfl, hLE⟩; (have HLE := Lib.hid hLE); clear hLE))
          go_roundw
          case rel => exact ⟨k + 1, _, by omega, by go_num, HLE, Lib.hid (HG1.out _), Lib.hid (HFA.out.add (by first | exact HFITS.out | exact ⟨HFITS.out.k, HFITS.out.s, HFITS.out.t, HFITS.out.v, HFITS.out.tier, HFITS.out.ss⟩))⟩
          case measure => simp [intOf]; omega
        · have g2 : decide (rst < 8) = false := decide_eq_false h2
          clear h2
          go_wp2_with (first
            | (go_at_call 17; (with_reducible refine HSM.out.mono ?_); rintro e wS ⟨rfl, hnS, hbS⟩
               have HNS := Lib.hid hnS
               have HBS := Lib.hid (bel_next HALO.out hbS)
               replace HL := Lib.hid (HL.out.later (bel_next HALO.out hbS))
               have halq := (Below.refl wS.heap.size wS).alloc (Nat.le_refl _) (box9 ⟨⟨rk, s6, rt, rv, rtier, ⟨rc, rst, rq⟩, d12⟩, ra, rcc⟩)
               have HALQ := Lib.hid halq
               have HQ := Lib.hid (RecW.new wS ⟨rk, s6, rt, rv, rtier, ⟨rc, rst, rq⟩, d12⟩ (.slice ra d12.length rcc))
               clear hnS hbS halq)
            | (go_at_call 20; (with_reducible refine ((HL.out.later HALQ.out).AddR ⟨⟨rk, s6, rt, rv, rtier, ⟨rc, rst, rq⟩, d12⟩, ra, rcc⟩ (Ns.later HNS.out HALQ.out) HFITS.out (by have := HS60.out; dsimp only; omega) (by have := HL12.out; dsimp only; omega)).mono ?_); rintro e wE ⟨rfl, hLE⟩; (have HLE := Lib.hid hLE); clear hLE))
          go_roundw
          case rel => exact ⟨k + 1, _, by omega, by go_num, HLE, Lib.hid (HG1.out _), Lib.hid (HFA.out.add (by first | exact HFITS.out | exact ⟨HFITS.out.k, HFITS.out.s, HFITS.out.t, HFITS.out.v, HFITS.out.tier, HFITS.out.ss⟩))⟩
          case measure => simp [intOf]; omega
      · have g1 : decide (0 ≤ rst) = false := decide_eq_false h1
        clear h1
        go_wp2_with (first
          | (go_at_call 17; (with_reducible refine HSM.out.mono ?_); rintro e wS ⟨rfl, hnS, hbS⟩
             have HNS := Lib.hid hnS
             have HBS := Lib.hid (bel_next HALO.out hbS)
             replace HL := Lib.hid (HL.out.later (bel_next HALO.out hbS))
             have halq := (Below.refl wS.heap.size wS).alloc (Nat.le_refl _) (box9 ⟨⟨rk, s6, rt, rv, rtier, ⟨rc, rst, rq⟩, d12⟩, ra, rcc⟩)
             have HALQ := Lib.hid halq
             have HQ := Lib.hid (RecW.new wS ⟨rk, s6, rt, rv, rtier, ⟨rc, rst, rq⟩, d12⟩ (.slice ra d12.length rcc))
             clear hnS hbS halq)
          | (go_at_call 20; (with_reducible refine ((HL.out.later HALQ.out).AddR ⟨⟨rk, s6, rt, rv, rtier, ⟨rc, rst, rq⟩, d12⟩, ra, rcc⟩ (Ns.later HNS.out HALQ.out) HFITS.out (by have := HS60.out; dsimp only; omega) (by have := HL12.out; dsimp only; omega)).mono ?_); rintro e wE ⟨rfl, hLE⟩; (have HLE := Lib.hid hLE); clear hLE))
        go_roundw
        case rel => exact ⟨k + 1, _, by omega, by go_num, HLE, Lib.hid (HG1.out _), Lib.hid (HFA.out.add (by first | exact HFITS.out | exact ⟨HFITS.out.k, HFITS.out.s, HFITS.out.t, HFITS.out.v, HFITS.out.tier, HFITS.out.ss⟩))⟩
        case measure => simp [intOf]; omega
  | false =>
    clear hz
    obtain ⟨nl, hnl⟩ : ∃ nl, S.L.length = nl := ⟨_, rfl⟩
    have hnl6 : nl ≤ 60 := by have := HG.out.len; omega
    have HNL := Lib.hid hnl
    clear hnl
    obtain ⟨m8, hm8⟩ : ∃ m8 : Nat, most % 8 = (m8 : Int) := ⟨(most % 8).toNat, by omega⟩
    have hand := and7 most
    rw [hm8] at hand
    have hm8' : m8 < 8 := by omega
    obtain ⟨n0, hn0⟩ : ∃ n0, 1 + m8 = n0 := ⟨_, rfl⟩
    have hwr1 : IntKind.i64.wrap (1 + (m8 : Int)) = (n0 : Int) := by rw [IntKind.wrap_i64]; omega
    have hn8 : 1 ≤ n0 ∧ n0 ≤ 8 := by omega
    clear hm8 hn0 hm8'
    obtain ⟨nn, hnn⟩ : ∃ nn, min n0 7 = nn := ⟨_, rfl⟩
    obtain ⟨w3, hw3⟩ : ∃ x, x = wr := ⟨_, rfl⟩
    subst hw3
    go_upto_if 72 with fail
    go_cut [11] from 73 (fun v wx => v = .int .i64 (nn : Int) ∧ w3 = wx)
    case first =>
      by_cases h7 : n0 = 8
      · obtain rfl : nn = 7 := by omega
        have g7 : (7 : Int) < (n0 : Int) := by omega
        clear h7 hn8 hnn
        go_wp2
        go_meet
        exact ⟨rfl, rfl⟩
      · obtain rfl : nn = n0 := by omega
        have g7 : ¬ (7 : Int) < (nn : Int) := by omega
        clear h7 hn8 hnn
        go_wp2
        go_meet
        exact ⟨rfl, rfl⟩
    case rest =>
    obtain ⟨rfl, rfl⟩ := hcut
    have hn1 : 1 ≤ nn := by omega
    have hn7 : nn ≤ 7 := by omega
    clear hn8
    have HTW0 := Lib.hid (show Two noH w w3 b S b2 (preS S 0) from by rw [preS_zero]; exact HL.out)
    clear hand hwr1 hnn HL
    go_wp2
    go_loopw [12] (fun i wr => ∃ (t j : Nat), t ≤ 70 ∧ i = .int .i64 (t : Int) ∧ j ≤ nl ∧ min t nl ≤ j ∧ Hid (Two noH w wr b S b2 (preS S j))) (fun i _ => 70 - (intOf i).toNat)
    case atStart => exact ⟨0, 0, by omega, rfl, by omega, by omega, HTW0⟩
    case round =>
    obtain ⟨t, j, ht, rfl, hjn, hmin, HTW⟩ := hrel
    clear HTW0
    obtain ⟨w4, hw4⟩ : ∃ x, x = wr := ⟨_, rfl⟩
    subst hw4
    by_cases ht7 : t < 70
    · have ht2 : (t : Int) < 70 := by omega
      obtain ⟨m1, hm1⟩ : ∃ m1, min nn (nl - j) = m1 := ⟨_, rfl⟩
      have hm1n : m1 ≤ nn := by omega
      have g1 : decide ((nn : Int) < (m1 : Int)) = false := decide_eq_false (by omega)
      have g2 : decide (nn < m1) = false := decide_eq_false (by omega)
      obtain ⟨L9, hL9⟩ : ∃ L9, (S.L.drop j).take nn = L9 := ⟨_, rfl⟩
      have hl9 : L9.length = m1 := by rw [← hL9, List.length_take, List.length_drop, HNL.out]; exact hm1
      have HL9 := Lib.hid hL9
      have HM1 := Lib.hid hm1
      have HML := Lib.hid hl9
      have kK := HTW.out.swap.Know
      have HMIN := Lib.hid hmin
      have HJN := Lib.hid hjn
      clear hL9 hm1 hl9 hmin hjn
      go_wp2_with (first
        | (go_at_call 26; (with_reducible refine kK.mono ?_); rintro e wK ⟨vK, rfl, hnK, hbK, -⟩
           have HTK := Lib.hid (HTW.out.later hbK)
           have kA := HTK.out.one.After vK (preS S j).know hnK (nn : Int)
           clear hnK hbK kK)
        | (go_at_call 14; (with_reducible refine kA.mono ?_); rintro e wT ⟨vT, rfl, hrT, hbT⟩
           rw [preS_told HG.out HTK.out.good (by rw [HNL.out]; exact HJN.out), Int.toNat_natCast, HL9.out] at hrT
           rw [show covL (preS S j).know S.base = true from by rw [HG.out.base]; exact cov_nil _]
           obtain ⟨aT, cT, rfl⟩ := hrT.slice
           rw [HML.out]
           have HRT := Lib.hid hrT
           have HT0 := Lib.hid (show TeJ noH w wK wT wT b S b2 j 0 from ⟨HTK.out.hold hbT, fun q _ _ => rfl, Nat.le_refl _⟩)
           clear hrT hbT kA))
      go_loopw [15] (fun i wr => ∃ (i0 : Nat), i0 ≤ m1 ∧ i = .int .i64 (i0 : Int) ∧ Hid (TeJ noH w wK wT wr b S b2 j i0)) (fun i _ => m1 - (intOf i).toNat)
      case atStart => exact ⟨0, by omega, rfl, HT0⟩
      case round =>
      obtain ⟨i0, hi0, rfl, HJ⟩ := hrel
      clear HT0
      obtain ⟨w5, hw5⟩ : ∃ x, x = wr := ⟨_, rfl⟩
      subst hw5
      by_cases hlt : i0 < m1
      · have hlt2 : (i0 : Int) < (m1 : Int) := by omega
        have hi9 : i0 < L9.length := by rw [HML.out]; exact hlt
        have hjl : j + i0 < S.L.length := by have h7 := HM1.out; rw [HNL.out]; omega
        have hrw := HRT.out.other HJ.out.sz (fun g h1 h2 => HJ.out.same g h1 h2)
        obtain ⟨ys, hy1, hy2, hy3⟩ := hrw.has
        have hjy : i0 < ys.length := by rw [← List.length_map (f := Rd.r), hy2]; exact hi9
        obtain ⟨g2, off2, rfl, -, -, hgl2, hcs2⟩ := (show ORow w5 wK.heap.size (.slice aT L9.length cT) ys from hy1).cell (by omega)
        have hr9 := hcs2 i0 hjy
        obtain ⟨z, hz⟩ : ∃ z, ys[i0] = z := ⟨_, rfl⟩
        have hzr : z.r = S.L[j + i0] := by
          have e1 : (ys.map Rd.r)[i0]'(by rw [List.length_map]; exact hjy) = L9[i0] := by simp only [hy2]
          have e2 : L9[i0] = S.L[j + i0] := by simp only [← HL9.out, List.getElem_take, List.getElem_drop]
          rw [← e2, ← e1, List.getElem_map, hz]
        have hzn : Ns w5 z.dv z.r.d := by rw [← hz]; exact (hy3 _ (List.getElem_mem hjy)).1
        rw [hz] at hr9
        have hok := HJ.out.two.good.ok z.r (by rw [hzr]; exact List.getElem_mem hjl)
        have hE := preS_addE HG.out HJ.out.two.good hk hjl
        have hS := preS_addS HG.out HJ.out.two.good hk hjl
        rw [← hzr] at hE hS
        have hnm := Rec.ok_name hok
        have hdl := Rec.ok_deps hok
        have hfit := HFA.out z.r (by rw [hzr]; exact List.getElem_mem hjl)
        have kAdd := HJ.out.two.swap.Add z hzn hfit (by omega) (by omega)
        obtain ⟨⟨zk, zss, zt, zv, ztier, ⟨zc, zst, zq⟩, zd⟩, za, zcc⟩ := z
        dsimp only at *
        obtain ⟨x0, x1, x2, x3, x4, x5, x6, x7, x8⟩ := hr9
        dsimp only at x0 x1 x2 x3 x4 x5 x6 x7 x8
        have HE := Lib.hid hE
        have HSS := Lib.hid hS
        have HLT := Lib.hid hlt
        clear hrw hy1 hy2 hy3 hcs2 hgl2 hz hzr hzn hok hE hS hnm hdl hfit hi9 hjl hjy
        go_wp2_with (first
          | (go_at_call 20; (with_reducible refine kAdd.mono ?_); rintro e w6 ⟨rfl, hT6, hs6, hz6⟩
             rw [HE.out]
             try dsimp only at hT6
             rw [HSS.out] at hT6
             have HJ6 := Lib.hid (show TeJ noH w wK wT w6 b S b2 j (i0 + 1) from ⟨hT6.swap, fun q h1 h2 => (hs6 q (Or.inr ⟨h1, h2⟩)).trans (HJ.out.same q h1 h2), Nat.le_trans HJ.out.sz hz6⟩)
             clear hT6 hs6 hz6))
        go_roundw
        case rel => exact ⟨i0 + 1, HLT.out, by go_num, HJ6⟩
        case measure => have := HLT.out; simp [intOf]; omega
      · obtain rfl : i0 = m1 := by omega
        have hlt2 : ¬ (i0 : Int) < (i0 : Int) := by omega
        replace HTW := Lib.hid (HJ.out.two.less (H' := noH) (fun q hq => hq.elim))
        clear hlt
        by_cases hm0 : i0 = 0
        · subst hm0
          have HNL9 := Lib.hid (show preS S (j + 0) = preS S S.L.length from by rw [HNL.out]; congr 1; have h7 := HM1.out; have h8 := HJN.out; omega)
          rw [HNL9.out] at HTW
          rw [preS_all HG.out] at HTW
          have kA1 := HTW.out.one.All
          go_wp2_with (first
            | (go_at_call 24; (with_reducible refine kA1.mono ?_); rintro e wA ⟨vA, rfl, hrA, hbA⟩
               obtain ⟨aA, cA, rfl⟩ := hrA.slice
               have HRA := Lib.hid hrA
               replace HTW := Lib.hid (HTW.out.later hbA)
               have kA2 := HTW.out.two.All
               clear hrA hbA kA1)
            | (go_at_call 24; (with_reducible refine kA2.mono ?_); rintro e wB ⟨vB, rfl, hrB, hbB⟩
               obtain ⟨aB, cB, rfl⟩ := hrB.slice
               have kS := rsame17 aA aB cA cB S.L wB ((HRA.out.later hbB).rd) (hrB.rd) (by have := HG.out.len; omega)
               replace HTW := Lib.hid (HTW.out.later hbB)
               clear hrB hbB kA2)
            | (go_at_call 16; (with_reducible refine kS.mono ?_); rintro e wC ⟨rfl, hbC⟩
               replace HTW := Lib.hid (HTW.out.later hbC)
               have kK1 := HTW.out.one.Know
               clear hbC kS)
            | (go_at_call 26; (with_reducible refine kK1.mono ?_); rintro e wD ⟨vD, rfl, hnD, hbD, -⟩
               have HND := Lib.hid hnD
               replace HTW := Lib.hid (HTW.out.later hbD)
               have kK2 := HTW.out.two.Know
               clear hnD hbD kK1)
            | (go_at_call 26; (with_reducible refine kK2.mono ?_); rintro e wE ⟨vE, rfl, hnE, hbE, -⟩
               have kS2 := rsameN vD vE S.know S.know wE (Ns.later HND.out hbE) hnE
               rw [sameL_self] at kS2
               replace HTW := Lib.hid (HTW.out.later hbE)
               clear hnE hbE kK2)
            | (go_at_call 25; (with_reducible refine kS2.mono ?_); rintro e wF ⟨rfl, hbF⟩
               replace HTW := Lib.hid (HTW.out.later hbF)
               have kC1 := HTW.out.one.Clock
               have kC2 := HTW.out.two.Clock
               clear hbF kS2)
            | (go_at_call 28; (with_reducible refine kC1.mono ?_); rintro e wG ⟨rfl, rfl⟩)
            | (go_at_call 28; (with_reducible refine kC2.mono ?_); rintro e wH ⟨rfl, rfl⟩))
          go_ret
          exact ⟨by first | rfl | (simp; done), HTW.out.bel⟩
        · have g3 : ((i0 : Int) == 0) = false := by simpa using hm0
          have HM0 := Lib.hid hm0
          have HT7 := Lib.hid ht7
          clear hm0
          go_wp2
          go_roundw
          case rel => exact ⟨t + 1, j + i0, HT7.out, by go_num, by have h7 := HM1.out; have h8 := HJN.out; omega, by have h6 := HM0.out; have h7 := HM1.out; have h8 := HMIN.out; omega, HTW⟩
          case measure => have := HT7.out; simp [intOf]; omega
    · have ht2 : ¬ (t : Int) < 70 := by omega
      have HNL9 := Lib.hid (show preS S j = preS S S.L.length from by rw [HNL.out]; congr 1; omega)
      clear ht7
      rw [HNL9.out] at HTW
      rw [preS_all HG.out] at HTW
      have kA1 := HTW.out.one.All
      go_wp2_with (first
        | (go_at_call 24; (with_reducible refine kA1.mono ?_); rintro e wA ⟨vA, rfl, hrA, hbA⟩
           obtain ⟨aA, cA, rfl⟩ := hrA.slice
           have HRA := Lib.hid hrA
           replace HTW := Lib.hid (HTW.out.later hbA)
           have kA2 := HTW.out.two.All
           clear hrA hbA kA1)
        | (go_at_call 24; (with_reducible refine kA2.mono ?_); rintro e wB ⟨vB, rfl, hrB, hbB⟩
           obtain ⟨aB, cB, rfl⟩ := hrB.slice
           have kS := rsame17 aA aB cA cB S.L wB ((HRA.out.later hbB).rd) (hrB.rd) (by have := HG.out.len; omega)
           replace HTW := Lib.hid (HTW.out.later hbB)
           clear hrB hbB kA2)
        | (go_at_call 16; (with_reducible refine kS.mono ?_); rintro e wC ⟨rfl, hbC⟩
           replace HTW := Lib.hid (HTW.out.later hbC)
           have kK1 := HTW.out.one.Know
           clear hbC kS)
        | (go_at_call 26; (with_reducible refine kK1.mono ?_); rintro e wD ⟨vD, rfl, hnD, hbD, -⟩
           have HND := Lib.hid hnD
           replace HTW := Lib.hid (HTW.out.later hbD)
           have kK2 := HTW.out.two.Know
           clear hnD hbD kK1)
        | (go_at_call 26; (with_reducible refine kK2.mono ?_); rintro e wE ⟨vE, rfl, hnE, hbE, -⟩
           have kS2 := rsameN vD vE S.know S.know wE (Ns.later HND.out hbE) hnE
           rw [sameL_self] at kS2
           replace HTW := Lib.hid (HTW.out.later hbE)
           clear hnE hbE kK2)
        | (go_at_call 25; (with_reducible refine kS2.mono ?_); rintro e wF ⟨rfl, hbF⟩
           replace HTW := Lib.hid (HTW.out.later hbF)
           have kC1 := HTW.out.one.Clock
           have kC2 := HTW.out.two.Clock
           clear hbF kS2)
        | (go_at_call 28; (with_reducible refine kC1.mono ?_); rintro e wG ⟨rfl, rfl⟩)
        | (go_at_call 28; (with_reducible refine kC2.mono ?_); rintro e wH ⟨rfl, rfl⟩))
      go_ret
      exact ⟨by first | rfl | (simp; done), HTW.out.bel⟩
end originTells
end Go.Proofs.Ythbajlfkgbfkgaa.Og
