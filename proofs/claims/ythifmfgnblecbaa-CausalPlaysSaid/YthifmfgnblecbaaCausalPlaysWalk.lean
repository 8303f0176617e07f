/- CausalPlays. -/
import Derived.Test.YthifmfgnblecbaaCbCp
import Derived.Test.YthifmfgnblecbaaCbOps
import Derived.Test.YthifmfgnblecbaaCbLit
import Derived.Test.YthifmfgnblecbaaCbAwake
import Derived.Deep.CutRange
set_option maxRecDepth 200000
set_option linter.unusedSimpArgs false
set_option linter.unusedVariables false
namespace Go.Proofs.Ythifmfgnblecbaa.Og.Cb
open Go.RowKit Go.Maps Go.Proofs.Ythifmfgnblecbaa.Vi Go.Proofs.Ythifmfgnblecbaa.Mk

namespace causalPlays
set_option maxHeartbeats 64000000 in
theorem walk (room : Int) (a1 : Option Addr) (len1 cap1 : Nat) (a : Option Addr) (len cap : Nat) (w : World) (hr : -9223372036854775808 ≤ room ∧ room ≤ 9223372036854775807) (hI : ArgInts w a1 len1 cap1) (hA : ArgKOps w a len cap) : Calls Try.prog 3 #[.int .i64 room, .slice a1 len1 cap1, .slice a len cap] w fun e w' => e = .returned (.bool true) ∧ Below w.heap.size w w' := by
  obtain ⟨l1, hl1⟩ := argNs_of hI
  obtain ⟨a1', c1', e1⟩ := hl1.ns.slice
  injection e1 with e1 e2 e3
  subst e1 e2 e3
  obtain ⟨b12, hb12⟩ : ∃ b12, l1.take 12 = b12 := ⟨_, rfl⟩
  have HB12 := Lib.hid hb12
  have HL1 := Lib.hid hl1
  obtain ⟨ops, rfl, hat, hlen, hfit⟩ := hA.has
  have HFIT := Lib.hid hfit
  have HAT0 := Lib.hid hat
  have ka := awake_is w
  obtain ⟨n, hn⟩ : ∃ n, ops.length = n := ⟨_, rfl⟩
  rw [hn] at hlen ⊢
  have HN := Lib.hid hn
  clear hfit hat hA hn hI hl1 hb12
  go_enter Try.func3, Try.ntmps3
  go_wp2_with (first
    | (go_at_call 8; (with_reducible refine ka.mono ?_); rintro e w1 ⟨rfl, hb1⟩; (have HB1 := Lib.hid hb1); clear hb1)
    | (go_at_call 10; (with_reducible refine (few_lit a1 cap1 l1 b12 _ (args_later HL1.out HB2.out) HB12).mono ?_); rintro e wF ⟨rfl, hnF, rfl⟩; (have HNB2 := Lib.hid hnF); clear hnF)
    | (go_at_call 10; (with_reducible refine (few_lit a1 cap1 l1 b12 _ (args_later HL1.out HB1.out) HB12).mono ?_); rintro e wF ⟨rfl, hnF, rfl⟩; (have HNB := Lib.hid hnF); clear hnF)
    | (go_at_call 11; (with_reducible refine (enew_is room _ b12 _ HNB2.out).mono ?_); rintro e w3 ⟨c, ov, rfl, -, hL3, hb3⟩; (have HXI := Lib.hid (Cq.new HX2.out (hL3 w.heap.size HB2.out.size) hb3)); clear hL3 hb3)
    | (go_at_call 9; (with_reducible refine (new_is room _ b12 _ HNB.out).mono ?_); rintro e w2 ⟨b, rfl, -, hL2, hb2⟩; (have HX2 := Lib.hid (show Bx (fun _ => False) w w2 b (newC room b12) from ⟨_, hL2 w.heap.size HB1.out.size, fun _ _ h => h, bel_next HB1.out hb2, fun _ h => h.elim⟩)); (have HB2 := Lib.hid (bel_next HB1.out hb2)); clear hL2 hb2))
  go_loopw [10] (fun iv wr => ∃ (k : Nat) (S : CS), k ≤ 60 ∧ iv = .int .i64 (k : Int) ∧ Hid (Cq (fun _ => False) w wr b S c S)) (fun iv _ => 60 - (intOf iv).toNat)
  case atStart => exact ⟨0, _, by omega, rfl, HXI⟩
  case round =>
    obtain ⟨k, S, hk, rfl, HJ⟩ := hrel
    clear HXI
    obtain ⟨w8, hw8⟩ : ∃ x, x = wr := ⟨_, rfl⟩
    subst hw8
    by_cases hk1 : k < n
    · have hx1 : (k : Int) < (n : Int) := by omega
      by_cases hk2 : k < 60
      · have hx2 : (k : Int) < 60 := by omega
        have hkl : k < ops.length := by rw [HN.out]; exact hk1
        rcases HAT0.out with h0 | ⟨g, off, rfl, hgw, hops⟩
        · rw [h0] at hkl; simp at hkl
        · have HBr := Lib.hid HJ.out.bel
          have hx := hops k hkl
          have hfx := HFIT.out _ (List.getElem_mem hkl)
          obtain ⟨x, hxe⟩ : ∃ x, ops[k] = x := ⟨_, rfl⟩
          rw [hxe] at hx hfx
          have hx := hx.below HBr.out hgw
          have HF := Lib.hid hfx
          clear hfx
          obtain ⟨ok, ⟨⟨rk, rs, rt, rv, rtier, ⟨rc, rst, rq⟩, rd⟩, ra, rcc⟩⟩ := x
          have HX0 := Lib.hid (show KOpO w g (off + k * 10) ⟨ok, ⟨⟨rk, rs, rt, rv, rtier, ⟨rc, rst, rq⟩, rd⟩, ra, rcc⟩⟩ from by have h8 := hops k hkl; rw [hxe] at h8; exact h8)
          obtain ⟨x0, x1, x2, x3, x4, x5, x6, x7, x8, x9⟩ := hx
          dsimp only at x0 x1 x2 x3 x4 x5 x6 x7 x8 x9
          obtain ⟨s6, hs6⟩ : ∃ s6, cutB rs 60 = s6 := ⟨_, rfl⟩
          obtain ⟨d12, hd12⟩ : ∃ d12, rd.take 12 = d12 := ⟨_, rfl⟩
          have HS6 := Lib.hid hs6
          have HD12 := Lib.hid hd12
          have hst := HF.out.rc.ss
          dsimp only at hst
          have HFITS := Lib.hid (show Rec.fits ⟨rk, s6, rt, rv, rtier, ⟨rc, rst, rq⟩, d12⟩ from by have h8 := small_fits (x := ⟨⟨rk, rs, rt, rv, rtier, ⟨rc, rst, rq⟩, rd⟩, ra, rcc⟩) HF.out.rc; unfold smallR Rec.small at h8; dsimp only at h8; rw [hs6, hd12] at h8; exact h8)
          have HS60 := Lib.hid (show s6.size ≤ 60 by rw [← hs6]; exact cutB_len _ _)
          have HL12 := Lib.hid (show d12.length ≤ 12 by rw [← hd12, List.length_take]; omega)
          have HOWN := Lib.hid (fun (hd : d12 ≠ []) q (hq : (Value.slice ra d12.length rcc).ownBlock = some q) => (show q < w.heap.size from own_lt9 (by have h9 := take12 HF.out.d; dsimp only at h9; rw [hd12] at h9; exact h9) hd q hq))
          clear hs6 hd12 hxe
          have halo := (Below.refl w8.heap.size w8).alloc (Nat.le_refl _) (.cells #[.int .i64 ok, .int .i64 rk, .string rs, .int .i64 rt, .int .i64 rv, .int .i64 rtier, .int .i64 rc, .int .i64 rst, .int .i64 rq, .slice ra rd.length rcc] 35)
          have HALO := Lib.hid halo
          have HSM := Lib.hid (small_lit rk rt rv rtier rc rst rq rs s6 rd d12 ra rcc (w8.alloc (.cells #[.int .i64 ok, .int .i64 rk, .string rs, .int .i64 rt, .int .i64 rv, .int .i64 rtier, .int .i64 rc, .int .i64 rst, .int .i64 rq, .slice ra rd.length rcc] 35)) (args_later HF.out.d (bel_next HBr.out halo)) HF.out.rc.s HS6 HD12)
          have HOB := Lib.hid (KOpO.new w8 ⟨ok, ⟨⟨rk, rs, rt, rv, rtier, ⟨rc, rst, rq⟩, rd⟩, ra, rcc⟩⟩)
          have hltI : (k : Int) < (n : Int) := by omega
          clear hops hgw halo
          by_cases h3 : ok.tmod 4 = 3
          · have h3b : (ok.tmod 4 == 3) = true := by simpa using h3
            go_upto_region 11 with fail
            obtain ⟨wr, hwr⟩ : ∃ x, w8 = x := ⟨_, rfl⟩
            rw [hwr] at HJ HBr HALO HSM HOB ⊢
            clear x0 x1 x2 x3 x4 x5 x6 x7 x8 x9
            obtain ⟨x0, x1, x2, x3, x4, x5, x6, x7, x8, x9⟩ := HOB.out
            dsimp only [Nat.zero_add] at x0 x1 x2 x3 x4 x5 x6 x7 x8 x9
            go_upto_region 12 with fail
            clear x0 x1 x2 x3 x4 x5 x6 x7 x8 x9
            have HBX1 := Lib.hid (HJ.out.later HALO.out)
            have kn := HBX1.out.Next
            obtain ⟨⟨gk, gs, gt, gv, gtier, ⟨gc, gst, gq⟩, gd⟩, hX⟩ : ∃ z, (nextR S).getD Rec.zero = z := ⟨_, rfl⟩
            obtain ⟨isn, hisn⟩ : ∃ z, (nextR S).isSome = z := ⟨_, rfl⟩
            rw [hX, hisn] at kn
            clear hX hisn
            have e15 : (isn == isn) = true := by simp
            go_upto_region 13 with (go_at_call 12; (with_reducible refine kn.mono ?_); rintro e wN ⟨⟨xr, ga, gcc⟩, rfl, hxr, hgk⟩; (dsimp only at hxr); subst hxr; (unfold recV Rd.dv at *); (dsimp only at *); (have HGK := Lib.hid hgk); clear hgk)
            have halg := (Below.refl wN.heap.size wN).alloc (Nat.le_refl _) (.cells #[.int .i64 gk, .string gs, .int .i64 gt, .int .i64 gv, .int .i64 gtier, .int .i64 gc, .int .i64 gst, .int .i64 gq, .slice ga gd.length gcc] 33)
            have HG9 := Lib.hid (R9.new wN ⟨(⟨gk, gs, gt, gv, gtier, ⟨gc, gst, gq⟩, gd⟩ : Rec), ga, gcc⟩)
            have HGY := Lib.hid (HGK.out _ halg)
            have hsg : (wN.alloc (.cells #[.int .i64 gk, .string gs, .int .i64 gt, .int .i64 gv, .int .i64 gtier, .int .i64 gc, .int .i64 gst, .int .i64 gq, .slice ga gd.length gcc] 33)).heap.size = wN.heap.size + 1 := by simp
            unfold box9 at HG9
            dsimp only at HG9
            obtain ⟨wg, hwg⟩ : ∃ x, wN.alloc (.cells #[.int .i64 gk, .string gs, .int .i64 gt, .int .i64 gv, .int .i64 gtier, .int .i64 gc, .int .i64 gst, .int .i64 gq, .slice ga gd.length gcc] 33) = x := ⟨_, rfl⟩
            obtain ⟨p9, hp9⟩ : ∃ g, wN.heap.size = g := ⟨_, rfl⟩
            rw [hwg] at HG9 HGY hsg ⊢
            rw [hp9] at HG9 HGY hsg ⊢
            clear hwg hp9 halg HGK kn HBX1
            go_upto_region 14 with (go_at_call 13; ((with_reducible refine HGY.out.mono ?_); rintro e wY ⟨⟨yr, ya, ycc⟩, rfl, hyr, hxn, hyn, hcq, hgg, hss, -⟩; (dsimp only at hyr); subst hyr; (try unfold recV); (try unfold Rd.dv); (dsimp only at *); (have HXN := Lib.hid hxn); (have HYN := Lib.hid hyn); (have HCQ := Lib.hid hcq); (have h9 := R9.other HG9.out (hgg p9 (Nat.le_refl _) (by omega))); clear hxn hyn hcq hgg hss))
            have haly := (Below.refl wY.heap.size wY).alloc (Nat.le_refl _) (.cells #[.int .i64 gk, .string gs, .int .i64 gt, .int .i64 gv, .int .i64 gtier, .int .i64 gc, .int .i64 gst, .int .i64 gq, .slice ya gd.length ycc] 33)
            have hY9 := R9.new wY ⟨(⟨gk, gs, gt, gv, gtier, ⟨gc, gst, gq⟩, gd⟩ : Rec), ya, ycc⟩
            have hX9 := h9.later haly
            have hne9 : p9 < wY.heap.size := h9.room
            unfold box9 at hY9
            dsimp only at hY9
            obtain ⟨wy, hwy⟩ : ∃ x, wY.alloc (.cells #[.int .i64 gk, .string gs, .int .i64 gt, .int .i64 gv, .int .i64 gtier, .int .i64 gc, .int .i64 gst, .int .i64 gq, .slice ya gd.length ycc] 33) = x := ⟨_, rfl⟩
            obtain ⟨q9, hq9⟩ : ∃ g, wY.heap.size = g := ⟨_, rfl⟩
            have kSm := rsamer_is (⟨gk, gs, gt, gv, gtier, ⟨gc, gst, gq⟩, gd⟩ : Rec) (⟨gk, gs, gt, gv, gtier, ⟨gc, gst, gq⟩, gd⟩ : Rec) (.slice ga gd.length gcc) (.slice ya gd.length ycc) true (wY.alloc (.cells #[.int .i64 gk, .string gs, .int .i64 gt, .int .i64 gv, .int .i64 gtier, .int .i64 gc, .int .i64 gst, .int .i64 gq, .slice ya gd.length ycc] 33)) (Ns.later HXN.out haly) (Ns.later HYN.out haly) (Lib.hid (same_self _))
            have HCY := Lib.hid (HCQ.out.later haly)
            unfold recV at kSm
            dsimp only at kSm
            rw [hwy] at hY9 hX9 kSm HCY
            rw [hwy]
            rw [hq9] at hY9
            rw [hq9]
            obtain ⟨y0, y1, y2, y3, y4, y5, y6, y7, y8⟩ := hY9
            obtain ⟨x0, x1, x2, x3, x4, x5, x6, x7, x8⟩ := hX9
            dsimp only [Nat.zero_add] at x0 x1 x2 x3 x4 x5 x6 x7 x8 y0 y1 y2 y3 y4 y5 y6 y7 y8
            clear h9 haly hwy hq9
            go_upto_region 15 with (go_at_call 14; (with_reducible refine kSm.mono ?_); rintro e wt ⟨rfl, hbz⟩; (have HT := Lib.hid (HCY.out.later hbz)); clear hbz kSm)
            clear x0 x1 x2 x3 x4 x5 x6 x7 x8 y0 y1 y2 y3 y4 y5 y6 y7 y8
            obtain ⟨S1, HT⟩ : ∃ S1, Hid (Cq (fun _ => False) w wt b S1 c S1) := ⟨_, HT⟩
            obtain ⟨mv, hrb⟩ := HT.out.rb
            obtain ⟨G, oa, oc, ea, ec, zs, hE⟩ := HT.out.doc
            have HR := Lib.hid hrb
            have HE := Lib.hid hE
            obtain ⟨nl, hnl⟩ : ∃ z, S1.L.length = z := ⟨_, rfl⟩
            have HNL := Lib.hid hnl
            clear hrb hE hnl
            go_upto_region 18 with fail
            refine wp_region_held_drew (S := (fun X : World => Below wt.heap.size wt X)) (by kernel_rfl) (Below.refl _ _).drew (fun hHeld => ?_)
            refine wpAnyH_take (i := 0) (oi := ?nt1o) (v := ?nt1v) ?nt1h (by kernel_rfl) (by kernel_rfl) (by kernel_rfl) ?nt1q ?nt1y hHeld ?nt1r
            case nt1h => (simp only [List.getElem?_toArray, List.getElem?_cons_zero]; rfl)
            case nt1q => exact fun _ _ _ h => h
            case nt1y => (refine Or.inl ⟨by first | kernel_rfl | rfl, ?_⟩; intro w hSw; (try dsimp only at hSw); have d1 := (HE.out.later hSw).c1; go_simp <;> (try with_reducible rfl))
            try simp only [Act.put, List.setIfInBounds_toArray, List.set_cons_zero, List.set_cons_succ]
            refine wpAnyH_take (i := 2) (oi := ?nt2o) (v := ?nt2v) ?nt2h (by kernel_rfl) (by kernel_rfl) (by kernel_rfl) ?nt2q ?nt2y hHeld ?nt2r
            case nt2h => (simp only [List.getElem?_toArray, List.getElem?_cons_succ, List.getElem?_cons_zero]; rfl)
            case nt2q => exact fun _ _ _ h => h
            case nt2y => (refine Or.inl ⟨by first | kernel_rfl | rfl, ?_⟩; intro w hSw; (try dsimp only at hSw); have d1 := (HE.out.later hSw).c1; go_simp <;> (try with_reducible rfl))
            try simp only [Act.put, List.setIfInBounds_toArray, List.set_cons_zero, List.set_cons_succ]
            refine wpAnyH_take (i := 3) (oi := ?nt3o) (v := ?nt3v) ?nt3h (by kernel_rfl) (by kernel_rfl) (by kernel_rfl) ?nt3q ?nt3y hHeld ?nt3r
            case nt3h => (simp only [List.getElem?_toArray, List.getElem?_cons_succ, List.getElem?_cons_zero]; rfl)
            case nt3q => exact fun _ _ _ h => h
            case nt3y => (refine Or.inl ⟨by first | kernel_rfl | rfl, ?_⟩; intro w hSw; (try dsimp only at hSw); have d1 := (HE.out.later hSw).c1; go_simp <;> (try with_reducible rfl))
            try simp only [Act.put, List.setIfInBounds_toArray, List.set_cons_zero, List.set_cons_succ]
            refine wpAnyH_take (i := 4) (oi := ?nt4o) (v := ?nt4v) ?nt4h (by kernel_rfl) (by kernel_rfl) (by kernel_rfl) ?nt4q ?nt4y hHeld ?nt4r
            case nt4h => (simp only [List.getElem?_toArray, List.getElem?_cons_succ, List.getElem?_cons_zero]; rfl)
            case nt4q => exact fun _ _ _ h => h
            case nt4y => (refine Or.inl ⟨by first | kernel_rfl | rfl, ?_⟩; intro w hSw; (try dsimp only at hSw); have d1 := (HE.out.later hSw).c1; go_simp <;> (try with_reducible rfl))
            try simp only [Act.put, List.setIfInBounds_toArray, List.set_cons_zero, List.set_cons_succ]
            refine wpAnyH_take (i := 5) (oi := ?nt5o) (v := ?nt5v) ?nt5h (by kernel_rfl) (by kernel_rfl) (by kernel_rfl) ?nt5q ?nt5y hHeld ?nt5r
            case nt5h => (simp only [List.getElem?_toArray, List.getElem?_cons_succ, List.getElem?_cons_zero]; rfl)
            case nt5q => exact fun _ _ _ h => h
            case nt5y => (refine Or.inl ⟨by first | kernel_rfl | rfl, ?_⟩; intro w hSw; (try dsimp only at hSw); have d1 := (HE.out.later hSw).c1; go_simp <;> (try with_reducible rfl))
            try simp only [Act.put, List.setIfInBounds_toArray, List.set_cons_zero, List.set_cons_succ]
            refine wpAnyH_ready (rs := [1]) (by kernel_rfl) (by simp) ?_
            refine (AllReadyH.cons rfl (fun K hK => ?_) AllReadyH.nil)
            go_simp
            (go_at_call 19; (with_reducible refine (out_is (HR.out.later hHeld)).mono ?_); rintro e wG ⟨vG, rfl, hnG, hbG, -⟩; (obtain ⟨aG, cG, rfl⟩ := hnG.slice); (have HNG := Lib.hid hnG); (have HBG := Lib.hid (bel_next hHeld hbG)); clear hnG hbG)
            refine hK.out _ _ (HBG.out) (fun hHeld => ?_)
            clear hK K
            try simp only [Act.put, List.setIfInBounds_toArray, List.set_cons_zero, List.set_cons_succ]
            refine wpAnyH_ready (rs := [6]) (by kernel_rfl) (by simp) ?_
            refine (AllReadyH.cons rfl (fun K hK => ?_) AllReadyH.nil)
            go_simp
            (go_at_call 18; (with_reducible refine (rsameN _ _ S1.out S1.out _ HNG.out (HE.out.later HBG.out).ns).mono ?_); rw [sameL_self]; rintro e wH ⟨rfl, hbH⟩; (have HBH := Lib.hid (bel_next HBG.out hbH)); clear hbH)
            refine hK.out _ _ (HBH.out) (fun hHeld => ?_)
            clear hK K
            try simp only [Act.put, List.setIfInBounds_toArray, List.set_cons_zero, List.set_cons_succ]
            refine wpAnyH_take (i := 7) (oi := ?nt6o) (v := ?nt6v) ?nt6h (by kernel_rfl) (by kernel_rfl) (by kernel_rfl) ?nt6q ?nt6y hHeld ?nt6r
            case nt6h => (simp only [List.getElem?_toArray, List.getElem?_cons_succ, List.getElem?_cons_zero]; rfl)
            case nt6q => exact fun _ _ _ h => h
            case nt6y => (refine Or.inl ⟨by first | kernel_rfl | rfl, ?_⟩; intro w hSw; (try dsimp only at hSw); have d1 := (HE.out.later hSw).c1; go_simp <;> (try with_reducible rfl))
            try simp only [Act.put, List.setIfInBounds_toArray, List.set_cons_zero, List.set_cons_succ]
            refine wpAnyH_done (by kernel_rfl) ?_ _

            go_upto_region 21 with (first
              | (go_at_call 20; (with_reducible refine (sure_is (HR.out.later HBH.out)).mono ?_); rintro e wu ⟨vu, K, rfl, hnu, hsu, hbu⟩; (obtain ⟨au, cu, rfl⟩ := hnu.slice); (have HNU := Lib.hid hnu); (have HSU := Lib.hid hsu); (have HBU := Lib.hid (bel_next HBH.out hbu)); clear hnu hsu hbu)
              | (go_at_call 21; (with_reducible refine (esure_is (HE.out.later HBU.out)).mono ?_); rintro e wv ⟨vv, K2, rfl, hnv, hsv, hbv⟩; (obtain rfl := hsv.uniq HSU.out); (obtain ⟨av, cv, rfl⟩ := hnv.slice); (have kS := rsameN _ _ _ _ wv (Ns.later HNU.out hbv) hnv); (rw [sameL_self] at kS); (have HBV := Lib.hid (bel_next HBU.out hbv)); clear hnv hsv hbv)
              | (go_at_call 18; (with_reducible refine kS.mono ?_); rintro e wx ⟨rfl, hbx⟩; (have HBX := Lib.hid (bel_next HBV.out hbx)); clear hbx kS)
              | (go_at_call 22; (with_reducible refine (lacks_is (HR.out.later HBX.out)).mono ?_); rintro e wk ⟨vk, rfl, hnk, hbk⟩; (obtain ⟨ak, ck, rfl⟩ := hnk.slice); (have HNK := Lib.hid hnk); (have HBK := Lib.hid (bel_next HBX.out hbk)); clear hnk hbk)
              | (go_at_call 23; (with_reducible refine (elacks_is (HE.out.later HBK.out)).mono ?_); rintro e wl ⟨vl, rfl, hnl2, hbl⟩; (obtain ⟨al, cl, rfl⟩ := hnl2.slice); (have kL := rsameN _ _ _ _ wl (Ns.later HNK.out hbl) hnl2); (rw [sameL_self] at kL); (have HBL := Lib.hid (bel_next HBK.out hbl)); clear hnl2 hbl)
              | (go_at_call 18; (with_reducible refine kL.mono ?_); rintro e wz ⟨rfl, hbz⟩; (have HBZ := Lib.hid (bel_next HBL.out hbz)); clear hbz kL))
            have hbk3 : ((nl : Int) != (nl : Int)) = false := by simp
            refine wp_region_held_drew (S := (fun X : World => Below wt.heap.size wt X)) (by kernel_rfl) HBZ.out.drew (fun hHeld => ?_)
            refine wpAnyH_take (i := 0) (oi := ?nu1o) (v := ?nu1v) ?nu1h (by kernel_rfl) (by kernel_rfl) (by kernel_rfl) ?nu1q ?nu1y hHeld ?nu1r
            case nu1h => (simp only [List.getElem?_toArray, List.getElem?_cons_zero]; rfl)
            case nu1q => exact fun _ _ _ h => h
            case nu1y => (refine Or.inl ⟨by first | kernel_rfl | rfl, ?_⟩; intro w hSw; (try dsimp only at hSw); have d2 := (HE.out.later hSw).c2; rw [HNL.out] at d2; go_simp <;> (try with_reducible rfl))
            try simp only [Act.put, List.setIfInBounds_toArray, List.set_cons_zero, List.set_cons_succ]
            refine wpAnyH_take (i := 1) (oi := ?nu2o) (v := ?nu2v) ?nu2h (by kernel_rfl) (by kernel_rfl) (by kernel_rfl) ?nu2q ?nu2y hHeld ?nu2r
            case nu2h => (simp only [List.getElem?_toArray, List.getElem?_cons_succ, List.getElem?_cons_zero]; rfl)
            case nu2q => exact fun _ _ _ h => h
            case nu2y => (refine Or.inl ⟨by first | kernel_rfl | rfl, ?_⟩; intro w hSw; (try dsimp only at hSw); have d2 := (HE.out.later hSw).c2; rw [HNL.out] at d2; go_simp <;> (try with_reducible rfl))
            try simp only [Act.put, List.setIfInBounds_toArray, List.set_cons_zero, List.set_cons_succ]
            refine wpAnyH_take (i := 2) (oi := ?nu3o) (v := ?nu3v) ?nu3h (by kernel_rfl) (by kernel_rfl) (by kernel_rfl) ?nu3q ?nu3y hHeld ?nu3r
            case nu3h => (simp only [List.getElem?_toArray, List.getElem?_cons_succ, List.getElem?_cons_zero]; rfl)
            case nu3q => exact fun _ _ _ h => h
            case nu3y => (refine Or.inl ⟨by first | kernel_rfl | rfl, ?_⟩; intro w hSw; (try dsimp only at hSw); have d2 := (HE.out.later hSw).c2; rw [HNL.out] at d2; go_simp <;> (try with_reducible rfl))
            try simp only [Act.put, List.setIfInBounds_toArray, List.set_cons_zero, List.set_cons_succ]
            refine wpAnyH_take (i := 3) (oi := ?nu4o) (v := ?nu4v) ?nu4h (by kernel_rfl) (by kernel_rfl) (by kernel_rfl) ?nu4q ?nu4y hHeld ?nu4r
            case nu4h => (simp only [List.getElem?_toArray, List.getElem?_cons_succ, List.getElem?_cons_zero]; rfl)
            case nu4q => exact fun _ _ _ h => h
            case nu4y => (refine Or.inl ⟨by first | kernel_rfl | rfl, ?_⟩; intro w hSw; (try dsimp only at hSw); have d2 := (HE.out.later hSw).c2; rw [HNL.out] at d2; go_simp <;> (try with_reducible rfl))
            try simp only [Act.put, List.setIfInBounds_toArray, List.set_cons_zero, List.set_cons_succ]
            refine wpAnyH_take (i := 4) (oi := ?nu5o) (v := ?nu5v) ?nu5h (by kernel_rfl) (by kernel_rfl) (by kernel_rfl) ?nu5q ?nu5y hHeld ?nu5r
            case nu5h => (simp only [List.getElem?_toArray, List.getElem?_cons_succ, List.getElem?_cons_zero]; rfl)
            case nu5q => exact fun _ _ _ h => h
            case nu5y => (refine Or.inl ⟨by first | kernel_rfl | rfl, ?_⟩; intro w hSw; (try dsimp only at hSw); have d2 := (HE.out.later hSw).c2; rw [HNL.out] at d2; go_simp <;> (try with_reducible rfl))
            try simp only [Act.put, List.setIfInBounds_toArray, List.set_cons_zero, List.set_cons_succ]
            refine wpAnyH_take (i := 5) (oi := ?nu6o) (v := ?nu6v) ?nu6h (by kernel_rfl) (by kernel_rfl) (by kernel_rfl) ?nu6q ?nu6y hHeld ?nu6r
            case nu6h => (simp only [List.getElem?_toArray, List.getElem?_cons_succ, List.getElem?_cons_zero]; rfl)
            case nu6q => exact fun _ _ _ h => h
            case nu6y => (refine Or.inl ⟨by first | kernel_rfl | rfl, ?_⟩; intro w hSw; (try dsimp only at hSw); have d2 := (HE.out.later hSw).c2; rw [HNL.out] at d2; go_simp <;> (try with_reducible rfl))
            try simp only [Act.put, List.setIfInBounds_toArray, List.set_cons_zero, List.set_cons_succ]
            refine wpAnyH_take (i := 6) (oi := ?nu7o) (v := ?nu7v) ?nu7h (by kernel_rfl) (by kernel_rfl) (by kernel_rfl) ?nu7q ?nu7y hHeld ?nu7r
            case nu7h => (simp only [List.getElem?_toArray, List.getElem?_cons_succ, List.getElem?_cons_zero]; rfl)
            case nu7q => exact fun _ _ _ h => h
            case nu7y => (refine Or.inl ⟨by first | kernel_rfl | rfl, ?_⟩; intro w hSw; (try dsimp only at hSw); have d2 := (HE.out.later hSw).c2; rw [HNL.out] at d2; go_simp <;> (try with_reducible rfl))
            try simp only [Act.put, List.setIfInBounds_toArray, List.set_cons_zero, List.set_cons_succ]
            refine wpAnyH_take (i := 7) (oi := ?nu8o) (v := ?nu8v) ?nu8h (by kernel_rfl) (by kernel_rfl) (by kernel_rfl) ?nu8q ?nu8y hHeld ?nu8r
            case nu8h => (simp only [List.getElem?_toArray, List.getElem?_cons_succ, List.getElem?_cons_zero]; rfl)
            case nu8q => exact fun _ _ _ h => h
            case nu8y => (refine Or.inl ⟨by first | kernel_rfl | rfl, ?_⟩; intro w hSw; (try dsimp only at hSw); have d2 := (HE.out.later hSw).c2; rw [HNL.out] at d2; go_simp <;> (try with_reducible rfl))
            try simp only [Act.put, List.setIfInBounds_toArray, List.set_cons_zero, List.set_cons_succ]
            refine wpAnyH_take (i := 8) (oi := ?nu9o) (v := ?nu9v) ?nu9h (by kernel_rfl) (by kernel_rfl) (by kernel_rfl) ?nu9q ?nu9y hHeld ?nu9r
            case nu9h => (simp only [List.getElem?_toArray, List.getElem?_cons_succ, List.getElem?_cons_zero]; rfl)
            case nu9q => exact fun _ _ _ h => h
            case nu9y => (refine Or.inl ⟨by first | kernel_rfl | rfl, ?_⟩; intro w hSw; (try dsimp only at hSw); have d2 := (HE.out.later hSw).c2; rw [HNL.out] at d2; go_simp <;> (try with_reducible rfl))
            try simp only [Act.put, List.setIfInBounds_toArray, List.set_cons_zero, List.set_cons_succ]
            refine wpAnyH_take (i := 9) (oi := ?nu10o) (v := ?nu10v) ?nu10h (by kernel_rfl) (by kernel_rfl) (by kernel_rfl) ?nu10q ?nu10y hHeld ?nu10r
            case nu10h => (simp only [List.getElem?_toArray, List.getElem?_cons_succ, List.getElem?_cons_zero]; rfl)
            case nu10q => exact fun _ _ _ h => h
            case nu10y => (refine Or.inl ⟨by first | kernel_rfl | rfl, ?_⟩; intro w hSw; (try dsimp only at hSw); have d2 := (HE.out.later hSw).c2; rw [HNL.out] at d2; go_simp <;> (try with_reducible rfl))
            try simp only [Act.put, List.setIfInBounds_toArray, List.set_cons_zero, List.set_cons_succ]
            refine wpAnyH_take (i := 10) (oi := ?nu11o) (v := ?nu11v) ?nu11h (by kernel_rfl) (by kernel_rfl) (by kernel_rfl) ?nu11q ?nu11y hHeld ?nu11r
            case nu11h => (simp only [List.getElem?_toArray, List.getElem?_cons_succ, List.getElem?_cons_zero]; rfl)
            case nu11q => exact fun _ _ _ h => h
            case nu11y => (refine Or.inl ⟨by first | kernel_rfl | rfl, ?_⟩; intro w hSw; (try dsimp only at hSw); have d2 := (HE.out.later hSw).c2; rw [HNL.out] at d2; go_simp <;> (try with_reducible rfl))
            try simp only [Act.put, List.setIfInBounds_toArray, List.set_cons_zero, List.set_cons_succ]
            refine wpAnyH_take (i := 11) (oi := ?nu12o) (v := ?nu12v) ?nu12h (by kernel_rfl) (by kernel_rfl) (by kernel_rfl) ?nu12q ?nu12y hHeld ?nu12r
            case nu12h => (simp only [List.getElem?_toArray, List.getElem?_cons_succ, List.getElem?_cons_zero]; rfl)
            case nu12q => exact fun _ _ _ h => h
            case nu12y => (refine Or.inl ⟨by first | kernel_rfl | rfl, ?_⟩; intro w hSw; (try dsimp only at hSw); have d2 := (HE.out.later hSw).c2; rw [HNL.out] at d2; go_simp <;> (try with_reducible rfl))
            try simp only [Act.put, List.setIfInBounds_toArray, List.set_cons_zero, List.set_cons_succ]
            refine wpAnyH_take (i := 12) (oi := ?nu13o) (v := ?nu13v) ?nu13h (by kernel_rfl) (by kernel_rfl) (by kernel_rfl) ?nu13q ?nu13y hHeld ?nu13r
            case nu13h => (simp only [List.getElem?_toArray, List.getElem?_cons_succ, List.getElem?_cons_zero]; rfl)
            case nu13q => exact fun _ _ _ h => h
            case nu13y => (refine Or.inl ⟨by first | kernel_rfl | rfl, ?_⟩; intro w hSw; (try dsimp only at hSw); have d2 := (HE.out.later hSw).c2; rw [HNL.out] at d2; go_simp <;> (try with_reducible rfl))
            try simp only [Act.put, List.setIfInBounds_toArray, List.set_cons_zero, List.set_cons_succ]
            refine wpAnyH_take (i := 13) (oi := ?nu14o) (v := ?nu14v) ?nu14h (by kernel_rfl) (by kernel_rfl) (by kernel_rfl) ?nu14q ?nu14y hHeld ?nu14r
            case nu14h => (simp only [List.getElem?_toArray, List.getElem?_cons_succ, List.getElem?_cons_zero]; rfl)
            case nu14q => exact fun _ _ _ h => h
            case nu14y => (refine Or.inl ⟨by first | kernel_rfl | rfl, ?_⟩; intro w hSw; (try dsimp only at hSw); have d2 := (HE.out.later hSw).c2; rw [HNL.out] at d2; go_simp <;> (try with_reducible rfl))
            try simp only [Act.put, List.setIfInBounds_toArray, List.set_cons_zero, List.set_cons_succ]
            refine wpAnyH_take (i := 14) (oi := ?nu15o) (v := ?nu15v) ?nu15h (by kernel_rfl) (by kernel_rfl) (by kernel_rfl) ?nu15q ?nu15y hHeld ?nu15r
            case nu15h => (simp only [List.getElem?_toArray, List.getElem?_cons_succ, List.getElem?_cons_zero]; rfl)
            case nu15q => exact fun _ _ _ h => h
            case nu15y => (refine Or.inl ⟨by first | kernel_rfl | rfl, ?_⟩; intro w hSw; (try dsimp only at hSw); have d2 := (HE.out.later hSw).c2; rw [HNL.out] at d2; go_simp <;> (try with_reducible rfl))
            try simp only [Act.put, List.setIfInBounds_toArray, List.set_cons_zero, List.set_cons_succ]
            refine wpAnyH_take (i := 15) (oi := ?nu16o) (v := ?nu16v) ?nu16h (by kernel_rfl) (by kernel_rfl) (by kernel_rfl) ?nu16q ?nu16y hHeld ?nu16r
            case nu16h => (simp only [List.getElem?_toArray, List.getElem?_cons_succ, List.getElem?_cons_zero]; rfl)
            case nu16q => exact fun _ _ _ h => h
            case nu16y => (refine Or.inl ⟨by first | kernel_rfl | rfl, ?_⟩; intro w hSw; (try dsimp only at hSw); have d2 := (HE.out.later hSw).c2; rw [HNL.out] at d2; go_simp <;> (try with_reducible rfl))
            try simp only [Act.put, List.setIfInBounds_toArray, List.set_cons_zero, List.set_cons_succ]
            refine wpAnyH_take (i := 17) (oi := ?nu17o) (v := ?nu17v) ?nu17h (by kernel_rfl) (by kernel_rfl) (by kernel_rfl) ?nu17q ?nu17y hHeld ?nu17r
            case nu17h => (simp only [List.getElem?_toArray, List.getElem?_cons_succ, List.getElem?_cons_zero]; rfl)
            case nu17q => exact fun _ _ _ h => h
            case nu17y => (refine Or.inl ⟨by first | kernel_rfl | rfl, ?_⟩; intro w hSw; (try dsimp only at hSw); have d2 := (HE.out.later hSw).c2; rw [HNL.out] at d2; go_simp <;> (try with_reducible rfl))
            try simp only [Act.put, List.setIfInBounds_toArray, List.set_cons_zero, List.set_cons_succ]
            refine wpAnyH_take (i := 18) (oi := ?nu18o) (v := ?nu18v) ?nu18h (by kernel_rfl) (by kernel_rfl) (by kernel_rfl) ?nu18q ?nu18y hHeld ?nu18r
            case nu18h => (simp only [List.getElem?_toArray, List.getElem?_cons_succ, List.getElem?_cons_zero]; rfl)
            case nu18q => exact fun _ _ _ h => h
            case nu18y => (refine Or.inl ⟨by first | kernel_rfl | rfl, ?_⟩; intro w hSw; (try dsimp only at hSw); have d2 := (HE.out.later hSw).c2; rw [HNL.out] at d2; go_simp <;> (try with_reducible rfl))
            try simp only [Act.put, List.setIfInBounds_toArray, List.set_cons_zero, List.set_cons_succ]
            refine wpAnyH_take (i := 19) (oi := ?nu19o) (v := ?nu19v) ?nu19h (by kernel_rfl) (by kernel_rfl) (by kernel_rfl) ?nu19q ?nu19y hHeld ?nu19r
            case nu19h => (simp only [List.getElem?_toArray, List.getElem?_cons_succ, List.getElem?_cons_zero]; rfl)
            case nu19q => exact fun _ _ _ h => h
            case nu19y => (refine Or.inl ⟨by first | kernel_rfl | rfl, ?_⟩; intro w hSw; (try dsimp only at hSw); have d2 := (HE.out.later hSw).c2; rw [HNL.out] at d2; go_simp <;> (try with_reducible rfl))
            try simp only [Act.put, List.setIfInBounds_toArray, List.set_cons_zero, List.set_cons_succ]
            refine wpAnyH_take (i := 20) (oi := ?nu20o) (v := ?nu20v) ?nu20h (by kernel_rfl) (by kernel_rfl) (by kernel_rfl) ?nu20q ?nu20y hHeld ?nu20r
            case nu20h => (simp only [List.getElem?_toArray, List.getElem?_cons_succ, List.getElem?_cons_zero]; rfl)
            case nu20q => exact fun _ _ _ h => h
            case nu20y => (refine Or.inl ⟨by first | kernel_rfl | rfl, ?_⟩; intro w hSw; (try dsimp only at hSw); have d2 := (HE.out.later hSw).c2; rw [HNL.out] at d2; go_simp <;> (try with_reducible rfl))
            try simp only [Act.put, List.setIfInBounds_toArray, List.set_cons_zero, List.set_cons_succ]
            refine wpAnyH_take (i := 21) (oi := ?nu21o) (v := ?nu21v) ?nu21h (by kernel_rfl) (by kernel_rfl) (by kernel_rfl) ?nu21q ?nu21y hHeld ?nu21r
            case nu21h => (simp only [List.getElem?_toArray, List.getElem?_cons_succ, List.getElem?_cons_zero]; rfl)
            case nu21q => exact fun _ _ _ h => h
            case nu21y => (refine Or.inl ⟨by first | kernel_rfl | rfl, ?_⟩; intro w hSw; (try dsimp only at hSw); have d2 := (HE.out.later hSw).c2; rw [HNL.out] at d2; go_simp <;> (try with_reducible rfl))
            try simp only [Act.put, List.setIfInBounds_toArray, List.set_cons_zero, List.set_cons_succ]
            refine wpAnyH_ready (rs := [16]) (by kernel_rfl) (by simp) ?_
            refine (AllReadyH.cons rfl (fun K hK => ?_) AllReadyH.nil)
            go_simp
            (go_at_call 24; (with_reducible refine (len_is (HR.out.later hHeld)).mono ?_); (rw [HNL.out]); rintro e wJ ⟨rfl, rfl⟩)
            refine hK.out _ _ (hHeld) (fun hHeld => ?_)
            clear hK K
            try simp only [Act.put, List.setIfInBounds_toArray, List.set_cons_zero, List.set_cons_succ]
            refine wpAnyH_take (i := 22) (oi := ?nu22o) (v := ?nu22v) ?nu22h (by kernel_rfl) (by kernel_rfl) (by kernel_rfl) ?nu22q ?nu22y hHeld ?nu22r
            case nu22h => (simp only [List.getElem?_toArray, List.getElem?_cons_succ, List.getElem?_cons_zero]; rfl)
            case nu22q => exact fun _ _ _ h => h
            case nu22y => (refine Or.inl ⟨by first | kernel_rfl | rfl, ?_⟩; intro w hSw; (try dsimp only at hSw); have d2 := (HE.out.later hSw).c2; rw [HNL.out] at d2; go_simp <;> (try with_reducible rfl))
            try simp only [Act.put, List.setIfInBounds_toArray, List.set_cons_zero, List.set_cons_succ]
            refine wpAnyH_take (i := 23) (oi := ?nu23o) (v := ?nu23v) ?nu23h (by kernel_rfl) (by kernel_rfl) (by kernel_rfl) ?nu23q ?nu23y hHeld ?nu23r
            case nu23h => (simp only [List.getElem?_toArray, List.getElem?_cons_succ, List.getElem?_cons_zero]; rfl)
            case nu23q => exact fun _ _ _ h => h
            case nu23y => (refine Or.inl ⟨by first | kernel_rfl | rfl, ?_⟩; intro w hSw; (try dsimp only at hSw); have d2 := (HE.out.later hSw).c2; rw [HNL.out] at d2; go_simp <;> (try with_reducible rfl))
            try simp only [Act.put, List.setIfInBounds_toArray, List.set_cons_zero, List.set_cons_succ]
            refine wpAnyH_done (by kernel_rfl) ?_ _

            have HFIN := Lib.hid (HT.out.later hHeld)
            go_wp2
            go_roundw
            case rel => exact ⟨k + 1, S1, by omega, by go_num, HFIN⟩
            case measure => simp [intOf]; omega
          · have h3b : (ok.tmod 4 == 3) = false := by simpa using h3
            go_upto_region 11 with fail
            obtain ⟨wr, hwr⟩ : ∃ x, w8 = x := ⟨_, rfl⟩
            rw [hwr] at HJ HBr HALO HSM HOB ⊢
            clear x0 x1 x2 x3 x4 x5 x6 x7 x8 x9
            obtain ⟨x0, x1, x2, x3, x4, x5, x6, x7, x8, x9⟩ := HOB.out
            dsimp only [Nat.zero_add] at x0 x1 x2 x3 x4 x5 x6 x7 x8 x9
            go_upto_region 17 with (go_at_call 15; (with_reducible refine HSM.out.mono ?_); rintro e wS ⟨rfl, hnS, hbS⟩; (have HNS := Lib.hid hnS); (have HBS := Lib.hid hbS); clear hnS hbS)
            have hQ9 : R9 (wS.alloc (.cells #[.int .i64 rk, .string s6, .int .i64 rt, .int .i64 rv, .int .i64 rtier, .int .i64 rc, .int .i64 rst, .int .i64 rq, .slice ra d12.length rcc] 33)) wS.heap.size 0 ⟨⟨rk, s6, rt, rv, rtier, ⟨rc, rst, rq⟩, d12⟩, ra, rcc⟩ := R9.new wS ⟨⟨rk, s6, rt, rv, rtier, ⟨rc, rst, rq⟩, d12⟩, ra, rcc⟩
            have halq := (Below.refl wS.heap.size wS).alloc (Nat.le_refl _) (.cells #[.int .i64 rk, .string s6, .int .i64 rt, .int .i64 rv, .int .i64 rtier, .int .i64 rc, .int .i64 rst, .int .i64 rq, .slice ra d12.length rcc] 33)
            have HBX1 := Lib.hid (show Cq (fun g => g = wS.heap.size) w (wS.alloc (.cells #[.int .i64 rk, .string s6, .int .i64 rt, .int .i64 rv, .int .i64 rtier, .int .i64 rc, .int .i64 rst, .int .i64 rq, .slice ra d12.length rcc] 33)) b S c S from ((HJ.out.later (bel_next HALO.out HBS.out)).hold halq).less (fun g hg => Or.inr (by rw [hg]; exact ⟨Nat.le_refl _, by simp⟩)))
            obtain ⟨p9, hp9⟩ : ∃ g, wS.heap.size = g := ⟨_, rfl⟩
            obtain ⟨wq, hwq⟩ : ∃ x, wS.alloc (.cells #[.int .i64 rk, .string s6, .int .i64 rt, .int .i64 rv, .int .i64 rtier, .int .i64 rc, .int .i64 rst, .int .i64 rq, .slice ra d12.length rcc] 33) = x := ⟨_, rfl⟩
            rw [hwq, hp9] at hQ9 HBX1
            rw [hwq, hp9]
            have HQ9 := Lib.hid hQ9
            have HZN := Lib.hid (show Ns w (.slice ra d12.length rcc) d12 from by have h9 := take12 HF.out.d; dsimp only at h9; rw [HD12.out] at h9; exact h9)
            obtain ⟨ee, hee⟩ : ∃ e, offE S (⟨rk, s6, rt, rv, rtier, ⟨rc, rst, rq⟩, d12⟩ : Rec) = e := ⟨_, rfl⟩
            obtain ⟨S9, hS9⟩ : ∃ e, offS S (⟨rk, s6, rt, rv, rtier, ⟨rc, rst, rq⟩, d12⟩ : Rec) = e := ⟨_, rfl⟩
            have HEE := Lib.hid hee
            have HS1 := Lib.hid hS9
            have e17 : (ee == ee) = true := by simp
            clear hee hS9 halq hwq hp9 hQ9 x0 x1 x2 x3 x4 x5 x6 x7 x8 x9
            refine wp_region_held_drew (S := (fun X : World => R9 X p9 0 ⟨⟨rk, s6, rt, rv, rtier, ⟨rc, rst, rq⟩, d12⟩, ra, rcc⟩)) (by kernel_rfl) (R9.later HQ9.out (Below.refl _ _).drew) (fun hHeld => ?_)
            refine wpAnyH_take (i := 0) (oi := ?o1o) (v := ?o1v) ?o1h (by kernel_rfl) (by kernel_rfl) (by kernel_rfl) ?o1q ?o1y hHeld ?o1r
            case o1h => (simp only [List.getElem?_toArray, List.getElem?_cons_zero]; rfl)
            case o1q => exact fun _ _ _ h => h
            case o1y => (refine Or.inl ⟨by first | kernel_rfl | rfl, ?_⟩; intro w hSw; (try dsimp only at hSw); obtain ⟨q0, q1, q2, q3, q4, q5, q6, q7, q8⟩ := hSw; dsimp only [Nat.zero_add] at q0 q1 q2 q3 q4 q5 q6 q7 q8; go_simp <;> (try with_reducible rfl))
            try simp only [Act.put, List.setIfInBounds_toArray, List.set_cons_zero, List.set_cons_succ]
            refine wpAnyH_take (i := 1) (oi := ?o2o) (v := ?o2v) ?o2h (by kernel_rfl) (by kernel_rfl) (by kernel_rfl) ?o2q ?o2y hHeld ?o2r
            case o2h => (simp only [List.getElem?_toArray, List.getElem?_cons_succ, List.getElem?_cons_zero]; rfl)
            case o2q => exact fun _ _ _ h => h
            case o2y => (refine Or.inl ⟨by first | kernel_rfl | rfl, ?_⟩; intro w hSw; (try dsimp only at hSw); obtain ⟨q0, q1, q2, q3, q4, q5, q6, q7, q8⟩ := hSw; dsimp only [Nat.zero_add] at q0 q1 q2 q3 q4 q5 q6 q7 q8; go_simp <;> (try with_reducible rfl))
            try simp only [Act.put, List.setIfInBounds_toArray, List.set_cons_zero, List.set_cons_succ]
            refine wpAnyH_take (i := 3) (oi := ?o3o) (v := ?o3v) ?o3h (by kernel_rfl) (by kernel_rfl) (by kernel_rfl) ?o3q ?o3y hHeld ?o3r
            case o3h => (simp only [List.getElem?_toArray, List.getElem?_cons_succ, List.getElem?_cons_zero]; rfl)
            case o3q => exact fun _ _ _ h => h
            case o3y => (refine Or.inl ⟨by first | kernel_rfl | rfl, ?_⟩; intro w hSw; (try dsimp only at hSw); obtain ⟨q0, q1, q2, q3, q4, q5, q6, q7, q8⟩ := hSw; dsimp only [Nat.zero_add] at q0 q1 q2 q3 q4 q5 q6 q7 q8; go_simp <;> (try with_reducible rfl))
            try simp only [Act.put, List.setIfInBounds_toArray, List.set_cons_zero, List.set_cons_succ]
            refine wpAnyH_take (i := 4) (oi := ?o4o) (v := ?o4v) ?o4h (by kernel_rfl) (by kernel_rfl) (by kernel_rfl) ?o4q ?o4y hHeld ?o4r
            case o4h => (simp only [List.getElem?_toArray, List.getElem?_cons_succ, List.getElem?_cons_zero]; rfl)
            case o4q => exact fun _ _ _ h => h
            case o4y => (refine Or.inl ⟨by first | kernel_rfl | rfl, ?_⟩; intro w hSw; (try dsimp only at hSw); obtain ⟨q0, q1, q2, q3, q4, q5, q6, q7, q8⟩ := hSw; dsimp only [Nat.zero_add] at q0 q1 q2 q3 q4 q5 q6 q7 q8; go_simp <;> (try with_reducible rfl))
            try simp only [Act.put, List.setIfInBounds_toArray, List.set_cons_zero, List.set_cons_succ]
            refine wpAnyH_ready (rs := [2]) (by kernel_rfl) (by simp) ?_
            refine (AllReadyH.cons rfl (fun K hK => ?_) AllReadyH.nil)
            go_simp
            (have kA := (HBX1.out.later (Below.refl _ _).drew).Offer (⟨⟨rk, s6, rt, rv, rtier, ⟨rc, rst, rq⟩, d12⟩, ra, rcc⟩ : Rd) (Ns.later HZN.out HBX1.out.bel.drew) HFITS.out (by have h1 := HL12.out; dsimp only; omega)); (unfold recV Rd.dv at kA); (dsimp only at kA); (rw [HEE.out, HS1.out] at kA); (go_at_call 16; (with_reducible refine kA.mono ?_); rintro e wE ⟨rfl, hbE, hkE⟩; (have HBE := Lib.hid hbE); (have HR2 := Lib.hid (R9.other hHeld (hkE.2 p9 rfl))); clear hbE hkE kA)
            refine hK.out _ _ (HR2.out) (fun hHeld => ?_)
            clear hK K
            try simp only [Act.put, List.setIfInBounds_toArray, List.set_cons_zero, List.set_cons_succ]
            refine wpAnyH_ready (rs := [5]) (by kernel_rfl) (by simp) ?_
            refine (AllReadyH.cons rfl (fun K hK => ?_) AllReadyH.nil)
            go_simp
            (have kB := HBE.out.EOffer (⟨⟨rk, s6, rt, rv, rtier, ⟨rc, rst, rq⟩, d12⟩, ra, rcc⟩ : Rd) (Ns.later HZN.out HBE.out.bel) HFITS.out HOWN.out); (unfold recV Rd.dv at kB); (dsimp only at kB); (rw [HEE.out, HS1.out] at kB); (go_at_call 17; (with_reducible refine kB.mono ?_); rintro e wt ⟨rfl, hbT, hkT⟩; (have HT := Lib.hid (hbT.less (H' := fun _ => False) (fun q hq => hq.elim))); (have HR3 := Lib.hid (R9.other HR2.out (hkT.2 p9 rfl))); clear hbT hkT kB)
            refine hK.out _ _ (HR3.out) (fun hHeld => ?_)
            clear hK K
            try simp only [Act.put, List.setIfInBounds_toArray, List.set_cons_zero, List.set_cons_succ]
            refine wpAnyH_take (i := 6) (oi := ?o5o) (v := ?o5v) ?o5h (by kernel_rfl) (by kernel_rfl) (by kernel_rfl) ?o5q ?o5y hHeld ?o5r
            case o5h => (simp only [List.getElem?_toArray, List.getElem?_cons_succ, List.getElem?_cons_zero]; rfl)
            case o5q => exact fun _ _ _ h => h
            case o5y => (refine Or.inl ⟨by first | kernel_rfl | rfl, ?_⟩; intro w hSw; (try dsimp only at hSw); obtain ⟨q0, q1, q2, q3, q4, q5, q6, q7, q8⟩ := hSw; dsimp only [Nat.zero_add] at q0 q1 q2 q3 q4 q5 q6 q7 q8; go_simp <;> (try with_reducible rfl))
            try simp only [Act.put, List.setIfInBounds_toArray, List.set_cons_zero, List.set_cons_succ]
            refine wpAnyH_take (i := 7) (oi := ?o6o) (v := ?o6v) ?o6h (by kernel_rfl) (by kernel_rfl) (by kernel_rfl) ?o6q ?o6y hHeld ?o6r
            case o6h => (simp only [List.getElem?_toArray, List.getElem?_cons_succ, List.getElem?_cons_zero]; rfl)
            case o6q => exact fun _ _ _ h => h
            case o6y => (refine Or.inl ⟨by first | kernel_rfl | rfl, ?_⟩; intro w hSw; (try dsimp only at hSw); obtain ⟨q0, q1, q2, q3, q4, q5, q6, q7, q8⟩ := hSw; dsimp only [Nat.zero_add] at q0 q1 q2 q3 q4 q5 q6 q7 q8; go_simp <;> (try with_reducible rfl))
            try simp only [Act.put, List.setIfInBounds_toArray, List.set_cons_zero, List.set_cons_succ]
            refine wpAnyH_done (by kernel_rfl) ?_ _
            clear hHeld
            obtain ⟨S1, HT⟩ : ∃ S1, Hid (Cq (fun _ => False) w wt b S1 c S1) := ⟨_, HT⟩
            obtain ⟨mv, hrb⟩ := HT.out.rb
            obtain ⟨G, oa, oc, ea, ec, zs, hE⟩ := HT.out.doc
            have HR := Lib.hid hrb
            have HE := Lib.hid hE
            obtain ⟨nl, hnl⟩ : ∃ z, S1.L.length = z := ⟨_, rfl⟩
            have HNL := Lib.hid hnl
            clear hrb hE hnl
            go_upto_region 18 with fail
            refine wp_region_held_drew (S := (fun X : World => Below wt.heap.size wt X)) (by kernel_rfl) (Below.refl _ _).drew (fun hHeld => ?_)
            refine wpAnyH_take (i := 0) (oi := ?pt1o) (v := ?pt1v) ?pt1h (by kernel_rfl) (by kernel_rfl) (by kernel_rfl) ?pt1q ?pt1y hHeld ?pt1r
            case pt1h => (simp only [List.getElem?_toArray, List.getElem?_cons_zero]; rfl)
            case pt1q => exact fun _ _ _ h => h
            case pt1y => (refine Or.inl ⟨by first | kernel_rfl | rfl, ?_⟩; intro w hSw; (try dsimp only at hSw); have d1 := (HE.out.later hSw).c1; go_simp <;> (try with_reducible rfl))
            try simp only [Act.put, List.setIfInBounds_toArray, List.set_cons_zero, List.set_cons_succ]
            refine wpAnyH_take (i := 2) (oi := ?pt2o) (v := ?pt2v) ?pt2h (by kernel_rfl) (by kernel_rfl) (by kernel_rfl) ?pt2q ?pt2y hHeld ?pt2r
            case pt2h => (simp only [List.getElem?_toArray, List.getElem?_cons_succ, List.getElem?_cons_zero]; rfl)
            case pt2q => exact fun _ _ _ h => h
            case pt2y => (refine Or.inl ⟨by first | kernel_rfl | rfl, ?_⟩; intro w hSw; (try dsimp only at hSw); have d1 := (HE.out.later hSw).c1; go_simp <;> (try with_reducible rfl))
            try simp only [Act.put, List.setIfInBounds_toArray, List.set_cons_zero, List.set_cons_succ]
            refine wpAnyH_take (i := 3) (oi := ?pt3o) (v := ?pt3v) ?pt3h (by kernel_rfl) (by kernel_rfl) (by kernel_rfl) ?pt3q ?pt3y hHeld ?pt3r
            case pt3h => (simp only [List.getElem?_toArray, List.getElem?_cons_succ, List.getElem?_cons_zero]; rfl)
            case pt3q => exact fun _ _ _ h => h
            case pt3y => (refine Or.inl ⟨by first | kernel_rfl | rfl, ?_⟩; intro w hSw; (try dsimp only at hSw); have d1 := (HE.out.later hSw).c1; go_simp <;> (try with_reducible rfl))
            try simp only [Act.put, List.setIfInBounds_toArray, List.set_cons_zero, List.set_cons_succ]
            refine wpAnyH_take (i := 4) (oi := ?pt4o) (v := ?pt4v) ?pt4h (by kernel_rfl) (by kernel_rfl) (by kernel_rfl) ?pt4q ?pt4y hHeld ?pt4r
            case pt4h => (simp only [List.getElem?_toArray, List.getElem?_cons_succ, List.getElem?_cons_zero]; rfl)
            case pt4q => exact fun _ _ _ h => h
            case pt4y => (refine Or.inl ⟨by first | kernel_rfl | rfl, ?_⟩; intro w hSw; (try dsimp only at hSw); have d1 := (HE.out.later hSw).c1; go_simp <;> (try with_reducible rfl))
            try simp only [Act.put, List.setIfInBounds_toArray, List.set_cons_zero, List.set_cons_succ]
            refine wpAnyH_take (i := 5) (oi := ?pt5o) (v := ?pt5v) ?pt5h (by kernel_rfl) (by kernel_rfl) (by kernel_rfl) ?pt5q ?pt5y hHeld ?pt5r
            case pt5h => (simp only [List.getElem?_toArray, List.getElem?_cons_succ, List.getElem?_cons_zero]; rfl)
            case pt5q => exact fun _ _ _ h => h
            case pt5y => (refine Or.inl ⟨by first | kernel_rfl | rfl, ?_⟩; intro w hSw; (try dsimp only at hSw); have d1 := (HE.out.later hSw).c1; go_simp <;> (try with_reducible rfl))
            try simp only [Act.put, List.setIfInBounds_toArray, List.set_cons_zero, List.set_cons_succ]
            refine wpAnyH_ready (rs := [1]) (by kernel_rfl) (by simp) ?_
            refine (AllReadyH.cons rfl (fun K hK => ?_) AllReadyH.nil)
            go_simp
            (go_at_call 19; (with_reducible refine (out_is (HR.out.later hHeld)).mono ?_); rintro e wG ⟨vG, rfl, hnG, hbG, -⟩; (obtain ⟨aG, cG, rfl⟩ := hnG.slice); (have HNG := Lib.hid hnG); (have HBG := Lib.hid (bel_next hHeld hbG)); clear hnG hbG)
            refine hK.out _ _ (HBG.out) (fun hHeld => ?_)
            clear hK K
            try simp only [Act.put, List.setIfInBounds_toArray, List.set_cons_zero, List.set_cons_succ]
            refine wpAnyH_ready (rs := [6]) (by kernel_rfl) (by simp) ?_
            refine (AllReadyH.cons rfl (fun K hK => ?_) AllReadyH.nil)
            go_simp
            (go_at_call 18; (with_reducible refine (rsameN _ _ S1.out S1.out _ HNG.out (HE.out.later HBG.out).ns).mono ?_); rw [sameL_self]; rintro e wH ⟨rfl, hbH⟩; (have HBH := Lib.hid (bel_next HBG.out hbH)); clear hbH)
            refine hK.out _ _ (HBH.out) (fun hHeld => ?_)
            clear hK K
            try simp only [Act.put, List.setIfInBounds_toArray, List.set_cons_zero, List.set_cons_succ]
            refine wpAnyH_take (i := 7) (oi := ?pt6o) (v := ?pt6v) ?pt6h (by kernel_rfl) (by kernel_rfl) (by kernel_rfl) ?pt6q ?pt6y hHeld ?pt6r
            case pt6h => (simp only [List.getElem?_toArray, List.getElem?_cons_succ, List.getElem?_cons_zero]; rfl)
            case pt6q => exact fun _ _ _ h => h
            case pt6y => (refine Or.inl ⟨by first | kernel_rfl | rfl, ?_⟩; intro w hSw; (try dsimp only at hSw); have d1 := (HE.out.later hSw).c1; go_simp <;> (try with_reducible rfl))
            try simp only [Act.put, List.setIfInBounds_toArray, List.set_cons_zero, List.set_cons_succ]
            refine wpAnyH_done (by kernel_rfl) ?_ _

            go_upto_region 21 with (first
              | (go_at_call 20; (with_reducible refine (sure_is (HR.out.later HBH.out)).mono ?_); rintro e wu ⟨vu, K, rfl, hnu, hsu, hbu⟩; (obtain ⟨au, cu, rfl⟩ := hnu.slice); (have HNU := Lib.hid hnu); (have HSU := Lib.hid hsu); (have HBU := Lib.hid (bel_next HBH.out hbu)); clear hnu hsu hbu)
              | (go_at_call 21; (with_reducible refine (esure_is (HE.out.later HBU.out)).mono ?_); rintro e wv ⟨vv, K2, rfl, hnv, hsv, hbv⟩; (obtain rfl := hsv.uniq HSU.out); (obtain ⟨av, cv, rfl⟩ := hnv.slice); (have kS := rsameN _ _ _ _ wv (Ns.later HNU.out hbv) hnv); (rw [sameL_self] at kS); (have HBV := Lib.hid (bel_next HBU.out hbv)); clear hnv hsv hbv)
              | (go_at_call 18; (with_reducible refine kS.mono ?_); rintro e wx ⟨rfl, hbx⟩; (have HBX := Lib.hid (bel_next HBV.out hbx)); clear hbx kS)
              | (go_at_call 22; (with_reducible refine (lacks_is (HR.out.later HBX.out)).mono ?_); rintro e wk ⟨vk, rfl, hnk, hbk⟩; (obtain ⟨ak, ck, rfl⟩ := hnk.slice); (have HNK := Lib.hid hnk); (have HBK := Lib.hid (bel_next HBX.out hbk)); clear hnk hbk)
              | (go_at_call 23; (with_reducible refine (elacks_is (HE.out.later HBK.out)).mono ?_); rintro e wl ⟨vl, rfl, hnl2, hbl⟩; (obtain ⟨al, cl, rfl⟩ := hnl2.slice); (have kL := rsameN _ _ _ _ wl (Ns.later HNK.out hbl) hnl2); (rw [sameL_self] at kL); (have HBL := Lib.hid (bel_next HBK.out hbl)); clear hnl2 hbl)
              | (go_at_call 18; (with_reducible refine kL.mono ?_); rintro e wz ⟨rfl, hbz⟩; (have HBZ := Lib.hid (bel_next HBL.out hbz)); clear hbz kL))
            have hbk3 : ((nl : Int) != (nl : Int)) = false := by simp
            refine wp_region_held_drew (S := (fun X : World => Below wt.heap.size wt X)) (by kernel_rfl) HBZ.out.drew (fun hHeld => ?_)
            refine wpAnyH_take (i := 0) (oi := ?pu1o) (v := ?pu1v) ?pu1h (by kernel_rfl) (by kernel_rfl) (by kernel_rfl) ?pu1q ?pu1y hHeld ?pu1r
            case pu1h => (simp only [List.getElem?_toArray, List.getElem?_cons_zero]; rfl)
            case pu1q => exact fun _ _ _ h => h
            case pu1y => (refine Or.inl ⟨by first | kernel_rfl | rfl, ?_⟩; intro w hSw; (try dsimp only at hSw); have d2 := (HE.out.later hSw).c2; rw [HNL.out] at d2; go_simp <;> (try with_reducible rfl))
            try simp only [Act.put, List.setIfInBounds_toArray, List.set_cons_zero, List.set_cons_succ]
            refine wpAnyH_take (i := 1) (oi := ?pu2o) (v := ?pu2v) ?pu2h (by kernel_rfl) (by kernel_rfl) (by kernel_rfl) ?pu2q ?pu2y hHeld ?pu2r
            case pu2h => (simp only [List.getElem?_toArray, List.getElem?_cons_succ, List.getElem?_cons_zero]; rfl)
            case pu2q => exact fun _ _ _ h => h
            case pu2y => (refine Or.inl ⟨by first | kernel_rfl | rfl, ?_⟩; intro w hSw; (try dsimp only at hSw); have d2 := (HE.out.later hSw).c2; rw [HNL.out] at d2; go_simp <;> (try with_reducible rfl))
            try simp only [Act.put, List.setIfInBounds_toArray, List.set_cons_zero, List.set_cons_succ]
            refine wpAnyH_take (i := 2) (oi := ?pu3o) (v := ?pu3v) ?pu3h (by kernel_rfl) (by kernel_rfl) (by kernel_rfl) ?pu3q ?pu3y hHeld ?pu3r
            case pu3h => (simp only [List.getElem?_toArray, List.getElem?_cons_succ, List.getElem?_cons_zero]; rfl)
            case pu3q => exact fun _ _ _ h => h
            case pu3y => (refine Or.inl ⟨by first | kernel_rfl | rfl, ?_⟩; intro w hSw; (try dsimp only at hSw); have d2 := (HE.out.later hSw).c2; rw [HNL.out] at d2; go_simp <;> (try with_reducible rfl))
            try simp only [Act.put, List.setIfInBounds_toArray, List.set_cons_zero, List.set_cons_succ]
            refine wpAnyH_take (i := 3) (oi := ?pu4o) (v := ?pu4v) ?pu4h (by kernel_rfl) (by kernel_rfl) (by kernel_rfl) ?pu4q ?pu4y hHeld ?pu4r
            case pu4h => (simp only [List.getElem?_toArray, List.getElem?_cons_succ, List.getElem?_cons_zero]; rfl)
            case pu4q => exact fun _ _ _ h => h
            case pu4y => (refine Or.inl ⟨by first | kernel_rfl | rfl, ?_⟩; intro w hSw; (try dsimp only at hSw); have d2 := (HE.out.later hSw).c2; rw [HNL.out] at d2; go_simp <;> (try with_reducible rfl))
            try simp only [Act.put, List.setIfInBounds_toArray, List.set_cons_zero, List.set_cons_succ]
            refine wpAnyH_take (i := 4) (oi := ?pu5o) (v := ?pu5v) ?pu5h (by kernel_rfl) (by kernel_rfl) (by kernel_rfl) ?pu5q ?pu5y hHeld ?pu5r
            case pu5h => (simp only [List.getElem?_toArray, List.getElem?_cons_succ, List.getElem?_cons_zero]; rfl)
            case pu5q => exact fun _ _ _ h => h
            case pu5y => (refine Or.inl ⟨by first | kernel_rfl | rfl, ?_⟩; intro w hSw; (try dsimp only at hSw); have d2 := (HE.out.later hSw).c2; rw [HNL.out] at d2; go_simp <;> (try with_reducible rfl))
            try simp only [Act.put, List.setIfInBounds_toArray, List.set_cons_zero, List.set_cons_succ]
            refine wpAnyH_take (i := 5) (oi := ?pu6o) (v := ?pu6v) ?pu6h (by kernel_rfl) (by kernel_rfl) (by kernel_rfl) ?pu6q ?pu6y hHeld ?pu6r
            case pu6h => (simp only [List.getElem?_toArray, List.getElem?_cons_succ, List.getElem?_cons_zero]; rfl)
            case pu6q => exact fun _ _ _ h => h
            case pu6y => (refine Or.inl ⟨by first | kernel_rfl | rfl, ?_⟩; intro w hSw; (try dsimp only at hSw); have d2 := (HE.out.later hSw).c2; rw [HNL.out] at d2; go_simp <;> (try with_reducible rfl))
            try simp only [Act.put, List.setIfInBounds_toArray, List.set_cons_zero, List.set_cons_succ]
            refine wpAnyH_take (i := 6) (oi := ?pu7o) (v := ?pu7v) ?pu7h (by kernel_rfl) (by kernel_rfl) (by kernel_rfl) ?pu7q ?pu7y hHeld ?pu7r
            case pu7h => (simp only [List.getElem?_toArray, List.getElem?_cons_succ, List.getElem?_cons_zero]; rfl)
            case pu7q => exact fun _ _ _ h => h
            case pu7y => (refine Or.inl ⟨by first | kernel_rfl | rfl, ?_⟩; intro w hSw; (try dsimp only at hSw); have d2 := (HE.out.later hSw).c2; rw [HNL.out] at d2; go_simp <;> (try with_reducible rfl))
            try simp only [Act.put, List.setIfInBounds_toArray, List.set_cons_zero, List.set_cons_succ]
            refine wpAnyH_take (i := 7) (oi := ?pu8o) (v := ?pu8v) ?pu8h (by kernel_rfl) (by kernel_rfl) (by kernel_rfl) ?pu8q ?pu8y hHeld ?pu8r
            case pu8h => (simp only [List.getElem?_toArray, List.getElem?_cons_succ, List.getElem?_cons_zero]; rfl)
            case pu8q => exact fun _ _ _ h => h
            case pu8y => (refine Or.inl ⟨by first | kernel_rfl | rfl, ?_⟩; intro w hSw; (try dsimp only at hSw); have d2 := (HE.out.later hSw).c2; rw [HNL.out] at d2; go_simp <;> (try with_reducible rfl))
            try simp only [Act.put, List.setIfInBounds_toArray, List.set_cons_zero, List.set_cons_succ]
            refine wpAnyH_take (i := 8) (oi := ?pu9o) (v := ?pu9v) ?pu9h (by kernel_rfl) (by kernel_rfl) (by kernel_rfl) ?pu9q ?pu9y hHeld ?pu9r
            case pu9h => (simp only [List.getElem?_toArray, List.getElem?_cons_succ, List.getElem?_cons_zero]; rfl)
            case pu9q => exact fun _ _ _ h => h
            case pu9y => (refine Or.inl ⟨by first | kernel_rfl | rfl, ?_⟩; intro w hSw; (try dsimp only at hSw); have d2 := (HE.out.later hSw).c2; rw [HNL.out] at d2; go_simp <;> (try with_reducible rfl))
            try simp only [Act.put, List.setIfInBounds_toArray, List.set_cons_zero, List.set_cons_succ]
            refine wpAnyH_take (i := 9) (oi := ?pu10o) (v := ?pu10v) ?pu10h (by kernel_rfl) (by kernel_rfl) (by kernel_rfl) ?pu10q ?pu10y hHeld ?pu10r
            case pu10h => (simp only [List.getElem?_toArray, List.getElem?_cons_succ, List.getElem?_cons_zero]; rfl)
            case pu10q => exact fun _ _ _ h => h
            case pu10y => (refine Or.inl ⟨by first | kernel_rfl | rfl, ?_⟩; intro w hSw; (try dsimp only at hSw); have d2 := (HE.out.later hSw).c2; rw [HNL.out] at d2; go_simp <;> (try with_reducible rfl))
            try simp only [Act.put, List.setIfInBounds_toArray, List.set_cons_zero, List.set_cons_succ]
            refine wpAnyH_take (i := 10) (oi := ?pu11o) (v := ?pu11v) ?pu11h (by kernel_rfl) (by kernel_rfl) (by kernel_rfl) ?pu11q ?pu11y hHeld ?pu11r
            case pu11h => (simp only [List.getElem?_toArray, List.getElem?_cons_succ, List.getElem?_cons_zero]; rfl)
            case pu11q => exact fun _ _ _ h => h
            case pu11y => (refine Or.inl ⟨by first | kernel_rfl | rfl, ?_⟩; intro w hSw; (try dsimp only at hSw); have d2 := (HE.out.later hSw).c2; rw [HNL.out] at d2; go_simp <;> (try with_reducible rfl))
            try simp only [Act.put, List.setIfInBounds_toArray, List.set_cons_zero, List.set_cons_succ]
            refine wpAnyH_take (i := 11) (oi := ?pu12o) (v := ?pu12v) ?pu12h (by kernel_rfl) (by kernel_rfl) (by kernel_rfl) ?pu12q ?pu12y hHeld ?pu12r
            case pu12h => (simp only [List.getElem?_toArray, List.getElem?_cons_succ, List.getElem?_cons_zero]; rfl)
            case pu12q => exact fun _ _ _ h => h
            case pu12y => (refine Or.inl ⟨by first | kernel_rfl | rfl, ?_⟩; intro w hSw; (try dsimp only at hSw); have d2 := (HE.out.later hSw).c2; rw [HNL.out] at d2; go_simp <;> (try with_reducible rfl))
            try simp only [Act.put, List.setIfInBounds_toArray, List.set_cons_zero, List.set_cons_succ]
            refine wpAnyH_take (i := 12) (oi := ?pu13o) (v := ?pu13v) ?pu13h (by kernel_rfl) (by kernel_rfl) (by kernel_rfl) ?pu13q ?pu13y hHeld ?pu13r
            case pu13h => (simp only [List.getElem?_toArray, List.getElem?_cons_succ, List.getElem?_cons_zero]; rfl)
            case pu13q => exact fun _ _ _ h => h
            case pu13y => (refine Or.inl ⟨by first | kernel_rfl | rfl, ?_⟩; intro w hSw; (try dsimp only at hSw); have d2 := (HE.out.later hSw).c2; rw [HNL.out] at d2; go_simp <;> (try with_reducible rfl))
            try simp only [Act.put, List.setIfInBounds_toArray, List.set_cons_zero, List.set_cons_succ]
            refine wpAnyH_take (i := 13) (oi := ?pu14o) (v := ?pu14v) ?pu14h (by kernel_rfl) (by kernel_rfl) (by kernel_rfl) ?pu14q ?pu14y hHeld ?pu14r
            case pu14h => (simp only [List.getElem?_toArray, List.getElem?_cons_succ, List.getElem?_cons_zero]; rfl)
            case pu14q => exact fun _ _ _ h => h
            case pu14y => (refine Or.inl ⟨by first | kernel_rfl | rfl, ?_⟩; intro w hSw; (try dsimp only at hSw); have d2 := (HE.out.later hSw).c2; rw [HNL.out] at d2; go_simp <;> (try with_reducible rfl))
            try simp only [Act.put, List.setIfInBounds_toArray, List.set_cons_zero, List.set_cons_succ]
            refine wpAnyH_take (i := 14) (oi := ?pu15o) (v := ?pu15v) ?pu15h (by kernel_rfl) (by kernel_rfl) (by kernel_rfl) ?pu15q ?pu15y hHeld ?pu15r
            case pu15h => (simp only [List.getElem?_toArray, List.getElem?_cons_succ, List.getElem?_cons_zero]; rfl)
            case pu15q => exact fun _ _ _ h => h
            case pu15y => (refine Or.inl ⟨by first | kernel_rfl | rfl, ?_⟩; intro w hSw; (try dsimp only at hSw); have d2 := (HE.out.later hSw).c2; rw [HNL.out] at d2; go_simp <;> (try with_reducible rfl))
            try simp only [Act.put, List.setIfInBounds_toArray, List.set_cons_zero, List.set_cons_succ]
            refine wpAnyH_take (i := 15) (oi := ?pu16o) (v := ?pu16v) ?pu16h (by kernel_rfl) (by kernel_rfl) (by kernel_rfl) ?pu16q ?pu16y hHeld ?pu16r
            case pu16h => (simp only [List.getElem?_toArray, List.getElem?_cons_succ, List.getElem?_cons_zero]; rfl)
            case pu16q => exact fun _ _ _ h => h
            case pu16y => (refine Or.inl ⟨by first | kernel_rfl | rfl, ?_⟩; intro w hSw; (try dsimp only at hSw); have d2 := (HE.out.later hSw).c2; rw [HNL.out] at d2; go_simp <;> (try with_reducible rfl))
            try simp only [Act.put, List.setIfInBounds_toArray, List.set_cons_zero, List.set_cons_succ]
            refine wpAnyH_take (i := 17) (oi := ?pu17o) (v := ?pu17v) ?pu17h (by kernel_rfl) (by kernel_rfl) (by kernel_rfl) ?pu17q ?pu17y hHeld ?pu17r
            case pu17h => (simp only [List.getElem?_toArray, List.getElem?_cons_succ, List.getElem?_cons_zero]; rfl)
            case pu17q => exact fun _ _ _ h => h
            case pu17y => (refine Or.inl ⟨by first | kernel_rfl | rfl, ?_⟩; intro w hSw; (try dsimp only at hSw); have d2 := (HE.out.later hSw).c2; rw [HNL.out] at d2; go_simp <;> (try with_reducible rfl))
            try simp only [Act.put, List.setIfInBounds_toArray, List.set_cons_zero, List.set_cons_succ]
            refine wpAnyH_take (i := 18) (oi := ?pu18o) (v := ?pu18v) ?pu18h (by kernel_rfl) (by kernel_rfl) (by kernel_rfl) ?pu18q ?pu18y hHeld ?pu18r
            case pu18h => (simp only [List.getElem?_toArray, List.getElem?_cons_succ, List.getElem?_cons_zero]; rfl)
            case pu18q => exact fun _ _ _ h => h
            case pu18y => (refine Or.inl ⟨by first | kernel_rfl | rfl, ?_⟩; intro w hSw; (try dsimp only at hSw); have d2 := (HE.out.later hSw).c2; rw [HNL.out] at d2; go_simp <;> (try with_reducible rfl))
            try simp only [Act.put, List.setIfInBounds_toArray, List.set_cons_zero, List.set_cons_succ]
            refine wpAnyH_take (i := 19) (oi := ?pu19o) (v := ?pu19v) ?pu19h (by kernel_rfl) (by kernel_rfl) (by kernel_rfl) ?pu19q ?pu19y hHeld ?pu19r
            case pu19h => (simp only [List.getElem?_toArray, List.getElem?_cons_succ, List.getElem?_cons_zero]; rfl)
            case pu19q => exact fun _ _ _ h => h
            case pu19y => (refine Or.inl ⟨by first | kernel_rfl | rfl, ?_⟩; intro w hSw; (try dsimp only at hSw); have d2 := (HE.out.later hSw).c2; rw [HNL.out] at d2; go_simp <;> (try with_reducible rfl))
            try simp only [Act.put, List.setIfInBounds_toArray, List.set_cons_zero, List.set_cons_succ]
            refine wpAnyH_take (i := 20) (oi := ?pu20o) (v := ?pu20v) ?pu20h (by kernel_rfl) (by kernel_rfl) (by kernel_rfl) ?pu20q ?pu20y hHeld ?pu20r
            case pu20h => (simp only [List.getElem?_toArray, List.getElem?_cons_succ, List.getElem?_cons_zero]; rfl)
            case pu20q => exact fun _ _ _ h => h
            case pu20y => (refine Or.inl ⟨by first | kernel_rfl | rfl, ?_⟩; intro w hSw; (try dsimp only at hSw); have d2 := (HE.out.later hSw).c2; rw [HNL.out] at d2; go_simp <;> (try with_reducible rfl))
            try simp only [Act.put, List.setIfInBounds_toArray, List.set_cons_zero, List.set_cons_succ]
            refine wpAnyH_take (i := 21) (oi := ?pu21o) (v := ?pu21v) ?pu21h (by kernel_rfl) (by kernel_rfl) (by kernel_rfl) ?pu21q ?pu21y hHeld ?pu21r
            case pu21h => (simp only [List.getElem?_toArray, List.getElem?_cons_succ, List.getElem?_cons_zero]; rfl)
            case pu21q => exact fun _ _ _ h => h
            case pu21y => (refine Or.inl ⟨by first | kernel_rfl | rfl, ?_⟩; intro w hSw; (try dsimp only at hSw); have d2 := (HE.out.later hSw).c2; rw [HNL.out] at d2; go_simp <;> (try with_reducible rfl))
            try simp only [Act.put, List.setIfInBounds_toArray, List.set_cons_zero, List.set_cons_succ]
            refine wpAnyH_ready (rs := [16]) (by kernel_rfl) (by simp) ?_
            refine (AllReadyH.cons rfl (fun K hK => ?_) AllReadyH.nil)
            go_simp
            (go_at_call 24; (with_reducible refine (len_is (HR.out.later hHeld)).mono ?_); (rw [HNL.out]); rintro e wJ ⟨rfl, rfl⟩)
            refine hK.out _ _ (hHeld) (fun hHeld => ?_)
            clear hK K
            try simp only [Act.put, List.setIfInBounds_toArray, List.set_cons_zero, List.set_cons_succ]
            refine wpAnyH_take (i := 22) (oi := ?pu22o) (v := ?pu22v) ?pu22h (by kernel_rfl) (by kernel_rfl) (by kernel_rfl) ?pu22q ?pu22y hHeld ?pu22r
            case pu22h => (simp only [List.getElem?_toArray, List.getElem?_cons_succ, List.getElem?_cons_zero]; rfl)
            case pu22q => exact fun _ _ _ h => h
            case pu22y => (refine Or.inl ⟨by first | kernel_rfl | rfl, ?_⟩; intro w hSw; (try dsimp only at hSw); have d2 := (HE.out.later hSw).c2; rw [HNL.out] at d2; go_simp <;> (try with_reducible rfl))
            try simp only [Act.put, List.setIfInBounds_toArray, List.set_cons_zero, List.set_cons_succ]
            refine wpAnyH_take (i := 23) (oi := ?pu23o) (v := ?pu23v) ?pu23h (by kernel_rfl) (by kernel_rfl) (by kernel_rfl) ?pu23q ?pu23y hHeld ?pu23r
            case pu23h => (simp only [List.getElem?_toArray, List.getElem?_cons_succ, List.getElem?_cons_zero]; rfl)
            case pu23q => exact fun _ _ _ h => h
            case pu23y => (refine Or.inl ⟨by first | kernel_rfl | rfl, ?_⟩; intro w hSw; (try dsimp only at hSw); have d2 := (HE.out.later hSw).c2; rw [HNL.out] at d2; go_simp <;> (try with_reducible rfl))
            try simp only [Act.put, List.setIfInBounds_toArray, List.set_cons_zero, List.set_cons_succ]
            refine wpAnyH_done (by kernel_rfl) ?_ _

            have HFIN := Lib.hid (HT.out.later hHeld)
            go_wp2
            go_roundw
            case rel => exact ⟨k + 1, S1, by omega, by go_num, HFIN⟩
            case measure => simp [intOf]; omega
      · have hx2 : ¬ (k : Int) < 60 := by omega
        go_wp2
        go_ret
        exact ⟨rfl, HJ.out.bel⟩
    · have hx1 : ¬ (k : Int) < (n : Int) := by omega
      go_wp2
      go_ret
      exact ⟨rfl, HJ.out.bel⟩
end causalPlays
end Go.Proofs.Ythifmfgnblecbaa.Og.Cb
