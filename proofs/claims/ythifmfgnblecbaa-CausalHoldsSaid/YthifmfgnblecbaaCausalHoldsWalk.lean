/- CausalHolds. -/
import Derived.Test.YthifmfgnblecbaaCbHoldsAt
set_option maxRecDepth 200000
set_option linter.unusedSimpArgs false
set_option linter.unusedVariables false
namespace Go.Proofs.Ythifmfgnblecbaa.Og.Cb
open Go.RowKit Go.Maps Go.Proofs.Ythifmfgnblecbaa.Vi Go.Proofs.Ythifmfgnblecbaa.Mk

namespace causalHolds
set_option maxHeartbeats 64000000 in
theorem walk (room : Int) (a : Option Addr) (len cap : Nat) (w : World) (hr : -9223372036854775808 ≤ room ∧ room ≤ 9223372036854775807) (hA : ArgKOps w a len cap) : Calls Try.prog 5 #[.int .i64 room, .slice a len cap] w fun e w' => e = .returned (.bool true) ∧ Below w.heap.size w w' := by
  obtain ⟨ops, rfl, hat, hlen, hfit⟩ := hA.has
  have HFIT := Lib.hid hfit
  have HAT0 := Lib.hid hat
  have ka := awake_is w
  obtain ⟨n, hn⟩ : ∃ n, ops.length = n := ⟨_, rfl⟩
  rw [hn] at hlen ⊢
  have HN := Lib.hid hn
  obtain ⟨q0, kk, q0q, hkk, q0c⟩ := tm11 room
  have knw := fun W => new_is (kk : Int) (.slice none 0 0) [] W ((Nums.nil W none 0).mono (Nat.zero_le _) (Nat.le_refl _))
  have HCAP := Lib.hid (show newC (kk : Int) [] = ⟨(kk : Int), [], []⟩ from by unfold newC; rw [show min (max (kk : Int) 0) 400 = (kk : Int) by omega]; rfl)
  clear hfit hat hA hn hr
  go_enter Try.func5, Try.ntmps5
  go_upto_if 24 with (go_at_call 8; (with_reducible refine ka.mono ?_); rintro e w1 ⟨rfl, hb1⟩; (have HB1 := Lib.hid hb1); clear hb1)
  go_cut [6] from 23 (fun v wx => v = .int .i64 (kk : Int) ∧ w1 = wx)
  case first =>
    rcases q0c with ⟨c1, c2⟩ | ⟨c1, c2⟩
    all_goals (go_wp2_with fail; go_meet; exact ⟨by simp [*], rfl⟩)
  case rest =>
  obtain ⟨rfl, rfl⟩ := hcut
  clear q0c q0q
  go_wp2_with (go_at_call 9; (with_reducible refine (knw _).mono ?_); rintro e w2 ⟨b, rfl, -, hL2, hb2⟩; (have HJ0 := Lib.hid (show HoJ w w2 b kk (newC (kk : Int) []) [] 0 (.slice none 0 0) from ⟨⟨_, (hL2 w.heap.size HB1.out.size), fun g hg e => (by cases e), bel_next HB1.out hb2, fun g e => (by cases e)⟩, ORow.nil _ _, fun x hx => (by cases hx), fun r hr => (by cases hr), rfl, by rw [HCAP.out]⟩)); clear hL2 hb2)
  go_loopw [8, 9] (fun vv iv wr => ∃ (k q : Nat) (a3 : Option Addr) (c3 : Nat) (S : CS) (zs : List Rd), k ≤ 60 ∧ q ≤ k ∧ vv = .slice a3 q c3 ∧ iv = .int .i64 (k : Int) ∧ Hid (HoJ w wr b kk S zs q (.slice a3 q c3))) (fun _ iv _ => 60 - (intOf iv).toNat)
  case atStart => exact ⟨0, 0, none, 0, _, [], by omega, by omega, rfl, rfl, HJ0⟩
  case round =>
    obtain ⟨k, q, a3, c3, S, zs, hk, hqk, rfl, rfl, HJ⟩ := hrel
    clear HJ0
    obtain ⟨w8, hw8⟩ : ∃ x, x = wr := ⟨_, rfl⟩
    subst hw8
    by_cases hk1 : k < n
    · have hx1 : (k : Int) < (n : Int) := by omega
      by_cases hk2 : k < 60
      · have hx2 : (k : Int) < 60 := by omega
        have hkl : k < ops.length := by rw [HN.out]; exact hk1
        rcases HAT0.out with h0 | ⟨g, off, rfl, hgw, hops⟩
        · rw [h0] at hkl; simp at hkl
        · have HBr := Lib.hid HJ.out.bel
          have hx := hops k hkl
          have hfx := HFIT.out _ (List.getElem_mem hkl)
          obtain ⟨x, hxe⟩ : ∃ x, ops[k] = x := ⟨_, rfl⟩
          rw [hxe] at hx hfx
          have hx := hx.below HBr.out hgw
          have HF := Lib.hid hfx
          clear hfx
          obtain ⟨ok, ⟨⟨rk, rs, rt, rv, rtier, ⟨rc, rst, rq⟩, rd⟩, ra, rcc⟩⟩ := x
          obtain ⟨x0, x1, x2, x3, x4, x5, x6, x7, x8, x9⟩ := hx
          dsimp only at x0 x1 x2 x3 x4 x5 x6 x7 x8 x9
          obtain ⟨s6, hs6⟩ : ∃ s6, cutB rs 60 = s6 := ⟨_, rfl⟩
          obtain ⟨d12, hd12⟩ : ∃ d12, rd.take 12 = d12 := ⟨_, rfl⟩
          have HS6 := Lib.hid hs6
          have HD12 := Lib.hid hd12
          have hst := HF.out.rc.ss
          dsimp only at hst
          have HFITS := Lib.hid (show Rec.fits ⟨rk, s6, rt, rv, rtier, ⟨rc, rst, rq⟩, d12⟩ from by have h8 := small_fits (x := ⟨⟨rk, rs, rt, rv, rtier, ⟨rc, rst, rq⟩, rd⟩, ra, rcc⟩) HF.out.rc; unfold smallR Rec.small at h8; dsimp only at h8; rw [hs6, hd12] at h8; exact h8)
          have HS60 := Lib.hid (show s6.size ≤ 60 by rw [← hs6]; exact cutB_len _ _)
          have HL12 := Lib.hid (show d12.length ≤ 12 by rw [← hd12, List.length_take]; omega)
          have HOWN := Lib.hid (fun (hd : d12 ≠ []) q (hq : (Value.slice ra d12.length rcc).ownBlock = some q) => (show q < w.heap.size from own_lt9 (by have h9 := take12 HF.out.d; dsimp only at h9; rw [hd12] at h9; exact h9) hd q hq))
          clear hs6 hd12 hxe
          have halo := (Below.refl w8.heap.size w8).alloc (Nat.le_refl _) (.cells #[.int .i64 ok, .int .i64 rk, .string rs, .int .i64 rt, .int .i64 rv, .int .i64 rtier, .int .i64 rc, .int .i64 rst, .int .i64 rq, .slice ra rd.length rcc] 35)
          have HALO := Lib.hid halo
          have HSM := Lib.hid (small_lit rk rt rv rtier rc rst rq rs s6 rd d12 ra rcc (w8.alloc (.cells #[.int .i64 ok, .int .i64 rk, .string rs, .int .i64 rt, .int .i64 rv, .int .i64 rtier, .int .i64 rc, .int .i64 rst, .int .i64 rq, .slice ra rd.length rcc] 35)) (args_later HF.out.d (bel_next HBr.out halo)) HF.out.rc.s HS6 HD12)
          have HOB := Lib.hid (KOpO.new w8 ⟨ok, ⟨⟨rk, rs, rt, rv, rtier, ⟨rc, rst, rq⟩, rd⟩, ra, rcc⟩⟩)
          have hltI : (k : Int) < (n : Int) := by omega
          clear hops hgw halo
          by_cases h3 : ok.tmod 4 = 3
          · have h3b : (ok.tmod 4 == 3) = true := by simpa using h3
            go_upto_region 13 with fail
            obtain ⟨wr, hwr⟩ : ∃ x, w8 = x := ⟨_, rfl⟩
            rw [hwr] at HJ HBr HALO HSM HOB ⊢
            clear x0 x1 x2 x3 x4 x5 x6 x7 x8 x9
            obtain ⟨x0, x1, x2, x3, x4, x5, x6, x7, x8, x9⟩ := HOB.out
            dsimp only [Nat.zero_add] at x0 x1 x2 x3 x4 x5 x6 x7 x8 x9
            go_upto_region 14 with fail
            have HBX1 := Lib.hid (HJ.out.bx.later HALO.out)
            go_upto_region 15 with (go_at_call 12; (with_reducible refine (HBX1.out.Next).mono ?_); rintro e wN ⟨⟨⟨gk, gs, gt, gv, gtier, ⟨gc, gst, gq⟩, gd⟩, ga, gcc⟩, rfl, hgr, hgn, hbN, hkN⟩; (unfold recV Rd.dv at *); (dsimp only at *); (have HGR := Lib.hid hgr); (have HGN := Lib.hid hgn); (have HBN := Lib.hid hbN); (have HKN := Lib.hid hkN); clear hgr hgn hbN hkN)
            have halg := (Below.refl wN.heap.size wN).alloc (Nat.le_refl _) (.cells #[.int .i64 gk, .string gs, .int .i64 gt, .int .i64 gv, .int .i64 gtier, .int .i64 gc, .int .i64 gst, .int .i64 gq, .slice ga gd.length gcc] 33)
            have hX9 : R9 (wN.alloc (.cells #[.int .i64 gk, .string gs, .int .i64 gt, .int .i64 gv, .int .i64 gtier, .int .i64 gc, .int .i64 gst, .int .i64 gq, .slice ga gd.length gcc] 33)) wN.heap.size 0 (⟨⟨gk, gs, gt, gv, gtier, ⟨gc, gst, gq⟩, gd⟩, ga, gcc⟩ : Rd) := R9.new wN (⟨⟨gk, gs, gt, gv, gtier, ⟨gc, gst, gq⟩, gd⟩, ga, gcc⟩ : Rd)
            have HJN := Lib.hid (HJ.out.next HBN.out ⟨Nat.le_trans HALO.out.size HKN.out.1, fun g hg => (HKN.out.2 g hg).trans (HALO.out.block g (HJ.out.row.lt hg).2)⟩)
            obtain ⟨isn, hisn⟩ : ∃ z, (nextR S).isSome = z := ⟨_, rfl⟩
            rw [hisn]
            obtain ⟨p9, hp9⟩ : ∃ g, wN.heap.size = g := ⟨_, rfl⟩
            obtain ⟨w7, hw7⟩ : ∃ x, wN.alloc (.cells #[.int .i64 gk, .string gs, .int .i64 gt, .int .i64 gv, .int .i64 gtier, .int .i64 gc, .int .i64 gst, .int .i64 gq, .slice ga gd.length gcc] 33) = x := ⟨_, rfl⟩
            rw [hw7] at halg hX9 ⊢
            rw [hp9] at hX9 ⊢
            have HX9 := Lib.hid hX9
            have HT7 := Lib.hid (HJN.out.later halg)
            have HGN7 := Lib.hid (Ns.later HGN.out halg)
            have HSTART := Lib.hid (Below.refl w7.heap.size w7)
            have HIS := Lib.hid hisn
            clear hw7 hp9 halg hX9 hisn
            go_wp2
            go_loopw [13, 14, 15] (fun fv jv _ wi => ∃ (j : Nat) (f : Bool), j ≤ q ∧ fv = .bool f ∧ jv = .int .i64 (j : Int) ∧ Hid (Below w7.heap.size w7 wi ∧ ((isn = false ∨ ∃ i, ∃ (h : i < zs.length), i < j ∧ (zs[i].r.same (⟨⟨gk, gs, gt, gv, gtier, ⟨gc, gst, gq⟩, gd⟩, ga, gcc⟩ : Rd).r) = true) → f = true))) (fun _ jv _ _ => q - (intOf jv).toNat)
            case atStart => exact ⟨0, !isn, by omega, rfl, rfl, Lib.hid (And.intro HSTART.out (fun h => by
                rcases h with h | ⟨i, hi, h, -⟩
                · rw [h]; rfl
                · omega))⟩
            case round =>
              obtain ⟨j, f, hj, rfl, rfl, HI2⟩ := hrel
              clear HSTART
              have HB7 := Lib.hid HI2.out.1
              by_cases hjq : j < q
              · have hjq2 : (j : Int) < (q : Int) := by omega
                have hjz : j < zs.length := by rw [HT7.out.len]; exact hjq
                have hrow7 := HT7.out.row
                obtain ⟨g2, off2, rfl, -, -, hgl2, hcs2⟩ := hrow7.cell (by omega)
                have hr9 := R9.later (hcs2 j hjz) HB7.out
                obtain ⟨z, hz⟩ : ∃ z, zs[j] = z := ⟨_, rfl⟩
                have hzn : Ns wr z.dv z.r.d := Ns.later (HT7.out.ns (by rw [← hz]; exact List.getElem_mem hjz)) HB7.out
                rw [hz] at hr9
                obtain ⟨sm, hsm⟩ : ∃ s, z.r.same (⟨⟨gk, gs, gt, gv, gtier, ⟨gc, gst, gq⟩, gd⟩, ga, gcc⟩ : Rd).r = s := ⟨_, rfl⟩
                have HFN := Lib.hid (show (isn = false ∨ ∃ i, ∃ (h : i < zs.length), i < j + 1 ∧ (zs[i].r.same (⟨⟨gk, gs, gt, gv, gtier, ⟨gc, gst, gq⟩, gd⟩, ga, gcc⟩ : Rd).r) = true) → (f || sm) = true from fun h => by
                  rcases h with h | ⟨i, hi, h1, h2⟩
                  · rw [HI2.out.2 (Or.inl h)]; rfl
                  · by_cases ei : i = j
                    · subst ei
                      rw [hz, hsm] at h2
                      rw [h2]; simp
                    · rw [HI2.out.2 (Or.inr ⟨i, hi, by omega, h2⟩)]; rfl)
                have HSM := Lib.hid (fun (W : World) (hb : Below w7.heap.size w7 W) => rsamer_is z.r (⟨⟨gk, gs, gt, gv, gtier, ⟨gc, gst, gq⟩, gd⟩, ga, gcc⟩ : Rd).r z.dv (⟨⟨gk, gs, gt, gv, gtier, ⟨gc, gst, gq⟩, gd⟩, ga, gcc⟩ : Rd).dv sm W (Ns.later (HT7.out.ns (by rw [← hz]; exact List.getElem_mem hjz)) hb) (Ns.later HGN7.out hb) (Lib.hid hsm))
                obtain ⟨⟨zk, zss, zt, zv, ztier, ⟨zc, zst, zq⟩, zd⟩, za, zcc⟩ := z
                unfold recV Rd.dv at HSM
                dsimp only at HSM hr9
                have HZ9 := Lib.hid (show R9 w7 g2 (off2 + j * 9) ⟨⟨zk, zss, zt, zv, ztier, ⟨zc, zst, zq⟩, zd⟩, za, zcc⟩ from by have h8 := hcs2 j hjz; rw [hz] at h8; exact h8)
                clear hcs2 hz hr9 hzn hsm HI2
                go_upto_region 19 with fail
                refine wp_region_held_drew (S := (fun X : World => Below w7.heap.size w7 X)) (by kernel_rfl) HB7.out.drew (fun hHeld => ?_)
                refine wpAnyH_take (i := 0) (oi := ?s1o) (v := ?s1v) ?s1h (by kernel_rfl) (by kernel_rfl) (by kernel_rfl) ?s1q ?s1y hHeld ?s1r
                case s1h => (simp only [List.getElem?_toArray, List.getElem?_cons_zero]; rfl)
                case s1q => exact fun _ _ _ h => h
                case s1y => (refine Or.inl ⟨by first | kernel_rfl | rfl, ?_⟩; intro w hSw; (try dsimp only at hSw); obtain ⟨y0, y1, y2, y3, y4, y5, y6, y7, y8⟩ := R9.later HZ9.out hSw; dsimp only at y0 y1 y2 y3 y4 y5 y6 y7 y8; obtain ⟨e0, e1, e2, e3, e4, e5, e6, e7, e8⟩ := R9.later HX9.out hSw; dsimp only [Nat.zero_add] at e0 e1 e2 e3 e4 e5 e6 e7 e8; go_simp <;> (try with_reducible rfl))
                try simp only [Act.put, List.setIfInBounds_toArray, List.set_cons_zero, List.set_cons_succ]
                refine wpAnyH_take (i := 1) (oi := ?s2o) (v := ?s2v) ?s2h (by kernel_rfl) (by kernel_rfl) (by kernel_rfl) ?s2q ?s2y hHeld ?s2r
                case s2h => (simp only [List.getElem?_toArray, List.getElem?_cons_succ, List.getElem?_cons_zero]; rfl)
                case s2q => exact fun _ _ _ h => h
                case s2y => (refine Or.inl ⟨by first | kernel_rfl | rfl, ?_⟩; intro w hSw; (try dsimp only at hSw); obtain ⟨y0, y1, y2, y3, y4, y5, y6, y7, y8⟩ := R9.later HZ9.out hSw; dsimp only at y0 y1 y2 y3 y4 y5 y6 y7 y8; obtain ⟨e0, e1, e2, e3, e4, e5, e6, e7, e8⟩ := R9.later HX9.out hSw; dsimp only [Nat.zero_add] at e0 e1 e2 e3 e4 e5 e6 e7 e8; go_simp <;> (try with_reducible rfl))
                try simp only [Act.put, List.setIfInBounds_toArray, List.set_cons_zero, List.set_cons_succ]
                refine wpAnyH_take (i := 2) (oi := ?s3o) (v := ?s3v) ?s3h (by kernel_rfl) (by kernel_rfl) (by kernel_rfl) ?s3q ?s3y hHeld ?s3r
                case s3h => (simp only [List.getElem?_toArray, List.getElem?_cons_succ, List.getElem?_cons_zero]; rfl)
                case s3q => exact fun _ _ _ h => h
                case s3y => (refine Or.inl ⟨by first | kernel_rfl | rfl, ?_⟩; intro w hSw; (try dsimp only at hSw); obtain ⟨y0, y1, y2, y3, y4, y5, y6, y7, y8⟩ := R9.later HZ9.out hSw; dsimp only at y0 y1 y2 y3 y4 y5 y6 y7 y8; obtain ⟨e0, e1, e2, e3, e4, e5, e6, e7, e8⟩ := R9.later HX9.out hSw; dsimp only [Nat.zero_add] at e0 e1 e2 e3 e4 e5 e6 e7 e8; go_simp <;> (try with_reducible rfl))
                try simp only [Act.put, List.setIfInBounds_toArray, List.set_cons_zero, List.set_cons_succ]
                refine wpAnyH_take (i := 3) (oi := ?s4o) (v := ?s4v) ?s4h (by kernel_rfl) (by kernel_rfl) (by kernel_rfl) ?s4q ?s4y hHeld ?s4r
                case s4h => (simp only [List.getElem?_toArray, List.getElem?_cons_succ, List.getElem?_cons_zero]; rfl)
                case s4q => exact fun _ _ _ h => h
                case s4y => (refine Or.inl ⟨by first | kernel_rfl | rfl, ?_⟩; intro w hSw; (try dsimp only at hSw); obtain ⟨y0, y1, y2, y3, y4, y5, y6, y7, y8⟩ := R9.later HZ9.out hSw; dsimp only at y0 y1 y2 y3 y4 y5 y6 y7 y8; obtain ⟨e0, e1, e2, e3, e4, e5, e6, e7, e8⟩ := R9.later HX9.out hSw; dsimp only [Nat.zero_add] at e0 e1 e2 e3 e4 e5 e6 e7 e8; go_simp <;> (try with_reducible rfl))
                try simp only [Act.put, List.setIfInBounds_toArray, List.set_cons_zero, List.set_cons_succ]
                refine wpAnyH_take (i := 4) (oi := ?s5o) (v := ?s5v) ?s5h (by kernel_rfl) (by kernel_rfl) (by kernel_rfl) ?s5q ?s5y hHeld ?s5r
                case s5h => (simp only [List.getElem?_toArray, List.getElem?_cons_succ, List.getElem?_cons_zero]; rfl)
                case s5q => exact fun _ _ _ h => h
                case s5y => (refine Or.inl ⟨by first | kernel_rfl | rfl, ?_⟩; intro w hSw; (try dsimp only at hSw); obtain ⟨y0, y1, y2, y3, y4, y5, y6, y7, y8⟩ := R9.later HZ9.out hSw; dsimp only at y0 y1 y2 y3 y4 y5 y6 y7 y8; obtain ⟨e0, e1, e2, e3, e4, e5, e6, e7, e8⟩ := R9.later HX9.out hSw; dsimp only [Nat.zero_add] at e0 e1 e2 e3 e4 e5 e6 e7 e8; go_simp <;> (try with_reducible rfl))
                try simp only [Act.put, List.setIfInBounds_toArray, List.set_cons_zero, List.set_cons_succ]
                refine wpAnyH_ready (rs := [5]) (by kernel_rfl) (by simp) ?_
                refine (AllReadyH.cons rfl (fun K hK => ?_) AllReadyH.nil)
                go_simp
                (go_at_call 14; (with_reducible refine (HSM.out _ hHeld).mono ?_); rintro e wz ⟨rfl, hbz⟩; (have HBZ := Lib.hid (bel_next hHeld hbz)); clear hbz)
                refine hK.out _ _ (HBZ.out) (fun hHeld => ?_)
                clear hK K
                try simp only [Act.put, List.setIfInBounds_toArray, List.set_cons_zero, List.set_cons_succ]
                refine wpAnyH_take (i := 6) (oi := ?s6o) (v := ?s6v) ?s6h (by kernel_rfl) (by kernel_rfl) (by kernel_rfl) ?s6q ?s6y hHeld ?s6r
                case s6h => (simp only [List.getElem?_toArray, List.getElem?_cons_succ, List.getElem?_cons_zero]; rfl)
                case s6q => exact fun _ _ _ h => h
                case s6y => (refine Or.inl ⟨by first | kernel_rfl | rfl, ?_⟩; intro w hSw; (try dsimp only at hSw); obtain ⟨y0, y1, y2, y3, y4, y5, y6, y7, y8⟩ := R9.later HZ9.out hSw; dsimp only at y0 y1 y2 y3 y4 y5 y6 y7 y8; obtain ⟨e0, e1, e2, e3, e4, e5, e6, e7, e8⟩ := R9.later HX9.out hSw; dsimp only [Nat.zero_add] at e0 e1 e2 e3 e4 e5 e6 e7 e8; go_simp <;> (try with_reducible rfl))
                try simp only [Act.put, List.setIfInBounds_toArray, List.set_cons_zero, List.set_cons_succ]
                refine wpAnyH_done (by kernel_rfl) ?_ _
                cases f with
                | true =>
                  go_wp2
                  go_roundw
                  case rel => exact ⟨j + 1, true, by omega, rfl, by go_num, Lib.hid (And.intro HBZ.out (fun _ => rfl))⟩
                  case measure => simp [intOf]; omega
                | false =>
                  go_wp2
                  go_roundw
                  case rel => exact ⟨j + 1, sm, by omega, rfl, by go_num, Lib.hid (And.intro HBZ.out (fun h => by have h9 := HFN.out h; simpa using h9))⟩
                  case measure => simp [intOf]; omega
              · obtain rfl : q = j := by omega
                have hjq2 : ¬ (q : Int) < (q : Int) := by omega
                have hf : f = true := HI2.out.2 (by
                  cases e : nextR S with
                  | none => left; rw [← HIS.out, e]; rfl
                  | some r =>
                    right
                    have hr := HGR.out
                    rw [e] at hr
                    obtain ⟨x, hx, hxr⟩ := HJ.out.sub r (nextR_some e).1
                    obtain ⟨i, hi, rfl⟩ := List.getElem_of_mem hx
                    refine ⟨i, hi, by have h1 := HT7.out.len; omega, ?_⟩
                    rw [hxr, show (⟨gk, gs, gt, gv, gtier, ⟨gc, gst, gq⟩, gd⟩ : Rec) = r from hr]
                    exact same_self r)
                subst hf
                have HT := Lib.hid (HT7.out.later HB7.out)
                obtain ⟨wt, hwt⟩ : ∃ x, x = wr := ⟨_, rfl⟩
                subst hwt
                clear hj hjq HI2
                obtain ⟨mv, hrb⟩ := HT.out.bx.rb
                have ksu := fun (W : World) (h : Below wt.heap.size wt W) => sure_is (hrb.later h)
                have kou := fun (W : World) (h : Below wt.heap.size wt W) => out_is (hrb.later h)
                have kle := fun (W : World) (h : Below wt.heap.size wt W) => len_is (hrb.later h)
                have HGD := Lib.hid HT.out.bx.good
                obtain ⟨lt9, hlt9⟩ : ∃ z, (nextS S).L.length = z := ⟨_, rfl⟩
                try dsimp only at kle
                rw [hlt9] at kle
                have hbound : (lt9 : Int) ≤ (kk : Int) + 8 := by have h1 := HGD.out.len; rw [HT.out.rm, hlt9] at h1; exact h1
                have hb9 : ¬ (kk : Int) + 8 < (lt9 : Int) := by omega
                have hw9 : IntKind.i64.wrap ((kk : Int) + 8) = (kk : Int) + 8 := by rw [IntKind.wrap_i64]; omega
                have HRT := Lib.hid (Below.refl wt.heap.size wt)
                clear hrb hbound hlt9
                go_wp2_with (first
                  | (go_at_call 20; (with_reducible refine (ksu _ HRT.out).mono ?_); rintro e wu ⟨vu, K, rfl, hnu, hsu, hbu⟩; (obtain ⟨au, cu, rfl⟩ := hnu.slice); (have HNU := Lib.hid hnu); (have HCV := Lib.hid (hsu.covers HGD.out)); (have HBU := Lib.hid hbu); clear hnu hsu hbu)
                  | (go_at_call 19; (with_reducible refine (kou _ HBU.out).mono ?_); rintro e wo ⟨vo, rfl, hno, hbo, -⟩; (obtain ⟨ao, co, rfl⟩ := hno.slice); (have HKC := Lib.hid (rcovers_is _ _ _ _ _ (Ns.later HNU.out hbo) hno)); (have HBO := Lib.hid (bel_next HBU.out hbo)); clear hno hbo)
                  | (go_at_call 26; (with_reducible refine (HKC.out).mono ?_); rw [HCV.out]; rintro e wv ⟨rfl, hbv⟩; (have HBV := Lib.hid (bel_next HBO.out hbv)); clear hbv)
                  | (go_at_call 24; (with_reducible refine (kle _ HBV.out).mono ?_); rintro e wx ⟨rfl, rfl⟩))
                have HFIN := Lib.hid (HT.out.later HBV.out)
                go_roundw
                case rel => exact ⟨k + 1, q, a3, c3, (nextS S), zs, by omega, by omega, rfl, by go_num, HFIN⟩
                case measure => simp [intOf]; omega
          · have h3b : (ok.tmod 4 == 3) = false := by simpa using h3
            go_upto_region 13 with fail
            obtain ⟨wr, hwr⟩ : ∃ x, w8 = x := ⟨_, rfl⟩
            rw [hwr] at HJ HBr HALO HSM HOB ⊢
            clear x0 x1 x2 x3 x4 x5 x6 x7 x8 x9
            obtain ⟨x0, x1, x2, x3, x4, x5, x6, x7, x8, x9⟩ := HOB.out
            dsimp only [Nat.zero_add] at x0 x1 x2 x3 x4 x5 x6 x7 x8 x9
            go_upto_region 24 with (go_at_call 15; (with_reducible refine HSM.out.mono ?_); rintro e wS ⟨rfl, hnS, hbS⟩; (have HNS := Lib.hid hnS); (have HBS := Lib.hid hbS); clear hnS hbS)
            have hQ9 : R9 (wS.alloc (.cells #[.int .i64 rk, .string s6, .int .i64 rt, .int .i64 rv, .int .i64 rtier, .int .i64 rc, .int .i64 rst, .int .i64 rq, .slice ra d12.length rcc] 33)) wS.heap.size 0 ⟨⟨rk, s6, rt, rv, rtier, ⟨rc, rst, rq⟩, d12⟩, ra, rcc⟩ := R9.new wS ⟨⟨rk, s6, rt, rv, rtier, ⟨rc, rst, rq⟩, d12⟩, ra, rcc⟩
            have halq := (Below.refl wS.heap.size wS).alloc (Nat.le_refl _) (.cells #[.int .i64 rk, .string s6, .int .i64 rt, .int .i64 rv, .int .i64 rtier, .int .i64 rc, .int .i64 rst, .int .i64 rq, .slice ra d12.length rcc] 33)
            have HBX1 := Lib.hid (show Bx (fun g => rowH (.slice a3 q c3) g ∨ g = wS.heap.size) w (wS.alloc (.cells #[.int .i64 rk, .string s6, .int .i64 rt, .int .i64 rv, .int .i64 rtier, .int .i64 rc, .int .i64 rst, .int .i64 rq, .slice ra d12.length rcc] 33)) b S from ((HJ.out.bx.later (bel_next HALO.out HBS.out)).hold halq).less (fun g hg => hg.imp id fun e => by rw [e]; exact ⟨Nat.le_refl _, by simp⟩))
            have HROW1 := Lib.hid (HJ.out.row.later (bel_next (bel_next HALO.out HBS.out) halq))
            obtain ⟨p9, hp9⟩ : ∃ g, wS.heap.size = g := ⟨_, rfl⟩
            obtain ⟨wq, hwq⟩ : ∃ x, wS.alloc (.cells #[.int .i64 rk, .string s6, .int .i64 rt, .int .i64 rv, .int .i64 rtier, .int .i64 rc, .int .i64 rst, .int .i64 rq, .slice ra d12.length rcc] 33) = x := ⟨_, rfl⟩
            have HNS2 := Lib.hid (show Ns wq (.slice ra d12.length rcc) d12 from by rw [← hwq]; exact Ns.later HNS.out halq)
            rw [hwq, hp9] at hQ9 HBX1
            rw [hwq] at HROW1
            rw [hwq, hp9]
            have HBJ := Lib.hid (show Below wr.heap.size wr wq by rw [← hwq]; exact bel_next (bel_next HALO.out HBS.out) halq)
            have HQ9 := Lib.hid hQ9
            obtain ⟨mv1, hrb1⟩ := HBX1.out.rb
            have kl1 := len_is hrb1
            obtain ⟨ln, hln⟩ : ∃ z, S.L.length = z := ⟨_, rfl⟩
            rw [hln] at kl1
            have hl4 := HBX1.out.good.l408
            rw [hln] at hl4
            have hwl : IntKind.i64.wrap ((ln : Int) + 1) = (ln : Int) + 1 := by rw [IntKind.wrap_i64]; omega
            have koff := HBX1.out.Offer ⟨⟨rk, s6, rt, rv, rtier, ⟨rc, rst, rq⟩, d12⟩, ra, rcc⟩ HNS2.out HFITS.out (by have h1 := HL12.out; dsimp only; omega)
            obtain ⟨ee, hee⟩ : ∃ e, offE S (⟨⟨rk, s6, rt, rv, rtier, ⟨rc, rst, rq⟩, d12⟩, ra, rcc⟩ : Rd).r = e := ⟨_, rfl⟩
            have hec := offE_cases S (⟨⟨rk, s6, rt, rv, rtier, ⟨rc, rst, rq⟩, d12⟩, ra, rcc⟩ : Rd).r
            rw [hee] at koff hec
            unfold recV Rd.dv at koff
            dsimp only at koff
            have HEE := Lib.hid hee
            have HLNN := Lib.hid hln
            have HZN := Lib.hid (show Ns w (.slice ra d12.length rcc) d12 from by have h9 := take12 HF.out.d; dsimp only at h9; rw [HD12.out] at h9; exact h9)
            obtain ⟨y0, y1, y2, y3, y4, y5, y6, y7, y8⟩ := hQ9
            dsimp only [Nat.zero_add] at y0 y1 y2 y3 y4 y5 y6 y7 y8
            clear hrb1 hln hee halq hwq hp9 x0 x1 x2 x3 x4 x5 x6 x7 x8 x9
            by_cases he : ee = 0
            · subst he
              have e1 : ((0 : Int) == 0) = true := by decide
              go_upto_region 27 with (first
                | (go_at_call 24; (with_reducible refine kl1.mono ?_); rintro e w1 ⟨rfl, rfl⟩)
                | (go_at_call 16; (with_reducible refine koff.mono ?_); rintro e wE ⟨rfl, hbE, hkE⟩; (have HBE := Lib.hid hbE); (have HKE := Lib.hid hkE); (have h9 := R9.other HQ9.out (hkE.2 p9 (Or.inr rfl))); clear hbE hkE))
              obtain ⟨a5, c5, w5, hrun, hrow5, hgr5, hnew5⟩ := ORow.app (w := wE.alloc (.cells #[.int .i64 rk, .string s6, .int .i64 rt, .int .i64 rv, .int .i64 rtier, .int .i64 rc, .int .i64 rst, .int .i64 rq, .slice ra d12.length rcc] 33)) (B := w.heap.size) (r := q) (N := wE.heap.size) (zs := zs) (v := .slice a3 q c3) (y := ⟨⟨rk, s6, rt, rv, rtier, ⟨rc, rst, rq⟩, d12⟩, ra, rcc⟩) 43 HJ.out.len ((HROW1.out.other (fun g hg => HKE.out.2 g (Or.inl hg))).later ((Below.refl wE.heap.size wE).alloc (Nat.le_refl _) _)) (R9.new wE ⟨⟨rk, s6, rt, rv, rtier, ⟨rc, rst, rq⟩, d12⟩, ra, rcc⟩) (by omega) (by have h1 := HBE.out.bel.size; simp; omega)
              have hb5 : Bx (rowH (.slice a3 q c3)) w (wE.alloc (.cells #[.int .i64 rk, .string s6, .int .i64 rt, .int .i64 rv, .int .i64 rtier, .int .i64 rc, .int .i64 rst, .int .i64 rq, .slice ra d12.length rcc] 33)) b (offS S (⟨⟨rk, s6, rt, rv, rtier, ⟨rc, rst, rq⟩, d12⟩, ra, rcc⟩ : Rd).r) := ((HBE.out.less (fun g hg => Or.inl hg)).later ((Below.refl wE.heap.size wE).alloc (Nat.le_refl _) _))
              have HT := Lib.hid (HJ.out.add (x := ⟨⟨rk, s6, rt, rv, rtier, ⟨rc, rst, rq⟩, d12⟩, ra, rcc⟩) HEE.out hb5 HZN.out HOWN.out hrow5 hgr5 hnew5)
              obtain ⟨mv5, hrb5⟩ := HT.out.bx.rb
              have kl5 := len_is hrb5
              rw [show (S.L ++ [(⟨rk, s6, rt, rv, rtier, ⟨rc, rst, rq⟩, d12⟩ : Rec)]).length = ln + 1 from by rw [List.length_append, HLNN.out]; rfl] at kl5
              obtain ⟨x0, x1, x2, x3, x4, x5, x6, x7, x8⟩ := h9
              dsimp only [Nat.zero_add] at x0 x1 x2 x3 x4 x5 x6 x7 x8
              have hca : (((ln + 1 : Nat) : Int) == (ln : Int) + 1) = true := by simp
              have hcb : ((ln : Int) + 1 == (ln : Int) + 1) = true := by simp
              clear hrb5 hb5 hrow5 hgr5 hnew5
              go_upto_region 30 with (first
                | (at_builtin; refine Lib.wpList_append_run _ rfl _ _ _ _ rfl _ _ rfl rfl _ _ hrun ?_)
                | (go_at_call 24; (with_reducible refine kl5.mono ?_); rintro e w6 ⟨rfl, rfl⟩; (push_cast)))
              obtain ⟨wt, hwt⟩ : ∃ x, x = w5 := ⟨_, rfl⟩
              subst hwt
              clear hrun x0 x1 x2 x3 x4 x5 x6 x7 x8 y0 y1 y2 y3 y4 y5 y6 y7 y8 kl1 kl5 koff hec
              obtain ⟨mv, hrb⟩ := HT.out.bx.rb
              have ksu := fun (W : World) (h : Below wt.heap.size wt W) => sure_is (hrb.later h)
              have kou := fun (W : World) (h : Below wt.heap.size wt W) => out_is (hrb.later h)
              have kle := fun (W : World) (h : Below wt.heap.size wt W) => len_is (hrb.later h)
              have HGD := Lib.hid HT.out.bx.good
              obtain ⟨lt9, hlt9⟩ : ∃ z, (S.L ++ [(⟨rk, s6, rt, rv, rtier, ⟨rc, rst, rq⟩, d12⟩ : Rec)]).length = z := ⟨_, rfl⟩
              try dsimp only at kle
              rw [hlt9] at kle
              have hbound : (lt9 : Int) ≤ (kk : Int) + 8 := by have h1 := HGD.out.len; rw [HT.out.rm, hlt9] at h1; exact h1
              have hb9 : ¬ (kk : Int) + 8 < (lt9 : Int) := by omega
              have hw9 : IntKind.i64.wrap ((kk : Int) + 8) = (kk : Int) + 8 := by rw [IntKind.wrap_i64]; omega
              have HRT := Lib.hid (Below.refl wt.heap.size wt)
              clear hrb hbound hlt9
              go_wp2_with (first
                | (go_at_call 20; (with_reducible refine (ksu _ HRT.out).mono ?_); rintro e wu ⟨vu, K, rfl, hnu, hsu, hbu⟩; (obtain ⟨au, cu, rfl⟩ := hnu.slice); (have HNU := Lib.hid hnu); (have HCV := Lib.hid (hsu.covers HGD.out)); (have HBU := Lib.hid hbu); clear hnu hsu hbu)
                | (go_at_call 19; (with_reducible refine (kou _ HBU.out).mono ?_); rintro e wo ⟨vo, rfl, hno, hbo, -⟩; (obtain ⟨ao, co, rfl⟩ := hno.slice); (have HKC := Lib.hid (rcovers_is _ _ _ _ _ (Ns.later HNU.out hbo) hno)); (have HBO := Lib.hid (bel_next HBU.out hbo)); clear hno hbo)
                | (go_at_call 26; (with_reducible refine (HKC.out).mono ?_); rw [HCV.out]; rintro e wv ⟨rfl, hbv⟩; (have HBV := Lib.hid (bel_next HBO.out hbv)); clear hbv)
                | (go_at_call 24; (with_reducible refine (kle _ HBV.out).mono ?_); rintro e wx ⟨rfl, rfl⟩))
              have HFIN := Lib.hid (HT.out.later HBV.out)
              go_roundw
              case rel => exact ⟨k + 1, q + 1, a5, c5, ⟨S.room, S.out, S.L ++ [⟨rk, s6, rt, rv, rtier, ⟨rc, rst, rq⟩, d12⟩]⟩, (zs ++ [⟨⟨rk, s6, rt, rv, rtier, ⟨rc, rst, rq⟩, d12⟩, ra, rcc⟩]), by omega, by omega, rfl, by go_num, HFIN⟩
              case measure => simp [intOf]; omega
            · have e1 : (ee == 0) = false := by simpa using he
              have e2 : (ee != 0) = true := by simpa using he
              have e3 : ¬ ee < 0 := by omega
              have e4 : ¬ 3 < ee := by omega
              have hcb : ((ln : Int) == (ln : Int) + 1) = false := by simp; omega
              have hcc : ((ln : Int) != (ln : Int)) = false := by simp
              go_upto_region 28 with (first
                | (go_at_call 24; (with_reducible refine kl1.mono ?_); rintro e w1 ⟨rfl, rfl⟩)
                | (go_at_call 16; (with_reducible refine koff.mono ?_); rintro e wE ⟨rfl, hbE, hkE⟩; (have HBE := Lib.hid hbE); (have HKE := Lib.hid hkE); clear hbE hkE))
              have HT := Lib.hid (HJ.out.not (r := (⟨⟨rk, s6, rt, rv, rtier, ⟨rc, rst, rq⟩, d12⟩, ra, rcc⟩ : Rd).r) (by rw [HEE.out]; exact he) (HBE.out.less (fun g hg => Or.inl hg)) ⟨Nat.le_trans HBJ.out.size HKE.out.1, fun g hg => (HKE.out.2 g (Or.inl hg)).trans (HBJ.out.block g (HJ.out.row.lt hg).2)⟩)
              obtain ⟨mv5, hrb5⟩ := HT.out.bx.rb
              have kl5 := len_is hrb5
              rw [show S.L.length = ln from HLNN.out] at kl5
              clear hrb5
              go_upto_region 30 with (go_at_call 24; (with_reducible refine kl5.mono ?_); rintro e w6 ⟨rfl, rfl⟩)
              obtain ⟨wt, hwt⟩ : ∃ x, x = wE := ⟨_, rfl⟩
              subst hwt
              clear y0 y1 y2 y3 y4 y5 y6 y7 y8 kl1 kl5 koff hec
              obtain ⟨mv, hrb⟩ := HT.out.bx.rb
              have ksu := fun (W : World) (h : Below wt.heap.size wt W) => sure_is (hrb.later h)
              have kou := fun (W : World) (h : Below wt.heap.size wt W) => out_is (hrb.later h)
              have kle := fun (W : World) (h : Below wt.heap.size wt W) => len_is (hrb.later h)
              have HGD := Lib.hid HT.out.bx.good
              obtain ⟨lt9, hlt9⟩ : ∃ z, S.L.length = z := ⟨_, rfl⟩
              try dsimp only at kle
              rw [hlt9] at kle
              have hbound : (lt9 : Int) ≤ (kk : Int) + 8 := by have h1 := HGD.out.len; rw [HT.out.rm, hlt9] at h1; exact h1
              have hb9 : ¬ (kk : Int) + 8 < (lt9 : Int) := by omega
              have hw9 : IntKind.i64.wrap ((kk : Int) + 8) = (kk : Int) + 8 := by rw [IntKind.wrap_i64]; omega
              have HRT := Lib.hid (Below.refl wt.heap.size wt)
              clear hrb hbound hlt9
              go_wp2_with (first
                | (go_at_call 20; (with_reducible refine (ksu _ HRT.out).mono ?_); rintro e wu ⟨vu, K, rfl, hnu, hsu, hbu⟩; (obtain ⟨au, cu, rfl⟩ := hnu.slice); (have HNU := Lib.hid hnu); (have HCV := Lib.hid (hsu.covers HGD.out)); (have HBU := Lib.hid hbu); clear hnu hsu hbu)
                | (go_at_call 19; (with_reducible refine (kou _ HBU.out).mono ?_); rintro e wo ⟨vo, rfl, hno, hbo, -⟩; (obtain ⟨ao, co, rfl⟩ := hno.slice); (have HKC := Lib.hid (rcovers_is _ _ _ _ _ (Ns.later HNU.out hbo) hno)); (have HBO := Lib.hid (bel_next HBU.out hbo)); clear hno hbo)
                | (go_at_call 26; (with_reducible refine (HKC.out).mono ?_); rw [HCV.out]; rintro e wv ⟨rfl, hbv⟩; (have HBV := Lib.hid (bel_next HBO.out hbv)); clear hbv)
                | (go_at_call 24; (with_reducible refine (kle _ HBV.out).mono ?_); rintro e wx ⟨rfl, rfl⟩))
              have HFIN := Lib.hid (HT.out.later HBV.out)
              go_roundw
              case rel => exact ⟨k + 1, q, a3, c3, S, zs, by omega, by omega, rfl, by go_num, HFIN⟩
              case measure => simp [intOf]; omega
      · have hx2 : ¬ (k : Int) < 60 := by omega
        go_wp2
        go_ret
        exact ⟨rfl, HJ.out.bel⟩
    · have hx1 : ¬ (k : Int) < (n : Int) := by omega
      go_wp2
      go_ret
      exact ⟨rfl, HJ.out.bel⟩
end causalHolds
end Go.Proofs.Ythifmfgnblecbaa.Og.Cb
