/- CausalAnew. -/
import Derived.Test.YthifmfgnblecbaaCausalOrderWalk
import Derived.Test.YthifmfgnblecbaaCbAnewMath
set_option maxRecDepth 200000
set_option linter.unusedSimpArgs false
set_option linter.unusedVariables false
namespace Go.Proofs.Ythifmfgnblecbaa.Og.Cb
open Go.RowKit Go.Maps Go.Proofs.Ythifmfgnblecbaa.Vi Go.Proofs.Ythifmfgnblecbaa.Mk

namespace causalAnew
def noH9 (_ : Nat) : Prop := False
/-- Two buffers in one state: of l all that is not out is held. -/
structure AnJ (w2 wr : World) (b c : Nat) (l : List Rec) (n i : Nat) : Prop where
  at_ : ∃ S, Du noH9 w2 wr b S c S ∧ OInv l S ∧ (∀ r ∈ l, Seen S r) ∧ S.L.length = n - i
theorem AnJ.bel {w2 wr : World} {b c n i : Nat} {l : List Rec} (h : AnJ w2 wr b c l n i) : Below w2.heap.size w2 wr := by
  obtain ⟨S, h1, -⟩ := h.at_
  exact h1.bel
set_option maxHeartbeats 64000000 in
theorem walk (a : Option Addr) (len cap : Nat) (x : Int) (w : World) (hA : ArgKOps w a len cap) (hx : -9223372036854775808 ≤ x ∧ x ≤ 9223372036854775807) : Calls Try.prog 7 #[.slice a len cap, .int .i64 x] w fun e w' => e = .returned (.bool true) ∧ Below w.heap.size w w' := by
  have ka := awake_is w
  have klg := fun (W : World) (hb : Below w.heap.size w W) => logged_is a len cap W (causalOrder.kops_later hA hb)
  have knw := fun W => new_is 400 (.slice none 0 0) [] W ((Nums.nil W none 0).mono (Nat.zero_le _) (Nat.le_refl _))
  clear hA
  go_enter Try.func7, Try.ntmps7
  go_upto_region 3 with (first
    | (go_at_call 8; (with_reducible refine ka.mono ?_); rintro e w1 ⟨rfl, hb1⟩; (have HB1 := Lib.hid hb1); clear hb1)
    | (go_at_call 25; (with_reducible refine (klg _ HB1.out).mono ?_); rintro e w2 ⟨v2, zs, rfl, hrow, hdep, hch, hle, hfz, hb2⟩; (obtain ⟨al, cl, rfl⟩ := hrow.slice); (have HROW := Lib.hid hrow); (have HDEP := Lib.hid hdep); (have HFZ := Lib.hid hfz); (have HB2 := Lib.hid (bel_next HB1.out hb2)); clear hrow hdep hfz hb2))
  obtain ⟨l, hl⟩ : ∃ l, zs.map Rd.r = l := ⟨_, rfl⟩
  obtain ⟨n, hn⟩ : ∃ n, zs.length = n := ⟨_, rfl⟩
  rw [hn] at HROW hle ⊢
  rw [hl] at hch
  have HL := Lib.hid (show l.length = n by rw [← hl, List.length_map]; exact hn)
  have HLF := Lib.hid (show l.length ≤ 40 by rw [← hl, List.length_map, hn]; exact hle)
  have HLE := Lib.hid hl
  have HZL := Lib.hid hn
  have HCH := Lib.hid hch
  have HNB := Lib.hid hle
  clear klg hl hn hch
  go_upto_region 7 with (go_at_call 9; (with_reducible refine (knw _).mono ?_); rintro e w3 ⟨b, rfl, -, hL3, hb3⟩; (have HJ0 := Lib.hid (show Bx noH9 w2 w3 b (midS l 0 0) from ⟨_, hL3 w2.heap.size (Nat.le_refl _), fun g hg e => e, hb3, fun g e => e.elim⟩)); clear hL3 hb3)
  have hwn : IntKind.i64.wrap ((n : Int) + 1) = (n : Int) + 1 := by rw [IntKind.wrap_i64]; omega
  have hn1 : ¬ (n : Int) + 1 = 0 := by omega
  have hn2 : ((n : Int) + 1 == 0) = false := by simp; omega
  obtain ⟨kk, hkn, hcase⟩ : ∃ kk : Nat, kk ≤ n ∧ ((x < 0 ∧ (-(x + 1)).tmod ((n : Int) + 1) = (kk : Int)) ∨ (¬ x < 0 ∧ x.tmod ((n : Int) + 1) = (kk : Int))) := by
    by_cases h : x < 0
    · have hr1 := Int.tmod_lt_of_pos (-(x + 1)) (show (0 : Int) < (n : Int) + 1 by omega)
      have hr2 := Int.tmod_nonneg ((n : Int) + 1) (show 0 ≤ -(x + 1) by omega)
      obtain ⟨kk, hkk⟩ := Int.eq_ofNat_of_zero_le hr2
      exact ⟨kk, by omega, Or.inl ⟨h, hkk⟩⟩
    · have hr1 := Int.tmod_lt_of_pos x (show (0 : Int) < (n : Int) + 1 by omega)
      have hr2 := Int.tmod_nonneg ((n : Int) + 1) (show 0 ≤ x by omega)
      obtain ⟨kk, hkk⟩ := Int.eq_ofNat_of_zero_le hr2
      exact ⟨kk, by omega, Or.inr ⟨h, hkk⟩⟩
  go_upto_if 30 with fail
  obtain ⟨x9, hx9⟩ : ∃ x9 : Int, x9.tmod ((n : Int) + 1) = (kk : Int) ∧ ((x < 0 ∧ x9 = -(x + 1)) ∨ (¬ x < 0 ∧ x9 = x)) := by
    rcases hcase with ⟨h1, h2⟩ | ⟨h1, h2⟩
    · exact ⟨_, h2, Or.inl ⟨h1, rfl⟩⟩
    · exact ⟨_, h2, Or.inr ⟨h1, rfl⟩⟩
  obtain ⟨hx8, hx7⟩ := hx9
  clear hcase
  go_cut [8] from 29 (fun v wx => v = .int .i64 x9 ∧ w3 = wx)
  case first =>
    rcases hx7 with ⟨h1, rfl⟩ | ⟨h1, rfl⟩
    · have hw1 : IntKind.i64.wrap (x + 1) = x + 1 := by rw [IntKind.wrap_i64]; omega
      have hw2 : IntKind.i64.wrap (-(x + 1)) = -(x + 1) := by rw [IntKind.wrap_i64]; omega
      clear hx8
      go_wp2_with fail
      go_meet
      exact ⟨by simp [hw1, hw2], rfl⟩
    · clear hx8
      go_wp2_with fail
      go_meet
      exact ⟨rfl, rfl⟩
  case rest =>
  obtain ⟨rfl, rfl⟩ := hcut
  clear hx7 hx
  go_wp2
  go_loopw [9] (fun iv wr => ∃ i : Nat, i ≤ kk ∧ iv = .int .i64 (i : Int) ∧ Hid (Bx noH9 w2 wr b (midS l i i))) (fun iv _ => kk - (intOf iv).toNat)
  case atStart => exact ⟨0, by omega, rfl, HJ0⟩
  case round =>
    obtain ⟨i, hik, rfl, HJ⟩ := hrel
    clear HJ0
    obtain ⟨w9, hw9⟩ : ∃ x, x = wr := ⟨_, rfl⟩
    subst hw9
    have hwi : IntKind.i64.wrap ((i : Int) + 1) = (i : Int) + 1 := by rw [IntKind.wrap_i64]; have h1 := HNB.out; omega
    have hbi : (i : Int) ≤ 41 := by have h1 := HNB.out; omega
    by_cases hlt : i < kk
    · have hx1 : (i : Int) < (kk : Int) := by omega
      have hin : i < n := by omega
      have hiI : (i : Int) < (n : Int) := by omega
      have hiz : i < zs.length := by rw [HZL.out]; exact hin
      have hil : i < l.length := by rw [HL.out]; exact hin
      obtain ⟨g2, off2, hal2, -, -, hgl2, hcs2⟩ := HROW.out.cell (by omega)
      subst hal2
      have hr9 := R9.later (hcs2 i hiz) HJ.out.bel
      obtain ⟨z, hz⟩ : ∃ z, zs[i] = z := ⟨_, rfl⟩
      rw [hz] at hr9
      have hzm : z ∈ zs := by rw [← hz]; exact List.getElem_mem hiz
      have hzl : l[i] = z.r := by
        have : (zs.map Rd.r)[i]'(by rw [List.length_map]; exact hiz) = l[i] := by simp only [HLE.out]
        rw [← this, List.getElem_map, hz]
      have hdl : z.r.d.length ≤ 1000000 := by have h1 := Rec.ok_deps (chain_ok HCH.out z.r (by rw [← hzl]; exact List.getElem_mem hil)); omega
      obtain ⟨hoe, hnx, hns⟩ := mid_step HCH.out HLF.out hil
      have koff := HJ.out.Offer z (Ns.later (HDEP.out z hzm) HJ.out.bel) (HFZ.out z hzm) hdl
      rw [hzl] at hoe hnx hns
      obtain ⟨S1, hS1⟩ : ∃ s, offS (midS l i i) z.r = s := ⟨_, rfl⟩
      rw [hoe, hS1] at koff
      rw [hS1] at hnx hns
      have kn := fun (W : World) (h : Bx noH9 w2 W b S1) => h.next_some hnx
      rw [hns] at kn
      obtain ⟨⟨zk, zss, zt, zv, ztier, ⟨zc, zst, zq⟩, zd⟩, za, zcc⟩ := z
      unfold recV Rd.dv at koff
      unfold recV at kn
      dsimp only at koff kn hr9
      obtain ⟨x0, x1, x2, x3, x4, x5, x6, x7, x8⟩ := hr9
      dsimp only at x0 x1 x2 x3 x4 x5 x6 x7 x8
      clear hcs2 hz hzm hzl hdl hoe hnx hns hS1
      go_wp2_with (first
        | (go_at_call 16; (with_reducible refine koff.mono ?_); rintro e wE ⟨rfl, hbE, -⟩; (have HBE := Lib.hid hbE); clear hbE)
        | (go_at_call 12; (with_reducible refine (kn _ HBE.out).mono ?_); rintro e wN ⟨ga, gcc, rfl, -, hbN, -⟩; (have HFIN := Lib.hid (hbN.later ((Below.refl wN.heap.size wN).alloc (Nat.le_refl _) (.cells #[.int .i64 zk, .string zss, .int .i64 zt, .int .i64 zv, .int .i64 ztier, .int .i64 zc, .int .i64 zst, .int .i64 zq, .slice ga zd.length gcc] 33)))); clear hbN))
      go_roundw
      case rel => exact ⟨i + 1, by omega, by go_num, HFIN⟩
      case measure => simp [intOf]; omega
    · obtain rfl : kk = i := by omega
      have hx1 : ¬ (kk : Int) < (kk : Int) := by omega
      obtain ⟨mv, hrb⟩ := HJ.out.rb
      have kou := out_is hrb
      have hout : (midS l kk kk).out = knowL [] (l.take kk) := rfl
      rw [hout] at kou
      have HBN := Lib.hid (mid_begun l kk kk (Nat.le_refl _))
      have HJK := Lib.hid HJ.out
      clear hrb
      go_wp2_with (first
        | (go_at_call 19; (with_reducible refine kou.mono ?_); rintro e wo ⟨vo, rfl, hno, hbo, -⟩; (obtain ⟨ao, co, rfl⟩ := hno.slice); (have KNW := Lib.hid (new_is 400 _ _ _ hno)); (have HBO := Lib.hid hbo); clear hno hbo)
        | (go_at_call 9; (with_reducible refine (KNW.out).mono ?_); rintro e w4 ⟨c, rfl, -, hL4, hb4⟩; (have HD0 := Lib.hid (show Du noH9 w2 w4 b (midS l kk 0) c (midS l kk 0) from by (have h1 := Du.new (HJK.out.later HBO.out) (hL4 w2.heap.size (HJK.out.later HBO.out).bel.size) hb4); (rw [HBN.out, mid_same l kk kk (Nat.le_refl _)] at h1); (exact h1))); clear hL4 hb4))
      go_loopw [13] (fun iv wr => ∃ i : Nat, i ≤ n ∧ iv = .int .i64 (i : Int) ∧ Hid (Du noH9 w2 wr b (midS l kk i) c (midS l kk i))) (fun iv _ => n - (intOf iv).toNat)
      case atStart => exact ⟨0, by omega, rfl, HD0⟩
      case round =>
        obtain ⟨i, hin2, rfl, HJ⟩ := hrel
        clear HD0
        obtain ⟨w9, hw9⟩ : ∃ x, x = wr := ⟨_, rfl⟩
        subst hw9
        have hwi : IntKind.i64.wrap ((i : Int) + 1) = (i : Int) + 1 := by rw [IntKind.wrap_i64]; have h1 := HNB.out; omega
        have hbi : (i : Int) ≤ 41 := by have h1 := HNB.out; omega
        by_cases hin : i < n
        · have hiI : (i : Int) < (n : Int) := by omega
          have hiz : i < zs.length := by rw [HZL.out]; exact hin
          have hil : i < l.length := by rw [HL.out]; exact hin
          obtain ⟨g2, off2, hal2, -, -, hgl2, hcs2⟩ := HROW.out.cell (by omega)
          subst hal2
          have hr9 := R9.later (hcs2 i hiz) HJ.out.bel
          obtain ⟨z, hz⟩ : ∃ z, zs[i] = z := ⟨_, rfl⟩
          rw [hz] at hr9
          have hzm : z ∈ zs := by rw [← hz]; exact List.getElem_mem hiz
          have hzl : l[i] = z.r := by
            have : (zs.map Rd.r)[i]'(by rw [List.length_map]; exact hiz) = l[i] := by simp only [HLE.out]
            rw [← this, List.getElem_map, hz]
          have hdl : z.r.d.length ≤ 1000000 := by have h1 := Rec.ok_deps (chain_ok HCH.out z.r (by rw [← hzl]; exact List.getElem_mem hil)); omega
          obtain ⟨hoe, hos⟩ := mid_off HCH.out HLF.out (k := kk) (by rw [HL.out]; exact hkn) hil
          rw [hzl] at hoe hos
          obtain ⟨ee, hee⟩ : ∃ e, (if i < kk then (1 : Int) else 0) = e := ⟨_, rfl⟩
          have HEE := Lib.hid hee
          rw [hee] at hoe
          have koff := HJ.out.Offer z (Ns.later (HDEP.out z hzm) HJ.out.bel) (HFZ.out z hzm) hdl
          have koff2 := fun (W : World) (h : Du noH9 w2 W b (midS l kk (i + 1)) c (midS l kk i)) (hb : Below w2.heap.size w2 W) => h.swap.Offer z (Ns.later (HDEP.out z hzm) hb) (HFZ.out z hzm) hdl
          rw [hoe, hos] at koff koff2
          have hr92 := fun (W : World) (hb : Below w2.heap.size w2 W) => (show R9 W g2 (off2 + i * 9) z from by have h8 := hcs2 i hiz; rw [hz] at h8; exact h8.later hb)
          have HR92 := Lib.hid hr92
          obtain ⟨⟨zk, zss, zt, zv, ztier, ⟨zc, zst, zq⟩, zd⟩, za, zcc⟩ := z
          unfold recV Rd.dv at koff koff2
          dsimp only at koff koff2 hr9 HR92
          obtain ⟨x0, x1, x2, x3, x4, x5, x6, x7, x8⟩ := hr9
          dsimp only at x0 x1 x2 x3 x4 x5 x6 x7 x8
          clear hcs2 hz hzm hzl hdl hoe hos hr92 hee
          go_upto_region 24 with (go_at_call 16; (with_reducible refine koff.mono ?_); rintro e wE ⟨rfl, hbE, -⟩; (have HBE := Lib.hid hbE); clear hbE)
          clear x0 x1 x2 x3 x4 x5 x6 x7 x8
          obtain ⟨x0, x1, x2, x3, x4, x5, x6, x7, x8⟩ := HR92.out wE HBE.out.bel
          dsimp only at x0 x1 x2 x3 x4 x5 x6 x7 x8
          go_upto_region 25 with (go_at_call 16; (with_reducible refine (koff2 _ HBE.out HBE.out.bel).mono ?_); rintro e wF ⟨rfl, hbF, -⟩; (have HFIN := Lib.hid hbF.swap); clear hbF)
          clear x0 x1 x2 x3 x4 x5 x6 x7 x8 koff koff2
          have he0 : (ee != ee) = false := by simp
          by_cases hik : i < kk
          · have hikI : (i : Int) < (kk : Int) := by omega
            obtain rfl : (1 : Int) = ee := by have h1 := HEE.out; rw [if_pos hik] at h1; exact h1
            go_wp2
            go_roundw
            case rel => exact ⟨i + 1, by omega, by go_num, HFIN⟩
            case measure => simp [intOf]; omega
          · have hikI : ¬ (i : Int) < (kk : Int) := by omega
            obtain rfl : (0 : Int) = ee := by have h1 := HEE.out; rw [if_neg hik] at h1; exact h1
            go_wp2
            go_roundw
            case rel => exact ⟨i + 1, by omega, by go_num, HFIN⟩
            case measure => simp [intOf]; omega
        · obtain rfl : n = i := by omega
          have hx1 : ¬ (n : Int) < (n : Int) := by omega
          have HQ0 := Lib.hid (show AnJ w2 w9 b c l n kk from ⟨⟨_, HJ.out, (mid_inv HCH.out HLF.out (k := kk) n (by rw [HL.out]; exact Nat.le_refl _)).1, fun r hr => by
            obtain ⟨j, hj, rfl⟩ := List.getElem_of_mem hr
            by_cases hjk : kk ≤ j
            · exact (mid_inv HCH.out HLF.out (k := kk) n (by rw [HL.out]; exact Nat.le_refl _)).2 j hj (by have h1 := HL.out; omega) hjk
            · left
              have h1 := know_has (chain_take HCH.out kk) l[j] (by rw [List.mem_take_iff_getElem]; exact ⟨j, by omega, rfl⟩)
              exact decide_eq_true h1, by show ((l.take n).drop kk).length = n - kk; rw [List.length_drop, List.length_take]; have h1 := HL.out; omega⟩⟩)
          clear hin hin2
          go_wp2
          go_loopw [16] (fun iv wr => ∃ i : Nat, kk ≤ i ∧ i ≤ n + 1 ∧ iv = .int .i64 (i : Int) ∧ Hid (i ≤ n → AnJ w2 wr b c l n i) ∧ Hid (Below w2.heap.size w2 wr)) (fun iv _ => n + 1 - (intOf iv).toNat)
          case atStart => exact ⟨kk, Nat.le_refl _, by omega, rfl, Lib.hid (fun _ => HQ0.out), Lib.hid HQ0.out.bel⟩
          case round =>
            obtain ⟨i, hik, hin1, rfl, HA, HBW⟩ := hrel
            clear HQ0
            obtain ⟨w9, hw9⟩ : ∃ x, x = wr := ⟨_, rfl⟩
            subst hw9
            have hwi : IntKind.i64.wrap ((i : Int) + 1) = (i : Int) + 1 := by rw [IntKind.wrap_i64]; have h1 := HNB.out; omega
            have hbi : (i : Int) ≤ 41 := by have h1 := HNB.out; omega
            by_cases hin : i ≤ n
            · have hiI : (i : Int) ≤ (n : Int) := by omega
              obtain ⟨S, hdu, hinv, hseen, hlen⟩ := (HA.out hin).at_
              have HD := Lib.hid hdu
              have HINV := Lib.hid hinv
              have HSEEN := Lib.hid hseen
              have HLS := Lib.hid hlen
              clear hdu hinv hseen hlen HA
              by_cases hi2 : i < n
              · have hi2I : (i : Int) < (n : Int) := by omega
                obtain ⟨r, hr⟩ := HINV.out.goes HSEEN.out (fun e => by have h1 := HLS.out; rw [e] at h1; simp at h1; omega)
                have hsm : (nextR S).isSome = true := by rw [hr]; rfl
                have HNX := Lib.hid (HINV.out.next hr)
                have HSM := Lib.hid hsm
                clear hr hsm
                have kn := HD.out.Next2
                obtain ⟨is9, his9⟩ : ∃ z, (nextR S).isSome = z := ⟨_, rfl⟩
                rw [his9] at kn
                go_upto_region 31 with (go_at_call 12; (with_reducible refine kn.mono ?_); rintro e wN ⟨⟨⟨gk, gs, gt, gv, gtier, ⟨gc, gst, gq⟩, gd⟩, ga, gcc⟩, rfl, hgr, hk2⟩; (unfold recV Rd.dv at *); (dsimp only at *); (have HGR := Lib.hid hgr); (have HK2 := Lib.hid hk2); clear hgr hk2)
                have halg := (Below.refl wN.heap.size wN).alloc (Nat.le_refl _) (.cells #[.int .i64 gk, .string gs, .int .i64 gt, .int .i64 gv, .int .i64 gtier, .int .i64 gc, .int .i64 gst, .int .i64 gq, .slice ga gd.length gcc] 33)
                have hX9 : R9 (wN.alloc (.cells #[.int .i64 gk, .string gs, .int .i64 gt, .int .i64 gv, .int .i64 gtier, .int .i64 gc, .int .i64 gst, .int .i64 gq, .slice ga gd.length gcc] 33)) wN.heap.size 0 (⟨⟨gk, gs, gt, gv, gtier, ⟨gc, gst, gq⟩, gd⟩, ga, gcc⟩ : Rd) := R9.new wN (⟨⟨gk, gs, gt, gv, gtier, ⟨gc, gst, gq⟩, gd⟩, ga, gcc⟩ : Rd)
                have k2 := HK2.out _ halg
                have HPX := Lib.hid (show wN.heap.size ≤ wN.heap.size ∧ wN.heap.size < (wN.alloc (.cells #[.int .i64 gk, .string gs, .int .i64 gt, .int .i64 gv, .int .i64 gtier, .int .i64 gc, .int .i64 gst, .int .i64 gq, .slice ga gd.length gcc] 33)).heap.size from ⟨Nat.le_refl _, by simp⟩)
                have HX9 := Lib.hid hX9
                clear kn halg hX9
                go_upto_region 32 with (go_at_call 12; (with_reducible refine k2.mono ?_); rintro e wM ⟨⟨⟨hk, hs, ht, hv, htier, ⟨hc, hst, hq⟩, hd⟩, ha, hcc⟩, rfl, hhr, hnx9, hny9, hdu, hkp, hsz, -⟩; (try unfold recV); (try unfold Rd.dv); (try dsimp only at *); (have HHR := Lib.hid hhr); (have HNX9 := Lib.hid hnx9); (have HNY9 := Lib.hid hny9); (have HDU := Lib.hid hdu); (have HX92 := Lib.hid (R9.other HX9.out (hkp wN.heap.size (Nat.le_refl _) HPX.out.2))); (have HSZ2 := Lib.hid (Nat.lt_of_lt_of_le HPX.out.2 hsz)); clear hhr hnx9 hny9 hdu hkp hsz)
                have halh := (Below.refl wM.heap.size wM).alloc (Nat.le_refl _) (.cells #[.int .i64 hk, .string hs, .int .i64 ht, .int .i64 hv, .int .i64 htier, .int .i64 hc, .int .i64 hst, .int .i64 hq, .slice ha hd.length hcc] 33)
                have hY9 : R9 (wM.alloc (.cells #[.int .i64 hk, .string hs, .int .i64 ht, .int .i64 hv, .int .i64 htier, .int .i64 hc, .int .i64 hst, .int .i64 hq, .slice ha hd.length hcc] 33)) wM.heap.size 0 (⟨⟨hk, hs, ht, hv, htier, ⟨hc, hst, hq⟩, hd⟩, ha, hcc⟩ : Rd) := R9.new wM (⟨⟨hk, hs, ht, hv, htier, ⟨hc, hst, hq⟩, hd⟩, ha, hcc⟩ : Rd)
                have hX93 := HX92.out.later halh
                have hne1 : ¬ wN.heap.size = wM.heap.size := by have h1 := HSZ2.out; omega
                have hne2 : ¬ wM.heap.size = wN.heap.size := by have h1 := HSZ2.out; omega
                have ksm := rsamer_is (⟨⟨gk, gs, gt, gv, gtier, ⟨gc, gst, gq⟩, gd⟩, ga, gcc⟩ : Rd).r (⟨⟨hk, hs, ht, hv, htier, ⟨hc, hst, hq⟩, hd⟩, ha, hcc⟩ : Rd).r (⟨⟨gk, gs, gt, gv, gtier, ⟨gc, gst, gq⟩, gd⟩, ga, gcc⟩ : Rd).dv (⟨⟨hk, hs, ht, hv, htier, ⟨hc, hst, hq⟩, hd⟩, ha, hcc⟩ : Rd).dv true _ (Ns.later HNX9.out halh) (Ns.later HNY9.out halh) (Lib.hid (by rw [show (⟨⟨gk, gs, gt, gv, gtier, ⟨gc, gst, gq⟩, gd⟩, ga, gcc⟩ : Rd).r = (⟨⟨hk, hs, ht, hv, htier, ⟨hc, hst, hq⟩, hd⟩, ha, hcc⟩ : Rd).r from HGR.out.trans HHR.out.symm]; exact same_self _))
                unfold recV Rd.dv at ksm
                dsimp only at ksm
                obtain ⟨x0, x1, x2, x3, x4, x5, x6, x7, x8⟩ := hX93
                obtain ⟨y0, y1, y2, y3, y4, y5, y6, y7, y8⟩ := hY9
                dsimp only [Nat.zero_add] at x0 x1 x2 x3 x4 x5 x6 x7 x8 y0 y1 y2 y3 y4 y5 y6 y7 y8
                have HDT := Lib.hid (HDU.out.later halh)
                have e1 : (is9 != is9) = false := by simp
                obtain rfl : true = is9 := HSM.out.symm.trans his9
                clear k2 halh
                go_wp2_with (go_at_call 14; (with_reducible refine ksm.mono ?_); rintro e wZ ⟨rfl, hbz⟩; (have HBZ := Lib.hid hbz); clear hbz)
                have HFIN := Lib.hid (show AnJ w2 wZ b c l n (i + 1) from ⟨⟨nextS S, HDT.out.later HBZ.out, HNX.out.1, fun x hx => HNX.out.2.2.2.2 x hx (HSEEN.out x hx), by have h1 := HNX.out.2.2.2.1; have h2 := HLS.out; omega⟩⟩)
                go_roundw
                case rel => exact ⟨i + 1, by omega, by omega, by go_num, Lib.hid (fun _ => HFIN.out), Lib.hid HFIN.out.bel⟩
                case measure => simp [intOf]; omega
              · have hi2I : ¬ (i : Int) < (n : Int) := by omega
                have hr := none_empty (List.eq_nil_of_length_eq_zero (by have h1 := HLS.out; omega) : S.L = [])
                have HSM := Lib.hid (show (nextR S).isSome = false by rw [hr]; rfl)
                clear hr
                have kn := HD.out.Next2
                obtain ⟨is9, his9⟩ : ∃ z, (nextR S).isSome = z := ⟨_, rfl⟩
                rw [his9] at kn
                go_upto_region 31 with (go_at_call 12; (with_reducible refine kn.mono ?_); rintro e wN ⟨⟨⟨gk, gs, gt, gv, gtier, ⟨gc, gst, gq⟩, gd⟩, ga, gcc⟩, rfl, hgr, hk2⟩; (unfold recV Rd.dv at *); (dsimp only at *); (have HGR := Lib.hid hgr); (have HK2 := Lib.hid hk2); clear hgr hk2)
                have halg := (Below.refl wN.heap.size wN).alloc (Nat.le_refl _) (.cells #[.int .i64 gk, .string gs, .int .i64 gt, .int .i64 gv, .int .i64 gtier, .int .i64 gc, .int .i64 gst, .int .i64 gq, .slice ga gd.length gcc] 33)
                have hX9 : R9 (wN.alloc (.cells #[.int .i64 gk, .string gs, .int .i64 gt, .int .i64 gv, .int .i64 gtier, .int .i64 gc, .int .i64 gst, .int .i64 gq, .slice ga gd.length gcc] 33)) wN.heap.size 0 (⟨⟨gk, gs, gt, gv, gtier, ⟨gc, gst, gq⟩, gd⟩, ga, gcc⟩ : Rd) := R9.new wN (⟨⟨gk, gs, gt, gv, gtier, ⟨gc, gst, gq⟩, gd⟩, ga, gcc⟩ : Rd)
                have k2 := HK2.out _ halg
                have HPX := Lib.hid (show wN.heap.size ≤ wN.heap.size ∧ wN.heap.size < (wN.alloc (.cells #[.int .i64 gk, .string gs, .int .i64 gt, .int .i64 gv, .int .i64 gtier, .int .i64 gc, .int .i64 gst, .int .i64 gq, .slice ga gd.length gcc] 33)).heap.size from ⟨Nat.le_refl _, by simp⟩)
                have HX9 := Lib.hid hX9
                clear kn halg hX9
                go_upto_region 32 with (go_at_call 12; (with_reducible refine k2.mono ?_); rintro e wM ⟨⟨⟨hk, hs, ht, hv, htier, ⟨hc, hst, hq⟩, hd⟩, ha, hcc⟩, rfl, hhr, hnx9, hny9, hdu, hkp, hsz, -⟩; (try unfold recV); (try unfold Rd.dv); (try dsimp only at *); (have HHR := Lib.hid hhr); (have HNX9 := Lib.hid hnx9); (have HNY9 := Lib.hid hny9); (have HDU := Lib.hid hdu); (have HX92 := Lib.hid (R9.other HX9.out (hkp wN.heap.size (Nat.le_refl _) HPX.out.2))); (have HSZ2 := Lib.hid (Nat.lt_of_lt_of_le HPX.out.2 hsz)); clear hhr hnx9 hny9 hdu hkp hsz)
                have halh := (Below.refl wM.heap.size wM).alloc (Nat.le_refl _) (.cells #[.int .i64 hk, .string hs, .int .i64 ht, .int .i64 hv, .int .i64 htier, .int .i64 hc, .int .i64 hst, .int .i64 hq, .slice ha hd.length hcc] 33)
                have hY9 : R9 (wM.alloc (.cells #[.int .i64 hk, .string hs, .int .i64 ht, .int .i64 hv, .int .i64 htier, .int .i64 hc, .int .i64 hst, .int .i64 hq, .slice ha hd.length hcc] 33)) wM.heap.size 0 (⟨⟨hk, hs, ht, hv, htier, ⟨hc, hst, hq⟩, hd⟩, ha, hcc⟩ : Rd) := R9.new wM (⟨⟨hk, hs, ht, hv, htier, ⟨hc, hst, hq⟩, hd⟩, ha, hcc⟩ : Rd)
                have hX93 := HX92.out.later halh
                have hne1 : ¬ wN.heap.size = wM.heap.size := by have h1 := HSZ2.out; omega
                have hne2 : ¬ wM.heap.size = wN.heap.size := by have h1 := HSZ2.out; omega
                have ksm := rsamer_is (⟨⟨gk, gs, gt, gv, gtier, ⟨gc, gst, gq⟩, gd⟩, ga, gcc⟩ : Rd).r (⟨⟨hk, hs, ht, hv, htier, ⟨hc, hst, hq⟩, hd⟩, ha, hcc⟩ : Rd).r (⟨⟨gk, gs, gt, gv, gtier, ⟨gc, gst, gq⟩, gd⟩, ga, gcc⟩ : Rd).dv (⟨⟨hk, hs, ht, hv, htier, ⟨hc, hst, hq⟩, hd⟩, ha, hcc⟩ : Rd).dv true _ (Ns.later HNX9.out halh) (Ns.later HNY9.out halh) (Lib.hid (by rw [show (⟨⟨gk, gs, gt, gv, gtier, ⟨gc, gst, gq⟩, gd⟩, ga, gcc⟩ : Rd).r = (⟨⟨hk, hs, ht, hv, htier, ⟨hc, hst, hq⟩, hd⟩, ha, hcc⟩ : Rd).r from HGR.out.trans HHR.out.symm]; exact same_self _))
                unfold recV Rd.dv at ksm
                dsimp only at ksm
                obtain ⟨x0, x1, x2, x3, x4, x5, x6, x7, x8⟩ := hX93
                obtain ⟨y0, y1, y2, y3, y4, y5, y6, y7, y8⟩ := hY9
                dsimp only [Nat.zero_add] at x0 x1 x2 x3 x4 x5 x6 x7 x8 y0 y1 y2 y3 y4 y5 y6 y7 y8
                have HDT := Lib.hid (HDU.out.later halh)
                have e1 : (is9 != is9) = false := by simp
                obtain rfl : false = is9 := HSM.out.symm.trans his9
                clear k2 halh
                go_wp2_with (go_at_call 14; (with_reducible refine ksm.mono ?_); rintro e wZ ⟨rfl, hbz⟩; (have HBZ := Lib.hid hbz); clear hbz)
                have HFIN := Lib.hid (bel_next HDT.out.bel HBZ.out)
                go_roundw
                case rel => exact ⟨i + 1, by omega, by omega, by go_num, Lib.hid (fun h => absurd h (by omega)), HFIN⟩
                case measure => simp [intOf]; omega
            · have hiI : ¬ (i : Int) ≤ (n : Int) := by omega
              go_wp2
              go_ret
              exact ⟨rfl, HB2.out.trans (HBW.out.mono HB2.out.size)⟩
end causalAnew
end Go.Proofs.Ythifmfgnblecbaa.Og.Cb
