/- QuorumOrder. -/
import Derived.Test.YtcjcbbpolhpphaaQuOrdAt
set_option maxRecDepth 20000
set_option linter.unusedSimpArgs false
set_option linter.unusedVariables false
namespace Go.Proofs.Ytcjcbbpolhpphaa.Qu
open Go.RowKit Go.Proofs.Ytcjcbbpolhpphaa.Vi

namespace quorumOrder
def LA : List Int := [0, 1, 2, 3, 4, 5, 6, 7]
def LB : List Int := [7, 6, 5, 4, 3, 2, 1, 0]
theorem la_all : ∀ i : Nat, i < 8 → inL LA (i : Int) = true := by decide
theorem lb_all : ∀ i : Nat, i < 8 → inL LB (i : Int) = true := by decide
theorem l8 (xs : List Int) (h8 : xs.length = 8) (hw : ∀ n ∈ xs, -9223372036854775808 ≤ n ∧ n ≤ 9223372036854775807) (W : World) : Ns (W.alloc (.cells (xs.map icell).toArray 3)) (.slice (some ⟨W.heap.size, 0, none⟩) 8 8) xs := by
  have := lit_ns W xs hw (by omega)
  rwa [h8] at this
set_option maxHeartbeats 32000000 in
theorem walk (ra : Option Addr) (rl rc : Nat) (w : World) (hrep : ArgReps w ra rl rc) : Calls Try.prog 7 #[.slice ra rl rc] w fun e w' => e = .returned (.bool true) ∧ Below w.heap.size w w' := by
  obtain ⟨reps, hrl, hrat, hrsz, hrfit⟩ := hrep.has
  have HRL := Lib.hid hrl
  have HRAT := Lib.hid hrat
  have HRF := Lib.hid hrfit
  have ka := awake_is w
  have a8 : ∀ W : World, Ns (W.alloc (.cells #[.int .i64 0, .int .i64 1, .int .i64 2, .int .i64 3, .int .i64 4, .int .i64 5, .int .i64 6, .int .i64 7] 3)) (.slice (some ⟨W.heap.size, 0, none⟩) 8 8) LA := fun W => l8 LA rfl (by decide) W
  have b8 : ∀ W : World, Ns (W.alloc (.cells #[.int .i64 7, .int .i64 6, .int .i64 5, .int .i64 4, .int .i64 3, .int .i64 2, .int .i64 1, .int .i64 0] 3)) (.slice (some ⟨W.heap.size, 0, none⟩) 8 8) LB := fun W => l8 LB rfl (by decide) W
  have k1 := fun W => newR_at 1 _ LA _ (a8 W) (by decide)
  have k2 := fun W => newR_at 1 _ LB _ (b8 W) (by decide)
  clear hrl hrat hrfit hrep a8 b8
  go_enter Try.func7, Try.ntmps7
  go_upto_region 2 with (go_at_call 8; (with_reducible refine ka.mono ?_); rintro e w1 ⟨rfl, hb1⟩; (have HB1 := Lib.hid hb1); clear hb1)
  go_upto_region 3 with (go_at_call 19; (with_reducible refine (k1 _).mono ?_); rintro e w3 ⟨ba, rfl, hR, hb3⟩; (have hal := (Below.refl w1.heap.size w1).alloc (Nat.le_refl _) (.cells #[.int .i64 0, .int .i64 1, .int .i64 2, .int .i64 3, .int .i64 4, .int .i64 5, .int .i64 6, .int .i64 7] 3)); (have HRA := Lib.hid hR); (have HB3 := Lib.hid (bel_next HB1.out (hal.trans (hb3.mono (by simp))))); (have HBA := Lib.hid (Nat.le_trans HB1.out.size hal.size)); clear hR hb3 hal k1)
  go_upto_region 6 with (go_at_call 19; (with_reducible refine (k2 _).mono ?_); rintro e w4 ⟨bb, rfl, hR, hb4⟩; (have hal := (Below.refl w3.heap.size w3).alloc (Nat.le_refl _) (.cells #[.int .i64 7, .int .i64 6, .int .i64 5, .int .i64 4, .int .i64 3, .int .i64 2, .int .i64 1, .int .i64 0] 3)); (have hb34 := hal.trans (hb4.mono (by simp))); (have HRB := Lib.hid (hR.low (Nat.le_trans HB3.out.size hal.size))); (have HRA4 := Lib.hid ((HRA.out.low HBA.out).later hb34)); (have HAP := Lib.hid (show ∀ x, rmods w4 ba x → rmods w4 bb x → False from fun x h1 h2 => by have h3 := HRA.out.mods_lt ((rmods_same (hb34.block _ HRA.out.at_.lt)).1 h1); have h4 := hR.mods_hi h2; have h5 := hal.size; omega)); (have HB4 := Lib.hid (bel_next HB3.out hb34)); clear hR hb4 hal hb34 k2)
  clear HRA HB3 HBA HB1
  have hg := ga_new w4 w.heap.size HB4.out.size
  have HAL := Lib.hid ((Below.refl w4.heap.size w4).alloc (Nat.le_refl _) (.cells #[.slice none 0 0, .slice none 0 0, .slice none 0 0, .slice none 0 0, .slice none 0 0, .slice none 0 0, .slice none 0 0, .slice none 0 0] TGOT))
  have HOS := Lib.hid (show OS w (w4.alloc (.cells #[.slice none 0 0, .slice none 0 0, .slice none 0 0, .slice none 0 0, .slice none 0 0, .slice none 0 0, .slice none 0 0, .slice none 0 0] TGOT)) ba bb w4.heap.size (newR 1 LA) (newR 1 LB) (fun _ => []) from ⟨HRA4.out.later HAL.out, HRB.out.later HAL.out, fun x h1 h2 => HAP.out x ((rmods_same (HAL.out.block _ HRA4.out.at_.lt)).1 h1) ((rmods_same (HAL.out.block _ HRB.out.at_.lt)).1 h2), hg, bel_next HB4.out HAL.out⟩)
  clear hg HAL HRA4 HRB HAP HB4
  by_cases h8 : 8 < rl
  · have h8i : (8 : Int) < (rl : Int) := by omega
    obtain ⟨n, hnn⟩ : ∃ n : Nat, n = 8 := ⟨_, rfl⟩
    have hn8 : n ≤ 8 := by omega
    have hnl : n ≤ rl := by omega
    have HNN := Lib.hid (show (8 : Int) = (n : Int) by omega)
    clear hnn h8
    go_upto_region 9 with fail
    rw [HNN.out]
    go_upto_region 11 with fail
    generalize w4.heap.size = g at HOS ⊢
    generalize hW9 : w4.alloc _ = w9 at HOS ⊢
    clear hW9
    go_loopw [8] (fun i wr => ∃ k : Nat, k ≤ n ∧ i = .int .i64 (k : Int) ∧ Hid (OS w wr ba bb g (newR 1 LA) (newR 1 LB) (fun q => if q < k then gotL reps q else []))) (fun i _ => n - (intOf i).toNat)
    case atStart => exact ⟨0, Nat.zero_le _, rfl, Lib.hid (by simpa using HOS.out)⟩
    case round =>
      obtain ⟨k, hk, rfl, HL⟩ := hrel
      clear HOS
      obtain ⟨w5, hw5⟩ : ∃ w5, w5 = wr := ⟨_, rfl⟩
      subst hw5
      by_cases hlt : k < n
      · have hlti : (k : Int) < (n : Int) := by omega
        have hkl : k < reps.length := by rw [HRL.out]; omega
        rcases HRAT.out with hh | ⟨rb, off, rfl, hrb, hc⟩
        · rw [hh] at hkl; simp at hkl
        have hki : (k : Int) < (rl : Int) := by omega
        have hc0 := hc k hkl
        have hfit := HRF.out _ (List.getElem_mem hkl)
        have HG := Lib.hid (show gotL reps k = seqI k (ptsB reps[k].ps) by unfold gotL; rw [dif_pos hkl])
        obtain ⟨x, hx⟩ : ∃ x, reps[k] = x := ⟨_, rfl⟩
        rw [hx] at hc0 hfit HG
        have f1 := (HL.out.bel.cell (p := ⟨rb, off + k * 2 + 1, none⟩) hrb).trans hc0.c1
        have hps : Pts w5 w5.heap.size x.a x.ps := (hfit.pts.below HL.out.bel).mono HL.out.bel.size
        have kpt := points_is x.a x.c x.ps w5 hps hfit.len
        have HPL := Lib.hid (ptsB_len x.ps)
        obtain ⟨P, hP⟩ : ∃ P, ptsB x.ps = P := ⟨_, rfl⟩
        rw [hP] at kpt HPL HG
        obtain ⟨xl, hxl⟩ : ∃ xl, x.ps.length = xl := ⟨_, rfl⟩
        rw [hxl] at f1 kpt
        obtain ⟨m, hm⟩ : ∃ m, P.length = m := ⟨_, rfl⟩
        have HM := Lib.hid hm
        have hm10 : m ≤ 10 := by rw [← hm]; exact HPL.out
        have hk8 : (k : Int) < 8 := by omega
        obtain ⟨z1, hz1⟩ : ∃ z1, IntKind.i64.wrap (10 * (k : Int)) = z1 := ⟨_, rfl⟩
        have HZ1 := Lib.hid (show z1 = 10 * (k : Int) by rw [← hz1, IntKind.wrap_i64]; omega)
        clear hc hx hc0 hkl hfit hps hP hxl hm
        go_wp2_with (go_at_call 20; (with_reducible refine kpt.mono ?_); rintro e w6 ⟨v6, rfl, hR6, hb6⟩; (obtain ⟨a6, c6, rfl⟩ := hR6.slice); (have HR6 := Lib.hid hR6); (rw [HM.out] at HR6); (rw [HM.out]); (have HB6 := Lib.hid hb6); clear hR6 hb6 kpt f1)
        go_loopw [10] (fun j wr => ∃ q : Nat, q ≤ m ∧ j = .int .i64 (q : Int) ∧ Hid (PRow wr w5.heap.size (.slice a6 m c6) (sqK k P q)) ∧ Hid (Below w5.heap.size w5 wr)) (fun j _ => m - (intOf j).toNat)
        case atStart => exact ⟨0, Nat.zero_le _, rfl, Lib.hid (by rw [sqK_zero]; exact HR6.out), HB6⟩
        case round =>
          obtain ⟨q, hq, rfl, HRW, HBW⟩ := hrel
          clear HR6 HB6
          obtain ⟨w7, hw7⟩ : ∃ w7, w7 = wr := ⟨_, rfl⟩
          subst hw7
          by_cases hqm : q < m
          · have hqmi : (q : Int) < (m : Int) := by omega
            have hqP : q < P.length := by rw [HM.out]; exact hqm
            have hqS : q < (sqK k P q).length := by rw [sqK_len]; exact hqP
            have hrow := HRW.out
            obtain ⟨p, hp⟩ : ∃ p, P[q] = p := ⟨_, rfl⟩
            have hat := (sqK_at (i := k) hqP).trans hp
            have HST := Lib.hid (sqK_step (i := k) hqP hp)
            rcases hrow.2 with ⟨e0, h0⟩ | ⟨g6, cap6, cur6, e0, hg6, hb6, hcap, hmax, hsz6, htk⟩
            · rw [sqK_len, HM.out] at h0; omega
            · injection e0 with e1 e2 e3
              subst e1
              have c5 : w7.cell? ⟨g6, q * 6 + 5, none⟩ = some (.int .i64 p.st.q) := by
                rcases hrow.pts.at_ with hh | ⟨b9, o9, e9, hb9, hc9⟩
                · rw [hh] at hqS; simp at hqS
                · injection e9 with e9
                  injection e9 with e9 e10
                  subst e9 e10
                  have := (hc9 q hqS).c5
                  rwa [Nat.zero_add, hat] at this
              have f5 : w7.frozen? ⟨g6, q * 6 + 5, none⟩ = false := by
                unfold World.frozen?
                simp [hb6]
              obtain ⟨z2, hz2⟩ : ∃ z2, IntKind.i64.wrap (z1 + (q : Int)) = z2 := ⟨_, rfl⟩
              have HZ2 := Lib.hid (show z2 = ((10 * k + q : Nat) : Int) by rw [← hz2, IntKind.wrap_i64, HZ1.out]; omega)
              have HNEW := Lib.hid (show PRow (w7.setCell ⟨g6, q * 6 + 5, none⟩ (.int .i64 z2)) w5.heap.size (.slice (some ⟨g6, 0, none⟩) m c6) (sqK k P (q + 1)) by rw [HZ2.out, ← HST.out]; exact prow_set hrow hqS hat)
              have HBN := Lib.hid (HBW.out.setCell (p := ⟨g6, q * 6 + 5, none⟩) hg6 (.int .i64 z2))
              clear hrow hp hat hb6 htk hsz6 hmax hcap e2 e3
              go_wp2
              go_roundw
              case rel => exact ⟨q + 1, by omega, by go_num, HNEW, HBN⟩
              case measure => simp [intOf]; omega
          · obtain rfl : q = m := by omega
            have HROW := Lib.hid (show PRow w7 w.heap.size (.slice a6 q c6) (gotL reps k) by
              have h1 := HRW.out.base HL.out.bel.size
              have h2 := sqK_all k P
              rw [HM.out] at h2
              rw [h2] at h1
              rw [HG.out]; exact h1)
            have hgl : (gotL reps k).length = q := by rw [HG.out, seqI_len, HM.out]
            have HOS7 := HL.out.later HBW.out
            obtain ⟨a9, c9, x9, -⟩ := HOS7.ga.cel k (by omega)
            have f9 := HOS7.ga.frozen k
            have hpt := HOS7.put (i := k) (l := gotL reps k) (a := a6) (c := c6) (by omega) (by rw [hgl]; exact HROW.out)
            rw [hgl, gl_step] at hpt
            have HPT := Lib.hid hpt
            clear hgl HOS7 hpt
            go_wp2
            go_roundw
            case rel => exact ⟨k + 1, by omega, by go_num, HPT⟩
            case measure => simp [intOf]; omega
      · obtain rfl : k = n := by omega
        have HL2 := Lib.hid (show OS w w5 ba bb g (rdO (inL LA) (gotL reps) 0 0 0) (rdO (inL LB) (gotL reps) (k - 0) k 0) (fun q => if q < k then gotL reps q else []) by
          have := HL.out
          rw [rdO_new LA (gotL reps) 0, rdO_new LB (gotL reps) k] at this
          exact this)
        clear HL
        go_wp2
        go_loopw [11] (fun i wr => ∃ j : Nat, j ≤ k ∧ i = .int .i64 (j : Int) ∧ Hid (OS w wr ba bb g (rdO (inL LA) (gotL reps) 0 j j) (rdO (inL LB) (gotL reps) (k - j) k j) (fun q => if q < k then gotL reps q else []))) (fun i _ => k - (intOf i).toNat)
        case atStart => exact ⟨0, Nat.zero_le _, rfl, HL2⟩
        case round =>
          obtain ⟨j, hj, rfl, HL⟩ := hrel
          clear HL2
          obtain ⟨w6, hw6⟩ : ∃ w6, w6 = wr := ⟨_, rfl⟩
          subst hw6
          by_cases hlt : j < k
          · have hlti : (j : Int) < (k : Int) := by omega
            have hj8 : (j : Int) < 8 := by omega
            obtain ⟨t, ht⟩ : ∃ t, k - 1 - j = t := ⟨_, rfl⟩
            have htk : t < k := by omega
            have ht8 : (t : Int) < 8 := by omega
            obtain ⟨q1, hq1⟩ : ∃ q1, IntKind.i64.wrap ((k : Int) - 1) = q1 := ⟨_, rfl⟩
            have HQ1 := Lib.hid (show q1 = (k : Int) - 1 by rw [← hq1, IntKind.wrap_i64]; omega)
            have hq2 : IntKind.i64.wrap (q1 - (j : Int)) = (t : Int) := by rw [IntKind.wrap_i64, HQ1.out]; omega
            have HT := Lib.hid ht
            obtain ⟨a1, c1, x1, hp1⟩ := HL.out.ga.cel j (by omega)
            rw [if_pos hlt] at x1 hp1
            have HP1 := Lib.hid hp1
            obtain ⟨m1, hm1⟩ : ∃ m1, (gotL reps j).length = m1 := ⟨_, rfl⟩
            rw [hm1] at x1
            have HM1 := Lib.hid hm1
            have hgw := HL.out.ga.lt
            have kk1 := answer_is (j : Int) a1 c1 (gotL reps j) HL.out.ra HL.out.hB (by have := HP1.out; exact this.lst) (by have := gotL_len reps j; omega) (fun p hp => Nat.le_trans (gotL_short hp) (by decide)) (show j ≤ 1000 by omega)
            rw [hm1] at kk1
            clear hp1 hm1 ht
            go_wp2_with (first
              | (go_at_call 21; (with_reducible refine kk1.mono ?_); rintro e w7 ⟨he, hr7, hf7, hmd7⟩; (rw [rdO_hear (by omega) la_all (Or.inr (Nat.le_refl _))] at he); subst he; (rw [rdO_up (by omega) la_all] at hr7); (have HL7 := Lib.hid (HL.out.ansa hr7 hf7 hmd7)); (obtain ⟨a2, c2, x2, hp2⟩ := HL7.out.ga.cel t (by omega)); (rw [if_pos htk] at x2 hp2); (have HP2 := Lib.hid hp2); (obtain ⟨m2, hm2⟩ : ∃ m2, (gotL reps t).length = m2 := ⟨_, rfl⟩); (have hL2 := hp2.lst); (have kk2 := answer_is (t : Int) a2 c2 (gotL reps t) HL7.out.rb HL7.out.hB hL2 (by have := gotL_len reps t; omega) (fun p hp => Nat.le_trans (gotL_short hp) (by decide)) (show j ≤ 1000 by omega)); (rw [hm2] at x2 kk2); clear hr7 hf7 hmd7 hp2 hm2 hL2)
              | (go_at_call 21; (with_reducible refine kk2.mono ?_); rintro e w8 ⟨he, hr8, hf8, hmd8⟩; (rw [rdO_hear (by omega) lb_all (Or.inl (by have := HT.out; omega))] at he); subst he; (rw [← HT.out, rdO_down hlt hn8 lb_all] at hr8); (have HL8 := Lib.hid (HL7.out.ansb hr8 hf8 hmd8)); clear hr8 hf8 hmd8))
            go_roundw
            case rel => exact ⟨j + 1, by omega, by go_num, HL8⟩
            case measure => simp [intOf]; omega
          · obtain rfl : j = k := by omega
            have HS := Lib.hid (show OS w w6 ba bb g (rdO (inL LA) (gotL reps) 0 j j) (rdO (inL LB) (gotL reps) 0 j j) (fun q => if q < j then gotL reps q else []) by
              have := HL.out
              rwa [Nat.sub_self] at this)
            clear HL
            obtain ⟨M, hM⟩ : ∃ M, srtR (allG (gotL reps) j) = M := ⟨_, rfl⟩
            have hml : M.length ≤ 16000 := by
              rw [← hM, ← mrg_rdO (k := j) hn8 la_all]
              exact mrg_len HS.out.ra.len
            have HML := Lib.hid hml
            have km1 := fun W (h : OS w W ba bb g (rdO (inL LA) (gotL reps) 0 j j) (rdO (inL LB) (gotL reps) 0 j j) (fun q => if q < j then gotL reps q else [])) => merged_is h.ra h.hB
            have km2 := fun W (h : OS w W ba bb g (rdO (inL LA) (gotL reps) 0 j j) (rdO (inL LB) (gotL reps) 0 j j) (fun q => if q < j then gotL reps q else [])) => merged_is h.rb h.hB
            rw [mrg_rdO hn8 la_all, hM] at km1
            rw [mrg_rdO hn8 lb_all, hM] at km2
            have HREP : Hid (∀ i, i < j → srtR (gotL reps i ++ keepL M (inA (srtR (gotL reps i)))) = M) := Lib.hid fun i hi => by rw [← hM]; exact repaired (G := gotL reps) hi (fun i j x hx y hy h => gotL_apart hx hy h)
            have HRPR := Lib.hid (fun i (hi : i < j) => (rpr_rdO (nd := inL LA) (G := gotL reps) (k := j) hi hn8 la_all).trans (by rw [hM]))
            clear hM
            obtain ⟨ml, hmll⟩ : ∃ ml, M.length = ml := ⟨_, rfl⟩
            have HMLL := Lib.hid hmll
            rw [hmll] at hml
            clear hmll
            go_upto_region 25 with (go_at_call 23; (with_reducible refine (km1 _ HS.out).mono ?_); rintro e w7 ⟨v7, rfl, hR7, hb7⟩; (obtain ⟨a7, c7, rfl⟩ := hR7.slice); (have HM7 := Lib.hid hR7.lst); (rw [HMLL.out]); (have HS7 := Lib.hid (HS.out.later hb7)); clear hR7 hb7)
            go_upto_region 26 with (first
              | (go_at_call 23; (with_reducible refine (km2 _ HS7.out).mono ?_); rintro e w8 ⟨v8, rfl, hR8, hb8⟩; (obtain ⟨a8, c8, rfl⟩ := hR8.slice); (have HM8b := Lib.hid hR8.lst); (rw [HMLL.out]); (have HM8 := Lib.hid (HM7.out.later hb8)); (have HS8 := Lib.hid (HS7.out.later hb8)); clear hR8 hb8)
              | (go_at_call 22; (have kk := rsamep_is a7 a8 c7 c8 M M true _ HM8.out.pts HM8b.out.pts (by have := HML.out; omega) (by have := HML.out; omega) (Lib.hid (samep_yes _))); (rw [HMLL.out] at kk); (with_reducible refine kk.mono ?_); rintro e w9 ⟨rfl, hb9⟩; (have HM9 := Lib.hid (HM8.out.later hb9)); (have HS9 := Lib.hid (HS8.out.later hb9)); clear kk hb9))
            clear HS HS7 HS8 HM7 HM8 HM8b km1 km2
            go_wp2
            go_loopw [14] (fun i wr => ∃ i0 : Nat, i0 ≤ j ∧ i = .int .i64 (i0 : Int) ∧ Hid (OS w wr ba bb g (rdO (inL LA) (gotL reps) 0 j j) (rdO (inL LB) (gotL reps) 0 j j) (fun q => if q < j then gotL reps q else [])) ∧ Hid (Lst wr wr.heap.size a7 c7 M)) (fun i _ => j - (intOf i).toNat)
            case atStart => exact ⟨0, Nat.zero_le _, rfl, HS9, HM9⟩
            case round =>
              obtain ⟨i0, hi0, rfl, HS, HMM⟩ := hrel
              clear HS9 HM9
              obtain ⟨w10, hw10⟩ : ∃ w10, w10 = wr := ⟨_, rfl⟩
              subst hw10
              by_cases hlt : i0 < j
              · have hlti : (i0 : Int) < (j : Int) := by omega
                have hi8 : (i0 : Int) < 8 := by omega
                obtain ⟨a1, c1, x1, hp1⟩ := HS.out.ga.cel i0 (by omega)
                rw [if_pos hlt] at x1 hp1
                have HP1 := Lib.hid hp1.lst
                have HR0 := Lib.hid (HRPR.out i0 hlt)
                have HRE := Lib.hid (HREP.out i0 hlt)
                have HGL := Lib.hid (gotL_len reps i0)
                have kr := fun W (h : OS w W ba bb g (rdO (inL LA) (gotL reps) 0 j j) (rdO (inL LB) (gotL reps) 0 j j) (fun q => if q < j then gotL reps q else [])) => repair_is (i0 : Int) h.ra h.hB
                rw [HR0.out] at kr
                obtain ⟨D, hD⟩ : ∃ D, keepL M (inA (srtR (gotL reps i0))) = D := ⟨_, rfl⟩
                have HDL := Lib.hid (show D.length ≤ 16000 by rw [← hD]; exact Nat.le_trans (keep_len _ _) HML.out)
                rw [hD] at HRE kr
                obtain ⟨G, hG⟩ : ∃ G, gotL reps i0 = G := ⟨_, rfl⟩
                rw [hG] at x1 HP1 HRE HGL
                obtain ⟨m1, hm1⟩ : ∃ m1, G.length = m1 := ⟨_, rfl⟩
                rw [hm1] at x1
                have HM1 := Lib.hid hm1
                have hm10 : m1 ≤ 10 := by rw [← hm1]; exact HGL.out
                obtain ⟨dl, hdl⟩ : ∃ dl, D.length = dl := ⟨_, rfl⟩
                have HDLL := Lib.hid hdl
                have hdl16 : dl ≤ 16000 := by rw [← hdl]; exact HDL.out
                clear hp1 hD hG hm1 hdl HR0
                have kap := fun (w2 : World) => PRow.nil w2 w10.heap.size
                go_upto_region 31 with (at_builtin; refine wpList_appN (w := w10) rfl _ _ rfl w10.heap.size 0 (.slice none 0 0) [] G a1 m1 c1 w10.heap.size rfl rfl HM1.out (Lib.hid rfl) (PRow.nil _ _) HP1.out (by omega) (Nat.le_refl _) ?_; intro a11 c11 w11 hr11 _ hb11 _; (have HR11 := Lib.hid hr11.out); (have HS11 := Lib.hid (HS.out.later hb11)); (have HM11 := Lib.hid (HMM.out.later hb11)); (have HB11 := Lib.hid hb11); clear hr11 hb11)
                rw [List.nil_append] at HR11
                rw [Nat.zero_add] at HR11
                go_upto_region 32 with (first
                  | (go_at_call 25; (with_reducible refine (kr _ HS11.out).mono ?_); rintro e w12 ⟨a12, c12, rfl, hl12, hb12⟩; (rw [HDLL.out]); (have HL12 := Lib.hid hl12); (have HR12 := Lib.hid (HR11.out.later hb12)); (have HS12 := Lib.hid (HS11.out.later hb12)); (have HM12 := Lib.hid (HM11.out.later hb12)); (have HB12 := Lib.hid (bel_next HB11.out hb12)); clear hl12 hb12 kr)
                  | (at_builtin; refine wpList_appN (w := w12) rfl _ _ rfl w10.heap.size m1 (.slice a11 m1 c11) G D a12 dl c12 w12.heap.size rfl rfl HDLL.out HM1 HR12.out HL12.out (by omega) HB12.out.size ?_; intro a13 c13 w13 hr13 _ hb13 _; (have HR13 := Lib.hid hr13.out); (have HB13 := Lib.hid (HB12.out.trans hb13)); (have HS13 := Lib.hid (HS.out.later HB13.out)); (have HM13 := Lib.hid (HMM.out.later HB13.out)); clear hr13 hb13))
                go_upto_region 33 with (first
                  | (go_at_call 33; (have kk := rsort_is a13 c13 (G ++ D) w13 HR13.out.lst (by rw [List.length_append, HM1.out, HDLL.out]; omega)); (rw [List.length_append, HM1.out, HDLL.out, HRE.out] at kk); (with_reducible refine kk.mono ?_); rintro e w14 ⟨v14, rfl, hR14, hb14⟩; (obtain ⟨a14, c14, rfl⟩ := hR14.slice); (rw [HMLL.out]); (have HL14 := Lib.hid hR14.lst); (have HS14 := Lib.hid (HS13.out.later hb14)); (have HM14 := Lib.hid (HM13.out.later hb14)); clear kk hR14 hb14)
                  | (go_at_call 22; (have kk := rsamep_is a14 a7 c14 c7 M M true _ HL14.out.pts HM14.out.pts (by have := HML.out; omega) (by have := HML.out; omega) (Lib.hid (samep_yes _))); (rw [HMLL.out] at kk); (with_reducible refine kk.mono ?_); rintro e w15 ⟨rfl, hb15⟩; (have HM15 := Lib.hid (HM14.out.later hb15)); (have HS15 := Lib.hid (HS14.out.later hb15)); clear kk hb15))
                go_wp2
                go_roundw
                case rel => exact ⟨i0 + 1, by omega, by go_num, HS15, HM15⟩
                case measure => simp [intOf]; omega
              · obtain rfl : i0 = j := by omega
                have kd := rdone_is HS.out.ra.at_
                rw [done_rdO hn8 la_all] at kd
                by_cases h0 : 0 < i0
                · have h0i : (0 : Int) < (i0 : Int) := by omega
                  rw [decide_eq_true h0] at kd
                  have H0 := Lib.hid (decide_eq_true h0)
                  clear h0
                  go_wp2_with (go_at_call 29; (with_reducible refine kd.mono ?_); rintro e w11 ⟨rfl, hb11⟩)
                  go_ret
                  exact ⟨by first | rfl | (rw [H0.out]; rfl) | (simp [H0.out]), bel_next HS.out.bel hb11⟩
                · have h0i : ¬ (0 : Int) < (i0 : Int) := by omega
                  rw [decide_eq_false h0] at kd
                  have H0 := Lib.hid (decide_eq_false h0)
                  clear h0
                  go_wp2_with (go_at_call 29; (with_reducible refine kd.mono ?_); rintro e w11 ⟨rfl, hb11⟩)
                  go_ret
                  exact ⟨by first | rfl | (rw [H0.out]; rfl) | (simp [H0.out]), bel_next HS.out.bel hb11⟩
  · have h8i : ¬ (8 : Int) < (rl : Int) := by omega
    obtain ⟨n, hnn⟩ : ∃ n : Nat, n = rl := ⟨_, rfl⟩
    have hn8 : n ≤ 8 := by omega
    have hnl : n ≤ rl := by omega
    have HNN := Lib.hid (show (rl : Int) = (n : Int) by omega)
    clear hnn h8
    go_upto_region 9 with fail
    rw [HNN.out]
    go_upto_region 11 with fail
    generalize w4.heap.size = g at HOS ⊢
    generalize hW9 : w4.alloc _ = w9 at HOS ⊢
    clear hW9
    go_loopw [8] (fun i wr => ∃ k : Nat, k ≤ n ∧ i = .int .i64 (k : Int) ∧ Hid (OS w wr ba bb g (newR 1 LA) (newR 1 LB) (fun q => if q < k then gotL reps q else []))) (fun i _ => n - (intOf i).toNat)
    case atStart => exact ⟨0, Nat.zero_le _, rfl, Lib.hid (by simpa using HOS.out)⟩
    case round =>
      obtain ⟨k, hk, rfl, HL⟩ := hrel
      clear HOS
      obtain ⟨w5, hw5⟩ : ∃ w5, w5 = wr := ⟨_, rfl⟩
      subst hw5
      by_cases hlt : k < n
      · have hlti : (k : Int) < (n : Int) := by omega
        have hkl : k < reps.length := by rw [HRL.out]; omega
        rcases HRAT.out with hh | ⟨rb, off, rfl, hrb, hc⟩
        · rw [hh] at hkl; simp at hkl
        have hki : (k : Int) < (rl : Int) := by omega
        have hc0 := hc k hkl
        have hfit := HRF.out _ (List.getElem_mem hkl)
        have HG := Lib.hid (show gotL reps k = seqI k (ptsB reps[k].ps) by unfold gotL; rw [dif_pos hkl])
        obtain ⟨x, hx⟩ : ∃ x, reps[k] = x := ⟨_, rfl⟩
        rw [hx] at hc0 hfit HG
        have f1 := (HL.out.bel.cell (p := ⟨rb, off + k * 2 + 1, none⟩) hrb).trans hc0.c1
        have hps : Pts w5 w5.heap.size x.a x.ps := (hfit.pts.below HL.out.bel).mono HL.out.bel.size
        have kpt := points_is x.a x.c x.ps w5 hps hfit.len
        have HPL := Lib.hid (ptsB_len x.ps)
        obtain ⟨P, hP⟩ : ∃ P, ptsB x.ps = P := ⟨_, rfl⟩
        rw [hP] at kpt HPL HG
        obtain ⟨xl, hxl⟩ : ∃ xl, x.ps.length = xl := ⟨_, rfl⟩
        rw [hxl] at f1 kpt
        obtain ⟨m, hm⟩ : ∃ m, P.length = m := ⟨_, rfl⟩
        have HM := Lib.hid hm
        have hm10 : m ≤ 10 := by rw [← hm]; exact HPL.out
        have hk8 : (k : Int) < 8 := by omega
        obtain ⟨z1, hz1⟩ : ∃ z1, IntKind.i64.wrap (10 * (k : Int)) = z1 := ⟨_, rfl⟩
        have HZ1 := Lib.hid (show z1 = 10 * (k : Int) by rw [← hz1, IntKind.wrap_i64]; omega)
        clear hc hx hc0 hkl hfit hps hP hxl hm
        go_wp2_with (go_at_call 20; (with_reducible refine kpt.mono ?_); rintro e w6 ⟨v6, rfl, hR6, hb6⟩; (obtain ⟨a6, c6, rfl⟩ := hR6.slice); (have HR6 := Lib.hid hR6); (rw [HM.out] at HR6); (rw [HM.out]); (have HB6 := Lib.hid hb6); clear hR6 hb6 kpt f1)
        go_loopw [10] (fun j wr => ∃ q : Nat, q ≤ m ∧ j = .int .i64 (q : Int) ∧ Hid (PRow wr w5.heap.size (.slice a6 m c6) (sqK k P q)) ∧ Hid (Below w5.heap.size w5 wr)) (fun j _ => m - (intOf j).toNat)
        case atStart => exact ⟨0, Nat.zero_le _, rfl, Lib.hid (by rw [sqK_zero]; exact HR6.out), HB6⟩
        case round =>
          obtain ⟨q, hq, rfl, HRW, HBW⟩ := hrel
          clear HR6 HB6
          obtain ⟨w7, hw7⟩ : ∃ w7, w7 = wr := ⟨_, rfl⟩
          subst hw7
          by_cases hqm : q < m
          · have hqmi : (q : Int) < (m : Int) := by omega
            have hqP : q < P.length := by rw [HM.out]; exact hqm
            have hqS : q < (sqK k P q).length := by rw [sqK_len]; exact hqP
            have hrow := HRW.out
            obtain ⟨p, hp⟩ : ∃ p, P[q] = p := ⟨_, rfl⟩
            have hat := (sqK_at (i := k) hqP).trans hp
            have HST := Lib.hid (sqK_step (i := k) hqP hp)
            rcases hrow.2 with ⟨e0, h0⟩ | ⟨g6, cap6, cur6, e0, hg6, hb6, hcap, hmax, hsz6, htk⟩
            · rw [sqK_len, HM.out] at h0; omega
            · injection e0 with e1 e2 e3
              subst e1
              have c5 : w7.cell? ⟨g6, q * 6 + 5, none⟩ = some (.int .i64 p.st.q) := by
                rcases hrow.pts.at_ with hh | ⟨b9, o9, e9, hb9, hc9⟩
                · rw [hh] at hqS; simp at hqS
                · injection e9 with e9
                  injection e9 with e9 e10
                  subst e9 e10
                  have := (hc9 q hqS).c5
                  rwa [Nat.zero_add, hat] at this
              have f5 : w7.frozen? ⟨g6, q * 6 + 5, none⟩ = false := by
                unfold World.frozen?
                simp [hb6]
              obtain ⟨z2, hz2⟩ : ∃ z2, IntKind.i64.wrap (z1 + (q : Int)) = z2 := ⟨_, rfl⟩
              have HZ2 := Lib.hid (show z2 = ((10 * k + q : Nat) : Int) by rw [← hz2, IntKind.wrap_i64, HZ1.out]; omega)
              have HNEW := Lib.hid (show PRow (w7.setCell ⟨g6, q * 6 + 5, none⟩ (.int .i64 z2)) w5.heap.size (.slice (some ⟨g6, 0, none⟩) m c6) (sqK k P (q + 1)) by rw [HZ2.out, ← HST.out]; exact prow_set hrow hqS hat)
              have HBN := Lib.hid (HBW.out.setCell (p := ⟨g6, q * 6 + 5, none⟩) hg6 (.int .i64 z2))
              clear hrow hp hat hb6 htk hsz6 hmax hcap e2 e3
              go_wp2
              go_roundw
              case rel => exact ⟨q + 1, by omega, by go_num, HNEW, HBN⟩
              case measure => simp [intOf]; omega
          · obtain rfl : q = m := by omega
            have HROW := Lib.hid (show PRow w7 w.heap.size (.slice a6 q c6) (gotL reps k) by
              have h1 := HRW.out.base HL.out.bel.size
              have h2 := sqK_all k P
              rw [HM.out] at h2
              rw [h2] at h1
              rw [HG.out]; exact h1)
            have hgl : (gotL reps k).length = q := by rw [HG.out, seqI_len, HM.out]
            have HOS7 := HL.out.later HBW.out
            obtain ⟨a9, c9, x9, -⟩ := HOS7.ga.cel k (by omega)
            have f9 := HOS7.ga.frozen k
            have hpt := HOS7.put (i := k) (l := gotL reps k) (a := a6) (c := c6) (by omega) (by rw [hgl]; exact HROW.out)
            rw [hgl, gl_step] at hpt
            have HPT := Lib.hid hpt
            clear hgl HOS7 hpt
            go_wp2
            go_roundw
            case rel => exact ⟨k + 1, by omega, by go_num, HPT⟩
            case measure => simp [intOf]; omega
      · obtain rfl : k = n := by omega
        have HL2 := Lib.hid (show OS w w5 ba bb g (rdO (inL LA) (gotL reps) 0 0 0) (rdO (inL LB) (gotL reps) (k - 0) k 0) (fun q => if q < k then gotL reps q else []) by
          have := HL.out
          rw [rdO_new LA (gotL reps) 0, rdO_new LB (gotL reps) k] at this
          exact this)
        clear HL
        go_wp2
        go_loopw [11] (fun i wr => ∃ j : Nat, j ≤ k ∧ i = .int .i64 (j : Int) ∧ Hid (OS w wr ba bb g (rdO (inL LA) (gotL reps) 0 j j) (rdO (inL LB) (gotL reps) (k - j) k j) (fun q => if q < k then gotL reps q else []))) (fun i _ => k - (intOf i).toNat)
        case atStart => exact ⟨0, Nat.zero_le _, rfl, HL2⟩
        case round =>
          obtain ⟨j, hj, rfl, HL⟩ := hrel
          clear HL2
          obtain ⟨w6, hw6⟩ : ∃ w6, w6 = wr := ⟨_, rfl⟩
          subst hw6
          by_cases hlt : j < k
          · have hlti : (j : Int) < (k : Int) := by omega
            have hj8 : (j : Int) < 8 := by omega
            obtain ⟨t, ht⟩ : ∃ t, k - 1 - j = t := ⟨_, rfl⟩
            have htk : t < k := by omega
            have ht8 : (t : Int) < 8 := by omega
            obtain ⟨q1, hq1⟩ : ∃ q1, IntKind.i64.wrap ((k : Int) - 1) = q1 := ⟨_, rfl⟩
            have HQ1 := Lib.hid (show q1 = (k : Int) - 1 by rw [← hq1, IntKind.wrap_i64]; omega)
            have hq2 : IntKind.i64.wrap (q1 - (j : Int)) = (t : Int) := by rw [IntKind.wrap_i64, HQ1.out]; omega
            have HT := Lib.hid ht
            obtain ⟨a1, c1, x1, hp1⟩ := HL.out.ga.cel j (by omega)
            rw [if_pos hlt] at x1 hp1
            have HP1 := Lib.hid hp1
            obtain ⟨m1, hm1⟩ : ∃ m1, (gotL reps j).length = m1 := ⟨_, rfl⟩
            rw [hm1] at x1
            have HM1 := Lib.hid hm1
            have hgw := HL.out.ga.lt
            have kk1 := answer_is (j : Int) a1 c1 (gotL reps j) HL.out.ra HL.out.hB (by have := HP1.out; exact this.lst) (by have := gotL_len reps j; omega) (fun p hp => Nat.le_trans (gotL_short hp) (by decide)) (show j ≤ 1000 by omega)
            rw [hm1] at kk1
            clear hp1 hm1 ht
            go_wp2_with (first
              | (go_at_call 21; (with_reducible refine kk1.mono ?_); rintro e w7 ⟨he, hr7, hf7, hmd7⟩; (rw [rdO_hear (by omega) la_all (Or.inr (Nat.le_refl _))] at he); subst he; (rw [rdO_up (by omega) la_all] at hr7); (have HL7 := Lib.hid (HL.out.ansa hr7 hf7 hmd7)); (obtain ⟨a2, c2, x2, hp2⟩ := HL7.out.ga.cel t (by omega)); (rw [if_pos htk] at x2 hp2); (have HP2 := Lib.hid hp2); (obtain ⟨m2, hm2⟩ : ∃ m2, (gotL reps t).length = m2 := ⟨_, rfl⟩); (have hL2 := hp2.lst); (have kk2 := answer_is (t : Int) a2 c2 (gotL reps t) HL7.out.rb HL7.out.hB hL2 (by have := gotL_len reps t; omega) (fun p hp => Nat.le_trans (gotL_short hp) (by decide)) (show j ≤ 1000 by omega)); (rw [hm2] at x2 kk2); clear hr7 hf7 hmd7 hp2 hm2 hL2)
              | (go_at_call 21; (with_reducible refine kk2.mono ?_); rintro e w8 ⟨he, hr8, hf8, hmd8⟩; (rw [rdO_hear (by omega) lb_all (Or.inl (by have := HT.out; omega))] at he); subst he; (rw [← HT.out, rdO_down hlt hn8 lb_all] at hr8); (have HL8 := Lib.hid (HL7.out.ansb hr8 hf8 hmd8)); clear hr8 hf8 hmd8))
            go_roundw
            case rel => exact ⟨j + 1, by omega, by go_num, HL8⟩
            case measure => simp [intOf]; omega
          · obtain rfl : j = k := by omega
            have HS := Lib.hid (show OS w w6 ba bb g (rdO (inL LA) (gotL reps) 0 j j) (rdO (inL LB) (gotL reps) 0 j j) (fun q => if q < j then gotL reps q else []) by
              have := HL.out
              rwa [Nat.sub_self] at this)
            clear HL
            obtain ⟨M, hM⟩ : ∃ M, srtR (allG (gotL reps) j) = M := ⟨_, rfl⟩
            have hml : M.length ≤ 16000 := by
              rw [← hM, ← mrg_rdO (k := j) hn8 la_all]
              exact mrg_len HS.out.ra.len
            have HML := Lib.hid hml
            have km1 := fun W (h : OS w W ba bb g (rdO (inL LA) (gotL reps) 0 j j) (rdO (inL LB) (gotL reps) 0 j j) (fun q => if q < j then gotL reps q else [])) => merged_is h.ra h.hB
            have km2 := fun W (h : OS w W ba bb g (rdO (inL LA) (gotL reps) 0 j j) (rdO (inL LB) (gotL reps) 0 j j) (fun q => if q < j then gotL reps q else [])) => merged_is h.rb h.hB
            rw [mrg_rdO hn8 la_all, hM] at km1
            rw [mrg_rdO hn8 lb_all, hM] at km2
            have HREP : Hid (∀ i, i < j → srtR (gotL reps i ++ keepL M (inA (srtR (gotL reps i)))) = M) := Lib.hid fun i hi => by rw [← hM]; exact repaired (G := gotL reps) hi (fun i j x hx y hy h => gotL_apart hx hy h)
            have HRPR := Lib.hid (fun i (hi : i < j) => (rpr_rdO (nd := inL LA) (G := gotL reps) (k := j) hi hn8 la_all).trans (by rw [hM]))
            clear hM
            obtain ⟨ml, hmll⟩ : ∃ ml, M.length = ml := ⟨_, rfl⟩
            have HMLL := Lib.hid hmll
            rw [hmll] at hml
            clear hmll
            go_upto_region 25 with (go_at_call 23; (with_reducible refine (km1 _ HS.out).mono ?_); rintro e w7 ⟨v7, rfl, hR7, hb7⟩; (obtain ⟨a7, c7, rfl⟩ := hR7.slice); (have HM7 := Lib.hid hR7.lst); (rw [HMLL.out]); (have HS7 := Lib.hid (HS.out.later hb7)); clear hR7 hb7)
            go_upto_region 26 with (first
              | (go_at_call 23; (with_reducible refine (km2 _ HS7.out).mono ?_); rintro e w8 ⟨v8, rfl, hR8, hb8⟩; (obtain ⟨a8, c8, rfl⟩ := hR8.slice); (have HM8b := Lib.hid hR8.lst); (rw [HMLL.out]); (have HM8 := Lib.hid (HM7.out.later hb8)); (have HS8 := Lib.hid (HS7.out.later hb8)); clear hR8 hb8)
              | (go_at_call 22; (have kk := rsamep_is a7 a8 c7 c8 M M true _ HM8.out.pts HM8b.out.pts (by have := HML.out; omega) (by have := HML.out; omega) (Lib.hid (samep_yes _))); (rw [HMLL.out] at kk); (with_reducible refine kk.mono ?_); rintro e w9 ⟨rfl, hb9⟩; (have HM9 := Lib.hid (HM8.out.later hb9)); (have HS9 := Lib.hid (HS8.out.later hb9)); clear kk hb9))
            clear HS HS7 HS8 HM7 HM8 HM8b km1 km2
            go_wp2
            go_loopw [14] (fun i wr => ∃ i0 : Nat, i0 ≤ j ∧ i = .int .i64 (i0 : Int) ∧ Hid (OS w wr ba bb g (rdO (inL LA) (gotL reps) 0 j j) (rdO (inL LB) (gotL reps) 0 j j) (fun q => if q < j then gotL reps q else [])) ∧ Hid (Lst wr wr.heap.size a7 c7 M)) (fun i _ => j - (intOf i).toNat)
            case atStart => exact ⟨0, Nat.zero_le _, rfl, HS9, HM9⟩
            case round =>
              obtain ⟨i0, hi0, rfl, HS, HMM⟩ := hrel
              clear HS9 HM9
              obtain ⟨w10, hw10⟩ : ∃ w10, w10 = wr := ⟨_, rfl⟩
              subst hw10
              by_cases hlt : i0 < j
              · have hlti : (i0 : Int) < (j : Int) := by omega
                have hi8 : (i0 : Int) < 8 := by omega
                obtain ⟨a1, c1, x1, hp1⟩ := HS.out.ga.cel i0 (by omega)
                rw [if_pos hlt] at x1 hp1
                have HP1 := Lib.hid hp1.lst
                have HR0 := Lib.hid (HRPR.out i0 hlt)
                have HRE := Lib.hid (HREP.out i0 hlt)
                have HGL := Lib.hid (gotL_len reps i0)
                have kr := fun W (h : OS w W ba bb g (rdO (inL LA) (gotL reps) 0 j j) (rdO (inL LB) (gotL reps) 0 j j) (fun q => if q < j then gotL reps q else [])) => repair_is (i0 : Int) h.ra h.hB
                rw [HR0.out] at kr
                obtain ⟨D, hD⟩ : ∃ D, keepL M (inA (srtR (gotL reps i0))) = D := ⟨_, rfl⟩
                have HDL := Lib.hid (show D.length ≤ 16000 by rw [← hD]; exact Nat.le_trans (keep_len _ _) HML.out)
                rw [hD] at HRE kr
                obtain ⟨G, hG⟩ : ∃ G, gotL reps i0 = G := ⟨_, rfl⟩
                rw [hG] at x1 HP1 HRE HGL
                obtain ⟨m1, hm1⟩ : ∃ m1, G.length = m1 := ⟨_, rfl⟩
                rw [hm1] at x1
                have HM1 := Lib.hid hm1
                have hm10 : m1 ≤ 10 := by rw [← hm1]; exact HGL.out
                obtain ⟨dl, hdl⟩ : ∃ dl, D.length = dl := ⟨_, rfl⟩
                have HDLL := Lib.hid hdl
                have hdl16 : dl ≤ 16000 := by rw [← hdl]; exact HDL.out
                clear hp1 hD hG hm1 hdl HR0
                have kap := fun (w2 : World) => PRow.nil w2 w10.heap.size
                go_upto_region 31 with (at_builtin; refine wpList_appN (w := w10) rfl _ _ rfl w10.heap.size 0 (.slice none 0 0) [] G a1 m1 c1 w10.heap.size rfl rfl HM1.out (Lib.hid rfl) (PRow.nil _ _) HP1.out (by omega) (Nat.le_refl _) ?_; intro a11 c11 w11 hr11 _ hb11 _; (have HR11 := Lib.hid hr11.out); (have HS11 := Lib.hid (HS.out.later hb11)); (have HM11 := Lib.hid (HMM.out.later hb11)); (have HB11 := Lib.hid hb11); clear hr11 hb11)
                rw [List.nil_append] at HR11
                rw [Nat.zero_add] at HR11
                go_upto_region 32 with (first
                  | (go_at_call 25; (with_reducible refine (kr _ HS11.out).mono ?_); rintro e w12 ⟨a12, c12, rfl, hl12, hb12⟩; (rw [HDLL.out]); (have HL12 := Lib.hid hl12); (have HR12 := Lib.hid (HR11.out.later hb12)); (have HS12 := Lib.hid (HS11.out.later hb12)); (have HM12 := Lib.hid (HM11.out.later hb12)); (have HB12 := Lib.hid (bel_next HB11.out hb12)); clear hl12 hb12 kr)
                  | (at_builtin; refine wpList_appN (w := w12) rfl _ _ rfl w10.heap.size m1 (.slice a11 m1 c11) G D a12 dl c12 w12.heap.size rfl rfl HDLL.out HM1 HR12.out HL12.out (by omega) HB12.out.size ?_; intro a13 c13 w13 hr13 _ hb13 _; (have HR13 := Lib.hid hr13.out); (have HB13 := Lib.hid (HB12.out.trans hb13)); (have HS13 := Lib.hid (HS.out.later HB13.out)); (have HM13 := Lib.hid (HMM.out.later HB13.out)); clear hr13 hb13))
                go_upto_region 33 with (first
                  | (go_at_call 33; (have kk := rsort_is a13 c13 (G ++ D) w13 HR13.out.lst (by rw [List.length_append, HM1.out, HDLL.out]; omega)); (rw [List.length_append, HM1.out, HDLL.out, HRE.out] at kk); (with_reducible refine kk.mono ?_); rintro e w14 ⟨v14, rfl, hR14, hb14⟩; (obtain ⟨a14, c14, rfl⟩ := hR14.slice); (rw [HMLL.out]); (have HL14 := Lib.hid hR14.lst); (have HS14 := Lib.hid (HS13.out.later hb14)); (have HM14 := Lib.hid (HM13.out.later hb14)); clear kk hR14 hb14)
                  | (go_at_call 22; (have kk := rsamep_is a14 a7 c14 c7 M M true _ HL14.out.pts HM14.out.pts (by have := HML.out; omega) (by have := HML.out; omega) (Lib.hid (samep_yes _))); (rw [HMLL.out] at kk); (with_reducible refine kk.mono ?_); rintro e w15 ⟨rfl, hb15⟩; (have HM15 := Lib.hid (HM14.out.later hb15)); (have HS15 := Lib.hid (HS14.out.later hb15)); clear kk hb15))
                go_wp2
                go_roundw
                case rel => exact ⟨i0 + 1, by omega, by go_num, HS15, HM15⟩
                case measure => simp [intOf]; omega
              · obtain rfl : i0 = j := by omega
                have kd := rdone_is HS.out.ra.at_
                rw [done_rdO hn8 la_all] at kd
                by_cases h0 : 0 < i0
                · have h0i : (0 : Int) < (i0 : Int) := by omega
                  rw [decide_eq_true h0] at kd
                  have H0 := Lib.hid (decide_eq_true h0)
                  clear h0
                  go_wp2_with (go_at_call 29; (with_reducible refine kd.mono ?_); rintro e w11 ⟨rfl, hb11⟩)
                  go_ret
                  exact ⟨by first | rfl | (rw [H0.out]; rfl) | (simp [H0.out]), bel_next HS.out.bel hb11⟩
                · have h0i : ¬ (0 : Int) < (i0 : Int) := by omega
                  rw [decide_eq_false h0] at kd
                  have H0 := Lib.hid (decide_eq_false h0)
                  clear h0
                  go_wp2_with (go_at_call 29; (with_reducible refine kd.mono ?_); rintro e w11 ⟨rfl, hb11⟩)
                  go_ret
                  exact ⟨by first | rfl | (rw [H0.out]; rfl) | (simp [H0.out]), bel_next HS.out.bel hb11⟩
end quorumOrder
end Go.Proofs.Ytcjcbbpolhpphaa.Qu
