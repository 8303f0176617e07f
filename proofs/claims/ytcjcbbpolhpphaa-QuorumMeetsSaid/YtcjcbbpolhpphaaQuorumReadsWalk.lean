/- QuorumReads. -/
import Derived.Test.YtcjcbbpolhpphaaQuPts
import Derived.Test.YtcjcbbpolhpphaaQuorumWritesWalk
set_option maxRecDepth 20000
set_option linter.unusedSimpArgs false
set_option linter.unusedVariables false
namespace Go.Proofs.Ytcjcbbpolhpphaa.Qu
open Go.RowKit Go.Proofs.Ytcjcbbpolhpphaa.Vi

theorem mrg_len {R : RS} (h : ∀ i, (R.an i).length ≤ 1000) : (mrgL R).length ≤ 16000 := by
  have h1 := srtR_len (ansL R).flatten
  have : ∀ L : List Int, ((L.map R.an).flatten).length ≤ L.length * 1000 := fun L => by
    induction L with
    | nil => simp
    | cons x t ih =>
      rw [List.map_cons, List.flatten_cons, List.length_append, List.length_cons]
      have := h x
      omega
  have h2 := this (repL R.S)
  have h3 : (repL R.S).length ≤ 16 := by unfold repL pickL; exact pickK_len _ 16
  unfold mrgL ansL at *
  omega
theorem rpr_len {R : RS} (h : ∀ i, (R.an i).length ≤ 1000) (n : Int) : (rprL R n).length ≤ 16000 := by
  unfold rprL
  split
  · exact Nat.le_trans (keep_len _ _) (mrg_len h)
  · simp
theorem prow_beside_r {w w' : World} {B B' b : Nat} {R : RS} {v : Value} {xs : List Pt} (hp : PRow w B' v xs) (h : RdAt w B b R) (k : ButP (rmods w b) w w') : PRow w' B' v xs := prow_other hp fun g cur hg => h.stays k hg (by decide)
/-- The read and the document's, side by side. -/
structure RR (w0 W : World) (bq d Bq Bd : Nat) (R : RS) (k : Nat) : Prop where
  rd : RdAt W Bq bq R
  dt : DAt W Bd d R
  good : Good R
  cnt : R.cnt ≤ k
  bel : Below w0.heap.size w0 W
  hq : Bq ≤ W.heap.size
  hd : Bd ≤ W.heap.size
  loq : w0.heap.size ≤ Bq
  lod : w0.heap.size ≤ Bd
theorem RR.later {w0 W W' : World} {bq d Bq Bd k : Nat} {R : RS} (h : RR w0 W bq d Bq Bd R k) (b : Below W.heap.size W W') : RR w0 W' bq d Bq Bd R k :=
  ⟨h.rd.later b, h.dt.later b, h.good, h.cnt, bel_next h.bel b, Nat.le_trans h.hq b.size, Nat.le_trans h.hd b.size, h.loq, h.lod⟩
/-- The read alone has the answer. -/
structure RM (w0 W : World) (bq d Bq Bd : Nat) (R : RS) (k : Nat) (n : Int) (l : List Pt) : Prop where
  rd : RdAt W Bq bq (ansS R n l)
  dt : DAt W Bd d R
  good : Good R
  cnt : R.cnt ≤ k
  bel : Below w0.heap.size w0 W
  hq : Bq ≤ W.heap.size
  hd : Bd ≤ W.heap.size
  loq : w0.heap.size ≤ Bq
  lod : w0.heap.size ≤ Bd
theorem ans_cnt (R : RS) (n : Int) (l : List Pt) : (ansS R n l).cnt ≤ R.cnt + 1 := by
  unfold ansS
  split
  · exact Nat.le_refl _
  · omega
theorem RR.ansq {w0 W W' : World} {bq d Bq Bd k : Nat} {R : RS} {n : Int} {l : List Pt} (h : RR w0 W bq d Bq Bd R k) (hr : RdAt W' Bq bq (ansS R n l)) (b : ButP (rmods W bq) W W') : RM w0 W' bq d Bq Bd R k n l :=
  ⟨hr, h.dt.beside_r h.rd b, h.good, h.cnt, h.bel.trans ((h.rd.below b h.hq).mono h.loq), Nat.le_trans h.hq b.size, Nat.le_trans h.hd b.size, h.loq, h.lod⟩
theorem RM.ansd {w0 W W' : World} {bq d Bq Bd k : Nat} {R : RS} {n : Int} {l : List Pt} (h : RM w0 W bq d Bq Bd R k n l) (hr : DAt W' Bd d (ansS R n l)) (b : ButP (fun g => g = d) W W') : RR w0 W' bq d Bq Bd (ansS R n l) (k + 1) :=
  ⟨h.rd.beside_d h.dt b, hr, h.good.ans n l, by have := ans_cnt R n l; have := h.cnt; omega, h.bel.trans ((b.below (fun g hg => by subst hg; exact h.dt.lo) h.hd).mono h.lod), Nat.le_trans h.hq b.size, Nat.le_trans h.hd b.size, h.loq, h.lod⟩
theorem samep_yes (l : List Pt) : sameP l l = true := by unfold sameP; simp
namespace quorumReads
set_option maxHeartbeats 16000000 in
theorem walk (need : Int) (na : Option Addr) (nl nc : Nat) (ra : Option Addr) (rl rc : Nat) (w : World) (hok : -9223372036854775808 ≤ need ∧ need ≤ 9223372036854775807) (hnod : ArgInts w na nl nc) (hrep : ArgReps w ra rl rc) : Calls Try.prog 4 #[.int .i64 need, .slice na nl nc, .slice ra rl rc] w fun e w' => e = .returned (.bool true) ∧ Below w.heap.size w w' := by
  obtain ⟨reps, hrl, hrat, hrsz, hrfit⟩ := hrep.has
  have HRL := Lib.hid hrl
  have HRAT := Lib.hid hrat
  have HRF := Lib.hid hrfit
  have ka := awake_is w
  have HNOD := Lib.hid hnod
  have HOK := Lib.hid hok
  clear hrl hrat hrfit hrep hnod hok
  go_enter Try.func4, Try.ntmps4
  go_upto_region 2 with (go_at_call 8; (with_reducible refine ka.mono ?_); rintro e w1 ⟨rfl, hb1⟩; (have HB1 := Lib.hid hb1); clear hb1)
  go_upto_region 3 with (go_at_call 9; (have kk := few2_is HNOD.out w1 HB1.out); (with_reducible refine kk.mono ?_); rintro e w2 ⟨A, a2, n2, c2, rfl, hA, hA12, hNA, rfl⟩; (have HNA := Lib.hid hNA); clear kk hA hNA)
  go_upto_region 4 with (go_at_call 19; (have kk := newR_at need _ _ _ HNA.out HOK.out); (with_reducible refine kk.mono ?_); rintro e w3 ⟨bq, rfl, hR, hb3⟩; (have HR := Lib.hid hR); (have HB3 := Lib.hid (bel_next HB1.out hb3)); (have HNA3 := Lib.hid (Ns.later HNA.out hb3)); (have HSZ := Lib.hid hb3.size); clear kk hR hb3)
  go_upto_region 7 with (go_at_call 11; (have kk := rnew_is need _ _ _ HNA3.out HOK.out); (with_reducible refine kk.mono ?_); rintro e w4 ⟨d, rfl, hD, hb4⟩; (have HL4 := Lib.hid (show RR w w4 bq d w1.heap.size w3.heap.size (newR need A) 0 from ⟨HR.out.later hb4, hD, good_new _ _, Nat.le_refl _, bel_next HB3.out hb4, Nat.le_trans HSZ.out hb4.size, hb4.size, HB1.out.size, HB3.out.size⟩)); clear kk hD hb4)
  clear HR HB3 HNA3 HNA HSZ
  generalize w3.heap.size = Bd at HL4
  generalize w1.heap.size = Bq at HL4
  go_wp2
  go_loopw [11] (fun i wr => ∃ (k : Nat) (R : RS), k ≤ rl ∧ k ≤ 8 ∧ i = .int .i64 (k : Int) ∧ Hid (RR w wr bq d Bq Bd R k)) (fun i _ => rl - (intOf i).toNat)
  case atStart => exact ⟨0, newR need A, by omega, by omega, rfl, HL4⟩
  case round =>
    obtain ⟨k, R, hk, hk8, rfl, HL⟩ := hrel
    clear HL4
    obtain ⟨w5, hw5⟩ : ∃ w5, w5 = wr := ⟨_, rfl⟩
    subst hw5
    by_cases hgo : k < rl ∧ k < 8
    · obtain ⟨g1, g2⟩ := hgo
      have hi1 : (k : Int) < (rl : Int) := by omega
      have hi2 : (k : Int) < 8 := by omega
      have hkl : k < reps.length := by rw [HRL.out]; exact g1
      rcases HRAT.out with hh | ⟨rb, off, rfl, hrb, hc⟩
      · rw [hh] at hkl; simp at hkl
      have hc0 := hc k hkl
      have hfit := HRF.out _ (List.getElem_mem hkl)
      obtain ⟨x, hx⟩ : ∃ x, reps[k] = x := ⟨_, rfl⟩
      rw [hx] at hc0 hfit
      have f0 := (HL.out.bel.cell (p := ⟨rb, off + k * 2, none⟩) hrb).trans hc0.c0
      have f1 := (HL.out.bel.cell (p := ⟨rb, off + k * 2 + 1, none⟩) hrb).trans hc0.c1
      have hps : Pts w5 w5.heap.size x.a x.ps := (hfit.pts.below HL.out.bel).mono HL.out.bel.size
      have kpt := points_is x.a x.c x.ps w5 hps hfit.len
      have HPN := Lib.hid (fun p (hp : p ∈ ptsB x.ps) => ptsB_short hp)
      have HPL := Lib.hid (ptsB_len x.ps)
      obtain ⟨P, hP⟩ : ∃ P, ptsB x.ps = P := ⟨_, rfl⟩
      rw [hP] at kpt HPN HPL
      obtain ⟨n, hn⟩ : ∃ n, x.n = n := ⟨_, rfl⟩
      rw [hn] at f0
      obtain ⟨xl, hxl⟩ : ∃ xl, x.ps.length = xl := ⟨_, rfl⟩
      rw [hxl] at f1 kpt
      obtain ⟨m, hm⟩ : ∃ m, P.length = m := ⟨_, rfl⟩
      have HM := Lib.hid hm
      obtain ⟨z, hz⟩ : ∃ z, hearB R.S n = z := ⟨_, rfl⟩
      have HZ := Lib.hid hz
      clear hc hx hc0 hz hkl hfit hps hP hn hxl hm
      go_upto_region 12 with (go_at_call 20; (with_reducible refine kpt.mono ?_); rintro e w6 ⟨v6, rfl, hR6, hb6⟩; (obtain ⟨a6, c6, rfl⟩ := hR6.slice); (have HR6 := Lib.hid hR6); (rw [HM.out] at HR6); (rw [HM.out]); (have HL6 := Lib.hid (HL.out.later hb6)); clear hR6 hb6 kpt f0 f1)
      cases z with
      | false =>
        go_upto_region 14 with (first
          | (go_at_call 21; (have kk := answer_is n a6 c6 P HL6.out.rd HL6.out.hq HR6.out.lst (by have := HPL.out; omega) (fun p hp => Nat.le_trans (HPN.out p hp) (by decide)) (by have := HL6.out.cnt; omega)); (rw [HM.out] at kk); (with_reducible refine kk.mono ?_); rintro e w7 ⟨he, hr7, hf7, -⟩; (rw [HZ.out] at he); subst he; (have HM7 := Lib.hid (HL6.out.ansq hr7 hf7)); (have HR7 := Lib.hid (prow_beside_r HR6.out HL6.out.rd hf7)); clear kk hr7 hf7)
          | (go_at_call 13; (have kk := rans_is n a6 c6 P HM7.out.dt HM7.out.hd HR7.out.lst (by have := HPL.out; omega)); (rw [HM.out] at kk); (with_reducible refine kk.mono ?_); rintro e w8 ⟨he, hd8, hf8⟩; (rw [HZ.out] at he); subst he; (have HL8 := Lib.hid (HM7.out.ansd hd8 hf8)); clear kk hd8 hf8 HM7 HR7 HR6))
        generalize ansS R n P = R7 at HL8
        have HLEN := Lib.hid (HL8.out.rd.len)
        go_upto_region 15 with (first
          | (go_at_call 23; (have kk := merged_is HL8.out.rd HL8.out.hq); (with_reducible refine kk.mono ?_); rintro e w1a ⟨v1, rfl, hRa, hba⟩; (obtain ⟨aa1, ca1, rfl⟩ := hRa.slice); (have HRA1 := Lib.hid hRa.lst); (have hba := hba.mono (by first | exact Nat.le_refl _)); (have HLA1 := Lib.hid (HL8.out.later hba)); clear kk hRa hba)
          | (go_at_call 24; (have kk := rmerged_is HLA1.out.dt HLA1.out.good); (with_reducible refine kk.mono ?_); rintro e w1b ⟨v1b, rfl, hRb, hbb⟩; (obtain ⟨ab1, cb1, rfl⟩ := hRb.slice); (have HRB1 := Lib.hid hRb.lst); (have HRA1b := Lib.hid (HRA1.out.later hbb)); (have HLB1 := Lib.hid (HLA1.out.later hbb)); clear kk hRb hbb)
          | (go_at_call 22; (have kk := rsamep_is _ _ ca1 cb1 _ _ true _ HRA1b.out.pts HRB1.out.pts (by have := mrg_len HLEN.out; omega) (by have := mrg_len HLEN.out; omega) (Lib.hid (samep_yes _))); (with_reducible refine kk.mono ?_); rintro e w1c ⟨rfl, hbc⟩; (have HL9 := Lib.hid (HLB1.out.later hbc)); clear kk hbc HRA1 HRB1 HRA1b HLA1 HLB1))
        go_upto_region 16 with (first
          | (go_at_call 25; (have kk := repair_is n HL9.out.rd HL9.out.hq); (with_reducible refine kk.mono ?_); rintro e w2a ⟨aa2, ca2, rfl, hRa, hba⟩; (have HRA2 := Lib.hid hRa); (have hba := hba.mono (by first | exact Nat.le_refl _)); (have HLA2 := Lib.hid (HL9.out.later hba)); clear kk hRa hba)
          | (go_at_call 26; (have kk := rrep_is n HLA2.out.dt HLA2.out.good); (with_reducible refine kk.mono ?_); rintro e w2b ⟨v2b, rfl, hRb, hbb⟩; (obtain ⟨ab2, cb2, rfl⟩ := hRb.slice); (have HRB2 := Lib.hid hRb.lst); (have HRA2b := Lib.hid (HRA2.out.later hbb)); (have HLB2 := Lib.hid (HLA2.out.later hbb)); clear kk hRb hbb)
          | (go_at_call 22; (have kk := rsamep_is _ _ ca2 cb2 _ _ true _ HRA2b.out.pts HRB2.out.pts (by have := rpr_len HLEN.out n; omega) (by have := rpr_len HLEN.out n; omega) (Lib.hid (samep_yes _))); (with_reducible refine kk.mono ?_); rintro e w2c ⟨rfl, hbc⟩; (have HL10 := Lib.hid (HLB2.out.later hbc)); clear kk hbc HRA2 HRB2 HRA2b HLA2 HLB2))
        go_upto_region 17 with (first
          | (go_at_call 27; (have kk := rhave_is HL10.out.rd.at_); (with_reducible refine kk.mono ?_); rintro e w3a ⟨v3, rfl, hRa, hba⟩; (obtain ⟨aa3, ca3, rfl⟩ := hRa.slice); (have HRA3 := Lib.hid hRa); (have HLA3 := Lib.hid (HL10.out.later hba)); clear kk hRa hba)
          | (go_at_call 16; (have kk := rhav_is true HLA3.out.dt); (rw [both_yes] at kk); (with_reducible refine kk.mono ?_); rintro e w3b ⟨v3b, rfl, hRb, hbb⟩; (obtain ⟨ab3, cb3, rfl⟩ := hRb.slice); (have HRB3 := Lib.hid hRb); (have HRA3b := Lib.hid (IRow.later HRA3.out hbb)); (have HLB3 := Lib.hid (HLA3.out.later hbb)); clear kk hRb hbb)
          | (go_at_call 14; (have kk := rsame_is _ _ _ _ _ _ _ (rep_ns HRA3b.out) (rep_ns HRB3.out)); (rw [sameL_self] at kk); (with_reducible refine kk.mono ?_); rintro e w3c ⟨rfl, hbc⟩; (have HL11 := Lib.hid (HLB3.out.later hbc)); clear kk hbc HRA3 HRB3 HRA3b HLA3 HLB3))
        go_upto_region 18 with (first
          | (go_at_call 28; (have kk := rmissing_is HL11.out.rd.at_); (with_reducible refine kk.mono ?_); rintro e w4a ⟨v4, rfl, hRa, hba⟩; (obtain ⟨aa4, ca4, rfl⟩ := hRa.slice); (have HRA4 := Lib.hid hRa); (have HLA4 := Lib.hid (HL11.out.later hba)); clear kk hRa hba)
          | (go_at_call 16; (have kk := rhav_is false HLA4.out.dt); (rw [both_no] at kk); (with_reducible refine kk.mono ?_); rintro e w4b ⟨v4b, rfl, hRb, hbb⟩; (obtain ⟨ab4, cb4, rfl⟩ := hRb.slice); (have HRB4 := Lib.hid hRb); (have HRA4b := Lib.hid (IRow.later HRA4.out hbb)); (have HLB4 := Lib.hid (HLA4.out.later hbb)); clear kk hRb hbb)
          | (go_at_call 14; (have kk := rsame_is _ _ _ _ _ _ _ (rep_ns HRA4b.out) (rep_ns HRB4.out)); (rw [sameL_self] at kk); (with_reducible refine kk.mono ?_); rintro e w4c ⟨rfl, hbc⟩; (have HL12 := Lib.hid (HLB4.out.later hbc)); clear kk hbc HRA4 HRB4 HRA4b HLA4 HLB4))
        clear HL8 HL9 HL10 HL11
        obtain ⟨m2, hm2⟩ : ∃ m2, max R7.S.need 1 = m2 := ⟨_, rfl⟩
        have HMX := Lib.hid hm2
        obtain ⟨n2, hn2⟩ : ∃ n2, (repL R7.S).length = n2 := ⟨_, rfl⟩
        have HN := Lib.hid hn2
        have HL13 := Lib.hid (HL12.out.later (Below.refl _ _).drew)
        have hne := HL13.out.dt.need
        rw [hm2] at hne
        clear hm2 hn2
        by_cases hd : m2 ≤ (n2 : Int)
        · have HDN := Lib.hid (show doneB R7.S = true by unfold doneB; rw [HMX.out, HN.out]; exact decide_eq_true hd)
          refine wp_region_held_drew (S := (fun X => X.cell? ⟨d, 0, none⟩ = some (.int .i64 m2))) (by kernel_rfl) hne (fun hHeld => ?_)
          refine wpAnyH_take (i := 0) (oi := ?b01o) (v := ?b01v) ?b01h (by kernel_rfl) (by kernel_rfl) (by kernel_rfl) ?b01q ?b01y hHeld ?b01r
          case b01h => (simp only [List.getElem?_toArray, List.getElem?_cons_zero]; rfl)
          case b01q => exact fun _ _ _ h => h
          case b01y => (refine Or.inl ⟨by first | kernel_rfl | rfl, ?_⟩; intro w hSw; (try dsimp only at hSw); have y1 := hSw; go_simp <;> (try with_reducible rfl))
          try simp only [Act.put, List.setIfInBounds_toArray, List.set_cons_zero, List.set_cons_succ]
          refine wpAnyH_take (i := 1) (oi := ?b02o) (v := ?b02v) ?b02h (by kernel_rfl) (by kernel_rfl) (by kernel_rfl) ?b02q ?b02y hHeld ?b02r
          case b02h => (simp only [List.getElem?_toArray, List.getElem?_cons_succ, List.getElem?_cons_zero]; rfl)
          case b02q => exact fun _ _ _ h => h
          case b02y => (refine Or.inl ⟨by first | kernel_rfl | rfl, ?_⟩; intro w hSw; (try dsimp only at hSw); have y1 := hSw; go_simp <;> (try with_reducible rfl))
          try simp only [Act.put, List.setIfInBounds_toArray, List.set_cons_zero, List.set_cons_succ]
          refine wpAnyH_take (i := 2) (oi := ?b03o) (v := ?b03v) ?b03h (by kernel_rfl) (by kernel_rfl) (by kernel_rfl) ?b03q ?b03y hHeld ?b03r
          case b03h => (simp only [List.getElem?_toArray, List.getElem?_cons_succ, List.getElem?_cons_zero]; rfl)
          case b03q => exact fun _ _ _ h => h
          case b03y => (refine Or.inl ⟨by first | kernel_rfl | rfl, ?_⟩; intro w hSw; (try dsimp only at hSw); have y1 := hSw; go_simp <;> (try with_reducible rfl))
          try simp only [Act.put, List.setIfInBounds_toArray, List.set_cons_zero, List.set_cons_succ]
          refine wpAnyH_take (i := 3) (oi := ?b04o) (v := ?b04v) ?b04h (by kernel_rfl) (by kernel_rfl) (by kernel_rfl) ?b04q ?b04y hHeld ?b04r
          case b04h => (simp only [List.getElem?_toArray, List.getElem?_cons_succ, List.getElem?_cons_zero]; rfl)
          case b04q => exact fun _ _ _ h => h
          case b04y => (refine Or.inl ⟨by first | kernel_rfl | rfl, ?_⟩; intro w hSw; (try dsimp only at hSw); have y1 := hSw; go_simp <;> (try with_reducible rfl))
          try simp only [Act.put, List.setIfInBounds_toArray, List.set_cons_zero, List.set_cons_succ]
          refine wpAnyH_take (i := 4) (oi := ?b05o) (v := ?b05v) ?b05h (by kernel_rfl) (by kernel_rfl) (by kernel_rfl) ?b05q ?b05y hHeld ?b05r
          case b05h => (simp only [List.getElem?_toArray, List.getElem?_cons_succ, List.getElem?_cons_zero]; rfl)
          case b05q => exact fun _ _ _ h => h
          case b05y => (refine Or.inl ⟨by first | kernel_rfl | rfl, ?_⟩; intro w hSw; (try dsimp only at hSw); have y1 := hSw; go_simp <;> (try with_reducible rfl))
          try simp only [Act.put, List.setIfInBounds_toArray, List.set_cons_zero, List.set_cons_succ]
          refine wpAnyH_take (i := 5) (oi := ?b06o) (v := ?b06v) ?b06h (by kernel_rfl) (by kernel_rfl) (by kernel_rfl) ?b06q ?b06y hHeld ?b06r
          case b06h => (simp only [List.getElem?_toArray, List.getElem?_cons_succ, List.getElem?_cons_zero]; rfl)
          case b06q => exact fun _ _ _ h => h
          case b06y => (refine Or.inl ⟨by first | kernel_rfl | rfl, ?_⟩; intro w hSw; (try dsimp only at hSw); have y1 := hSw; go_simp <;> (try with_reducible rfl))
          try simp only [Act.put, List.setIfInBounds_toArray, List.set_cons_zero, List.set_cons_succ]
          refine wpAnyH_take (i := 6) (oi := ?b07o) (v := ?b07v) ?b07h (by kernel_rfl) (by kernel_rfl) (by kernel_rfl) ?b07q ?b07y hHeld ?b07r
          case b07h => (simp only [List.getElem?_toArray, List.getElem?_cons_succ, List.getElem?_cons_zero]; rfl)
          case b07q => exact fun _ _ _ h => h
          case b07y => (refine Or.inl ⟨by first | kernel_rfl | rfl, ?_⟩; intro w hSw; (try dsimp only at hSw); have y1 := hSw; go_simp <;> (try with_reducible rfl))
          try simp only [Act.put, List.setIfInBounds_toArray, List.set_cons_zero, List.set_cons_succ]
          refine wpAnyH_take (i := 7) (oi := ?b08o) (v := ?b08v) ?b08h (by kernel_rfl) (by kernel_rfl) (by kernel_rfl) ?b08q ?b08y hHeld ?b08r
          case b08h => (simp only [List.getElem?_toArray, List.getElem?_cons_succ, List.getElem?_cons_zero]; rfl)
          case b08q => exact fun _ _ _ h => h
          case b08y => (refine Or.inl ⟨by first | kernel_rfl | rfl, ?_⟩; intro w hSw; (try dsimp only at hSw); have y1 := hSw; go_simp <;> (try with_reducible rfl))
          try simp only [Act.put, List.setIfInBounds_toArray, List.set_cons_zero, List.set_cons_succ]
          refine wpAnyH_take (i := 8) (oi := ?b09o) (v := ?b09v) ?b09h (by kernel_rfl) (by kernel_rfl) (by kernel_rfl) ?b09q ?b09y hHeld ?b09r
          case b09h => (simp only [List.getElem?_toArray, List.getElem?_cons_succ, List.getElem?_cons_zero]; rfl)
          case b09q => exact fun _ _ _ h => h
          case b09y => (refine Or.inl ⟨by first | kernel_rfl | rfl, ?_⟩; intro w hSw; (try dsimp only at hSw); have y1 := hSw; go_simp <;> (try with_reducible rfl))
          try simp only [Act.put, List.setIfInBounds_toArray, List.set_cons_zero, List.set_cons_succ]
          refine wpAnyH_take (i := 9) (oi := ?b010o) (v := ?b010v) ?b010h (by kernel_rfl) (by kernel_rfl) (by kernel_rfl) ?b010q ?b010y hHeld ?b010r
          case b010h => (simp only [List.getElem?_toArray, List.getElem?_cons_succ, List.getElem?_cons_zero]; rfl)
          case b010q => exact fun _ _ _ h => h
          case b010y => (refine Or.inl ⟨by first | kernel_rfl | rfl, ?_⟩; intro w hSw; (try dsimp only at hSw); have y1 := hSw; go_simp <;> (try with_reducible rfl))
          try simp only [Act.put, List.setIfInBounds_toArray, List.set_cons_zero, List.set_cons_succ]
          refine wpAnyH_take (i := 10) (oi := ?b011o) (v := ?b011v) ?b011h (by kernel_rfl) (by kernel_rfl) (by kernel_rfl) ?b011q ?b011y hHeld ?b011r
          case b011h => (simp only [List.getElem?_toArray, List.getElem?_cons_succ, List.getElem?_cons_zero]; rfl)
          case b011q => exact fun _ _ _ h => h
          case b011y => (refine Or.inl ⟨by first | kernel_rfl | rfl, ?_⟩; intro w hSw; (try dsimp only at hSw); have y1 := hSw; go_simp <;> (try with_reducible rfl))
          try simp only [Act.put, List.setIfInBounds_toArray, List.set_cons_zero, List.set_cons_succ]
          refine wpAnyH_take (i := 11) (oi := ?b012o) (v := ?b012v) ?b012h (by kernel_rfl) (by kernel_rfl) (by kernel_rfl) ?b012q ?b012y hHeld ?b012r
          case b012h => (simp only [List.getElem?_toArray, List.getElem?_cons_succ, List.getElem?_cons_zero]; rfl)
          case b012q => exact fun _ _ _ h => h
          case b012y => (refine Or.inl ⟨by first | kernel_rfl | rfl, ?_⟩; intro w hSw; (try dsimp only at hSw); have y1 := hSw; go_simp <;> (try with_reducible rfl))
          try simp only [Act.put, List.setIfInBounds_toArray, List.set_cons_zero, List.set_cons_succ]
          refine wpAnyH_take (i := 12) (oi := ?b013o) (v := ?b013v) ?b013h (by kernel_rfl) (by kernel_rfl) (by kernel_rfl) ?b013q ?b013y hHeld ?b013r
          case b013h => (simp only [List.getElem?_toArray, List.getElem?_cons_succ, List.getElem?_cons_zero]; rfl)
          case b013q => exact fun _ _ _ h => h
          case b013y => (refine Or.inl ⟨by first | kernel_rfl | rfl, ?_⟩; intro w hSw; (try dsimp only at hSw); have y1 := hSw; go_simp <;> (try with_reducible rfl))
          try simp only [Act.put, List.setIfInBounds_toArray, List.set_cons_zero, List.set_cons_succ]
          refine wpAnyH_take (i := 13) (oi := ?b014o) (v := ?b014v) ?b014h (by kernel_rfl) (by kernel_rfl) (by kernel_rfl) ?b014q ?b014y hHeld ?b014r
          case b014h => (simp only [List.getElem?_toArray, List.getElem?_cons_succ, List.getElem?_cons_zero]; rfl)
          case b014q => exact fun _ _ _ h => h
          case b014y => (refine Or.inl ⟨by first | kernel_rfl | rfl, ?_⟩; intro w hSw; (try dsimp only at hSw); have y1 := hSw; go_simp <;> (try with_reducible rfl))
          try simp only [Act.put, List.setIfInBounds_toArray, List.set_cons_zero, List.set_cons_succ]
          refine wpAnyH_take (i := 14) (oi := ?b015o) (v := ?b015v) ?b015h (by kernel_rfl) (by kernel_rfl) (by kernel_rfl) ?b015q ?b015y hHeld ?b015r
          case b015h => (simp only [List.getElem?_toArray, List.getElem?_cons_succ, List.getElem?_cons_zero]; rfl)
          case b015q => exact fun _ _ _ h => h
          case b015y => (refine Or.inl ⟨by first | kernel_rfl | rfl, ?_⟩; intro w hSw; (try dsimp only at hSw); have y1 := hSw; go_simp <;> (try with_reducible rfl))
          try simp only [Act.put, List.setIfInBounds_toArray, List.set_cons_zero, List.set_cons_succ]
          refine wpAnyH_take (i := 15) (oi := ?b016o) (v := ?b016v) ?b016h (by kernel_rfl) (by kernel_rfl) (by kernel_rfl) ?b016q ?b016y hHeld ?b016r
          case b016h => (simp only [List.getElem?_toArray, List.getElem?_cons_succ, List.getElem?_cons_zero]; rfl)
          case b016q => exact fun _ _ _ h => h
          case b016y => (refine Or.inl ⟨by first | kernel_rfl | rfl, ?_⟩; intro w hSw; (try dsimp only at hSw); have y1 := hSw; go_simp <;> (try with_reducible rfl))
          try simp only [Act.put, List.setIfInBounds_toArray, List.set_cons_zero, List.set_cons_succ]
          refine wpAnyH_take (i := 17) (oi := ?b017o) (v := ?b017v) ?b017h (by kernel_rfl) (by kernel_rfl) (by kernel_rfl) ?b017q ?b017y hHeld ?b017r
          case b017h => (simp only [List.getElem?_toArray, List.getElem?_cons_succ, List.getElem?_cons_zero]; rfl)
          case b017q => exact fun _ _ _ h => h
          case b017y => (refine Or.inl ⟨by first | kernel_rfl | rfl, ?_⟩; intro w hSw; (try dsimp only at hSw); have y1 := hSw; go_simp <;> (try with_reducible rfl))
          try simp only [Act.put, List.setIfInBounds_toArray, List.set_cons_zero, List.set_cons_succ]
          refine wpAnyH_take (i := 20) (oi := ?b018o) (v := ?b018v) ?b018h (by kernel_rfl) (by kernel_rfl) (by kernel_rfl) ?b018q ?b018y hHeld ?b018r
          case b018h => (simp only [List.getElem?_toArray, List.getElem?_cons_succ, List.getElem?_cons_zero]; rfl)
          case b018q => exact fun _ _ _ h => h
          case b018y => (refine Or.inl ⟨by first | kernel_rfl | rfl, ?_⟩; intro w hSw; (try dsimp only at hSw); have y1 := hSw; go_simp <;> (try with_reducible rfl))
          try simp only [Act.put, List.setIfInBounds_toArray, List.set_cons_zero, List.set_cons_succ]
          refine wpAnyH_take (i := 21) (oi := ?b019o) (v := ?b019v) ?b019h (by kernel_rfl) (by kernel_rfl) (by kernel_rfl) ?b019q ?b019y hHeld ?b019r
          case b019h => (simp only [List.getElem?_toArray, List.getElem?_cons_succ, List.getElem?_cons_zero]; rfl)
          case b019q => exact fun _ _ _ h => h
          case b019y => (refine Or.inl ⟨by first | kernel_rfl | rfl, ?_⟩; intro w hSw; (try dsimp only at hSw); have y1 := hSw; go_simp <;> (try with_reducible rfl))
          try simp only [Act.put, List.setIfInBounds_toArray, List.set_cons_zero, List.set_cons_succ]
          refine wpAnyH_take (i := 22) (oi := ?b020o) (v := ?b020v) ?b020h (by kernel_rfl) (by kernel_rfl) (by kernel_rfl) ?b020q ?b020y hHeld ?b020r
          case b020h => (simp only [List.getElem?_toArray, List.getElem?_cons_succ, List.getElem?_cons_zero]; rfl)
          case b020q => exact fun _ _ _ h => h
          case b020y => (refine Or.inl ⟨by first | kernel_rfl | rfl, ?_⟩; intro w hSw; (try dsimp only at hSw); have y1 := hSw; go_simp <;> (try with_reducible rfl))
          try simp only [Act.put, List.setIfInBounds_toArray, List.set_cons_zero, List.set_cons_succ]
          refine wpAnyH_take (i := 23) (oi := ?b021o) (v := ?b021v) ?b021h (by kernel_rfl) (by kernel_rfl) (by kernel_rfl) ?b021q ?b021y hHeld ?b021r
          case b021h => (simp only [List.getElem?_toArray, List.getElem?_cons_succ, List.getElem?_cons_zero]; rfl)
          case b021q => exact fun _ _ _ h => h
          case b021y => (refine Or.inl ⟨by first | kernel_rfl | rfl, ?_⟩; intro w hSw; (try dsimp only at hSw); have y1 := hSw; go_simp <;> (try with_reducible rfl))
          try simp only [Act.put, List.setIfInBounds_toArray, List.set_cons_zero, List.set_cons_succ]
          refine wpAnyH_ready (rs := [16]) (by kernel_rfl) (by simp) ?_
          refine (AllReadyH.cons rfl (fun K hK => ?_) AllReadyH.nil)
          go_simp
          (go_at_call 29; (have kk := rdone_is HL13.out.rd.at_); (rw [HDN.out] at kk); (with_reducible refine kk.mono ?_); rintro e w14 ⟨rfl, hb14⟩; (have HL14 := Lib.hid (HL13.out.later hb14)); (have hn14 := HL14.out.dt.need); (rw [HMX.out] at hn14); clear kk hb14)
          refine hK.out _ _ (hn14) (fun hHeld => ?_)
          clear hK K
          try simp only [Act.put, List.setIfInBounds_toArray, List.set_cons_zero, List.set_cons_succ]
          refine wpAnyH_ready (rs := [18]) (by kernel_rfl) (by simp) ?_
          refine (AllReadyH.cons rfl (fun K hK => ?_) AllReadyH.nil)
          go_simp
          (go_at_call 16; (have kk := rhav_is true HL14.out.dt); (rw [both_yes] at kk); (with_reducible refine kk.mono ?_); rintro e w15 ⟨v15, rfl, hR15, hb15⟩; (obtain ⟨a15, c15, rfl⟩ := hR15.slice); (rw [HN.out]); (have HL15 := Lib.hid (HL14.out.later hb15)); (have hn15 := HL15.out.dt.need); (rw [HMX.out] at hn15); clear kk hb15 hR15)
          refine hK.out _ _ (hn15) (fun hHeld => ?_)
          clear hK K
          try simp only [Act.put, List.setIfInBounds_toArray, List.set_cons_zero, List.set_cons_succ]
          refine wpAnyH_take (i := 19) (oi := ?b022o) (v := ?b022v) ?b022h (by kernel_rfl) (by kernel_rfl) (by kernel_rfl) ?b022q ?b022y hHeld ?b022r
          case b022h => (simp only [List.getElem?_toArray, List.getElem?_cons_succ, List.getElem?_cons_zero]; rfl)
          case b022q => exact fun _ _ _ h => h
          case b022y => (refine Or.inl ⟨by first | kernel_rfl | rfl, ?_⟩; intro w hSw; (try dsimp only at hSw); have y1 := hSw; go_simp <;> (try with_reducible rfl))
          try simp only [Act.put, List.setIfInBounds_toArray, List.set_cons_zero, List.set_cons_succ]
          refine wpAnyH_take (i := 24) (oi := ?b023o) (v := ?b023v) ?b023h (by kernel_rfl) (by kernel_rfl) (by kernel_rfl) ?b023q ?b023y hHeld ?b023r
          case b023h => (simp only [List.getElem?_toArray, List.getElem?_cons_succ, List.getElem?_cons_zero]; rfl)
          case b023q => exact fun _ _ _ h => h
          case b023y => (refine Or.inl ⟨by first | kernel_rfl | rfl, ?_⟩; intro w hSw; (try dsimp only at hSw); have y1 := hSw; go_simp <;> (try with_reducible rfl))
          try simp only [Act.put, List.setIfInBounds_toArray, List.set_cons_zero, List.set_cons_succ]
          refine wpAnyH_take (i := 25) (oi := ?b024o) (v := ?b024v) ?b024h (by kernel_rfl) (by kernel_rfl) (by kernel_rfl) ?b024q ?b024y hHeld ?b024r
          case b024h => (simp only [List.getElem?_toArray, List.getElem?_cons_succ, List.getElem?_cons_zero]; rfl)
          case b024q => exact fun _ _ _ h => h
          case b024y => (refine Or.inl ⟨by first | kernel_rfl | rfl, ?_⟩; intro w hSw; (try dsimp only at hSw); have y1 := hSw; go_simp <;> (try with_reducible rfl))
          try simp only [Act.put, List.setIfInBounds_toArray, List.set_cons_zero, List.set_cons_succ]
          refine wpAnyH_take (i := 26) (oi := ?b025o) (v := ?b025v) ?b025h (by kernel_rfl) (by kernel_rfl) (by kernel_rfl) ?b025q ?b025y hHeld ?b025r
          case b025h => (simp only [List.getElem?_toArray, List.getElem?_cons_succ, List.getElem?_cons_zero]; rfl)
          case b025q => exact fun _ _ _ h => h
          case b025y => (refine Or.inl ⟨by first | kernel_rfl | rfl, ?_⟩; intro w hSw; (try dsimp only at hSw); have y1 := hSw; go_simp <;> (try with_reducible rfl))
          try simp only [Act.put, List.setIfInBounds_toArray, List.set_cons_zero, List.set_cons_succ]
          refine wpAnyH_done (by kernel_rfl) ?_ _
          go_wp2
          go_roundw
          case rel => exact ⟨k + 1, R7, by omega, by omega, by go_num, HL15⟩
          case measure => simp [intOf]; omega
        · have HDN := Lib.hid (show doneB R7.S = false by unfold doneB; rw [HMX.out, HN.out]; exact decide_eq_false hd)
          refine wp_region_held_drew (S := (fun X => X.cell? ⟨d, 0, none⟩ = some (.int .i64 m2))) (by kernel_rfl) hne (fun hHeld => ?_)
          refine wpAnyH_take (i := 0) (oi := ?b11o) (v := ?b11v) ?b11h (by kernel_rfl) (by kernel_rfl) (by kernel_rfl) ?b11q ?b11y hHeld ?b11r
          case b11h => (simp only [List.getElem?_toArray, List.getElem?_cons_zero]; rfl)
          case b11q => exact fun _ _ _ h => h
          case b11y => (refine Or.inl ⟨by first | kernel_rfl | rfl, ?_⟩; intro w hSw; (try dsimp only at hSw); have y1 := hSw; go_simp <;> (try with_reducible rfl))
          try simp only [Act.put, List.setIfInBounds_toArray, List.set_cons_zero, List.set_cons_succ]
          refine wpAnyH_take (i := 1) (oi := ?b12o) (v := ?b12v) ?b12h (by kernel_rfl) (by kernel_rfl) (by kernel_rfl) ?b12q ?b12y hHeld ?b12r
          case b12h => (simp only [List.getElem?_toArray, List.getElem?_cons_succ, List.getElem?_cons_zero]; rfl)
          case b12q => exact fun _ _ _ h => h
          case b12y => (refine Or.inl ⟨by first | kernel_rfl | rfl, ?_⟩; intro w hSw; (try dsimp only at hSw); have y1 := hSw; go_simp <;> (try with_reducible rfl))
          try simp only [Act.put, List.setIfInBounds_toArray, List.set_cons_zero, List.set_cons_succ]
          refine wpAnyH_take (i := 2) (oi := ?b13o) (v := ?b13v) ?b13h (by kernel_rfl) (by kernel_rfl) (by kernel_rfl) ?b13q ?b13y hHeld ?b13r
          case b13h => (simp only [List.getElem?_toArray, List.getElem?_cons_succ, List.getElem?_cons_zero]; rfl)
          case b13q => exact fun _ _ _ h => h
          case b13y => (refine Or.inl ⟨by first | kernel_rfl | rfl, ?_⟩; intro w hSw; (try dsimp only at hSw); have y1 := hSw; go_simp <;> (try with_reducible rfl))
          try simp only [Act.put, List.setIfInBounds_toArray, List.set_cons_zero, List.set_cons_succ]
          refine wpAnyH_take (i := 3) (oi := ?b14o) (v := ?b14v) ?b14h (by kernel_rfl) (by kernel_rfl) (by kernel_rfl) ?b14q ?b14y hHeld ?b14r
          case b14h => (simp only [List.getElem?_toArray, List.getElem?_cons_succ, List.getElem?_cons_zero]; rfl)
          case b14q => exact fun _ _ _ h => h
          case b14y => (refine Or.inl ⟨by first | kernel_rfl | rfl, ?_⟩; intro w hSw; (try dsimp only at hSw); have y1 := hSw; go_simp <;> (try with_reducible rfl))
          try simp only [Act.put, List.setIfInBounds_toArray, List.set_cons_zero, List.set_cons_succ]
          refine wpAnyH_take (i := 4) (oi := ?b15o) (v := ?b15v) ?b15h (by kernel_rfl) (by kernel_rfl) (by kernel_rfl) ?b15q ?b15y hHeld ?b15r
          case b15h => (simp only [List.getElem?_toArray, List.getElem?_cons_succ, List.getElem?_cons_zero]; rfl)
          case b15q => exact fun _ _ _ h => h
          case b15y => (refine Or.inl ⟨by first | kernel_rfl | rfl, ?_⟩; intro w hSw; (try dsimp only at hSw); have y1 := hSw; go_simp <;> (try with_reducible rfl))
          try simp only [Act.put, List.setIfInBounds_toArray, List.set_cons_zero, List.set_cons_succ]
          refine wpAnyH_take (i := 5) (oi := ?b16o) (v := ?b16v) ?b16h (by kernel_rfl) (by kernel_rfl) (by kernel_rfl) ?b16q ?b16y hHeld ?b16r
          case b16h => (simp only [List.getElem?_toArray, List.getElem?_cons_succ, List.getElem?_cons_zero]; rfl)
          case b16q => exact fun _ _ _ h => h
          case b16y => (refine Or.inl ⟨by first | kernel_rfl | rfl, ?_⟩; intro w hSw; (try dsimp only at hSw); have y1 := hSw; go_simp <;> (try with_reducible rfl))
          try simp only [Act.put, List.setIfInBounds_toArray, List.set_cons_zero, List.set_cons_succ]
          refine wpAnyH_take (i := 6) (oi := ?b17o) (v := ?b17v) ?b17h (by kernel_rfl) (by kernel_rfl) (by kernel_rfl) ?b17q ?b17y hHeld ?b17r
          case b17h => (simp only [List.getElem?_toArray, List.getElem?_cons_succ, List.getElem?_cons_zero]; rfl)
          case b17q => exact fun _ _ _ h => h
          case b17y => (refine Or.inl ⟨by first | kernel_rfl | rfl, ?_⟩; intro w hSw; (try dsimp only at hSw); have y1 := hSw; go_simp <;> (try with_reducible rfl))
          try simp only [Act.put, List.setIfInBounds_toArray, List.set_cons_zero, List.set_cons_succ]
          refine wpAnyH_take (i := 7) (oi := ?b18o) (v := ?b18v) ?b18h (by kernel_rfl) (by kernel_rfl) (by kernel_rfl) ?b18q ?b18y hHeld ?b18r
          case b18h => (simp only [List.getElem?_toArray, List.getElem?_cons_succ, List.getElem?_cons_zero]; rfl)
          case b18q => exact fun _ _ _ h => h
          case b18y => (refine Or.inl ⟨by first | kernel_rfl | rfl, ?_⟩; intro w hSw; (try dsimp only at hSw); have y1 := hSw; go_simp <;> (try with_reducible rfl))
          try simp only [Act.put, List.setIfInBounds_toArray, List.set_cons_zero, List.set_cons_succ]
          refine wpAnyH_take (i := 8) (oi := ?b19o) (v := ?b19v) ?b19h (by kernel_rfl) (by kernel_rfl) (by kernel_rfl) ?b19q ?b19y hHeld ?b19r
          case b19h => (simp only [List.getElem?_toArray, List.getElem?_cons_succ, List.getElem?_cons_zero]; rfl)
          case b19q => exact fun _ _ _ h => h
          case b19y => (refine Or.inl ⟨by first | kernel_rfl | rfl, ?_⟩; intro w hSw; (try dsimp only at hSw); have y1 := hSw; go_simp <;> (try with_reducible rfl))
          try simp only [Act.put, List.setIfInBounds_toArray, List.set_cons_zero, List.set_cons_succ]
          refine wpAnyH_take (i := 9) (oi := ?b110o) (v := ?b110v) ?b110h (by kernel_rfl) (by kernel_rfl) (by kernel_rfl) ?b110q ?b110y hHeld ?b110r
          case b110h => (simp only [List.getElem?_toArray, List.getElem?_cons_succ, List.getElem?_cons_zero]; rfl)
          case b110q => exact fun _ _ _ h => h
          case b110y => (refine Or.inl ⟨by first | kernel_rfl | rfl, ?_⟩; intro w hSw; (try dsimp only at hSw); have y1 := hSw; go_simp <;> (try with_reducible rfl))
          try simp only [Act.put, List.setIfInBounds_toArray, List.set_cons_zero, List.set_cons_succ]
          refine wpAnyH_take (i := 10) (oi := ?b111o) (v := ?b111v) ?b111h (by kernel_rfl) (by kernel_rfl) (by kernel_rfl) ?b111q ?b111y hHeld ?b111r
          case b111h => (simp only [List.getElem?_toArray, List.getElem?_cons_succ, List.getElem?_cons_zero]; rfl)
          case b111q => exact fun _ _ _ h => h
          case b111y => (refine Or.inl ⟨by first | kernel_rfl | rfl, ?_⟩; intro w hSw; (try dsimp only at hSw); have y1 := hSw; go_simp <;> (try with_reducible rfl))
          try simp only [Act.put, List.setIfInBounds_toArray, List.set_cons_zero, List.set_cons_succ]
          refine wpAnyH_take (i := 11) (oi := ?b112o) (v := ?b112v) ?b112h (by kernel_rfl) (by kernel_rfl) (by kernel_rfl) ?b112q ?b112y hHeld ?b112r
          case b112h => (simp only [List.getElem?_toArray, List.getElem?_cons_succ, List.getElem?_cons_zero]; rfl)
          case b112q => exact fun _ _ _ h => h
          case b112y => (refine Or.inl ⟨by first | kernel_rfl | rfl, ?_⟩; intro w hSw; (try dsimp only at hSw); have y1 := hSw; go_simp <;> (try with_reducible rfl))
          try simp only [Act.put, List.setIfInBounds_toArray, List.set_cons_zero, List.set_cons_succ]
          refine wpAnyH_take (i := 12) (oi := ?b113o) (v := ?b113v) ?b113h (by kernel_rfl) (by kernel_rfl) (by kernel_rfl) ?b113q ?b113y hHeld ?b113r
          case b113h => (simp only [List.getElem?_toArray, List.getElem?_cons_succ, List.getElem?_cons_zero]; rfl)
          case b113q => exact fun _ _ _ h => h
          case b113y => (refine Or.inl ⟨by first | kernel_rfl | rfl, ?_⟩; intro w hSw; (try dsimp only at hSw); have y1 := hSw; go_simp <;> (try with_reducible rfl))
          try simp only [Act.put, List.setIfInBounds_toArray, List.set_cons_zero, List.set_cons_succ]
          refine wpAnyH_take (i := 13) (oi := ?b114o) (v := ?b114v) ?b114h (by kernel_rfl) (by kernel_rfl) (by kernel_rfl) ?b114q ?b114y hHeld ?b114r
          case b114h => (simp only [List.getElem?_toArray, List.getElem?_cons_succ, List.getElem?_cons_zero]; rfl)
          case b114q => exact fun _ _ _ h => h
          case b114y => (refine Or.inl ⟨by first | kernel_rfl | rfl, ?_⟩; intro w hSw; (try dsimp only at hSw); have y1 := hSw; go_simp <;> (try with_reducible rfl))
          try simp only [Act.put, List.setIfInBounds_toArray, List.set_cons_zero, List.set_cons_succ]
          refine wpAnyH_take (i := 14) (oi := ?b115o) (v := ?b115v) ?b115h (by kernel_rfl) (by kernel_rfl) (by kernel_rfl) ?b115q ?b115y hHeld ?b115r
          case b115h => (simp only [List.getElem?_toArray, List.getElem?_cons_succ, List.getElem?_cons_zero]; rfl)
          case b115q => exact fun _ _ _ h => h
          case b115y => (refine Or.inl ⟨by first | kernel_rfl | rfl, ?_⟩; intro w hSw; (try dsimp only at hSw); have y1 := hSw; go_simp <;> (try with_reducible rfl))
          try simp only [Act.put, List.setIfInBounds_toArray, List.set_cons_zero, List.set_cons_succ]
          refine wpAnyH_take (i := 15) (oi := ?b116o) (v := ?b116v) ?b116h (by kernel_rfl) (by kernel_rfl) (by kernel_rfl) ?b116q ?b116y hHeld ?b116r
          case b116h => (simp only [List.getElem?_toArray, List.getElem?_cons_succ, List.getElem?_cons_zero]; rfl)
          case b116q => exact fun _ _ _ h => h
          case b116y => (refine Or.inl ⟨by first | kernel_rfl | rfl, ?_⟩; intro w hSw; (try dsimp only at hSw); have y1 := hSw; go_simp <;> (try with_reducible rfl))
          try simp only [Act.put, List.setIfInBounds_toArray, List.set_cons_zero, List.set_cons_succ]
          refine wpAnyH_take (i := 17) (oi := ?b117o) (v := ?b117v) ?b117h (by kernel_rfl) (by kernel_rfl) (by kernel_rfl) ?b117q ?b117y hHeld ?b117r
          case b117h => (simp only [List.getElem?_toArray, List.getElem?_cons_succ, List.getElem?_cons_zero]; rfl)
          case b117q => exact fun _ _ _ h => h
          case b117y => (refine Or.inl ⟨by first | kernel_rfl | rfl, ?_⟩; intro w hSw; (try dsimp only at hSw); have y1 := hSw; go_simp <;> (try with_reducible rfl))
          try simp only [Act.put, List.setIfInBounds_toArray, List.set_cons_zero, List.set_cons_succ]
          refine wpAnyH_take (i := 20) (oi := ?b118o) (v := ?b118v) ?b118h (by kernel_rfl) (by kernel_rfl) (by kernel_rfl) ?b118q ?b118y hHeld ?b118r
          case b118h => (simp only [List.getElem?_toArray, List.getElem?_cons_succ, List.getElem?_cons_zero]; rfl)
          case b118q => exact fun _ _ _ h => h
          case b118y => (refine Or.inl ⟨by first | kernel_rfl | rfl, ?_⟩; intro w hSw; (try dsimp only at hSw); have y1 := hSw; go_simp <;> (try with_reducible rfl))
          try simp only [Act.put, List.setIfInBounds_toArray, List.set_cons_zero, List.set_cons_succ]
          refine wpAnyH_take (i := 21) (oi := ?b119o) (v := ?b119v) ?b119h (by kernel_rfl) (by kernel_rfl) (by kernel_rfl) ?b119q ?b119y hHeld ?b119r
          case b119h => (simp only [List.getElem?_toArray, List.getElem?_cons_succ, List.getElem?_cons_zero]; rfl)
          case b119q => exact fun _ _ _ h => h
          case b119y => (refine Or.inl ⟨by first | kernel_rfl | rfl, ?_⟩; intro w hSw; (try dsimp only at hSw); have y1 := hSw; go_simp <;> (try with_reducible rfl))
          try simp only [Act.put, List.setIfInBounds_toArray, List.set_cons_zero, List.set_cons_succ]
          refine wpAnyH_take (i := 22) (oi := ?b120o) (v := ?b120v) ?b120h (by kernel_rfl) (by kernel_rfl) (by kernel_rfl) ?b120q ?b120y hHeld ?b120r
          case b120h => (simp only [List.getElem?_toArray, List.getElem?_cons_succ, List.getElem?_cons_zero]; rfl)
          case b120q => exact fun _ _ _ h => h
          case b120y => (refine Or.inl ⟨by first | kernel_rfl | rfl, ?_⟩; intro w hSw; (try dsimp only at hSw); have y1 := hSw; go_simp <;> (try with_reducible rfl))
          try simp only [Act.put, List.setIfInBounds_toArray, List.set_cons_zero, List.set_cons_succ]
          refine wpAnyH_take (i := 23) (oi := ?b121o) (v := ?b121v) ?b121h (by kernel_rfl) (by kernel_rfl) (by kernel_rfl) ?b121q ?b121y hHeld ?b121r
          case b121h => (simp only [List.getElem?_toArray, List.getElem?_cons_succ, List.getElem?_cons_zero]; rfl)
          case b121q => exact fun _ _ _ h => h
          case b121y => (refine Or.inl ⟨by first | kernel_rfl | rfl, ?_⟩; intro w hSw; (try dsimp only at hSw); have y1 := hSw; go_simp <;> (try with_reducible rfl))
          try simp only [Act.put, List.setIfInBounds_toArray, List.set_cons_zero, List.set_cons_succ]
          refine wpAnyH_ready (rs := [16]) (by kernel_rfl) (by simp) ?_
          refine (AllReadyH.cons rfl (fun K hK => ?_) AllReadyH.nil)
          go_simp
          (go_at_call 29; (have kk := rdone_is HL13.out.rd.at_); (rw [HDN.out] at kk); (with_reducible refine kk.mono ?_); rintro e w14 ⟨rfl, hb14⟩; (have HL14 := Lib.hid (HL13.out.later hb14)); (have hn14 := HL14.out.dt.need); (rw [HMX.out] at hn14); clear kk hb14)
          refine hK.out _ _ (hn14) (fun hHeld => ?_)
          clear hK K
          try simp only [Act.put, List.setIfInBounds_toArray, List.set_cons_zero, List.set_cons_succ]
          refine wpAnyH_ready (rs := [18]) (by kernel_rfl) (by simp) ?_
          refine (AllReadyH.cons rfl (fun K hK => ?_) AllReadyH.nil)
          go_simp
          (go_at_call 16; (have kk := rhav_is true HL14.out.dt); (rw [both_yes] at kk); (with_reducible refine kk.mono ?_); rintro e w15 ⟨v15, rfl, hR15, hb15⟩; (obtain ⟨a15, c15, rfl⟩ := hR15.slice); (rw [HN.out]); (have HL15 := Lib.hid (HL14.out.later hb15)); (have hn15 := HL15.out.dt.need); (rw [HMX.out] at hn15); clear kk hb15 hR15)
          refine hK.out _ _ (hn15) (fun hHeld => ?_)
          clear hK K
          try simp only [Act.put, List.setIfInBounds_toArray, List.set_cons_zero, List.set_cons_succ]
          refine wpAnyH_take (i := 19) (oi := ?b122o) (v := ?b122v) ?b122h (by kernel_rfl) (by kernel_rfl) (by kernel_rfl) ?b122q ?b122y hHeld ?b122r
          case b122h => (simp only [List.getElem?_toArray, List.getElem?_cons_succ, List.getElem?_cons_zero]; rfl)
          case b122q => exact fun _ _ _ h => h
          case b122y => (refine Or.inl ⟨by first | kernel_rfl | rfl, ?_⟩; intro w hSw; (try dsimp only at hSw); have y1 := hSw; go_simp <;> (try with_reducible rfl))
          try simp only [Act.put, List.setIfInBounds_toArray, List.set_cons_zero, List.set_cons_succ]
          refine wpAnyH_take (i := 24) (oi := ?b123o) (v := ?b123v) ?b123h (by kernel_rfl) (by kernel_rfl) (by kernel_rfl) ?b123q ?b123y hHeld ?b123r
          case b123h => (simp only [List.getElem?_toArray, List.getElem?_cons_succ, List.getElem?_cons_zero]; rfl)
          case b123q => exact fun _ _ _ h => h
          case b123y => (refine Or.inl ⟨by first | kernel_rfl | rfl, ?_⟩; intro w hSw; (try dsimp only at hSw); have y1 := hSw; go_simp <;> (try with_reducible rfl))
          try simp only [Act.put, List.setIfInBounds_toArray, List.set_cons_zero, List.set_cons_succ]
          refine wpAnyH_take (i := 25) (oi := ?b124o) (v := ?b124v) ?b124h (by kernel_rfl) (by kernel_rfl) (by kernel_rfl) ?b124q ?b124y hHeld ?b124r
          case b124h => (simp only [List.getElem?_toArray, List.getElem?_cons_succ, List.getElem?_cons_zero]; rfl)
          case b124q => exact fun _ _ _ h => h
          case b124y => (refine Or.inl ⟨by first | kernel_rfl | rfl, ?_⟩; intro w hSw; (try dsimp only at hSw); have y1 := hSw; go_simp <;> (try with_reducible rfl))
          try simp only [Act.put, List.setIfInBounds_toArray, List.set_cons_zero, List.set_cons_succ]
          refine wpAnyH_take (i := 26) (oi := ?b125o) (v := ?b125v) ?b125h (by kernel_rfl) (by kernel_rfl) (by kernel_rfl) ?b125q ?b125y hHeld ?b125r
          case b125h => (simp only [List.getElem?_toArray, List.getElem?_cons_succ, List.getElem?_cons_zero]; rfl)
          case b125q => exact fun _ _ _ h => h
          case b125y => (refine Or.inl ⟨by first | kernel_rfl | rfl, ?_⟩; intro w hSw; (try dsimp only at hSw); have y1 := hSw; go_simp <;> (try with_reducible rfl))
          try simp only [Act.put, List.setIfInBounds_toArray, List.set_cons_zero, List.set_cons_succ]
          refine wpAnyH_done (by kernel_rfl) ?_ _
          go_wp2
          go_roundw
          case rel => exact ⟨k + 1, R7, by omega, by omega, by go_num, HL15⟩
          case measure => simp [intOf]; omega
      | true =>
        go_upto_region 14 with (first
          | (go_at_call 21; (have kk := answer_is n a6 c6 P HL6.out.rd HL6.out.hq HR6.out.lst (by have := HPL.out; omega) (fun p hp => Nat.le_trans (HPN.out p hp) (by decide)) (by have := HL6.out.cnt; omega)); (rw [HM.out] at kk); (with_reducible refine kk.mono ?_); rintro e w7 ⟨he, hr7, hf7, -⟩; (rw [HZ.out] at he); subst he; (have HM7 := Lib.hid (HL6.out.ansq hr7 hf7)); (have HR7 := Lib.hid (prow_beside_r HR6.out HL6.out.rd hf7)); clear kk hr7 hf7)
          | (go_at_call 13; (have kk := rans_is n a6 c6 P HM7.out.dt HM7.out.hd HR7.out.lst (by have := HPL.out; omega)); (rw [HM.out] at kk); (with_reducible refine kk.mono ?_); rintro e w8 ⟨he, hd8, hf8⟩; (rw [HZ.out] at he); subst he; (have HL8 := Lib.hid (HM7.out.ansd hd8 hf8)); clear kk hd8 hf8 HM7 HR7 HR6))
        generalize ansS R n P = R7 at HL8
        have HLEN := Lib.hid (HL8.out.rd.len)
        go_upto_region 15 with (first
          | (go_at_call 23; (have kk := merged_is HL8.out.rd HL8.out.hq); (with_reducible refine kk.mono ?_); rintro e w1a ⟨v1, rfl, hRa, hba⟩; (obtain ⟨aa1, ca1, rfl⟩ := hRa.slice); (have HRA1 := Lib.hid hRa.lst); (have hba := hba.mono (by first | exact Nat.le_refl _)); (have HLA1 := Lib.hid (HL8.out.later hba)); clear kk hRa hba)
          | (go_at_call 24; (have kk := rmerged_is HLA1.out.dt HLA1.out.good); (with_reducible refine kk.mono ?_); rintro e w1b ⟨v1b, rfl, hRb, hbb⟩; (obtain ⟨ab1, cb1, rfl⟩ := hRb.slice); (have HRB1 := Lib.hid hRb.lst); (have HRA1b := Lib.hid (HRA1.out.later hbb)); (have HLB1 := Lib.hid (HLA1.out.later hbb)); clear kk hRb hbb)
          | (go_at_call 22; (have kk := rsamep_is _ _ ca1 cb1 _ _ true _ HRA1b.out.pts HRB1.out.pts (by have := mrg_len HLEN.out; omega) (by have := mrg_len HLEN.out; omega) (Lib.hid (samep_yes _))); (with_reducible refine kk.mono ?_); rintro e w1c ⟨rfl, hbc⟩; (have HL9 := Lib.hid (HLB1.out.later hbc)); clear kk hbc HRA1 HRB1 HRA1b HLA1 HLB1))
        go_upto_region 16 with (first
          | (go_at_call 25; (have kk := repair_is n HL9.out.rd HL9.out.hq); (with_reducible refine kk.mono ?_); rintro e w2a ⟨aa2, ca2, rfl, hRa, hba⟩; (have HRA2 := Lib.hid hRa); (have hba := hba.mono (by first | exact Nat.le_refl _)); (have HLA2 := Lib.hid (HL9.out.later hba)); clear kk hRa hba)
          | (go_at_call 26; (have kk := rrep_is n HLA2.out.dt HLA2.out.good); (with_reducible refine kk.mono ?_); rintro e w2b ⟨v2b, rfl, hRb, hbb⟩; (obtain ⟨ab2, cb2, rfl⟩ := hRb.slice); (have HRB2 := Lib.hid hRb.lst); (have HRA2b := Lib.hid (HRA2.out.later hbb)); (have HLB2 := Lib.hid (HLA2.out.later hbb)); clear kk hRb hbb)
          | (go_at_call 22; (have kk := rsamep_is _ _ ca2 cb2 _ _ true _ HRA2b.out.pts HRB2.out.pts (by have := rpr_len HLEN.out n; omega) (by have := rpr_len HLEN.out n; omega) (Lib.hid (samep_yes _))); (with_reducible refine kk.mono ?_); rintro e w2c ⟨rfl, hbc⟩; (have HL10 := Lib.hid (HLB2.out.later hbc)); clear kk hbc HRA2 HRB2 HRA2b HLA2 HLB2))
        go_upto_region 17 with (first
          | (go_at_call 27; (have kk := rhave_is HL10.out.rd.at_); (with_reducible refine kk.mono ?_); rintro e w3a ⟨v3, rfl, hRa, hba⟩; (obtain ⟨aa3, ca3, rfl⟩ := hRa.slice); (have HRA3 := Lib.hid hRa); (have HLA3 := Lib.hid (HL10.out.later hba)); clear kk hRa hba)
          | (go_at_call 16; (have kk := rhav_is true HLA3.out.dt); (rw [both_yes] at kk); (with_reducible refine kk.mono ?_); rintro e w3b ⟨v3b, rfl, hRb, hbb⟩; (obtain ⟨ab3, cb3, rfl⟩ := hRb.slice); (have HRB3 := Lib.hid hRb); (have HRA3b := Lib.hid (IRow.later HRA3.out hbb)); (have HLB3 := Lib.hid (HLA3.out.later hbb)); clear kk hRb hbb)
          | (go_at_call 14; (have kk := rsame_is _ _ _ _ _ _ _ (rep_ns HRA3b.out) (rep_ns HRB3.out)); (rw [sameL_self] at kk); (with_reducible refine kk.mono ?_); rintro e w3c ⟨rfl, hbc⟩; (have HL11 := Lib.hid (HLB3.out.later hbc)); clear kk hbc HRA3 HRB3 HRA3b HLA3 HLB3))
        go_upto_region 18 with (first
          | (go_at_call 28; (have kk := rmissing_is HL11.out.rd.at_); (with_reducible refine kk.mono ?_); rintro e w4a ⟨v4, rfl, hRa, hba⟩; (obtain ⟨aa4, ca4, rfl⟩ := hRa.slice); (have HRA4 := Lib.hid hRa); (have HLA4 := Lib.hid (HL11.out.later hba)); clear kk hRa hba)
          | (go_at_call 16; (have kk := rhav_is false HLA4.out.dt); (rw [both_no] at kk); (with_reducible refine kk.mono ?_); rintro e w4b ⟨v4b, rfl, hRb, hbb⟩; (obtain ⟨ab4, cb4, rfl⟩ := hRb.slice); (have HRB4 := Lib.hid hRb); (have HRA4b := Lib.hid (IRow.later HRA4.out hbb)); (have HLB4 := Lib.hid (HLA4.out.later hbb)); clear kk hRb hbb)
          | (go_at_call 14; (have kk := rsame_is _ _ _ _ _ _ _ (rep_ns HRA4b.out) (rep_ns HRB4.out)); (rw [sameL_self] at kk); (with_reducible refine kk.mono ?_); rintro e w4c ⟨rfl, hbc⟩; (have HL12 := Lib.hid (HLB4.out.later hbc)); clear kk hbc HRA4 HRB4 HRA4b HLA4 HLB4))
        clear HL8 HL9 HL10 HL11
        obtain ⟨m2, hm2⟩ : ∃ m2, max R7.S.need 1 = m2 := ⟨_, rfl⟩
        have HMX := Lib.hid hm2
        obtain ⟨n2, hn2⟩ : ∃ n2, (repL R7.S).length = n2 := ⟨_, rfl⟩
        have HN := Lib.hid hn2
        have HL13 := Lib.hid (HL12.out.later (Below.refl _ _).drew)
        have hne := HL13.out.dt.need
        rw [hm2] at hne
        clear hm2 hn2
        by_cases hd : m2 ≤ (n2 : Int)
        · have HDN := Lib.hid (show doneB R7.S = true by unfold doneB; rw [HMX.out, HN.out]; exact decide_eq_true hd)
          refine wp_region_held_drew (S := (fun X => X.cell? ⟨d, 0, none⟩ = some (.int .i64 m2))) (by kernel_rfl) hne (fun hHeld => ?_)
          refine wpAnyH_take (i := 0) (oi := ?b21o) (v := ?b21v) ?b21h (by kernel_rfl) (by kernel_rfl) (by kernel_rfl) ?b21q ?b21y hHeld ?b21r
          case b21h => (simp only [List.getElem?_toArray, List.getElem?_cons_zero]; rfl)
          case b21q => exact fun _ _ _ h => h
          case b21y => (refine Or.inl ⟨by first | kernel_rfl | rfl, ?_⟩; intro w hSw; (try dsimp only at hSw); have y1 := hSw; go_simp <;> (try with_reducible rfl))
          try simp only [Act.put, List.setIfInBounds_toArray, List.set_cons_zero, List.set_cons_succ]
          refine wpAnyH_take (i := 1) (oi := ?b22o) (v := ?b22v) ?b22h (by kernel_rfl) (by kernel_rfl) (by kernel_rfl) ?b22q ?b22y hHeld ?b22r
          case b22h => (simp only [List.getElem?_toArray, List.getElem?_cons_succ, List.getElem?_cons_zero]; rfl)
          case b22q => exact fun _ _ _ h => h
          case b22y => (refine Or.inl ⟨by first | kernel_rfl | rfl, ?_⟩; intro w hSw; (try dsimp only at hSw); have y1 := hSw; go_simp <;> (try with_reducible rfl))
          try simp only [Act.put, List.setIfInBounds_toArray, List.set_cons_zero, List.set_cons_succ]
          refine wpAnyH_take (i := 2) (oi := ?b23o) (v := ?b23v) ?b23h (by kernel_rfl) (by kernel_rfl) (by kernel_rfl) ?b23q ?b23y hHeld ?b23r
          case b23h => (simp only [List.getElem?_toArray, List.getElem?_cons_succ, List.getElem?_cons_zero]; rfl)
          case b23q => exact fun _ _ _ h => h
          case b23y => (refine Or.inl ⟨by first | kernel_rfl | rfl, ?_⟩; intro w hSw; (try dsimp only at hSw); have y1 := hSw; go_simp <;> (try with_reducible rfl))
          try simp only [Act.put, List.setIfInBounds_toArray, List.set_cons_zero, List.set_cons_succ]
          refine wpAnyH_take (i := 3) (oi := ?b24o) (v := ?b24v) ?b24h (by kernel_rfl) (by kernel_rfl) (by kernel_rfl) ?b24q ?b24y hHeld ?b24r
          case b24h => (simp only [List.getElem?_toArray, List.getElem?_cons_succ, List.getElem?_cons_zero]; rfl)
          case b24q => exact fun _ _ _ h => h
          case b24y => (refine Or.inl ⟨by first | kernel_rfl | rfl, ?_⟩; intro w hSw; (try dsimp only at hSw); have y1 := hSw; go_simp <;> (try with_reducible rfl))
          try simp only [Act.put, List.setIfInBounds_toArray, List.set_cons_zero, List.set_cons_succ]
          refine wpAnyH_take (i := 4) (oi := ?b25o) (v := ?b25v) ?b25h (by kernel_rfl) (by kernel_rfl) (by kernel_rfl) ?b25q ?b25y hHeld ?b25r
          case b25h => (simp only [List.getElem?_toArray, List.getElem?_cons_succ, List.getElem?_cons_zero]; rfl)
          case b25q => exact fun _ _ _ h => h
          case b25y => (refine Or.inl ⟨by first | kernel_rfl | rfl, ?_⟩; intro w hSw; (try dsimp only at hSw); have y1 := hSw; go_simp <;> (try with_reducible rfl))
          try simp only [Act.put, List.setIfInBounds_toArray, List.set_cons_zero, List.set_cons_succ]
          refine wpAnyH_take (i := 5) (oi := ?b26o) (v := ?b26v) ?b26h (by kernel_rfl) (by kernel_rfl) (by kernel_rfl) ?b26q ?b26y hHeld ?b26r
          case b26h => (simp only [List.getElem?_toArray, List.getElem?_cons_succ, List.getElem?_cons_zero]; rfl)
          case b26q => exact fun _ _ _ h => h
          case b26y => (refine Or.inl ⟨by first | kernel_rfl | rfl, ?_⟩; intro w hSw; (try dsimp only at hSw); have y1 := hSw; go_simp <;> (try with_reducible rfl))
          try simp only [Act.put, List.setIfInBounds_toArray, List.set_cons_zero, List.set_cons_succ]
          refine wpAnyH_take (i := 6) (oi := ?b27o) (v := ?b27v) ?b27h (by kernel_rfl) (by kernel_rfl) (by kernel_rfl) ?b27q ?b27y hHeld ?b27r
          case b27h => (simp only [List.getElem?_toArray, List.getElem?_cons_succ, List.getElem?_cons_zero]; rfl)
          case b27q => exact fun _ _ _ h => h
          case b27y => (refine Or.inl ⟨by first | kernel_rfl | rfl, ?_⟩; intro w hSw; (try dsimp only at hSw); have y1 := hSw; go_simp <;> (try with_reducible rfl))
          try simp only [Act.put, List.setIfInBounds_toArray, List.set_cons_zero, List.set_cons_succ]
          refine wpAnyH_take (i := 7) (oi := ?b28o) (v := ?b28v) ?b28h (by kernel_rfl) (by kernel_rfl) (by kernel_rfl) ?b28q ?b28y hHeld ?b28r
          case b28h => (simp only [List.getElem?_toArray, List.getElem?_cons_succ, List.getElem?_cons_zero]; rfl)
          case b28q => exact fun _ _ _ h => h
          case b28y => (refine Or.inl ⟨by first | kernel_rfl | rfl, ?_⟩; intro w hSw; (try dsimp only at hSw); have y1 := hSw; go_simp <;> (try with_reducible rfl))
          try simp only [Act.put, List.setIfInBounds_toArray, List.set_cons_zero, List.set_cons_succ]
          refine wpAnyH_take (i := 8) (oi := ?b29o) (v := ?b29v) ?b29h (by kernel_rfl) (by kernel_rfl) (by kernel_rfl) ?b29q ?b29y hHeld ?b29r
          case b29h => (simp only [List.getElem?_toArray, List.getElem?_cons_succ, List.getElem?_cons_zero]; rfl)
          case b29q => exact fun _ _ _ h => h
          case b29y => (refine Or.inl ⟨by first | kernel_rfl | rfl, ?_⟩; intro w hSw; (try dsimp only at hSw); have y1 := hSw; go_simp <;> (try with_reducible rfl))
          try simp only [Act.put, List.setIfInBounds_toArray, List.set_cons_zero, List.set_cons_succ]
          refine wpAnyH_take (i := 9) (oi := ?b210o) (v := ?b210v) ?b210h (by kernel_rfl) (by kernel_rfl) (by kernel_rfl) ?b210q ?b210y hHeld ?b210r
          case b210h => (simp only [List.getElem?_toArray, List.getElem?_cons_succ, List.getElem?_cons_zero]; rfl)
          case b210q => exact fun _ _ _ h => h
          case b210y => (refine Or.inl ⟨by first | kernel_rfl | rfl, ?_⟩; intro w hSw; (try dsimp only at hSw); have y1 := hSw; go_simp <;> (try with_reducible rfl))
          try simp only [Act.put, List.setIfInBounds_toArray, List.set_cons_zero, List.set_cons_succ]
          refine wpAnyH_take (i := 10) (oi := ?b211o) (v := ?b211v) ?b211h (by kernel_rfl) (by kernel_rfl) (by kernel_rfl) ?b211q ?b211y hHeld ?b211r
          case b211h => (simp only [List.getElem?_toArray, List.getElem?_cons_succ, List.getElem?_cons_zero]; rfl)
          case b211q => exact fun _ _ _ h => h
          case b211y => (refine Or.inl ⟨by first | kernel_rfl | rfl, ?_⟩; intro w hSw; (try dsimp only at hSw); have y1 := hSw; go_simp <;> (try with_reducible rfl))
          try simp only [Act.put, List.setIfInBounds_toArray, List.set_cons_zero, List.set_cons_succ]
          refine wpAnyH_take (i := 11) (oi := ?b212o) (v := ?b212v) ?b212h (by kernel_rfl) (by kernel_rfl) (by kernel_rfl) ?b212q ?b212y hHeld ?b212r
          case b212h => (simp only [List.getElem?_toArray, List.getElem?_cons_succ, List.getElem?_cons_zero]; rfl)
          case b212q => exact fun _ _ _ h => h
          case b212y => (refine Or.inl ⟨by first | kernel_rfl | rfl, ?_⟩; intro w hSw; (try dsimp only at hSw); have y1 := hSw; go_simp <;> (try with_reducible rfl))
          try simp only [Act.put, List.setIfInBounds_toArray, List.set_cons_zero, List.set_cons_succ]
          refine wpAnyH_take (i := 12) (oi := ?b213o) (v := ?b213v) ?b213h (by kernel_rfl) (by kernel_rfl) (by kernel_rfl) ?b213q ?b213y hHeld ?b213r
          case b213h => (simp only [List.getElem?_toArray, List.getElem?_cons_succ, List.getElem?_cons_zero]; rfl)
          case b213q => exact fun _ _ _ h => h
          case b213y => (refine Or.inl ⟨by first | kernel_rfl | rfl, ?_⟩; intro w hSw; (try dsimp only at hSw); have y1 := hSw; go_simp <;> (try with_reducible rfl))
          try simp only [Act.put, List.setIfInBounds_toArray, List.set_cons_zero, List.set_cons_succ]
          refine wpAnyH_take (i := 13) (oi := ?b214o) (v := ?b214v) ?b214h (by kernel_rfl) (by kernel_rfl) (by kernel_rfl) ?b214q ?b214y hHeld ?b214r
          case b214h => (simp only [List.getElem?_toArray, List.getElem?_cons_succ, List.getElem?_cons_zero]; rfl)
          case b214q => exact fun _ _ _ h => h
          case b214y => (refine Or.inl ⟨by first | kernel_rfl | rfl, ?_⟩; intro w hSw; (try dsimp only at hSw); have y1 := hSw; go_simp <;> (try with_reducible rfl))
          try simp only [Act.put, List.setIfInBounds_toArray, List.set_cons_zero, List.set_cons_succ]
          refine wpAnyH_take (i := 14) (oi := ?b215o) (v := ?b215v) ?b215h (by kernel_rfl) (by kernel_rfl) (by kernel_rfl) ?b215q ?b215y hHeld ?b215r
          case b215h => (simp only [List.getElem?_toArray, List.getElem?_cons_succ, List.getElem?_cons_zero]; rfl)
          case b215q => exact fun _ _ _ h => h
          case b215y => (refine Or.inl ⟨by first | kernel_rfl | rfl, ?_⟩; intro w hSw; (try dsimp only at hSw); have y1 := hSw; go_simp <;> (try with_reducible rfl))
          try simp only [Act.put, List.setIfInBounds_toArray, List.set_cons_zero, List.set_cons_succ]
          refine wpAnyH_take (i := 15) (oi := ?b216o) (v := ?b216v) ?b216h (by kernel_rfl) (by kernel_rfl) (by kernel_rfl) ?b216q ?b216y hHeld ?b216r
          case b216h => (simp only [List.getElem?_toArray, List.getElem?_cons_succ, List.getElem?_cons_zero]; rfl)
          case b216q => exact fun _ _ _ h => h
          case b216y => (refine Or.inl ⟨by first | kernel_rfl | rfl, ?_⟩; intro w hSw; (try dsimp only at hSw); have y1 := hSw; go_simp <;> (try with_reducible rfl))
          try simp only [Act.put, List.setIfInBounds_toArray, List.set_cons_zero, List.set_cons_succ]
          refine wpAnyH_take (i := 17) (oi := ?b217o) (v := ?b217v) ?b217h (by kernel_rfl) (by kernel_rfl) (by kernel_rfl) ?b217q ?b217y hHeld ?b217r
          case b217h => (simp only [List.getElem?_toArray, List.getElem?_cons_succ, List.getElem?_cons_zero]; rfl)
          case b217q => exact fun _ _ _ h => h
          case b217y => (refine Or.inl ⟨by first | kernel_rfl | rfl, ?_⟩; intro w hSw; (try dsimp only at hSw); have y1 := hSw; go_simp <;> (try with_reducible rfl))
          try simp only [Act.put, List.setIfInBounds_toArray, List.set_cons_zero, List.set_cons_succ]
          refine wpAnyH_take (i := 20) (oi := ?b218o) (v := ?b218v) ?b218h (by kernel_rfl) (by kernel_rfl) (by kernel_rfl) ?b218q ?b218y hHeld ?b218r
          case b218h => (simp only [List.getElem?_toArray, List.getElem?_cons_succ, List.getElem?_cons_zero]; rfl)
          case b218q => exact fun _ _ _ h => h
          case b218y => (refine Or.inl ⟨by first | kernel_rfl | rfl, ?_⟩; intro w hSw; (try dsimp only at hSw); have y1 := hSw; go_simp <;> (try with_reducible rfl))
          try simp only [Act.put, List.setIfInBounds_toArray, List.set_cons_zero, List.set_cons_succ]
          refine wpAnyH_take (i := 21) (oi := ?b219o) (v := ?b219v) ?b219h (by kernel_rfl) (by kernel_rfl) (by kernel_rfl) ?b219q ?b219y hHeld ?b219r
          case b219h => (simp only [List.getElem?_toArray, List.getElem?_cons_succ, List.getElem?_cons_zero]; rfl)
          case b219q => exact fun _ _ _ h => h
          case b219y => (refine Or.inl ⟨by first | kernel_rfl | rfl, ?_⟩; intro w hSw; (try dsimp only at hSw); have y1 := hSw; go_simp <;> (try with_reducible rfl))
          try simp only [Act.put, List.setIfInBounds_toArray, List.set_cons_zero, List.set_cons_succ]
          refine wpAnyH_take (i := 22) (oi := ?b220o) (v := ?b220v) ?b220h (by kernel_rfl) (by kernel_rfl) (by kernel_rfl) ?b220q ?b220y hHeld ?b220r
          case b220h => (simp only [List.getElem?_toArray, List.getElem?_cons_succ, List.getElem?_cons_zero]; rfl)
          case b220q => exact fun _ _ _ h => h
          case b220y => (refine Or.inl ⟨by first | kernel_rfl | rfl, ?_⟩; intro w hSw; (try dsimp only at hSw); have y1 := hSw; go_simp <;> (try with_reducible rfl))
          try simp only [Act.put, List.setIfInBounds_toArray, List.set_cons_zero, List.set_cons_succ]
          refine wpAnyH_take (i := 23) (oi := ?b221o) (v := ?b221v) ?b221h (by kernel_rfl) (by kernel_rfl) (by kernel_rfl) ?b221q ?b221y hHeld ?b221r
          case b221h => (simp only [List.getElem?_toArray, List.getElem?_cons_succ, List.getElem?_cons_zero]; rfl)
          case b221q => exact fun _ _ _ h => h
          case b221y => (refine Or.inl ⟨by first | kernel_rfl | rfl, ?_⟩; intro w hSw; (try dsimp only at hSw); have y1 := hSw; go_simp <;> (try with_reducible rfl))
          try simp only [Act.put, List.setIfInBounds_toArray, List.set_cons_zero, List.set_cons_succ]
          refine wpAnyH_ready (rs := [16]) (by kernel_rfl) (by simp) ?_
          refine (AllReadyH.cons rfl (fun K hK => ?_) AllReadyH.nil)
          go_simp
          (go_at_call 29; (have kk := rdone_is HL13.out.rd.at_); (rw [HDN.out] at kk); (with_reducible refine kk.mono ?_); rintro e w14 ⟨rfl, hb14⟩; (have HL14 := Lib.hid (HL13.out.later hb14)); (have hn14 := HL14.out.dt.need); (rw [HMX.out] at hn14); clear kk hb14)
          refine hK.out _ _ (hn14) (fun hHeld => ?_)
          clear hK K
          try simp only [Act.put, List.setIfInBounds_toArray, List.set_cons_zero, List.set_cons_succ]
          refine wpAnyH_ready (rs := [18]) (by kernel_rfl) (by simp) ?_
          refine (AllReadyH.cons rfl (fun K hK => ?_) AllReadyH.nil)
          go_simp
          (go_at_call 16; (have kk := rhav_is true HL14.out.dt); (rw [both_yes] at kk); (with_reducible refine kk.mono ?_); rintro e w15 ⟨v15, rfl, hR15, hb15⟩; (obtain ⟨a15, c15, rfl⟩ := hR15.slice); (rw [HN.out]); (have HL15 := Lib.hid (HL14.out.later hb15)); (have hn15 := HL15.out.dt.need); (rw [HMX.out] at hn15); clear kk hb15 hR15)
          refine hK.out _ _ (hn15) (fun hHeld => ?_)
          clear hK K
          try simp only [Act.put, List.setIfInBounds_toArray, List.set_cons_zero, List.set_cons_succ]
          refine wpAnyH_take (i := 19) (oi := ?b222o) (v := ?b222v) ?b222h (by kernel_rfl) (by kernel_rfl) (by kernel_rfl) ?b222q ?b222y hHeld ?b222r
          case b222h => (simp only [List.getElem?_toArray, List.getElem?_cons_succ, List.getElem?_cons_zero]; rfl)
          case b222q => exact fun _ _ _ h => h
          case b222y => (refine Or.inl ⟨by first | kernel_rfl | rfl, ?_⟩; intro w hSw; (try dsimp only at hSw); have y1 := hSw; go_simp <;> (try with_reducible rfl))
          try simp only [Act.put, List.setIfInBounds_toArray, List.set_cons_zero, List.set_cons_succ]
          refine wpAnyH_take (i := 24) (oi := ?b223o) (v := ?b223v) ?b223h (by kernel_rfl) (by kernel_rfl) (by kernel_rfl) ?b223q ?b223y hHeld ?b223r
          case b223h => (simp only [List.getElem?_toArray, List.getElem?_cons_succ, List.getElem?_cons_zero]; rfl)
          case b223q => exact fun _ _ _ h => h
          case b223y => (refine Or.inl ⟨by first | kernel_rfl | rfl, ?_⟩; intro w hSw; (try dsimp only at hSw); have y1 := hSw; go_simp <;> (try with_reducible rfl))
          try simp only [Act.put, List.setIfInBounds_toArray, List.set_cons_zero, List.set_cons_succ]
          refine wpAnyH_take (i := 25) (oi := ?b224o) (v := ?b224v) ?b224h (by kernel_rfl) (by kernel_rfl) (by kernel_rfl) ?b224q ?b224y hHeld ?b224r
          case b224h => (simp only [List.getElem?_toArray, List.getElem?_cons_succ, List.getElem?_cons_zero]; rfl)
          case b224q => exact fun _ _ _ h => h
          case b224y => (refine Or.inl ⟨by first | kernel_rfl | rfl, ?_⟩; intro w hSw; (try dsimp only at hSw); have y1 := hSw; go_simp <;> (try with_reducible rfl))
          try simp only [Act.put, List.setIfInBounds_toArray, List.set_cons_zero, List.set_cons_succ]
          refine wpAnyH_take (i := 26) (oi := ?b225o) (v := ?b225v) ?b225h (by kernel_rfl) (by kernel_rfl) (by kernel_rfl) ?b225q ?b225y hHeld ?b225r
          case b225h => (simp only [List.getElem?_toArray, List.getElem?_cons_succ, List.getElem?_cons_zero]; rfl)
          case b225q => exact fun _ _ _ h => h
          case b225y => (refine Or.inl ⟨by first | kernel_rfl | rfl, ?_⟩; intro w hSw; (try dsimp only at hSw); have y1 := hSw; go_simp <;> (try with_reducible rfl))
          try simp only [Act.put, List.setIfInBounds_toArray, List.set_cons_zero, List.set_cons_succ]
          refine wpAnyH_done (by kernel_rfl) ?_ _
          go_wp2
          go_roundw
          case rel => exact ⟨k + 1, R7, by omega, by omega, by go_num, HL15⟩
          case measure => simp [intOf]; omega
        · have HDN := Lib.hid (show doneB R7.S = false by unfold doneB; rw [HMX.out, HN.out]; exact decide_eq_false hd)
          refine wp_region_held_drew (S := (fun X => X.cell? ⟨d, 0, none⟩ = some (.int .i64 m2))) (by kernel_rfl) hne (fun hHeld => ?_)
          refine wpAnyH_take (i := 0) (oi := ?b31o) (v := ?b31v) ?b31h (by kernel_rfl) (by kernel_rfl) (by kernel_rfl) ?b31q ?b31y hHeld ?b31r
          case b31h => (simp only [List.getElem?_toArray, List.getElem?_cons_zero]; rfl)
          case b31q => exact fun _ _ _ h => h
          case b31y => (refine Or.inl ⟨by first | kernel_rfl | rfl, ?_⟩; intro w hSw; (try dsimp only at hSw); have y1 := hSw; go_simp <;> (try with_reducible rfl))
          try simp only [Act.put, List.setIfInBounds_toArray, List.set_cons_zero, List.set_cons_succ]
          refine wpAnyH_take (i := 1) (oi := ?b32o) (v := ?b32v) ?b32h (by kernel_rfl) (by kernel_rfl) (by kernel_rfl) ?b32q ?b32y hHeld ?b32r
          case b32h => (simp only [List.getElem?_toArray, List.getElem?_cons_succ, List.getElem?_cons_zero]; rfl)
          case b32q => exact fun _ _ _ h => h
          case b32y => (refine Or.inl ⟨by first | kernel_rfl | rfl, ?_⟩; intro w hSw; (try dsimp only at hSw); have y1 := hSw; go_simp <;> (try with_reducible rfl))
          try simp only [Act.put, List.setIfInBounds_toArray, List.set_cons_zero, List.set_cons_succ]
          refine wpAnyH_take (i := 2) (oi := ?b33o) (v := ?b33v) ?b33h (by kernel_rfl) (by kernel_rfl) (by kernel_rfl) ?b33q ?b33y hHeld ?b33r
          case b33h => (simp only [List.getElem?_toArray, List.getElem?_cons_succ, List.getElem?_cons_zero]; rfl)
          case b33q => exact fun _ _ _ h => h
          case b33y => (refine Or.inl ⟨by first | kernel_rfl | rfl, ?_⟩; intro w hSw; (try dsimp only at hSw); have y1 := hSw; go_simp <;> (try with_reducible rfl))
          try simp only [Act.put, List.setIfInBounds_toArray, List.set_cons_zero, List.set_cons_succ]
          refine wpAnyH_take (i := 3) (oi := ?b34o) (v := ?b34v) ?b34h (by kernel_rfl) (by kernel_rfl) (by kernel_rfl) ?b34q ?b34y hHeld ?b34r
          case b34h => (simp only [List.getElem?_toArray, List.getElem?_cons_succ, List.getElem?_cons_zero]; rfl)
          case b34q => exact fun _ _ _ h => h
          case b34y => (refine Or.inl ⟨by first | kernel_rfl | rfl, ?_⟩; intro w hSw; (try dsimp only at hSw); have y1 := hSw; go_simp <;> (try with_reducible rfl))
          try simp only [Act.put, List.setIfInBounds_toArray, List.set_cons_zero, List.set_cons_succ]
          refine wpAnyH_take (i := 4) (oi := ?b35o) (v := ?b35v) ?b35h (by kernel_rfl) (by kernel_rfl) (by kernel_rfl) ?b35q ?b35y hHeld ?b35r
          case b35h => (simp only [List.getElem?_toArray, List.getElem?_cons_succ, List.getElem?_cons_zero]; rfl)
          case b35q => exact fun _ _ _ h => h
          case b35y => (refine Or.inl ⟨by first | kernel_rfl | rfl, ?_⟩; intro w hSw; (try dsimp only at hSw); have y1 := hSw; go_simp <;> (try with_reducible rfl))
          try simp only [Act.put, List.setIfInBounds_toArray, List.set_cons_zero, List.set_cons_succ]
          refine wpAnyH_take (i := 5) (oi := ?b36o) (v := ?b36v) ?b36h (by kernel_rfl) (by kernel_rfl) (by kernel_rfl) ?b36q ?b36y hHeld ?b36r
          case b36h => (simp only [List.getElem?_toArray, List.getElem?_cons_succ, List.getElem?_cons_zero]; rfl)
          case b36q => exact fun _ _ _ h => h
          case b36y => (refine Or.inl ⟨by first | kernel_rfl | rfl, ?_⟩; intro w hSw; (try dsimp only at hSw); have y1 := hSw; go_simp <;> (try with_reducible rfl))
          try simp only [Act.put, List.setIfInBounds_toArray, List.set_cons_zero, List.set_cons_succ]
          refine wpAnyH_take (i := 6) (oi := ?b37o) (v := ?b37v) ?b37h (by kernel_rfl) (by kernel_rfl) (by kernel_rfl) ?b37q ?b37y hHeld ?b37r
          case b37h => (simp only [List.getElem?_toArray, List.getElem?_cons_succ, List.getElem?_cons_zero]; rfl)
          case b37q => exact fun _ _ _ h => h
          case b37y => (refine Or.inl ⟨by first | kernel_rfl | rfl, ?_⟩; intro w hSw; (try dsimp only at hSw); have y1 := hSw; go_simp <;> (try with_reducible rfl))
          try simp only [Act.put, List.setIfInBounds_toArray, List.set_cons_zero, List.set_cons_succ]
          refine wpAnyH_take (i := 7) (oi := ?b38o) (v := ?b38v) ?b38h (by kernel_rfl) (by kernel_rfl) (by kernel_rfl) ?b38q ?b38y hHeld ?b38r
          case b38h => (simp only [List.getElem?_toArray, List.getElem?_cons_succ, List.getElem?_cons_zero]; rfl)
          case b38q => exact fun _ _ _ h => h
          case b38y => (refine Or.inl ⟨by first | kernel_rfl | rfl, ?_⟩; intro w hSw; (try dsimp only at hSw); have y1 := hSw; go_simp <;> (try with_reducible rfl))
          try simp only [Act.put, List.setIfInBounds_toArray, List.set_cons_zero, List.set_cons_succ]
          refine wpAnyH_take (i := 8) (oi := ?b39o) (v := ?b39v) ?b39h (by kernel_rfl) (by kernel_rfl) (by kernel_rfl) ?b39q ?b39y hHeld ?b39r
          case b39h => (simp only [List.getElem?_toArray, List.getElem?_cons_succ, List.getElem?_cons_zero]; rfl)
          case b39q => exact fun _ _ _ h => h
          case b39y => (refine Or.inl ⟨by first | kernel_rfl | rfl, ?_⟩; intro w hSw; (try dsimp only at hSw); have y1 := hSw; go_simp <;> (try with_reducible rfl))
          try simp only [Act.put, List.setIfInBounds_toArray, List.set_cons_zero, List.set_cons_succ]
          refine wpAnyH_take (i := 9) (oi := ?b310o) (v := ?b310v) ?b310h (by kernel_rfl) (by kernel_rfl) (by kernel_rfl) ?b310q ?b310y hHeld ?b310r
          case b310h => (simp only [List.getElem?_toArray, List.getElem?_cons_succ, List.getElem?_cons_zero]; rfl)
          case b310q => exact fun _ _ _ h => h
          case b310y => (refine Or.inl ⟨by first | kernel_rfl | rfl, ?_⟩; intro w hSw; (try dsimp only at hSw); have y1 := hSw; go_simp <;> (try with_reducible rfl))
          try simp only [Act.put, List.setIfInBounds_toArray, List.set_cons_zero, List.set_cons_succ]
          refine wpAnyH_take (i := 10) (oi := ?b311o) (v := ?b311v) ?b311h (by kernel_rfl) (by kernel_rfl) (by kernel_rfl) ?b311q ?b311y hHeld ?b311r
          case b311h => (simp only [List.getElem?_toArray, List.getElem?_cons_succ, List.getElem?_cons_zero]; rfl)
          case b311q => exact fun _ _ _ h => h
          case b311y => (refine Or.inl ⟨by first | kernel_rfl | rfl, ?_⟩; intro w hSw; (try dsimp only at hSw); have y1 := hSw; go_simp <;> (try with_reducible rfl))
          try simp only [Act.put, List.setIfInBounds_toArray, List.set_cons_zero, List.set_cons_succ]
          refine wpAnyH_take (i := 11) (oi := ?b312o) (v := ?b312v) ?b312h (by kernel_rfl) (by kernel_rfl) (by kernel_rfl) ?b312q ?b312y hHeld ?b312r
          case b312h => (simp only [List.getElem?_toArray, List.getElem?_cons_succ, List.getElem?_cons_zero]; rfl)
          case b312q => exact fun _ _ _ h => h
          case b312y => (refine Or.inl ⟨by first | kernel_rfl | rfl, ?_⟩; intro w hSw; (try dsimp only at hSw); have y1 := hSw; go_simp <;> (try with_reducible rfl))
          try simp only [Act.put, List.setIfInBounds_toArray, List.set_cons_zero, List.set_cons_succ]
          refine wpAnyH_take (i := 12) (oi := ?b313o) (v := ?b313v) ?b313h (by kernel_rfl) (by kernel_rfl) (by kernel_rfl) ?b313q ?b313y hHeld ?b313r
          case b313h => (simp only [List.getElem?_toArray, List.getElem?_cons_succ, List.getElem?_cons_zero]; rfl)
          case b313q => exact fun _ _ _ h => h
          case b313y => (refine Or.inl ⟨by first | kernel_rfl | rfl, ?_⟩; intro w hSw; (try dsimp only at hSw); have y1 := hSw; go_simp <;> (try with_reducible rfl))
          try simp only [Act.put, List.setIfInBounds_toArray, List.set_cons_zero, List.set_cons_succ]
          refine wpAnyH_take (i := 13) (oi := ?b314o) (v := ?b314v) ?b314h (by kernel_rfl) (by kernel_rfl) (by kernel_rfl) ?b314q ?b314y hHeld ?b314r
          case b314h => (simp only [List.getElem?_toArray, List.getElem?_cons_succ, List.getElem?_cons_zero]; rfl)
          case b314q => exact fun _ _ _ h => h
          case b314y => (refine Or.inl ⟨by first | kernel_rfl | rfl, ?_⟩; intro w hSw; (try dsimp only at hSw); have y1 := hSw; go_simp <;> (try with_reducible rfl))
          try simp only [Act.put, List.setIfInBounds_toArray, List.set_cons_zero, List.set_cons_succ]
          refine wpAnyH_take (i := 14) (oi := ?b315o) (v := ?b315v) ?b315h (by kernel_rfl) (by kernel_rfl) (by kernel_rfl) ?b315q ?b315y hHeld ?b315r
          case b315h => (simp only [List.getElem?_toArray, List.getElem?_cons_succ, List.getElem?_cons_zero]; rfl)
          case b315q => exact fun _ _ _ h => h
          case b315y => (refine Or.inl ⟨by first | kernel_rfl | rfl, ?_⟩; intro w hSw; (try dsimp only at hSw); have y1 := hSw; go_simp <;> (try with_reducible rfl))
          try simp only [Act.put, List.setIfInBounds_toArray, List.set_cons_zero, List.set_cons_succ]
          refine wpAnyH_take (i := 15) (oi := ?b316o) (v := ?b316v) ?b316h (by kernel_rfl) (by kernel_rfl) (by kernel_rfl) ?b316q ?b316y hHeld ?b316r
          case b316h => (simp only [List.getElem?_toArray, List.getElem?_cons_succ, List.getElem?_cons_zero]; rfl)
          case b316q => exact fun _ _ _ h => h
          case b316y => (refine Or.inl ⟨by first | kernel_rfl | rfl, ?_⟩; intro w hSw; (try dsimp only at hSw); have y1 := hSw; go_simp <;> (try with_reducible rfl))
          try simp only [Act.put, List.setIfInBounds_toArray, List.set_cons_zero, List.set_cons_succ]
          refine wpAnyH_take (i := 17) (oi := ?b317o) (v := ?b317v) ?b317h (by kernel_rfl) (by kernel_rfl) (by kernel_rfl) ?b317q ?b317y hHeld ?b317r
          case b317h => (simp only [List.getElem?_toArray, List.getElem?_cons_succ, List.getElem?_cons_zero]; rfl)
          case b317q => exact fun _ _ _ h => h
          case b317y => (refine Or.inl ⟨by first | kernel_rfl | rfl, ?_⟩; intro w hSw; (try dsimp only at hSw); have y1 := hSw; go_simp <;> (try with_reducible rfl))
          try simp only [Act.put, List.setIfInBounds_toArray, List.set_cons_zero, List.set_cons_succ]
          refine wpAnyH_take (i := 20) (oi := ?b318o) (v := ?b318v) ?b318h (by kernel_rfl) (by kernel_rfl) (by kernel_rfl) ?b318q ?b318y hHeld ?b318r
          case b318h => (simp only [List.getElem?_toArray, List.getElem?_cons_succ, List.getElem?_cons_zero]; rfl)
          case b318q => exact fun _ _ _ h => h
          case b318y => (refine Or.inl ⟨by first | kernel_rfl | rfl, ?_⟩; intro w hSw; (try dsimp only at hSw); have y1 := hSw; go_simp <;> (try with_reducible rfl))
          try simp only [Act.put, List.setIfInBounds_toArray, List.set_cons_zero, List.set_cons_succ]
          refine wpAnyH_take (i := 21) (oi := ?b319o) (v := ?b319v) ?b319h (by kernel_rfl) (by kernel_rfl) (by kernel_rfl) ?b319q ?b319y hHeld ?b319r
          case b319h => (simp only [List.getElem?_toArray, List.getElem?_cons_succ, List.getElem?_cons_zero]; rfl)
          case b319q => exact fun _ _ _ h => h
          case b319y => (refine Or.inl ⟨by first | kernel_rfl | rfl, ?_⟩; intro w hSw; (try dsimp only at hSw); have y1 := hSw; go_simp <;> (try with_reducible rfl))
          try simp only [Act.put, List.setIfInBounds_toArray, List.set_cons_zero, List.set_cons_succ]
          refine wpAnyH_take (i := 22) (oi := ?b320o) (v := ?b320v) ?b320h (by kernel_rfl) (by kernel_rfl) (by kernel_rfl) ?b320q ?b320y hHeld ?b320r
          case b320h => (simp only [List.getElem?_toArray, List.getElem?_cons_succ, List.getElem?_cons_zero]; rfl)
          case b320q => exact fun _ _ _ h => h
          case b320y => (refine Or.inl ⟨by first | kernel_rfl | rfl, ?_⟩; intro w hSw; (try dsimp only at hSw); have y1 := hSw; go_simp <;> (try with_reducible rfl))
          try simp only [Act.put, List.setIfInBounds_toArray, List.set_cons_zero, List.set_cons_succ]
          refine wpAnyH_take (i := 23) (oi := ?b321o) (v := ?b321v) ?b321h (by kernel_rfl) (by kernel_rfl) (by kernel_rfl) ?b321q ?b321y hHeld ?b321r
          case b321h => (simp only [List.getElem?_toArray, List.getElem?_cons_succ, List.getElem?_cons_zero]; rfl)
          case b321q => exact fun _ _ _ h => h
          case b321y => (refine Or.inl ⟨by first | kernel_rfl | rfl, ?_⟩; intro w hSw; (try dsimp only at hSw); have y1 := hSw; go_simp <;> (try with_reducible rfl))
          try simp only [Act.put, List.setIfInBounds_toArray, List.set_cons_zero, List.set_cons_succ]
          refine wpAnyH_ready (rs := [16]) (by kernel_rfl) (by simp) ?_
          refine (AllReadyH.cons rfl (fun K hK => ?_) AllReadyH.nil)
          go_simp
          (go_at_call 29; (have kk := rdone_is HL13.out.rd.at_); (rw [HDN.out] at kk); (with_reducible refine kk.mono ?_); rintro e w14 ⟨rfl, hb14⟩; (have HL14 := Lib.hid (HL13.out.later hb14)); (have hn14 := HL14.out.dt.need); (rw [HMX.out] at hn14); clear kk hb14)
          refine hK.out _ _ (hn14) (fun hHeld => ?_)
          clear hK K
          try simp only [Act.put, List.setIfInBounds_toArray, List.set_cons_zero, List.set_cons_succ]
          refine wpAnyH_ready (rs := [18]) (by kernel_rfl) (by simp) ?_
          refine (AllReadyH.cons rfl (fun K hK => ?_) AllReadyH.nil)
          go_simp
          (go_at_call 16; (have kk := rhav_is true HL14.out.dt); (rw [both_yes] at kk); (with_reducible refine kk.mono ?_); rintro e w15 ⟨v15, rfl, hR15, hb15⟩; (obtain ⟨a15, c15, rfl⟩ := hR15.slice); (rw [HN.out]); (have HL15 := Lib.hid (HL14.out.later hb15)); (have hn15 := HL15.out.dt.need); (rw [HMX.out] at hn15); clear kk hb15 hR15)
          refine hK.out _ _ (hn15) (fun hHeld => ?_)
          clear hK K
          try simp only [Act.put, List.setIfInBounds_toArray, List.set_cons_zero, List.set_cons_succ]
          refine wpAnyH_take (i := 19) (oi := ?b322o) (v := ?b322v) ?b322h (by kernel_rfl) (by kernel_rfl) (by kernel_rfl) ?b322q ?b322y hHeld ?b322r
          case b322h => (simp only [List.getElem?_toArray, List.getElem?_cons_succ, List.getElem?_cons_zero]; rfl)
          case b322q => exact fun _ _ _ h => h
          case b322y => (refine Or.inl ⟨by first | kernel_rfl | rfl, ?_⟩; intro w hSw; (try dsimp only at hSw); have y1 := hSw; go_simp <;> (try with_reducible rfl))
          try simp only [Act.put, List.setIfInBounds_toArray, List.set_cons_zero, List.set_cons_succ]
          refine wpAnyH_take (i := 24) (oi := ?b323o) (v := ?b323v) ?b323h (by kernel_rfl) (by kernel_rfl) (by kernel_rfl) ?b323q ?b323y hHeld ?b323r
          case b323h => (simp only [List.getElem?_toArray, List.getElem?_cons_succ, List.getElem?_cons_zero]; rfl)
          case b323q => exact fun _ _ _ h => h
          case b323y => (refine Or.inl ⟨by first | kernel_rfl | rfl, ?_⟩; intro w hSw; (try dsimp only at hSw); have y1 := hSw; go_simp <;> (try with_reducible rfl))
          try simp only [Act.put, List.setIfInBounds_toArray, List.set_cons_zero, List.set_cons_succ]
          refine wpAnyH_take (i := 25) (oi := ?b324o) (v := ?b324v) ?b324h (by kernel_rfl) (by kernel_rfl) (by kernel_rfl) ?b324q ?b324y hHeld ?b324r
          case b324h => (simp only [List.getElem?_toArray, List.getElem?_cons_succ, List.getElem?_cons_zero]; rfl)
          case b324q => exact fun _ _ _ h => h
          case b324y => (refine Or.inl ⟨by first | kernel_rfl | rfl, ?_⟩; intro w hSw; (try dsimp only at hSw); have y1 := hSw; go_simp <;> (try with_reducible rfl))
          try simp only [Act.put, List.setIfInBounds_toArray, List.set_cons_zero, List.set_cons_succ]
          refine wpAnyH_take (i := 26) (oi := ?b325o) (v := ?b325v) ?b325h (by kernel_rfl) (by kernel_rfl) (by kernel_rfl) ?b325q ?b325y hHeld ?b325r
          case b325h => (simp only [List.getElem?_toArray, List.getElem?_cons_succ, List.getElem?_cons_zero]; rfl)
          case b325q => exact fun _ _ _ h => h
          case b325y => (refine Or.inl ⟨by first | kernel_rfl | rfl, ?_⟩; intro w hSw; (try dsimp only at hSw); have y1 := hSw; go_simp <;> (try with_reducible rfl))
          try simp only [Act.put, List.setIfInBounds_toArray, List.set_cons_zero, List.set_cons_succ]
          refine wpAnyH_done (by kernel_rfl) ?_ _
          go_wp2
          go_roundw
          case rel => exact ⟨k + 1, R7, by omega, by omega, by go_num, HL15⟩
          case measure => simp [intOf]; omega
    · have hg2 : ((k : Int) < (rl : Int) ∧ ¬ (k : Int) < 8) ∨ ¬ (k : Int) < (rl : Int) := by omega
      clear hgo
      rcases hg2 with ⟨hg2, hg3⟩ | hg2
      · skip
        go_wp2
        go_loopw [18, 19] (fun f i wr => ∃ x : Int, -1 ≤ x ∧ x ≤ 17 ∧ i = .int .i64 x ∧ f = .bool true ∧ Hid (RR w wr bq d Bq Bd R k)) (fun _ i _ => (17 - intOf i).toNat)
        case atStart => exact ⟨-1, by omega, by omega, rfl, rfl, HL⟩
        case round =>
          obtain ⟨x, hx1, hx2, rfl, rfl, HL9⟩ := hrel
          clear HL
          obtain ⟨w9, hw9⟩ : ∃ w9, w9 = wr := ⟨_, rfl⟩
          subst hw9
          have HLEN := Lib.hid (HL9.out.rd.len)
          have hwx : IntKind.i64.wrap (x + 1) = x + 1 := by rw [IntKind.wrap_i64]; omega
          by_cases hlt : x < 17
          · go_wp2_with (first
              | (go_at_call 25; (have kk := repair_is x HL9.out.rd HL9.out.hq); (with_reducible refine kk.mono ?_); rintro e w5a ⟨aa5, ca5, rfl, hRa, hba⟩; (have HRA5 := Lib.hid hRa); (have hba := hba.mono (by first | exact Nat.le_refl _)); (have HLA5 := Lib.hid (HL9.out.later hba)); clear kk hRa hba)
              | (go_at_call 26; (have kk := rrep_is x HLA5.out.dt HLA5.out.good); (with_reducible refine kk.mono ?_); rintro e w5b ⟨v5b, rfl, hRb, hbb⟩; (obtain ⟨ab5, cb5, rfl⟩ := hRb.slice); (have HRB5 := Lib.hid hRb.lst); (have HRA5b := Lib.hid (HRA5.out.later hbb)); (have HLB5 := Lib.hid (HLA5.out.later hbb)); clear kk hRb hbb)
              | (go_at_call 22; (have kk := rsamep_is _ _ ca5 cb5 _ _ true _ HRA5b.out.pts HRB5.out.pts (by have := rpr_len HLEN.out x; omega) (by have := rpr_len HLEN.out x; omega) (Lib.hid (samep_yes _))); (with_reducible refine kk.mono ?_); rintro e w5c ⟨rfl, hbc⟩; (have HL10 := Lib.hid (HLB5.out.later hbc)); clear kk hbc HRA5 HRB5 HRA5b HLA5 HLB5))
            go_roundw
            case rel => exact ⟨x + 1, by omega, by omega, rfl, rfl, HL10⟩
            case measure => simp [intOf]; omega
          · go_wp2
            go_ret
            exact ⟨rfl, HL9.out.bel⟩
      · skip
        go_wp2
        go_loopw [18, 19] (fun f i wr => ∃ x : Int, -1 ≤ x ∧ x ≤ 17 ∧ i = .int .i64 x ∧ f = .bool true ∧ Hid (RR w wr bq d Bq Bd R k)) (fun _ i _ => (17 - intOf i).toNat)
        case atStart => exact ⟨-1, by omega, by omega, rfl, rfl, HL⟩
        case round =>
          obtain ⟨x, hx1, hx2, rfl, rfl, HL9⟩ := hrel
          clear HL
          obtain ⟨w9, hw9⟩ : ∃ w9, w9 = wr := ⟨_, rfl⟩
          subst hw9
          have HLEN := Lib.hid (HL9.out.rd.len)
          have hwx : IntKind.i64.wrap (x + 1) = x + 1 := by rw [IntKind.wrap_i64]; omega
          by_cases hlt : x < 17
          · go_wp2_with (first
              | (go_at_call 25; (have kk := repair_is x HL9.out.rd HL9.out.hq); (with_reducible refine kk.mono ?_); rintro e w5a ⟨aa5, ca5, rfl, hRa, hba⟩; (have HRA5 := Lib.hid hRa); (have hba := hba.mono (by first | exact Nat.le_refl _)); (have HLA5 := Lib.hid (HL9.out.later hba)); clear kk hRa hba)
              | (go_at_call 26; (have kk := rrep_is x HLA5.out.dt HLA5.out.good); (with_reducible refine kk.mono ?_); rintro e w5b ⟨v5b, rfl, hRb, hbb⟩; (obtain ⟨ab5, cb5, rfl⟩ := hRb.slice); (have HRB5 := Lib.hid hRb.lst); (have HRA5b := Lib.hid (HRA5.out.later hbb)); (have HLB5 := Lib.hid (HLA5.out.later hbb)); clear kk hRb hbb)
              | (go_at_call 22; (have kk := rsamep_is _ _ ca5 cb5 _ _ true _ HRA5b.out.pts HRB5.out.pts (by have := rpr_len HLEN.out x; omega) (by have := rpr_len HLEN.out x; omega) (Lib.hid (samep_yes _))); (with_reducible refine kk.mono ?_); rintro e w5c ⟨rfl, hbc⟩; (have HL10 := Lib.hid (HLB5.out.later hbc)); clear kk hbc HRA5 HRB5 HRA5b HLA5 HLB5))
            go_roundw
            case rel => exact ⟨x + 1, by omega, by omega, rfl, rfl, HL10⟩
            case measure => simp [intOf]; omega
          · go_wp2
            go_ret
            exact ⟨rfl, HL9.out.bel⟩
end quorumReads
end Go.Proofs.Ytcjcbbpolhpphaa.Qu
