/- The document's Repair. -/
import Derived.Test.YtcjcbbpolhpphaaQuRef2
set_option maxRecDepth 20000
set_option linter.unusedSimpArgs false
set_option linter.unusedVariables false
namespace Go.Proofs.Ytcjcbbpolhpphaa.Qu
open Go.RowKit Go.Proofs.Ytcjcbbpolhpphaa.Vi

theorem inA_snoc {A : List Pt} {k : Nat} (h : k < A.length) (x : Pt) : inA (A.take (k + 1)) x = (inA (A.take k) x || (A[k]).same x) := by
  unfold inA
  rw [List.take_succ_eq_append_getElem h, Bool.eq_iff_iff]
  simp only [decide_eq_true_eq, Bool.or_eq_true, List.mem_append, List.mem_singleton, Pt.same_iff]
  exact ⟨fun h => h.imp id Eq.symm, fun h => h.imp id Eq.symm⟩
theorem keep_snoc (l : List Pt) (D : Pt → Bool) (j : Nat) (hj : j < l.length) (z : Bool) (hz : D l[j] = z) : keepL (l.take (j + 1)) D = keepL (l.take j) D ++ if z = false then [l[j]] else [] := by
  rw [keepL_snoc l D j hj, hz]
theorem keep_len (l : List Pt) (D : Pt → Bool) : (keepL l D).length ≤ l.length := List.length_filter_le _ _
set_option maxHeartbeats 8000000 in
theorem rrep_is {w : World} {B d : Nat} {R : RS} (n : Int) (h : DAt w B d R) (hg : Good R) : Calls Try.prog 26 #[.pointer (some ⟨d, 0, none⟩), .int .i64 n] w (OwnDone (rprL R n) w) := by
  obtain ⟨vn, cn, hns⟩ := h.nds
  have ki := in_is vn (pickL R.S.nd) n w hns
  obtain ⟨an, pn, rfl⟩ := hns.slice
  rw [in_has] at ki
  obtain ⟨pl, hpl2⟩ : ∃ pl, (pickL R.S.nd).length = pl := ⟨_, rfl⟩
  rw [hpl2] at cn ki
  have H := Lib.hid h
  have hdw := h.lt
  have km := rmerged_is h hg
  obtain ⟨z, hz⟩ : ∃ z, hasB R.S n = z := ⟨_, rfl⟩
  rw [hz] at ki
  cases z with
  | false =>
    have HE := Lib.hid (show rprL R n = [] by unfold rprL; rw [hz]; rfl)
    clear hz h hns hpl2 hg km
    go_enter Try.func26, Try.ntmps26
    go_wp2_with (go_at_call 38; (with_reducible refine ki.mono ?_); rintro e w1 ⟨rfl, rfl⟩)
    go_ret
    exact ⟨_, rfl, by rw [HE.out]; exact PRow.nil _ _, Below.refl _ _⟩
  | true =>
    obtain ⟨k0, hk0, rfl⟩ := has_node hz
    have HE := Lib.hid (show rprL R (k0 : Int) = keepL (mrgL R) (inA (R.an (k0 : Int))) by unfold rprL; rw [hz]; rfl)
    have hk02 : (k0 : Int) < 16 := by omega
    have hml : (mrgL R).length ≤ 16000 := by
      rw [← allK_good hg]
      exact Nat.le_trans (srtR_len _) (allK_len h.len 16)
    obtain ⟨M, hM⟩ : ∃ M, mrgL R = M := ⟨_, rfl⟩
    rw [hM] at km hml HE
    obtain ⟨ml, hmll⟩ : ∃ ml, M.length = ml := ⟨_, rfl⟩
    rw [hmll] at hml
    have HML := Lib.hid hmll
    have HAN := Lib.hid (h.len (k0 : Int))
    obtain ⟨A, hA⟩ : ∃ A, R.an (k0 : Int) = A := ⟨_, rfl⟩
    have HA := Lib.hid hA
    rw [hA] at HE HAN
    obtain ⟨al, hal⟩ : ∃ al, A.length = al := ⟨_, rfl⟩
    have HAL := Lib.hid hal
    have hal1 : al ≤ 1000 := by rw [← hal]; exact HAN.out
    clear hz h hns hpl2 hg hM hmll hA hal
    go_enter Try.func26, Try.ntmps26
    go_wp2_with (first
      | (go_at_call 38; (with_reducible refine ki.mono ?_); rintro e w1 ⟨rfl, rfl⟩)
      | (go_at_call 24; (with_reducible refine km.mono ?_); rintro e w1 ⟨v, rfl, hR, hb1⟩; (have HB1 := Lib.hid hb1); (obtain ⟨a1, c1, rfl⟩ := hR.slice); (have HR1 := Lib.hid hR); (rw [HML.out] at HR1); (rw [HML.out]); clear hR hb1))
    go_loopw [6, 8] (fun o i wr => ∃ (j r : Nat) (a : Option Addr) (c : Nat), j ≤ ml ∧ i = .int .i64 (j : Int) ∧ o = .slice a r c ∧ Hid ((keepL (M.take j) (inA A)).length = r) ∧ Hid (PRow wr w1.heap.size (.slice a r c) (keepL (M.take j) (inA A))) ∧ Hid (Below w1.heap.size w1 wr)) (fun _ i _ => ml - (intOf i).toNat)
    case atStart => exact ⟨0, 0, none, 0, by omega, rfl, rfl, Lib.hid (by simp [keepL]), Lib.hid (PRow.nil _ _), Lib.hid (Below.refl _ _)⟩
    case round =>
      obtain ⟨j, r, a3, d3, hj, rfl, rfl, HR, HROW, HB2⟩ := hrel
      obtain ⟨w2, hw2⟩ : ∃ w2, w2 = wr := ⟨_, rfl⟩
      subst hw2
      have hr16 : r ≤ 16000 := by
        have h1 := HR.out
        have h2 := keep_len (M.take j) (inA A)
        rw [List.length_take, HML.out] at h2
        omega
      have HBW := Lib.hid (bel_next HB1.out HB2.out)
      by_cases hlt : j < ml
      · have hlt2 : (j : Int) < (ml : Int) := by omega
        have hjM : j < M.length := by rw [HML.out]; exact hlt
        have HKS := Lib.hid (keep_snoc M (inA A) j hjM)
        have hML2 := (HR1.out.lst.later HB2.out).pts.at_
        rcases hML2 with hML2 | ⟨g, off, hge, hgw, hc⟩
        · rw [hML2] at hjM; simp at hjM
        subst hge
        have HC := Lib.hid (hc j hjM)
        obtain ⟨x, hx⟩ : ∃ x, M[j] = x := ⟨_, rfl⟩
        rw [hx] at HC HKS
        have h2 := H.out.later HBW.out
        obtain ⟨a4, c4, x4, hp4⟩ := h2.got k0 hk0
        have HLL := Lib.hid (hp4.lst)
        rw [HA.out] at x4 HLL
        rw [HAL.out] at x4
        have X4 := Lib.hid x4
        have hd0 := h2.lt
        clear hc hx hp4 h2 hjM x4
        go_wp2
        go_loopw [9, 10] (fun hb i wr => ∃ (k nq : Nat), k ≤ al ∧ i = .int .i64 (k : Int) ∧ hb = .bool (inA (A.take k) x) ∧ wr = w2.drewN nq) (fun _ i _ => al - (intOf i).toNat)
        case atStart => exact ⟨0, 0, by omega, rfl, by rw [List.take_zero]; rfl, rfl⟩
        case round =>
          obtain ⟨k, nq, hk, rfl, rfl, hwr⟩ := hrel
          obtain ⟨w3, hw3⟩ : ∃ w3, w3 = wr := ⟨_, rfl⟩
          subst hw3
          have hb3 : Below w2.heap.size w2 w3 := by rw [hwr]; exact below_drewN (Below.refl _ _) _
          have HB3 := Lib.hid hb3
          have HWR := Lib.hid hwr
          have y4 := (hb3.cell (p := ⟨d, 18 + k0, none⟩) hd0).trans X4.out
          obtain ⟨p0, p1, p2, p3, p4, p5⟩ := HC.out.below hb3 hgw
          clear hwr
          by_cases hka : k < al
          · have hka2 : (k : Int) < (al : Int) := by omega
            have hkA : k < A.length := by rw [HAL.out]; exact hka
            have HSN := Lib.hid (inA_snoc hkA x)
            rcases (HLL.out.later hb3).pts.at_ with hq | ⟨g4, o4, hge, hg4, hc4⟩
            · rw [hq] at hkA; simp at hkA
            subst hge
            obtain ⟨q0, q1, q2, q3, q4, q5⟩ := hc4 k hkA
            obtain ⟨y, hy⟩ : ∃ y, A[k] = y := ⟨_, rfl⟩
            rw [hy] at q0 q1 q2 q3 q4 q5 HSN
            have heq := fun W => eql_run6 y x W
            obtain ⟨s, hs⟩ : ∃ s, y.same x = s := ⟨_, rfl⟩
            rw [hs] at heq HSN
            unfold ptV at heq
            obtain ⟨hh, hhe⟩ : ∃ hh, inA (A.take k) x = hh := ⟨_, rfl⟩
            rw [hhe] at HSN ⊢
            clear hc4 hy hs hhe hkA hb3
            cases hh with
            | true =>
              go_wp2_with fail
              go_quiet (fail)
              go_wp2
              go_roundw
              case rel => exact ⟨k + 1, _, by omega, by go_num, by rw [HSN.out]; rfl, by rw [HWR.out]; exact World.drewN_drewN _ _ _⟩
              case measure => simp [intOf]; omega
            | false =>
              go_wp2_with fail
              go_quiet (fail)
              go_wp2
              go_roundw
              case rel => exact ⟨k + 1, _, by omega, by go_num, by rw [HSN.out]; simp, by rw [HWR.out]; exact World.drewN_drewN _ _ _⟩
              case measure => simp [intOf]; omega
          · obtain rfl : k = al := by omega
            have hka2 : ¬ (k : Int) < (k : Int) := by omega
            have hta : A.take k = A := List.take_of_length_le (by rw [HAL.out]; exact Nat.le_refl _)
            rw [hta]
            obtain ⟨hh, hhe⟩ : ∃ hh, inA A x = hh := ⟨_, rfl⟩
            have HK2 := Lib.hid (HKS.out hh hhe)
            rw [hhe]
            have HROW3 := Lib.hid (HROW.out.later hb3)
            have HB23 := Lib.hid (HB2.out.trans (hb3.mono HB2.out.size))
            have hsz3 := HB23.out.size
            clear hta hhe hb3
            cases hh with
            | true =>
              go_wp2
              go_roundw
              case rel => exact ⟨j + 1, r, a3, d3, by omega, by go_num, rfl, Lib.hid (by rw [HK2.out]; simpa using HR.out), Lib.hid (by rw [HK2.out]; simpa using HROW3.out), HB23⟩
              case measure => simp [intOf]; omega
            | false =>
              have HAL3 := Lib.hid ((Below.refl w3.heap.size w3).alloc (Nat.le_refl _) (.cells #[.string x.s, .int .i64 x.t, .int .i64 x.v, .int .i64 x.st.c, .int .i64 x.st.s, .int .i64 x.st.q] 55))
              go_wp2_with (at_builtin; refine wpList_appP (w := w3) rfl _ _ rfl w1.heap.size r (.slice a3 r d3) (keepL (M.take j) (inA A)) x w3.heap.size rfl rfl rfl HR HROW3.out (by omega) hsz3 ?_; intro a6 c6 w6 hrow6 _ hb6 _; have HR6 := Lib.hid hrow6.out; have HB6 := Lib.hid hb6; clear hrow6 hb6)
              go_roundw
              case rel => exact ⟨j + 1, r + 1, a6, c6, by omega, by go_num, rfl, Lib.hid (by rw [HK2.out, if_pos rfl, List.length_append, HR.out]; rfl), Lib.hid (by rw [HK2.out, if_pos rfl]; exact HR6.out), Lib.hid (HB23.out.trans HB6.out)⟩
              case measure => simp [intOf]; omega
      · obtain rfl : j = ml := by omega
        have hft : M.take j = M := List.take_of_length_le (by rw [HML.out]; exact Nat.le_refl _)
        rw [hft] at HR HROW
        clear hft hlt
        go_wp2
        go_ret
        exact ⟨_, rfl, by rw [HE.out]; exact HROW.out.base HB1.out.size, HBW.out⟩
end Go.Proofs.Ytcjcbbpolhpphaa.Qu
