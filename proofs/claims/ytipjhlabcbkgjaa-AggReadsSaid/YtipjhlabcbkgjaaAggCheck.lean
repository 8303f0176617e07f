/- Contract: Check. -/
import Derived.Test.YtipjhlabcbkgjaaAggFits
import Derived.Test.YtipjhlabcbkgjaaMarkB
set_option maxRecDepth 20000
namespace Go.Proofs.Ytipjhlabcbkgjaa.Ag
open Go.RowKit Go.Proofs.Ytipjhlabcbkgjaa Go.Proofs.Ytipjhlabcbkgjaa.Wd Go.Proofs.Ytipjhlabcbkgjaa.Vi Go.Proofs.Ytipjhlabcbkgjaa.Mk

set_option maxHeartbeats 4000000 in
theorem check8_is (a : Ag) (ha : a.fits) (er : Int) (he : Hid (errA a = er)) (w : World) : Calls Try.prog 23 #[agV a] w fun e w' => e = .returned (.int .i64 er) ∧ Below w.heap.size w w' := by
  have hN := HB.new w a
  simp only [cells18] at hN
  have HN := Lib.hid hN
  have qz := fun w => eqAg_run a Ag.zero w
  have gz := fun x y w => guardAg x y a Ag.zero w
  rw [agV_zero] at qz gz
  obtain ⟨z, hz⟩ : ∃ z, decide (AgSame a Ag.zero) = z := ⟨_, rfl⟩
  rw [hz] at qz
  clear hN
  rw [show agV a = .agg #[.int .i64 a.n, .int .i64 (wh a.s), .int .u64 (wl a.s), .int .i64 a.mn, .int .i64 a.mx, .int .i64 a.la, .int .i64 a.st.c, .int .i64 a.st.s, .int .i64 a.st.q, .int .i64 (a.b 0), .int .i64 (a.b 1), .int .i64 (a.b 2), .int .i64 (a.b 3), .int .i64 (a.b 4), .int .i64 (a.b 5), .int .i64 (a.b 6), .int .i64 (a.b 7), .int .i64 (a.b 8)] from rfl]
  go_enter Try.func23, Try.ntmps23
  go_upto_region 1 with fail
  obtain ⟨w0, hw0, h0⟩ := HN.out.name
  rw [← hw0]
  have H0 := Lib.hid h0
  have x0 := h0.a.cell 0 rfl
  have x6 := h0.a.cell 6 rfl
  have x7 := h0.a.cell 7 rfl
  have x8 := h0.a.cell 8 rfl
  clear hw0 h0 HN
  refine wp_region_lit ?_
  refine wpList_plain rfl fun K hK => ?_
  refine load_ag _ rfl w.heap.size a rfl H0.out.a ?_
  refine hK _ _ ?_
  clear hK K
  (try simp only [Act.put, List.setIfInBounds_toArray, List.set_cons_zero, List.set_cons_succ])
  refine wpList_plain rfl fun K hK => ?_
  go_simp
  refine hK _ _ ?_
  clear hK K
  (try simp only [Act.put, List.setIfInBounds_toArray, List.set_cons_zero, List.set_cons_succ])
  refine wpList_plain rfl fun K hK => ?_
  go_simp
  refine hK _ _ ?_
  clear hK K
  (try simp only [Act.put, List.setIfInBounds_toArray, List.set_cons_zero, List.set_cons_succ])
  refine wpList_nil ?_
  clear qz gz
  cases z with
  | true =>
    obtain rfl : (0 : Int) = er := by rw [← he.out]; exact (errA_zero (of_decide_eq_true hz)).symm
    go_wp2
    go_ret
    exact ⟨rfl, H0.out.bel⟩
  | false =>
    have hnz := of_decide_eq_false hz
    go_upto_region 3 with fail
    refine wp_region_lit ?_
    by_cases b1 : a.n < 1
    · obtain rfl : (1 : Int) = er := by rw [← he.out]; exact (errA_n hnz (by omega)).symm
      clear hnz hz
      refine wpList_plain rfl fun K hK => ?_
      go_simp
      refine hK _ _ ?_
      clear hK K
      (try simp only [Act.put, List.setIfInBounds_toArray, List.set_cons_zero, List.set_cons_succ])
      refine wpList_plain rfl fun K hK => ?_
      go_simp
      refine hK _ _ ?_
      clear hK K
      (try simp only [Act.put, List.setIfInBounds_toArray, List.set_cons_zero, List.set_cons_succ])
      refine wpList_plain rfl fun K hK => ?_
      go_simp
      refine hK _ _ ?_
      clear hK K
      (try simp only [Act.put, List.setIfInBounds_toArray, List.set_cons_zero, List.set_cons_succ])
      refine wpList_plain rfl fun K hK => ?_
      go_simp
      refine hK _ _ ?_
      clear hK K
      (try simp only [Act.put, List.setIfInBounds_toArray, List.set_cons_zero, List.set_cons_succ])
      refine wpList_skip (by kernel_rfl) ?_
      refine wpList_skip (by kernel_rfl) ?_
      refine wpList_skip (by kernel_rfl) ?_
      refine wpList_plain rfl fun K hK => ?_
      go_simp
      refine hK _ _ ?_
      clear hK K
      (try simp only [Act.put, List.setIfInBounds_toArray, List.set_cons_zero, List.set_cons_succ])
      refine wpList_plain rfl fun K hK => ?_
      go_simp
      refine hK _ _ ?_
      clear hK K
      (try simp only [Act.put, List.setIfInBounds_toArray, List.set_cons_zero, List.set_cons_succ])
      refine wpList_skip (by kernel_rfl) ?_
      refine wpList_skip (by kernel_rfl) ?_
      refine wpList_skip (by kernel_rfl) ?_
      refine wpList_plain rfl fun K hK => ?_
      go_simp
      refine hK _ _ ?_
      clear hK K
      (try simp only [Act.put, List.setIfInBounds_toArray, List.set_cons_zero, List.set_cons_succ])
      refine wpList_plain rfl fun K hK => ?_
      go_simp
      refine hK _ _ ?_
      clear hK K
      (try simp only [Act.put, List.setIfInBounds_toArray, List.set_cons_zero, List.set_cons_succ])
      refine wpList_skip (by kernel_rfl) ?_
      refine wpList_skip (by kernel_rfl) ?_
      refine wpList_skip (by kernel_rfl) ?_
      refine wpList_plain rfl fun K hK => ?_
      go_simp
      refine hK _ _ ?_
      clear hK K
      (try simp only [Act.put, List.setIfInBounds_toArray, List.set_cons_zero, List.set_cons_succ])
      refine wpList_plain rfl fun K hK => ?_
      go_simp
      refine hK _ _ ?_
      clear hK K
      (try simp only [Act.put, List.setIfInBounds_toArray, List.set_cons_zero, List.set_cons_succ])
      refine wpList_skip (by kernel_rfl) ?_
      refine wpList_skip (by kernel_rfl) ?_
      refine wpList_skip (by kernel_rfl) ?_
      refine wpList_skip (by kernel_rfl) ?_
      refine wpList_plain rfl fun K hK => ?_
      go_simp
      refine hK _ _ ?_
      clear hK K
      (try simp only [Act.put, List.setIfInBounds_toArray, List.set_cons_zero, List.set_cons_succ])
      refine wpList_nil ?_
      go_wp2
      go_ret
      exact ⟨rfl, H0.out.bel⟩
    have d1 : decide (a.n < 1) = false := decide_eq_false b1
    by_cases b2 : 1099511627776 < a.n
    · obtain rfl : (1 : Int) = er := by rw [← he.out]; exact (errA_n hnz (by omega)).symm
      clear hnz hz
      refine wpList_plain rfl fun K hK => ?_
      go_simp
      refine hK _ _ ?_
      clear hK K
      (try simp only [Act.put, List.setIfInBounds_toArray, List.set_cons_zero, List.set_cons_succ])
      refine wpList_plain rfl fun K hK => ?_
      go_simp
      refine hK _ _ ?_
      clear hK K
      (try simp only [Act.put, List.setIfInBounds_toArray, List.set_cons_zero, List.set_cons_succ])
      refine wpList_plain rfl fun K hK => ?_
      go_simp
      refine hK _ _ ?_
      clear hK K
      (try simp only [Act.put, List.setIfInBounds_toArray, List.set_cons_zero, List.set_cons_succ])
      refine wpList_plain rfl fun K hK => ?_
      go_simp
      refine hK _ _ ?_
      clear hK K
      (try simp only [Act.put, List.setIfInBounds_toArray, List.set_cons_zero, List.set_cons_succ])
      refine wpList_step fun K hK => ?_
      refine (if_pos (by kernel_rfl)).mpr ?_
      go_simp
      refine hK _ _ ?_
      clear hK K
      (try simp only [Act.put, List.setIfInBounds_toArray, List.set_cons_zero, List.set_cons_succ])
      refine wpList_step fun K hK => ?_
      refine (if_pos (by kernel_rfl)).mpr ?_
      go_simp
      refine hK _ _ ?_
      clear hK K
      (try simp only [Act.put, List.setIfInBounds_toArray, List.set_cons_zero, List.set_cons_succ])
      refine wpList_step fun K hK => ?_
      refine (if_pos (by kernel_rfl)).mpr ?_
      go_simp
      refine hK _ _ ?_
      clear hK K
      (try simp only [Act.put, List.setIfInBounds_toArray, List.set_cons_zero, List.set_cons_succ])
      refine wpList_plain rfl fun K hK => ?_
      go_simp
      refine hK _ _ ?_
      clear hK K
      (try simp only [Act.put, List.setIfInBounds_toArray, List.set_cons_zero, List.set_cons_succ])
      refine wpList_plain rfl fun K hK => ?_
      go_simp
      refine hK _ _ ?_
      clear hK K
      (try simp only [Act.put, List.setIfInBounds_toArray, List.set_cons_zero, List.set_cons_succ])
      refine wpList_skip (by kernel_rfl) ?_
      refine wpList_skip (by kernel_rfl) ?_
      refine wpList_skip (by kernel_rfl) ?_
      refine wpList_plain rfl fun K hK => ?_
      go_simp
      refine hK _ _ ?_
      clear hK K
      (try simp only [Act.put, List.setIfInBounds_toArray, List.set_cons_zero, List.set_cons_succ])
      refine wpList_plain rfl fun K hK => ?_
      go_simp
      refine hK _ _ ?_
      clear hK K
      (try simp only [Act.put, List.setIfInBounds_toArray, List.set_cons_zero, List.set_cons_succ])
      refine wpList_skip (by kernel_rfl) ?_
      refine wpList_skip (by kernel_rfl) ?_
      refine wpList_skip (by kernel_rfl) ?_
      refine wpList_plain rfl fun K hK => ?_
      go_simp
      refine hK _ _ ?_
      clear hK K
      (try simp only [Act.put, List.setIfInBounds_toArray, List.set_cons_zero, List.set_cons_succ])
      refine wpList_plain rfl fun K hK => ?_
      go_simp
      refine hK _ _ ?_
      clear hK K
      (try simp only [Act.put, List.setIfInBounds_toArray, List.set_cons_zero, List.set_cons_succ])
      refine wpList_skip (by kernel_rfl) ?_
      refine wpList_skip (by kernel_rfl) ?_
      refine wpList_skip (by kernel_rfl) ?_
      refine wpList_skip (by kernel_rfl) ?_
      refine wpList_plain rfl fun K hK => ?_
      go_simp
      refine hK _ _ ?_
      clear hK K
      (try simp only [Act.put, List.setIfInBounds_toArray, List.set_cons_zero, List.set_cons_succ])
      refine wpList_nil ?_
      go_wp2
      go_ret
      exact ⟨rfl, H0.out.bel⟩
    have d2 : decide (1099511627776 < a.n) = false := decide_eq_false b2
    cases hv : vOk a with
    | false =>
      have kv := fun W => values_is a false ha (by omega) (Lib.hid hv) W
      obtain rfl : (1 : Int) = er := by rw [← he.out]; exact (errA_v hnz hv).symm
      clear hnz hz hv
      refine wpList_plain rfl fun K hK => ?_
      go_simp
      refine hK _ _ ?_
      clear hK K
      (try simp only [Act.put, List.setIfInBounds_toArray, List.set_cons_zero, List.set_cons_succ])
      refine wpList_plain rfl fun K hK => ?_
      go_simp
      refine hK _ _ ?_
      clear hK K
      (try simp only [Act.put, List.setIfInBounds_toArray, List.set_cons_zero, List.set_cons_succ])
      refine wpList_plain rfl fun K hK => ?_
      go_simp
      refine hK _ _ ?_
      clear hK K
      (try simp only [Act.put, List.setIfInBounds_toArray, List.set_cons_zero, List.set_cons_succ])
      refine wpList_plain rfl fun K hK => ?_
      go_simp
      refine hK _ _ ?_
      clear hK K
      (try simp only [Act.put, List.setIfInBounds_toArray, List.set_cons_zero, List.set_cons_succ])
      refine wpList_step fun K hK => ?_
      refine (if_pos (by kernel_rfl)).mpr ?_
      go_simp
      refine hK _ _ ?_
      clear hK K
      (try simp only [Act.put, List.setIfInBounds_toArray, List.set_cons_zero, List.set_cons_succ])
      refine wpList_step fun K hK => ?_
      refine (if_pos (by kernel_rfl)).mpr ?_
      go_simp
      refine hK _ _ ?_
      clear hK K
      (try simp only [Act.put, List.setIfInBounds_toArray, List.set_cons_zero, List.set_cons_succ])
      refine wpList_step fun K hK => ?_
      refine (if_pos (by kernel_rfl)).mpr ?_
      go_simp
      refine hK _ _ ?_
      clear hK K
      (try simp only [Act.put, List.setIfInBounds_toArray, List.set_cons_zero, List.set_cons_succ])
      refine wpList_plain rfl fun K hK => ?_
      go_simp
      refine hK _ _ ?_
      clear hK K
      (try simp only [Act.put, List.setIfInBounds_toArray, List.set_cons_zero, List.set_cons_succ])
      refine wpList_plain rfl fun K hK => ?_
      go_simp
      refine hK _ _ ?_
      clear hK K
      (try simp only [Act.put, List.setIfInBounds_toArray, List.set_cons_zero, List.set_cons_succ])
      refine wpList_step fun K hK => ?_
      refine (if_pos (by kernel_rfl)).mpr ?_
      refine load_ag _ rfl w.heap.size a rfl H0.out.a ?_
      refine hK _ _ ?_
      clear hK K
      (try simp only [Act.put, List.setIfInBounds_toArray, List.set_cons_zero, List.set_cons_succ])
      refine wpList_step fun K hK => ?_
      refine (if_pos (by kernel_rfl)).mpr ?_
      go_simp
      ((with_reducible refine (kv _).mono ?_); rintro e1 w1 ⟨rfl, hb1⟩)
      refine hK _ _ ?_
      clear hK K
      (try simp only [Act.put, List.setIfInBounds_toArray, List.set_cons_zero, List.set_cons_succ])
      refine wpList_step fun K hK => ?_
      refine (if_pos (by kernel_rfl)).mpr ?_
      go_simp
      refine hK _ _ ?_
      clear hK K
      (try simp only [Act.put, List.setIfInBounds_toArray, List.set_cons_zero, List.set_cons_succ])
      refine wpList_plain rfl fun K hK => ?_
      go_simp
      refine hK _ _ ?_
      clear hK K
      (try simp only [Act.put, List.setIfInBounds_toArray, List.set_cons_zero, List.set_cons_succ])
      refine wpList_plain rfl fun K hK => ?_
      go_simp
      refine hK _ _ ?_
      clear hK K
      (try simp only [Act.put, List.setIfInBounds_toArray, List.set_cons_zero, List.set_cons_succ])
      refine wpList_skip (by kernel_rfl) ?_
      refine wpList_skip (by kernel_rfl) ?_
      refine wpList_skip (by kernel_rfl) ?_
      refine wpList_plain rfl fun K hK => ?_
      go_simp
      refine hK _ _ ?_
      clear hK K
      (try simp only [Act.put, List.setIfInBounds_toArray, List.set_cons_zero, List.set_cons_succ])
      refine wpList_plain rfl fun K hK => ?_
      go_simp
      refine hK _ _ ?_
      clear hK K
      (try simp only [Act.put, List.setIfInBounds_toArray, List.set_cons_zero, List.set_cons_succ])
      refine wpList_skip (by kernel_rfl) ?_
      refine wpList_skip (by kernel_rfl) ?_
      refine wpList_skip (by kernel_rfl) ?_
      refine wpList_skip (by kernel_rfl) ?_
      refine wpList_plain rfl fun K hK => ?_
      go_simp
      refine hK _ _ ?_
      clear hK K
      (try simp only [Act.put, List.setIfInBounds_toArray, List.set_cons_zero, List.set_cons_succ])
      refine wpList_nil ?_
      have H1 := Lib.hid (H0.out.keep hb1)
      go_wp2
      go_ret
      exact ⟨rfl, H1.out.bel⟩
    | true =>
      have kv := fun W => values_is a true ha (by omega) (Lib.hid hv) W
      cases hb : bOk a with
      | false =>
        have kb := fun W => buckets_is a false ha (by omega) (Lib.hid hb) W
        obtain rfl : (1 : Int) = er := by rw [← he.out]; exact (errA_b hnz hb).symm
        clear hnz hz hv hb
        refine wpList_plain rfl fun K hK => ?_
        go_simp
        refine hK _ _ ?_
        clear hK K
        (try simp only [Act.put, List.setIfInBounds_toArray, List.set_cons_zero, List.set_cons_succ])
        refine wpList_plain rfl fun K hK => ?_
        go_simp
        refine hK _ _ ?_
        clear hK K
        (try simp only [Act.put, List.setIfInBounds_toArray, List.set_cons_zero, List.set_cons_succ])
        refine wpList_plain rfl fun K hK => ?_
        go_simp
        refine hK _ _ ?_
        clear hK K
        (try simp only [Act.put, List.setIfInBounds_toArray, List.set_cons_zero, List.set_cons_succ])
        refine wpList_plain rfl fun K hK => ?_
        go_simp
        refine hK _ _ ?_
        clear hK K
        (try simp only [Act.put, List.setIfInBounds_toArray, List.set_cons_zero, List.set_cons_succ])
        refine wpList_step fun K hK => ?_
        refine (if_pos (by kernel_rfl)).mpr ?_
        go_simp
        refine hK _ _ ?_
        clear hK K
        (try simp only [Act.put, List.setIfInBounds_toArray, List.set_cons_zero, List.set_cons_succ])
        refine wpList_step fun K hK => ?_
        refine (if_pos (by kernel_rfl)).mpr ?_
        go_simp
        refine hK _ _ ?_
        clear hK K
        (try simp only [Act.put, List.setIfInBounds_toArray, List.set_cons_zero, List.set_cons_succ])
        refine wpList_step fun K hK => ?_
        refine (if_pos (by kernel_rfl)).mpr ?_
        go_simp
        refine hK _ _ ?_
        clear hK K
        (try simp only [Act.put, List.setIfInBounds_toArray, List.set_cons_zero, List.set_cons_succ])
        refine wpList_plain rfl fun K hK => ?_
        go_simp
        refine hK _ _ ?_
        clear hK K
        (try simp only [Act.put, List.setIfInBounds_toArray, List.set_cons_zero, List.set_cons_succ])
        refine wpList_plain rfl fun K hK => ?_
        go_simp
        refine hK _ _ ?_
        clear hK K
        (try simp only [Act.put, List.setIfInBounds_toArray, List.set_cons_zero, List.set_cons_succ])
        refine wpList_step fun K hK => ?_
        refine (if_pos (by kernel_rfl)).mpr ?_
        refine load_ag _ rfl w.heap.size a rfl H0.out.a ?_
        refine hK _ _ ?_
        clear hK K
        (try simp only [Act.put, List.setIfInBounds_toArray, List.set_cons_zero, List.set_cons_succ])
        refine wpList_step fun K hK => ?_
        refine (if_pos (by kernel_rfl)).mpr ?_
        go_simp
        ((with_reducible refine (kv _).mono ?_); rintro e1 w1 ⟨rfl, hb1⟩)
        refine hK _ _ ?_
        clear hK K
        (try simp only [Act.put, List.setIfInBounds_toArray, List.set_cons_zero, List.set_cons_succ])
        refine wpList_step fun K hK => ?_
        refine (if_pos (by kernel_rfl)).mpr ?_
        go_simp
        refine hK _ _ ?_
        clear hK K
        (try simp only [Act.put, List.setIfInBounds_toArray, List.set_cons_zero, List.set_cons_succ])
        refine wpList_plain rfl fun K hK => ?_
        go_simp
        refine hK _ _ ?_
        clear hK K
        (try simp only [Act.put, List.setIfInBounds_toArray, List.set_cons_zero, List.set_cons_succ])
        refine wpList_plain rfl fun K hK => ?_
        go_simp
        refine hK _ _ ?_
        clear hK K
        (try simp only [Act.put, List.setIfInBounds_toArray, List.set_cons_zero, List.set_cons_succ])
        refine wpList_step fun K hK => ?_
        refine (if_pos (by kernel_rfl)).mpr ?_
        refine load_ag _ rfl w.heap.size a rfl (H0.out.keep hb1).a ?_
        refine hK _ _ ?_
        clear hK K
        (try simp only [Act.put, List.setIfInBounds_toArray, List.set_cons_zero, List.set_cons_succ])
        refine wpList_step fun K hK => ?_
        refine (if_pos (by kernel_rfl)).mpr ?_
        go_simp
        ((with_reducible refine (kb _).mono ?_); rintro e2 w2 ⟨rfl, hb2⟩; have x6b := ((H0.out.keep hb1).keep hb2).a.cell 6 rfl; have x7b := ((H0.out.keep hb1).keep hb2).a.cell 7 rfl; have x8b := ((H0.out.keep hb1).keep hb2).a.cell 8 rfl)
        refine hK _ _ ?_
        clear hK K
        (try simp only [Act.put, List.setIfInBounds_toArray, List.set_cons_zero, List.set_cons_succ])
        refine wpList_step fun K hK => ?_
        refine (if_pos (by kernel_rfl)).mpr ?_
        go_simp
        refine hK _ _ ?_
        clear hK K
        (try simp only [Act.put, List.setIfInBounds_toArray, List.set_cons_zero, List.set_cons_succ])
        refine wpList_plain rfl fun K hK => ?_
        go_simp
        refine hK _ _ ?_
        clear hK K
        (try simp only [Act.put, List.setIfInBounds_toArray, List.set_cons_zero, List.set_cons_succ])
        refine wpList_plain rfl fun K hK => ?_
        go_simp
        refine hK _ _ ?_
        clear hK K
        (try simp only [Act.put, List.setIfInBounds_toArray, List.set_cons_zero, List.set_cons_succ])
        refine wpList_skip (by kernel_rfl) ?_
        refine wpList_skip (by kernel_rfl) ?_
        refine wpList_skip (by kernel_rfl) ?_
        refine wpList_skip (by kernel_rfl) ?_
        refine wpList_plain rfl fun K hK => ?_
        go_simp
        refine hK _ _ ?_
        clear hK K
        (try simp only [Act.put, List.setIfInBounds_toArray, List.set_cons_zero, List.set_cons_succ])
        refine wpList_nil ?_
        have H2 := Lib.hid ((H0.out.keep hb1).keep hb2)
        go_wp2
        go_ret
        exact ⟨rfl, H2.out.bel⟩
      | true =>
        have kb := fun W => buckets_is a true ha (by omega) (Lib.hid hb) W
        cases hs : a.st.ok with
        | false =>
          have ks := fun W => checkV a.st 1 (Lib.hid (by rw [st_err, hs]; rfl)) W
          obtain rfl : (1 : Int) = er := by rw [← he.out]; exact (errA_s hnz hs).symm
          clear hnz hz hv hb hs
          refine wpList_plain rfl fun K hK => ?_
          go_simp
          refine hK _ _ ?_
          clear hK K
          (try simp only [Act.put, List.setIfInBounds_toArray, List.set_cons_zero, List.set_cons_succ])
          refine wpList_plain rfl fun K hK => ?_
          go_simp
          refine hK _ _ ?_
          clear hK K
          (try simp only [Act.put, List.setIfInBounds_toArray, List.set_cons_zero, List.set_cons_succ])
          refine wpList_plain rfl fun K hK => ?_
          go_simp
          refine hK _ _ ?_
          clear hK K
          (try simp only [Act.put, List.setIfInBounds_toArray, List.set_cons_zero, List.set_cons_succ])
          refine wpList_plain rfl fun K hK => ?_
          go_simp
          refine hK _ _ ?_
          clear hK K
          (try simp only [Act.put, List.setIfInBounds_toArray, List.set_cons_zero, List.set_cons_succ])
          refine wpList_step fun K hK => ?_
          refine (if_pos (by kernel_rfl)).mpr ?_
          go_simp
          refine hK _ _ ?_
          clear hK K
          (try simp only [Act.put, List.setIfInBounds_toArray, List.set_cons_zero, List.set_cons_succ])
          refine wpList_step fun K hK => ?_
          refine (if_pos (by kernel_rfl)).mpr ?_
          go_simp
          refine hK _ _ ?_
          clear hK K
          (try simp only [Act.put, List.setIfInBounds_toArray, List.set_cons_zero, List.set_cons_succ])
          refine wpList_step fun K hK => ?_
          refine (if_pos (by kernel_rfl)).mpr ?_
          go_simp
          refine hK _ _ ?_
          clear hK K
          (try simp only [Act.put, List.setIfInBounds_toArray, List.set_cons_zero, List.set_cons_succ])
          refine wpList_plain rfl fun K hK => ?_
          go_simp
          refine hK _ _ ?_
          clear hK K
          (try simp only [Act.put, List.setIfInBounds_toArray, List.set_cons_zero, List.set_cons_succ])
          refine wpList_plain rfl fun K hK => ?_
          go_simp
          refine hK _ _ ?_
          clear hK K
          (try simp only [Act.put, List.setIfInBounds_toArray, List.set_cons_zero, List.set_cons_succ])
          refine wpList_step fun K hK => ?_
          refine (if_pos (by kernel_rfl)).mpr ?_
          refine load_ag _ rfl w.heap.size a rfl H0.out.a ?_
          refine hK _ _ ?_
          clear hK K
          (try simp only [Act.put, List.setIfInBounds_toArray, List.set_cons_zero, List.set_cons_succ])
          refine wpList_step fun K hK => ?_
          refine (if_pos (by kernel_rfl)).mpr ?_
          go_simp
          ((with_reducible refine (kv _).mono ?_); rintro e1 w1 ⟨rfl, hb1⟩)
          refine hK _ _ ?_
          clear hK K
          (try simp only [Act.put, List.setIfInBounds_toArray, List.set_cons_zero, List.set_cons_succ])
          refine wpList_step fun K hK => ?_
          refine (if_pos (by kernel_rfl)).mpr ?_
          go_simp
          refine hK _ _ ?_
          clear hK K
          (try simp only [Act.put, List.setIfInBounds_toArray, List.set_cons_zero, List.set_cons_succ])
          refine wpList_plain rfl fun K hK => ?_
          go_simp
          refine hK _ _ ?_
          clear hK K
          (try simp only [Act.put, List.setIfInBounds_toArray, List.set_cons_zero, List.set_cons_succ])
          refine wpList_plain rfl fun K hK => ?_
          go_simp
          refine hK _ _ ?_
          clear hK K
          (try simp only [Act.put, List.setIfInBounds_toArray, List.set_cons_zero, List.set_cons_succ])
          refine wpList_step fun K hK => ?_
          refine (if_pos (by kernel_rfl)).mpr ?_
          refine load_ag _ rfl w.heap.size a rfl (H0.out.keep hb1).a ?_
          refine hK _ _ ?_
          clear hK K
          (try simp only [Act.put, List.setIfInBounds_toArray, List.set_cons_zero, List.set_cons_succ])
          refine wpList_step fun K hK => ?_
          refine (if_pos (by kernel_rfl)).mpr ?_
          go_simp
          ((with_reducible refine (kb _).mono ?_); rintro e2 w2 ⟨rfl, hb2⟩; have x6b := ((H0.out.keep hb1).keep hb2).a.cell 6 rfl; have x7b := ((H0.out.keep hb1).keep hb2).a.cell 7 rfl; have x8b := ((H0.out.keep hb1).keep hb2).a.cell 8 rfl)
          refine hK _ _ ?_
          clear hK K
          (try simp only [Act.put, List.setIfInBounds_toArray, List.set_cons_zero, List.set_cons_succ])
          refine wpList_step fun K hK => ?_
          refine (if_pos (by kernel_rfl)).mpr ?_
          go_simp
          refine hK _ _ ?_
          clear hK K
          (try simp only [Act.put, List.setIfInBounds_toArray, List.set_cons_zero, List.set_cons_succ])
          refine wpList_plain rfl fun K hK => ?_
          go_simp
          refine hK _ _ ?_
          clear hK K
          (try simp only [Act.put, List.setIfInBounds_toArray, List.set_cons_zero, List.set_cons_succ])
          refine wpList_plain rfl fun K hK => ?_
          go_simp
          refine hK _ _ ?_
          clear hK K
          (try simp only [Act.put, List.setIfInBounds_toArray, List.set_cons_zero, List.set_cons_succ])
          refine wpList_step fun K hK => ?_
          refine (if_pos (by kernel_rfl)).mpr ?_
          go_simp
          refine hK _ _ ?_
          clear hK K
          (try simp only [Act.put, List.setIfInBounds_toArray, List.set_cons_zero, List.set_cons_succ])
          refine wpList_step fun K hK => ?_
          refine (if_pos (by kernel_rfl)).mpr ?_
          go_simp
          refine hK _ _ ?_
          clear hK K
          (try simp only [Act.put, List.setIfInBounds_toArray, List.set_cons_zero, List.set_cons_succ])
          refine wpList_step fun K hK => ?_
          refine (if_pos (by kernel_rfl)).mpr ?_
          go_simp
          ((with_reducible refine (ks _).mono ?_); rintro e3 w3 ⟨rfl, hb3⟩)
          refine hK _ _ ?_
          clear hK K
          (try simp only [Act.put, List.setIfInBounds_toArray, List.set_cons_zero, List.set_cons_succ])
          refine wpList_step fun K hK => ?_
          refine (if_pos (by kernel_rfl)).mpr ?_
          go_simp
          refine hK _ _ ?_
          clear hK K
          (try simp only [Act.put, List.setIfInBounds_toArray, List.set_cons_zero, List.set_cons_succ])
          refine wpList_plain rfl fun K hK => ?_
          go_simp
          refine hK _ _ ?_
          clear hK K
          (try simp only [Act.put, List.setIfInBounds_toArray, List.set_cons_zero, List.set_cons_succ])
          refine wpList_nil ?_
          have H3 := Lib.hid (((H0.out.keep hb1).keep hb2).keep hb3)
          go_wp2
          go_ret
          exact ⟨rfl, H3.out.bel⟩
        | true =>
          have ks := fun W => checkV a.st 0 (Lib.hid (by rw [st_err, hs]; rfl)) W
          obtain rfl : (0 : Int) = er := by rw [← he.out]; exact (errA_full hnz (by omega) (by omega) hv hb hs).symm
          clear hnz hz hv hb hs
          refine wpList_plain rfl fun K hK => ?_
          go_simp
          refine hK _ _ ?_
          clear hK K
          (try simp only [Act.put, List.setIfInBounds_toArray, List.set_cons_zero, List.set_cons_succ])
          refine wpList_plain rfl fun K hK => ?_
          go_simp
          refine hK _ _ ?_
          clear hK K
          (try simp only [Act.put, List.setIfInBounds_toArray, List.set_cons_zero, List.set_cons_succ])
          refine wpList_plain rfl fun K hK => ?_
          go_simp
          refine hK _ _ ?_
          clear hK K
          (try simp only [Act.put, List.setIfInBounds_toArray, List.set_cons_zero, List.set_cons_succ])
          refine wpList_plain rfl fun K hK => ?_
          go_simp
          refine hK _ _ ?_
          clear hK K
          (try simp only [Act.put, List.setIfInBounds_toArray, List.set_cons_zero, List.set_cons_succ])
          refine wpList_step fun K hK => ?_
          refine (if_pos (by kernel_rfl)).mpr ?_
          go_simp
          refine hK _ _ ?_
          clear hK K
          (try simp only [Act.put, List.setIfInBounds_toArray, List.set_cons_zero, List.set_cons_succ])
          refine wpList_step fun K hK => ?_
          refine (if_pos (by kernel_rfl)).mpr ?_
          go_simp
          refine hK _ _ ?_
          clear hK K
          (try simp only [Act.put, List.setIfInBounds_toArray, List.set_cons_zero, List.set_cons_succ])
          refine wpList_step fun K hK => ?_
          refine (if_pos (by kernel_rfl)).mpr ?_
          go_simp
          refine hK _ _ ?_
          clear hK K
          (try simp only [Act.put, List.setIfInBounds_toArray, List.set_cons_zero, List.set_cons_succ])
          refine wpList_plain rfl fun K hK => ?_
          go_simp
          refine hK _ _ ?_
          clear hK K
          (try simp only [Act.put, List.setIfInBounds_toArray, List.set_cons_zero, List.set_cons_succ])
          refine wpList_plain rfl fun K hK => ?_
          go_simp
          refine hK _ _ ?_
          clear hK K
          (try simp only [Act.put, List.setIfInBounds_toArray, List.set_cons_zero, List.set_cons_succ])
          refine wpList_step fun K hK => ?_
          refine (if_pos (by kernel_rfl)).mpr ?_
          refine load_ag _ rfl w.heap.size a rfl H0.out.a ?_
          refine hK _ _ ?_
          clear hK K
          (try simp only [Act.put, List.setIfInBounds_toArray, List.set_cons_zero, List.set_cons_succ])
          refine wpList_step fun K hK => ?_
          refine (if_pos (by kernel_rfl)).mpr ?_
          go_simp
          ((with_reducible refine (kv _).mono ?_); rintro e1 w1 ⟨rfl, hb1⟩)
          refine hK _ _ ?_
          clear hK K
          (try simp only [Act.put, List.setIfInBounds_toArray, List.set_cons_zero, List.set_cons_succ])
          refine wpList_step fun K hK => ?_
          refine (if_pos (by kernel_rfl)).mpr ?_
          go_simp
          refine hK _ _ ?_
          clear hK K
          (try simp only [Act.put, List.setIfInBounds_toArray, List.set_cons_zero, List.set_cons_succ])
          refine wpList_plain rfl fun K hK => ?_
          go_simp
          refine hK _ _ ?_
          clear hK K
          (try simp only [Act.put, List.setIfInBounds_toArray, List.set_cons_zero, List.set_cons_succ])
          refine wpList_plain rfl fun K hK => ?_
          go_simp
          refine hK _ _ ?_
          clear hK K
          (try simp only [Act.put, List.setIfInBounds_toArray, List.set_cons_zero, List.set_cons_succ])
          refine wpList_step fun K hK => ?_
          refine (if_pos (by kernel_rfl)).mpr ?_
          refine load_ag _ rfl w.heap.size a rfl (H0.out.keep hb1).a ?_
          refine hK _ _ ?_
          clear hK K
          (try simp only [Act.put, List.setIfInBounds_toArray, List.set_cons_zero, List.set_cons_succ])
          refine wpList_step fun K hK => ?_
          refine (if_pos (by kernel_rfl)).mpr ?_
          go_simp
          ((with_reducible refine (kb _).mono ?_); rintro e2 w2 ⟨rfl, hb2⟩; have x6b := ((H0.out.keep hb1).keep hb2).a.cell 6 rfl; have x7b := ((H0.out.keep hb1).keep hb2).a.cell 7 rfl; have x8b := ((H0.out.keep hb1).keep hb2).a.cell 8 rfl)
          refine hK _ _ ?_
          clear hK K
          (try simp only [Act.put, List.setIfInBounds_toArray, List.set_cons_zero, List.set_cons_succ])
          refine wpList_step fun K hK => ?_
          refine (if_pos (by kernel_rfl)).mpr ?_
          go_simp
          refine hK _ _ ?_
          clear hK K
          (try simp only [Act.put, List.setIfInBounds_toArray, List.set_cons_zero, List.set_cons_succ])
          refine wpList_plain rfl fun K hK => ?_
          go_simp
          refine hK _ _ ?_
          clear hK K
          (try simp only [Act.put, List.setIfInBounds_toArray, List.set_cons_zero, List.set_cons_succ])
          refine wpList_plain rfl fun K hK => ?_
          go_simp
          refine hK _ _ ?_
          clear hK K
          (try simp only [Act.put, List.setIfInBounds_toArray, List.set_cons_zero, List.set_cons_succ])
          refine wpList_step fun K hK => ?_
          refine (if_pos (by kernel_rfl)).mpr ?_
          go_simp
          refine hK _ _ ?_
          clear hK K
          (try simp only [Act.put, List.setIfInBounds_toArray, List.set_cons_zero, List.set_cons_succ])
          refine wpList_step fun K hK => ?_
          refine (if_pos (by kernel_rfl)).mpr ?_
          go_simp
          refine hK _ _ ?_
          clear hK K
          (try simp only [Act.put, List.setIfInBounds_toArray, List.set_cons_zero, List.set_cons_succ])
          refine wpList_step fun K hK => ?_
          refine (if_pos (by kernel_rfl)).mpr ?_
          go_simp
          ((with_reducible refine (ks _).mono ?_); rintro e3 w3 ⟨rfl, hb3⟩)
          refine hK _ _ ?_
          clear hK K
          (try simp only [Act.put, List.setIfInBounds_toArray, List.set_cons_zero, List.set_cons_succ])
          refine wpList_step fun K hK => ?_
          refine (if_pos (by kernel_rfl)).mpr ?_
          go_simp
          refine hK _ _ ?_
          clear hK K
          (try simp only [Act.put, List.setIfInBounds_toArray, List.set_cons_zero, List.set_cons_succ])
          refine wpList_plain rfl fun K hK => ?_
          go_simp
          refine hK _ _ ?_
          clear hK K
          (try simp only [Act.put, List.setIfInBounds_toArray, List.set_cons_zero, List.set_cons_succ])
          refine wpList_nil ?_
          have H3 := Lib.hid (((H0.out.keep hb1).keep hb2).keep hb3)
          go_wp2
          go_ret
          exact ⟨rfl, H3.out.bel⟩
end Go.Proofs.Ytipjhlabcbkgjaa.Ag
