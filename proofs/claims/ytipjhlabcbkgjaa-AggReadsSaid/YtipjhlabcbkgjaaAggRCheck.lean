/- Contract: the document's Check. -/
import Derived.Test.YtipjhlabcbkgjaaAggFits
import Derived.Test.YtipjhlabcbkgjaaMarkB
set_option maxRecDepth 20000
namespace Go.Proofs.Ytipjhlabcbkgjaa.Ag
open Go.RowKit Go.Proofs.Ytipjhlabcbkgjaa Go.Proofs.Ytipjhlabcbkgjaa.Wd Go.Proofs.Ytipjhlabcbkgjaa.Vi Go.Proofs.Ytipjhlabcbkgjaa.Mk

theorem neqAg_run (a b : Ag) (w : World) : (binOp .neq 29 (agV a) (agV b)).run Try.prog w = .ok (.bool (!decide (AgSame a b))) w := by
  have k := fun w => eqB9_run 9997 a.b b.b w
  unfold b9V at k
  unfold agV AgSame
  simp [go_sem, k]
  by_cases hB : B9 a.b b.b <;> simp [hB]
  all_goals (repeat' split) <;> simp_all
theorem guardAgN (x y : Operand) (a b : Ag) (w : World) : (eqGuard .neq 29 x y (agV a) (agV b)).run Try.prog w = .ok () w := run_eqGuard_agg w .neq _ x y _ _ noGuardAg
theorem same_b {a : Ag} (h : AgSame a Ag.zero) (k : Nat) (hk : k < 9) : a.b k = 0 := by
  obtain ⟨-, -, -, -, -, -, -, -, -, g0, g1, g2, g3, g4, g5, g6, g7, g8⟩ := h
  have hc : k = 0 ∨ k = 1 ∨ k = 2 ∨ k = 3 ∨ k = 4 ∨ k = 5 ∨ k = 6 ∨ k = 7 ∨ k = 8 := by omega
  rcases hc with rfl | rfl | rfl | rfl | rfl | rfl | rfl | rfl | rfl <;> assumption
theorem acc_same {a : Ag} (h : AgSame a Ag.zero) (k : Nat) (hk : k ≤ 9) : accB a.b k = 0 := by
  induction k with
  | zero => rfl
  | succ k ih => unfold accB; rw [ih (by omega), same_b h k (by omega)]; rfl
theorem acc_mono {f : Nat → Int} (h : ∀ i, i < 9 → 0 ≤ f i) (j k : Nat) (hjk : j ≤ k) (hk : k ≤ 9) : accB f j ≤ accB f k := by
  induction k with
  | zero =>
    have e : j = 0 := by omega
    rw [e]
    exact Int.le_refl _
  | succ k ih =>
    by_cases e : j = k + 1
    · rw [e]; exact Int.le_refl _
    · have h1 := ih (by omega) (by omega)
      have h2 := h k (by omega)
      show accB f j ≤ accB f k + f k
      omega
/-- a is nothing, or all of it is right. -/
def Right (a : Ag) (lo hi : Nat) : Prop := AgSame a Ag.zero ∨ (1 ≤ a.n ∧ a.n ≤ 1099511627776 ∧ (a.mn ≤ a.mx ∧ a.mn ≤ a.la ∧ a.la ≤ a.mx ∧ a.mn * a.n ≤ a.s ∧ a.s ≤ a.mx * a.n) ∧ (∀ i, i < 9 → 0 ≤ a.b i ∧ a.b i ≤ a.n ∧ (0 < a.b i → lo ≤ i ∧ i ≤ hi)) ∧ accB a.b 9 = a.n ∧ 0 < a.b lo ∧ 0 < a.b hi ∧ a.st.ok = true)
theorem right_iff {a : Ag} : okA a = true ↔ Right a (bk a.mn) (bk a.mx) := by
  unfold okA Right
  rw [Bool.or_eq_true, Bool.and_eq_true, Bool.and_eq_true, Bool.and_eq_true, bOk_iff, decide_eq_true_iff, decide_eq_true_iff]
  unfold vOk
  rw [decide_eq_true_iff]
  constructor
  · rintro (h | ⟨⟨h1, h2⟩, h3, ⟨h4, h5, h6, h7⟩, h8⟩)
    · exact Or.inl h
    · exact Or.inr ⟨h1, h2, h3, h4, h5, h6, h7, h8⟩
  · rintro (h | ⟨h1, h2, h3, h4, h5, h6, h7, h8⟩)
    · exact Or.inl h
    · exact Or.inr ⟨⟨h1, h2⟩, h3, ⟨h4, h5, h6, h7⟩, h8⟩
set_option maxHeartbeats 8000000 in
theorem rcheck8_is (a : Ag) (ha : a.fits) (er : Int) (he : Hid (errA a = er)) (w : World) : Calls Try.prog 24 #[agV a] w fun e w' => e = .returned (.int .i64 er) ∧ Below w.heap.size w w' := by
  have hN := HB.new w a
  simp only [cells18] at hN
  have HN := Lib.hid hN
  have qz := fun w => neqAg_run a Ag.zero w
  have gz := fun x y w => guardAgN x y a Ag.zero w
  rw [agV_zero] at qz gz
  obtain ⟨lo, hlo⟩ : ∃ k, bk a.mn = k := ⟨_, rfl⟩
  obtain ⟨hi, hhi⟩ : ∃ k, bk a.mx = k := ⟨_, rfl⟩
  have lo8 : lo ≤ 8 := by rw [← hlo]; exact bk_le _
  have hi8 : hi ≤ 8 := by rw [← hhi]; exact bk_le _
  have kb1 := fun W => rbucket_is a.mn W ha.mn lo (Lib.hid hlo)
  have kb2 := fun W => rbucket_is a.mx W ha.mx hi (Lib.hid hhi)
  have HNO := Lib.hid (show ¬ Right a lo hi → (1 : Int) = er from fun h => by rw [← hlo, ← hhi] at h; rw [← he.out]; unfold errA; rw [if_neg (fun c => h (right_iff.1 c))])
  have HYE := Lib.hid (show Right a lo hi → (0 : Int) = er from fun h => by rw [← hlo, ← hhi] at h; rw [← he.out]; unfold errA; rw [if_pos (right_iff.2 h)])
  clear hN hlo hhi he
  rw [show agV a = .agg #[.int .i64 a.n, .int .i64 (wh a.s), .int .u64 (wl a.s), .int .i64 a.mn, .int .i64 a.mx, .int .i64 a.la, .int .i64 a.st.c, .int .i64 a.st.s, .int .i64 a.st.q, .int .i64 (a.b 0), .int .i64 (a.b 1), .int .i64 (a.b 2), .int .i64 (a.b 3), .int .i64 (a.b 4), .int .i64 (a.b 5), .int .i64 (a.b 6), .int .i64 (a.b 7), .int .i64 (a.b 8)] from rfl]
  go_enter Try.func24, Try.ntmps24
  go_upto_region 1 with fail
  obtain ⟨w0, hw0, h0⟩ := HN.out.name
  rw [← hw0]
  have H0 := Lib.hid h0
  have x0 := h0.a.cell 0 rfl
  clear hw0 h0 HN
  by_cases n1 : a.n < 0
  · obtain rfl : (1 : Int) = er := HNO.out (by rintro (h | h); have := same_n h; omega; have := h.1; omega)
    go_wp2
    go_ret
    exact ⟨rfl, H0.out.bel⟩
  have n1d : decide (a.n < 0) = false := decide_eq_false n1
  by_cases n2 : 1099511627776 < a.n
  · obtain rfl : (1 : Int) = er := HNO.out (by rintro (h | h); have := same_n h; omega; have := h.2.1; omega)
    go_wp2
    go_ret
    exact ⟨rfl, H0.out.bel⟩
  have n2d : decide (1099511627776 < a.n) = false := decide_eq_false n2
  go_wp2
  clear x0
  go_loopw [3, 4] (fun s i wr => ∃ k : Nat, i = .int .i64 (k : Int) ∧ k ≤ 9 ∧ s = .int .i64 (accB a.b k) ∧ (∀ j, j < k → 0 ≤ a.b j ∧ a.b j ≤ a.n) ∧ accB a.b k ≤ a.n ∧ HB w a wr) (fun _ i _ => 9 - (intOf i).toNat)
  case atStart => exact ⟨0, rfl, by omega, rfl, fun j hj => by omega, by simp [accB]; omega, H0.out⟩
  case round =>
    obtain ⟨k, rfl, hk, rfl, hall, hsn, hR⟩ := hrel
    obtain ⟨w1, hw1⟩ : ∃ x, x = wr := ⟨_, rfl⟩
    subst hw1
    have H1 := Lib.hid hR
    have hacc := acc_bound' (f := a.b) (by omega : 0 ≤ a.n) k hk hall
    have HALL := Lib.hid hall
    clear hall hR H0
    have x0 := H1.out.a.cell 0 rfl
    by_cases hk9 : k < 9
    · have hki : (k : Int) < 9 := by omega
      have hk0 : 0 ≤ (k : Int) := by omega
      have hwk : IntKind.i64.wrap ((k : Int) + 1) = (k : Int) + 1 := by rw [IntKind.wrap_i64]; omega
      have c1 := H1.out.a.bucket k hk9
      obtain ⟨y, hy⟩ : ∃ y, a.b k = y := ⟨_, rfl⟩
      obtain ⟨s, hs⟩ : ∃ s, accB a.b k = s := ⟨_, rfl⟩
      rw [hy] at c1
      have c1' := c1
      rw [Nat.add_comm] at c1'
      rw [hs] at hacc hsn ⊢
      have HY := Lib.hid (And.intro hy hs)
      have hws : IntKind.i64.wrap (a.n - s) = a.n - s := by rw [IntKind.wrap_i64]; omega
      clear hy hs
      go_upto_region 7 with fail
      by_cases b1 : y < 0
      · have d1 : decide (y < 0) = true := decide_eq_true b1
        obtain rfl : (1 : Int) = er := HNO.out (by
          obtain ⟨q1, q2⟩ := HY.out
          rintro (h | h)
          · have := same_b h k hk9; omega
          · have := (h.2.2.2.1 k hk9).1; omega)
        go_quiet (fail)
        go_wp2
        go_ret
        exact ⟨rfl, by have hb := H1.out.bel; (repeat (first | exact Below.refl _ _ | refine Below.drew ?_ | refine below_drewN ?_ _ | (refine Below.setCell ?_ (by simp; try omega) _) | (refine below_new ?_ _ (by simp; try omega)) | (refine below_on ?_ (by assumption)) | (refine below_next ?_ (by assumption) (by simp; try omega)) | assumption))⟩
      have d1 : decide (y < 0) = false := decide_eq_false b1
      by_cases b2 : a.n - s < y
      · have d2 : decide (a.n - s < y) = true := decide_eq_true b2
        obtain rfl : (1 : Int) = er := HNO.out (by
          obtain ⟨q1, q2⟩ := HY.out
          rintro (h | h)
          · have h1 := same_b h k hk9; have h2 := acc_same h k hk; have h3 := same_n h; omega
          · have h1 : accB a.b k + a.b k ≤ accB a.b 9 := acc_mono (fun i hi => (h.2.2.2.1 i hi).1) (k + 1) 9 (by omega) (by omega)
            have h2 := h.2.2.2.2.1
            omega)
        go_quiet (fail)
        go_wp2
        go_ret
        exact ⟨rfl, by have hb := H1.out.bel; (repeat (first | exact Below.refl _ _ | refine Below.drew ?_ | refine below_drewN ?_ _ | (refine Below.setCell ?_ (by simp; try omega) _) | (refine below_new ?_ _ (by simp; try omega)) | (refine below_on ?_ (by assumption)) | (refine below_next ?_ (by assumption) (by simp; try omega)) | assumption))⟩
      have d2 : decide (a.n - s < y) = false := decide_eq_false b2
      have hwy : IntKind.i64.wrap (s + y) = s + y := by rw [IntKind.wrap_i64]; omega
      go_quiet (fail)
      have hHd := H1.out.keep (show Below w1.heap.size w1 (w1.drewN nq) by (repeat (first | exact Below.refl _ _ | refine Below.drew ?_ | refine below_drewN ?_ _ | (refine Below.setCell ?_ (by simp; try omega) _) | (refine below_new ?_ _ (by simp; try omega)) | (refine below_on ?_ (by assumption)) | (refine below_next ?_ (by assumption) (by simp; try omega)) | assumption)))
      obtain ⟨w2, hw2⟩ : ∃ x, x = w1.drewN nq := ⟨_, rfl⟩
      rw [← hw2] at hHd ⊢
      have H2 := Lib.hid hHd
      clear hw2 hHd c1 c1' x0
      have c1 := H2.out.a.bucket k hk9
      rw [HY.out.1] at c1
      have c1' := c1
      rw [Nat.add_comm] at c1'
      go_wp2
      go_roundw
      case rel => exact ⟨k + 1, by go_num, by omega, by obtain ⟨q1, q2⟩ := HY.out; unfold accB; rw [q1, q2], fun j hj => by
        by_cases e : j = k
        · rw [e]; obtain ⟨q1, q2⟩ := HY.out; omega
        · exact HALL.out j (by omega), by obtain ⟨q1, q2⟩ := HY.out; unfold accB; omega, H2.out⟩
      case measure => simp [intOf]; omega
    · obtain rfl : k = 9 := by omega
      obtain ⟨s, hs⟩ : ∃ s, accB a.b 9 = s := ⟨_, rfl⟩
      rw [hs]
      have HS := Lib.hid hs
      clear hs hacc hsn hk hk9
      by_cases b1 : s = a.n
      · have d1 : (s != a.n) = false := by simpa using b1
        by_cases b2 : a.n = 0
        · have d2 : (a.n == 0) = true := by simpa using b2
          clear b1
          go_upto_region 13 with fail
          refine wp_region_lit ?_
          refine wpList_plain rfl fun K hK => ?_
          refine load_ag _ rfl w.heap.size a rfl H1.out.a ?_
          refine hK _ _ ?_
          clear hK K
          (try simp only [Act.put, List.setIfInBounds_toArray, List.set_cons_zero, List.set_cons_succ])
          refine wpList_plain rfl fun K hK => ?_
          go_simp
          refine hK _ _ ?_
          clear hK K
          (try simp only [Act.put, List.setIfInBounds_toArray, List.set_cons_zero, List.set_cons_succ])
          by_cases hz : AgSame a Ag.zero
          · obtain rfl : (0 : Int) = er := HYE.out (Or.inl hz)
            rw [decide_eq_true hz] at qz
            refine wpList_plain rfl fun K hK => ?_
            go_simp
            refine hK _ _ ?_
            clear hK K
            (try simp only [Act.put, List.setIfInBounds_toArray, List.set_cons_zero, List.set_cons_succ])
            refine wpList_nil ?_
            go_wp2
            go_ret
            exact ⟨rfl, H1.out.bel⟩
          · obtain rfl : (1 : Int) = er := HNO.out (by rintro (h | h); exact hz h; have := h.1; omega)
            rw [decide_eq_false hz] at qz
            refine wpList_plain rfl fun K hK => ?_
            go_simp
            refine hK _ _ ?_
            clear hK K
            (try simp only [Act.put, List.setIfInBounds_toArray, List.set_cons_zero, List.set_cons_succ])
            refine wpList_nil ?_
            go_wp2
            go_ret
            exact ⟨rfl, H1.out.bel⟩
        · have d2 : (a.n == 0) = false := by simpa using b2
          have HNZ := Lib.hid (show ¬ AgSame a Ag.zero from fun h => b2 (same_n h))
          have HSN := Lib.hid b1
          have HN0 := Lib.hid b2
          clear b1 b2 qz gz
          go_upto_region 16 with fail
          clear x0 d1 d2
          have x3 := H1.out.a.cell 3 rfl
          have x4 := H1.out.a.cell 4 rfl
          have x5 := H1.out.a.cell 5 rfl
          have x6 := H1.out.a.cell 6 rfl
          have x7 := H1.out.a.cell 7 rfl
          have x8 := H1.out.a.cell 8 rfl
          by_cases m1 : a.mx < a.mn
          · obtain rfl : (1 : Int) = er := HNO.out (by rintro (h | h); exact HNZ.out h; have := h.2.2.1; omega)
            go_wp2
            go_ret
            exact ⟨rfl, H1.out.bel⟩
          have e1 : decide (a.mx < a.mn) = false := decide_eq_false m1
          by_cases m2 : a.la < a.mn
          · obtain rfl : (1 : Int) = er := HNO.out (by rintro (h | h); exact HNZ.out h; have := h.2.2.1; omega)
            go_wp2
            go_ret
            exact ⟨rfl, H1.out.bel⟩
          have e2 : decide (a.la < a.mn) = false := decide_eq_false m2
          by_cases m3 : a.mx < a.la
          · obtain rfl : (1 : Int) = er := HNO.out (by rintro (h | h); exact HNZ.out h; have := h.2.2.1; omega)
            go_wp2
            go_ret
            exact ⟨rfl, H1.out.bel⟩
          have e3 : decide (a.mx < a.la) = false := decide_eq_false m3
          cases hst : a.st.ok with
          | false =>
            have ks := fun W => rcheckV a.st 1 (Lib.hid (by rw [st_err, hst]; rfl)) W
            obtain rfl : (1 : Int) = er := HNO.out (by rintro (h | h); exact HNZ.out h; have h8 := h.2.2.2.2.2.2.2; rw [hst] at h8; cases h8)
            clear hst
            go_wp2_with (go_at_call 50; (with_reducible refine (ks _).mono ?_); rintro e4 w4 ⟨rfl, hb4⟩; (have H4 := Lib.hid (H1.out.keep hb4)); clear hb4)
            go_ret
            exact ⟨rfl, H4.out.bel⟩
          | true =>
            have ks := fun W => rcheckV a.st 0 (Lib.hid (by rw [st_err, hst]; rfl)) W
            have HST := Lib.hid hst
            clear hst
            go_upto_region 18 with (go_at_call 50; (with_reducible refine (ks _).mono ?_); rintro e4 w4 ⟨rfl, hb4⟩; (have H4 := Lib.hid (H1.out.keep hb4)); clear hb4)
            clear x3 x4 x5 x6 x7 x8 ks e1 e2 e3
            have x3 := H4.out.a.cell 3 rfl
            have x4 := H4.out.a.cell 4 rfl
            go_wp2_with (go_at_call 13; first
              | ((with_reducible refine (kb1 _).mono ?_); rintro e5 w5 ⟨rfl, rfl⟩)
              | ((with_reducible refine (kb2 _).mono ?_); rintro e5 w5 ⟨rfl, rfl⟩))
            clear x3 x4 kb1 kb2
            go_loopw [7] (fun i wr => ∃ k : Nat, i = .int .i64 (k : Int) ∧ k ≤ 9 ∧ (∀ j, j < k → (0 < a.b j → lo ≤ j ∧ j ≤ hi) ∧ (j = lo ∨ j = hi → a.b j ≠ 0)) ∧ w4 = wr) (fun i _ => 9 - (intOf i).toNat)
            case atStart => exact ⟨0, rfl, by omega, fun j hj => by omega, rfl⟩
            case round =>
              obtain ⟨k, rfl, hk, hall2, hwr⟩ := hrel
              subst hwr
              have HAL2 := Lib.hid hall2
              clear hall2
              by_cases hk9 : k < 9
              · have hki : (k : Int) < 9 := by omega
                have hk0 : 0 ≤ (k : Int) := by omega
                have hwk : IntKind.i64.wrap ((k : Int) + 1) = (k : Int) + 1 := by rw [IntKind.wrap_i64]; omega
                have c1 := H4.out.a.bucket k hk9
                have hy0 := (HALL.out k hk9).1
                obtain ⟨y, hy⟩ : ∃ y, a.b k = y := ⟨_, rfl⟩
                rw [hy] at c1 hy0
                have c1' := c1
                rw [Nat.add_comm] at c1'
                have HY := Lib.hid hy
                have HERR := Lib.hid (show ¬ ((0 < y → lo ≤ k ∧ k ≤ hi) ∧ (k = lo ∨ k = hi → y ≠ 0)) → (1 : Int) = er from fun hc => HNO.out (by
                  rintro (h | h)
                  · exact HNZ.out h
                  · refine hc ⟨fun hp => (h.2.2.2.1 k hk9).2.2 (by omega), fun hp => ?_⟩
                    have h6 := h.2.2.2.2.2.1
                    have h7 := h.2.2.2.2.2.2.1
                    rcases hp with e | e
                    · rw [← e, hy] at h6; omega
                    · rw [← e, hy] at h7; omega))
                clear hy
                by_cases A : k < lo
                · have dA : decide ((k : Int) < (lo : Int)) = true := decide_eq_true (by omega)
                  by_cases C : 0 < y
                  · have dC : decide (0 < y) = true := decide_eq_true C
                    obtain rfl : (1 : Int) = er := HERR.out (fun hc => by first | (have := hc.1 C; omega) | exact hc.2 (by omega) (by omega))
                    try clear D
                    try clear E
                    try clear F
                    go_wp2
                    go_ret
                    exact ⟨rfl, H4.out.bel⟩
                  · have dC : decide (0 < y) = false := decide_eq_false C
                    have dD : ((k : Int) == (lo : Int)) = false := by simp; omega
                    have dF : (y == 0) = true := by simp; omega
                    by_cases E : k = hi
                    · have dE : ((k : Int) == (hi : Int)) = true := by simp; omega
                      obtain rfl : (1 : Int) = er := HERR.out (fun hc => by first | (have := hc.1 C; omega) | exact hc.2 (by omega) (by omega))
                      try clear D
                      try clear E
                      try clear F
                      go_wp2
                      go_ret
                      exact ⟨rfl, H4.out.bel⟩
                    · have dE : ((k : Int) == (hi : Int)) = false := by simp; omega
                      have HNX := Lib.hid (show (0 < y → lo ≤ k ∧ k ≤ hi) ∧ (k = lo ∨ k = hi → y ≠ 0) from ⟨fun h => by omega, fun h => by omega⟩)
                      try clear D
                      try clear E
                      try clear F
                      go_wp2
                      go_roundw
                      case rel => exact ⟨k + 1, by go_num, by omega, fun j hj => by
                        by_cases e : j = k
                        · rw [e, HY.out]; exact HNX.out
                        · exact HAL2.out j (by omega), trivial⟩
                      case measure => simp [intOf]; omega
                · have dA : decide ((k : Int) < (lo : Int)) = false := decide_eq_false (by omega)
                  by_cases B : hi < k
                  · have dB : decide ((hi : Int) < (k : Int)) = true := decide_eq_true (by omega)
                    by_cases C : 0 < y
                    · have dC : decide (0 < y) = true := decide_eq_true C
                      obtain rfl : (1 : Int) = er := HERR.out (fun hc => by first | (have := hc.1 C; omega) | exact hc.2 (by omega) (by omega))
                      try clear D
                      try clear E
                      try clear F
                      go_wp2
                      go_ret
                      exact ⟨rfl, H4.out.bel⟩
                    · have dC : decide (0 < y) = false := decide_eq_false C
                      have dF : (y == 0) = true := by simp; omega
                      have dE : ((k : Int) == (hi : Int)) = false := by simp; omega
                      by_cases D : k = lo
                      · have dD : ((k : Int) == (lo : Int)) = true := by simp; omega
                        obtain rfl : (1 : Int) = er := HERR.out (fun hc => by first | (have := hc.1 C; omega) | exact hc.2 (by omega) (by omega))
                        try clear D
                        try clear E
                        try clear F
                        go_wp2
                        go_ret
                        exact ⟨rfl, H4.out.bel⟩
                      · have dD : ((k : Int) == (lo : Int)) = false := by simp; omega
                        have HNX := Lib.hid (show (0 < y → lo ≤ k ∧ k ≤ hi) ∧ (k = lo ∨ k = hi → y ≠ 0) from ⟨fun h => by omega, fun h => by omega⟩)
                        try clear D
                        try clear E
                        try clear F
                        go_wp2
                        go_roundw
                        case rel => exact ⟨k + 1, by go_num, by omega, fun j hj => by
                          by_cases e : j = k
                          · rw [e, HY.out]; exact HNX.out
                          · exact HAL2.out j (by omega), trivial⟩
                        case measure => simp [intOf]; omega
                  · have dB : decide ((hi : Int) < (k : Int)) = false := decide_eq_false (by omega)
                    by_cases D : k = lo
                    · have dD : ((k : Int) == (lo : Int)) = true := by simp; omega
                      by_cases F : y = 0
                      · have dF : (y == 0) = true := by simp; omega
                        obtain rfl : (1 : Int) = er := HERR.out (fun hc => by first | (have := hc.1 C; omega) | exact hc.2 (by omega) (by omega))
                        try clear D
                        try clear E
                        try clear F
                        go_wp2
                        go_ret
                        exact ⟨rfl, H4.out.bel⟩
                      · have dF : (y == 0) = false := by simp; omega
                        have HNX := Lib.hid (show (0 < y → lo ≤ k ∧ k ≤ hi) ∧ (k = lo ∨ k = hi → y ≠ 0) from ⟨fun h => by omega, fun h => by omega⟩)
                        try clear D
                        try clear E
                        try clear F
                        go_wp2
                        go_roundw
                        case rel => exact ⟨k + 1, by go_num, by omega, fun j hj => by
                          by_cases e : j = k
                          · rw [e, HY.out]; exact HNX.out
                          · exact HAL2.out j (by omega), trivial⟩
                        case measure => simp [intOf]; omega
                    · have dD : ((k : Int) == (lo : Int)) = false := by simp; omega
                      by_cases E : k = hi
                      · have dE : ((k : Int) == (hi : Int)) = true := by simp; omega
                        by_cases F : y = 0
                        · have dF : (y == 0) = true := by simp; omega
                          obtain rfl : (1 : Int) = er := HERR.out (fun hc => by first | (have := hc.1 C; omega) | exact hc.2 (by omega) (by omega))
                          try clear D
                          try clear E
                          try clear F
                          go_wp2
                          go_ret
                          exact ⟨rfl, H4.out.bel⟩
                        · have dF : (y == 0) = false := by simp; omega
                          have HNX := Lib.hid (show (0 < y → lo ≤ k ∧ k ≤ hi) ∧ (k = lo ∨ k = hi → y ≠ 0) from ⟨fun h => by omega, fun h => by omega⟩)
                          try clear D
                          try clear E
                          try clear F
                          go_wp2
                          go_roundw
                          case rel => exact ⟨k + 1, by go_num, by omega, fun j hj => by
                            by_cases e : j = k
                            · rw [e, HY.out]; exact HNX.out
                            · exact HAL2.out j (by omega), trivial⟩
                          case measure => simp [intOf]; omega
                      · have dE : ((k : Int) == (hi : Int)) = false := by simp; omega
                        have HNX := Lib.hid (show (0 < y → lo ≤ k ∧ k ≤ hi) ∧ (k = lo ∨ k = hi → y ≠ 0) from ⟨fun h => by omega, fun h => by omega⟩)
                        try clear D
                        try clear E
                        try clear F
                        go_wp2
                        go_roundw
                        case rel => exact ⟨k + 1, by go_num, by omega, fun j hj => by
                          by_cases e : j = k
                          · rw [e, HY.out]; exact HNX.out
                          · exact HAL2.out j (by omega), trivial⟩
                        case measure => simp [intOf]; omega
              · obtain rfl : k = 9 := by omega
                obtain ⟨X, hX⟩ : ∃ X, a.mn * a.n = X := ⟨_, rfl⟩
                obtain ⟨Y, hY⟩ : ∃ Y, a.mx * a.n = Y := ⟨_, rfl⟩
                have hnn : 0 ≤ a.n ∧ a.n ≤ 1099511627776 := by omega
                have iX := mul_inW ha.mn hnn
                have iY := mul_inW ha.mx hnn
                have kx := fun W => rtimes_is a.mn a.n W ha.mn hnn
                have ky := fun W => rtimes_is a.mx a.n W ha.mx hnn
                rw [hX] at iX kx
                rw [hY] at iY ky
                obtain ⟨c1, hc1⟩ : ∃ c, cmp X a.s = c := ⟨_, rfl⟩
                obtain ⟨c2, hc2⟩ : ∃ c, cmp Y a.s = c := ⟨_, rfl⟩
                have k1 := fun W => refCmp_any (wh X) (wl X) (wh a.s) (wl a.s) X a.s c1 W (wrep iX) (wrep ha.s) (Lib.hid hc1)
                have k2 := fun W => refCmp_any (wh Y) (wl Y) (wh a.s) (wl a.s) Y a.s c2 W (wrep iY) (wrep ha.s) (Lib.hid hc2)
                have e1 := cmp_pos hc1
                have e2 := cmp_neg hc2
                have HE := Lib.hid (And.intro e1 (And.intro e2 (And.intro hX hY)))
                have HM := Lib.hid (And.intro m1 (And.intro m2 m3))
                have hn1 : 1 ≤ a.n := by have := HN0.out; omega
                clear hX hY hc1 hc2 e1 e2 iX iY m1 m2 m3 hk hk9
                go_upto_region 25 with fail
                by_cases q1 : 0 < c1
                · have f1 : decide (0 < c1) = true := decide_eq_true q1
                  obtain rfl : (1 : Int) = er := HNO.out (by
                    obtain ⟨g1, g2, g3, g4⟩ := HE.out
                    rintro (h | h)
                    · exact HNZ.out h
                    · have := h.2.2.1; rw [g3, g4] at this; omega)
                  clear q1
                  refine wp_region_held_drew (S := (HB w a)) (by kernel_rfl) H4.out.drew (fun hHeld => ?_)
                  refine wpAnyH_take (i := 0) (oi := ?o1o) (v := ?o1v) ?o1h (by kernel_rfl) (by kernel_rfl) (by kernel_rfl) ?o1q ?o1y hHeld ?o1r
                  case o1h => (simp only [List.getElem?_toArray, List.getElem?_cons_zero]; rfl)
                  case o1q => exact fun _ _ _ h => h
                  case o1y => (refine Or.inl ⟨by first | kernel_rfl | rfl, ?_⟩; intro w hSw; (try dsimp only at hSw); have y0 := hSw.a.cell 0 rfl; have y1 := hSw.a.cell 1 rfl; have y2 := hSw.a.cell 2 rfl; have y3 := hSw.a.cell 3 rfl; have y4 := hSw.a.cell 4 rfl; go_simp <;> (try with_reducible rfl))
                  try simp only [Act.put, List.setIfInBounds_toArray, List.set_cons_zero, List.set_cons_succ]
                  refine wpAnyH_take (i := 1) (oi := ?o2o) (v := ?o2v) ?o2h (by kernel_rfl) (by kernel_rfl) (by kernel_rfl) ?o2q ?o2y hHeld ?o2r
                  case o2h => (simp only [List.getElem?_toArray, List.getElem?_cons_succ, List.getElem?_cons_zero]; rfl)
                  case o2q => exact fun _ _ _ h => h
                  case o2y => (refine Or.inl ⟨by first | kernel_rfl | rfl, ?_⟩; intro w hSw; (try dsimp only at hSw); have y0 := hSw.a.cell 0 rfl; have y1 := hSw.a.cell 1 rfl; have y2 := hSw.a.cell 2 rfl; have y3 := hSw.a.cell 3 rfl; have y4 := hSw.a.cell 4 rfl; go_simp <;> (try with_reducible rfl))
                  try simp only [Act.put, List.setIfInBounds_toArray, List.set_cons_zero, List.set_cons_succ]
                  refine wpAnyH_take (i := 2) (oi := ?o3o) (v := ?o3v) ?o3h (by kernel_rfl) (by kernel_rfl) (by kernel_rfl) ?o3q ?o3y hHeld ?o3r
                  case o3h => (simp only [List.getElem?_toArray, List.getElem?_cons_succ, List.getElem?_cons_zero]; rfl)
                  case o3q => exact fun _ _ _ h => h
                  case o3y => (refine Or.inl ⟨by first | kernel_rfl | rfl, ?_⟩; intro w hSw; (try dsimp only at hSw); have y0 := hSw.a.cell 0 rfl; have y1 := hSw.a.cell 1 rfl; have y2 := hSw.a.cell 2 rfl; have y3 := hSw.a.cell 3 rfl; have y4 := hSw.a.cell 4 rfl; go_simp <;> (try with_reducible rfl))
                  try simp only [Act.put, List.setIfInBounds_toArray, List.set_cons_zero, List.set_cons_succ]
                  refine wpAnyH_take (i := 3) (oi := ?o4o) (v := ?o4v) ?o4h (by kernel_rfl) (by kernel_rfl) (by kernel_rfl) ?o4q ?o4y hHeld ?o4r
                  case o4h => (simp only [List.getElem?_toArray, List.getElem?_cons_succ, List.getElem?_cons_zero]; rfl)
                  case o4q => exact fun _ _ _ h => h
                  case o4y => (refine Or.inl ⟨by first | kernel_rfl | rfl, ?_⟩; intro w hSw; (try dsimp only at hSw); have y0 := hSw.a.cell 0 rfl; have y1 := hSw.a.cell 1 rfl; have y2 := hSw.a.cell 2 rfl; have y3 := hSw.a.cell 3 rfl; have y4 := hSw.a.cell 4 rfl; go_simp <;> (try with_reducible rfl))
                  try simp only [Act.put, List.setIfInBounds_toArray, List.set_cons_zero, List.set_cons_succ]
                  refine wpAnyH_take (i := 5) (oi := ?o5o) (v := ?o5v) ?o5h (by kernel_rfl) (by kernel_rfl) (by kernel_rfl) ?o5q ?o5y hHeld ?o5r
                  case o5h => (simp only [List.getElem?_toArray, List.getElem?_cons_succ, List.getElem?_cons_zero]; rfl)
                  case o5q => exact fun _ _ _ h => h
                  case o5y => (refine Or.inl ⟨by first | kernel_rfl | rfl, ?_⟩; intro w hSw; (try dsimp only at hSw); have y0 := hSw.a.cell 0 rfl; have y1 := hSw.a.cell 1 rfl; have y2 := hSw.a.cell 2 rfl; have y3 := hSw.a.cell 3 rfl; have y4 := hSw.a.cell 4 rfl; go_simp <;> (try with_reducible rfl))
                  try simp only [Act.put, List.setIfInBounds_toArray, List.set_cons_zero, List.set_cons_succ]
                  refine wpAnyH_take (i := 6) (oi := ?o6o) (v := ?o6v) ?o6h (by kernel_rfl) (by kernel_rfl) (by kernel_rfl) ?o6q ?o6y hHeld ?o6r
                  case o6h => (simp only [List.getElem?_toArray, List.getElem?_cons_succ, List.getElem?_cons_zero]; rfl)
                  case o6q => exact fun _ _ _ h => h
                  case o6y => (refine Or.inl ⟨by first | kernel_rfl | rfl, ?_⟩; intro w hSw; (try dsimp only at hSw); have y0 := hSw.a.cell 0 rfl; have y1 := hSw.a.cell 1 rfl; have y2 := hSw.a.cell 2 rfl; have y3 := hSw.a.cell 3 rfl; have y4 := hSw.a.cell 4 rfl; go_simp <;> (try with_reducible rfl))
                  try simp only [Act.put, List.setIfInBounds_toArray, List.set_cons_zero, List.set_cons_succ]
                  refine wpAnyH_ready (rs := [4]) (by kernel_rfl) (by simp) ?_
                  refine (AllReadyH.cons rfl (fun K hK => ?_) AllReadyH.nil)
                  go_simp
                  ((with_reducible refine (kx _).mono ?_); rintro e2 w7 ⟨rfl, hb⟩; (have H7 := Lib.hid (hHeld.keep hb)); clear hb)
                  refine hK.out _ _ (H7.out) (fun hHeld => ?_)
                  clear hK K
                  try simp only [Act.put, List.setIfInBounds_toArray, List.set_cons_zero, List.set_cons_succ]
                  refine wpAnyH_ready (rs := [7]) (by kernel_rfl) (by simp) ?_
                  refine (AllReadyH.cons rfl (fun K hK => ?_) AllReadyH.nil)
                  go_simp
                  ((with_reducible refine (k1 _).mono ?_); rintro e2 w7 ⟨rfl, hb⟩; (have H7 := Lib.hid (hHeld.keep hb)); clear hb)
                  refine hK.out _ _ (H7.out) (fun hHeld => ?_)
                  clear hK K
                  try simp only [Act.put, List.setIfInBounds_toArray, List.set_cons_zero, List.set_cons_succ]
                  refine wpAnyH_take (i := 8) (oi := ?o7o) (v := ?o7v) ?o7h (by kernel_rfl) (by kernel_rfl) (by kernel_rfl) ?o7q ?o7y hHeld ?o7r
                  case o7h => (simp only [List.getElem?_toArray, List.getElem?_cons_succ, List.getElem?_cons_zero]; rfl)
                  case o7q => exact fun _ _ _ h => h
                  case o7y => (refine Or.inl ⟨by first | kernel_rfl | rfl, ?_⟩; intro w hSw; (try dsimp only at hSw); have y0 := hSw.a.cell 0 rfl; have y1 := hSw.a.cell 1 rfl; have y2 := hSw.a.cell 2 rfl; have y3 := hSw.a.cell 3 rfl; have y4 := hSw.a.cell 4 rfl; go_simp <;> (try with_reducible rfl))
                  try simp only [Act.put, List.setIfInBounds_toArray, List.set_cons_zero, List.set_cons_succ]
                  refine wpAnyH_take (i := 9) (oi := ?o8o) (v := ?o8v) ?o8h (by kernel_rfl) (by kernel_rfl) (by kernel_rfl) ?o8q ?o8y hHeld ?o8r
                  case o8h => (simp only [List.getElem?_toArray, List.getElem?_cons_succ, List.getElem?_cons_zero]; rfl)
                  case o8q => exact fun _ _ _ h => h
                  case o8y => (refine Or.inl ⟨by first | kernel_rfl | rfl, ?_⟩; intro w hSw; (try dsimp only at hSw); have y0 := hSw.a.cell 0 rfl; have y1 := hSw.a.cell 1 rfl; have y2 := hSw.a.cell 2 rfl; have y3 := hSw.a.cell 3 rfl; have y4 := hSw.a.cell 4 rfl; go_simp <;> (try with_reducible rfl))
                  try simp only [Act.put, List.setIfInBounds_toArray, List.set_cons_zero, List.set_cons_succ]
                  refine wpAnyH_take (i := 10) (oi := ?o9o) (v := undef) ?o9h (by kernel_rfl) (by kernel_rfl) (by kernel_rfl) ?o9q ?o9y hHeld ?o9r
                  case o9h => (simp only [List.getElem?_toArray, List.getElem?_cons_succ, List.getElem?_cons_zero]; rfl)
                  case o9q => exact fun _ _ _ h => h
                  case o9y => exact Or.inr ⟨by first | kernel_rfl | rfl, rfl⟩
                  try simp only [Act.put, List.setIfInBounds_toArray, List.set_cons_zero, List.set_cons_succ]
                  refine wpAnyH_take (i := 11) (oi := ?o10o) (v := undef) ?o10h (by kernel_rfl) (by kernel_rfl) (by kernel_rfl) ?o10q ?o10y hHeld ?o10r
                  case o10h => (simp only [List.getElem?_toArray, List.getElem?_cons_succ, List.getElem?_cons_zero]; rfl)
                  case o10q => exact fun _ _ _ h => h
                  case o10y => exact Or.inr ⟨by first | kernel_rfl | rfl, rfl⟩
                  try simp only [Act.put, List.setIfInBounds_toArray, List.set_cons_zero, List.set_cons_succ]
                  refine wpAnyH_take (i := 12) (oi := ?o11o) (v := undef) ?o11h (by kernel_rfl) (by kernel_rfl) (by kernel_rfl) ?o11q ?o11y hHeld ?o11r
                  case o11h => (simp only [List.getElem?_toArray, List.getElem?_cons_succ, List.getElem?_cons_zero]; rfl)
                  case o11q => exact fun _ _ _ h => h
                  case o11y => exact Or.inr ⟨by first | kernel_rfl | rfl, rfl⟩
                  try simp only [Act.put, List.setIfInBounds_toArray, List.set_cons_zero, List.set_cons_succ]
                  refine wpAnyH_take (i := 13) (oi := ?o12o) (v := undef) ?o12h (by kernel_rfl) (by kernel_rfl) (by kernel_rfl) ?o12q ?o12y hHeld ?o12r
                  case o12h => (simp only [List.getElem?_toArray, List.getElem?_cons_succ, List.getElem?_cons_zero]; rfl)
                  case o12q => exact fun _ _ _ h => h
                  case o12y => exact Or.inr ⟨by first | kernel_rfl | rfl, rfl⟩
                  try simp only [Act.put, List.setIfInBounds_toArray, List.set_cons_zero, List.set_cons_succ]
                  refine wpAnyH_take (i := 14) (oi := ?o13o) (v := undef) ?o13h (by kernel_rfl) (by kernel_rfl) (by kernel_rfl) ?o13q ?o13y hHeld ?o13r
                  case o13h => (simp only [List.getElem?_toArray, List.getElem?_cons_succ, List.getElem?_cons_zero]; rfl)
                  case o13q => exact fun _ _ _ h => h
                  case o13y => exact Or.inr ⟨by first | kernel_rfl | rfl, rfl⟩
                  try simp only [Act.put, List.setIfInBounds_toArray, List.set_cons_zero, List.set_cons_succ]
                  refine wpAnyH_take (i := 15) (oi := ?o14o) (v := undef) ?o14h (by kernel_rfl) (by kernel_rfl) (by kernel_rfl) ?o14q ?o14y hHeld ?o14r
                  case o14h => (simp only [List.getElem?_toArray, List.getElem?_cons_succ, List.getElem?_cons_zero]; rfl)
                  case o14q => exact fun _ _ _ h => h
                  case o14y => exact Or.inr ⟨by first | kernel_rfl | rfl, rfl⟩
                  try simp only [Act.put, List.setIfInBounds_toArray, List.set_cons_zero, List.set_cons_succ]
                  refine wpAnyH_take (i := 16) (oi := ?o15o) (v := undef) ?o15h (by kernel_rfl) (by kernel_rfl) (by kernel_rfl) ?o15q ?o15y hHeld ?o15r
                  case o15h => (simp only [List.getElem?_toArray, List.getElem?_cons_succ, List.getElem?_cons_zero]; rfl)
                  case o15q => exact fun _ _ _ h => h
                  case o15y => exact Or.inr ⟨by first | kernel_rfl | rfl, rfl⟩
                  try simp only [Act.put, List.setIfInBounds_toArray, List.set_cons_zero, List.set_cons_succ]
                  refine wpAnyH_take (i := 17) (oi := ?o16o) (v := undef) ?o16h (by kernel_rfl) (by kernel_rfl) (by kernel_rfl) ?o16q ?o16y hHeld ?o16r
                  case o16h => (simp only [List.getElem?_toArray, List.getElem?_cons_succ, List.getElem?_cons_zero]; rfl)
                  case o16q => exact fun _ _ _ h => h
                  case o16y => exact Or.inr ⟨by first | kernel_rfl | rfl, rfl⟩
                  try simp only [Act.put, List.setIfInBounds_toArray, List.set_cons_zero, List.set_cons_succ]
                  refine wpAnyH_take (i := 18) (oi := ?o17o) (v := undef) ?o17h (by kernel_rfl) (by kernel_rfl) (by kernel_rfl) ?o17q ?o17y hHeld ?o17r
                  case o17h => (simp only [List.getElem?_toArray, List.getElem?_cons_succ, List.getElem?_cons_zero]; rfl)
                  case o17q => exact fun _ _ _ h => h
                  case o17y => exact Or.inr ⟨by first | kernel_rfl | rfl, rfl⟩
                  try simp only [Act.put, List.setIfInBounds_toArray, List.set_cons_zero, List.set_cons_succ]
                  refine wpAnyH_take (i := 19) (oi := ?o18o) (v := ?o18v) ?o18h (by kernel_rfl) (by kernel_rfl) (by kernel_rfl) ?o18q ?o18y hHeld ?o18r
                  case o18h => (simp only [List.getElem?_toArray, List.getElem?_cons_succ, List.getElem?_cons_zero]; rfl)
                  case o18q => exact fun _ _ _ h => h
                  case o18y => (refine Or.inl ⟨by first | kernel_rfl | rfl, ?_⟩; intro w hSw; (try dsimp only at hSw); have y0 := hSw.a.cell 0 rfl; have y1 := hSw.a.cell 1 rfl; have y2 := hSw.a.cell 2 rfl; have y3 := hSw.a.cell 3 rfl; have y4 := hSw.a.cell 4 rfl; go_simp <;> (try with_reducible rfl))
                  try simp only [Act.put, List.setIfInBounds_toArray, List.set_cons_zero, List.set_cons_succ]
                  refine wpAnyH_done (by kernel_rfl) ?_ _
                  have hbel := hHeld.bel
                  go_wp2
                  go_ret
                  exact ⟨rfl, hbel⟩
                · have f1 : decide (0 < c1) = false := decide_eq_false q1
                  by_cases q2 : c2 < 0
                  · have f2 : decide (c2 < 0) = true := decide_eq_true q2
                    obtain rfl : (1 : Int) = er := HNO.out (by
                      obtain ⟨g1, g2, g3, g4⟩ := HE.out
                      rintro (h | h)
                      · exact HNZ.out h
                      · have := h.2.2.1; rw [g3, g4] at this; omega)
                    clear q1 q2
                    refine wp_region_held_drew (S := (HB w a)) (by kernel_rfl) H4.out.drew (fun hHeld => ?_)
                    refine wpAnyH_take (i := 0) (oi := ?p1o) (v := ?p1v) ?p1h (by kernel_rfl) (by kernel_rfl) (by kernel_rfl) ?p1q ?p1y hHeld ?p1r
                    case p1h => (simp only [List.getElem?_toArray, List.getElem?_cons_zero]; rfl)
                    case p1q => exact fun _ _ _ h => h
                    case p1y => (refine Or.inl ⟨by first | kernel_rfl | rfl, ?_⟩; intro w hSw; (try dsimp only at hSw); have y0 := hSw.a.cell 0 rfl; have y1 := hSw.a.cell 1 rfl; have y2 := hSw.a.cell 2 rfl; have y3 := hSw.a.cell 3 rfl; have y4 := hSw.a.cell 4 rfl; go_simp <;> (try with_reducible rfl))
                    try simp only [Act.put, List.setIfInBounds_toArray, List.set_cons_zero, List.set_cons_succ]
                    refine wpAnyH_take (i := 1) (oi := ?p2o) (v := ?p2v) ?p2h (by kernel_rfl) (by kernel_rfl) (by kernel_rfl) ?p2q ?p2y hHeld ?p2r
                    case p2h => (simp only [List.getElem?_toArray, List.getElem?_cons_succ, List.getElem?_cons_zero]; rfl)
                    case p2q => exact fun _ _ _ h => h
                    case p2y => (refine Or.inl ⟨by first | kernel_rfl | rfl, ?_⟩; intro w hSw; (try dsimp only at hSw); have y0 := hSw.a.cell 0 rfl; have y1 := hSw.a.cell 1 rfl; have y2 := hSw.a.cell 2 rfl; have y3 := hSw.a.cell 3 rfl; have y4 := hSw.a.cell 4 rfl; go_simp <;> (try with_reducible rfl))
                    try simp only [Act.put, List.setIfInBounds_toArray, List.set_cons_zero, List.set_cons_succ]
                    refine wpAnyH_take (i := 2) (oi := ?p3o) (v := ?p3v) ?p3h (by kernel_rfl) (by kernel_rfl) (by kernel_rfl) ?p3q ?p3y hHeld ?p3r
                    case p3h => (simp only [List.getElem?_toArray, List.getElem?_cons_succ, List.getElem?_cons_zero]; rfl)
                    case p3q => exact fun _ _ _ h => h
                    case p3y => (refine Or.inl ⟨by first | kernel_rfl | rfl, ?_⟩; intro w hSw; (try dsimp only at hSw); have y0 := hSw.a.cell 0 rfl; have y1 := hSw.a.cell 1 rfl; have y2 := hSw.a.cell 2 rfl; have y3 := hSw.a.cell 3 rfl; have y4 := hSw.a.cell 4 rfl; go_simp <;> (try with_reducible rfl))
                    try simp only [Act.put, List.setIfInBounds_toArray, List.set_cons_zero, List.set_cons_succ]
                    refine wpAnyH_take (i := 3) (oi := ?p4o) (v := ?p4v) ?p4h (by kernel_rfl) (by kernel_rfl) (by kernel_rfl) ?p4q ?p4y hHeld ?p4r
                    case p4h => (simp only [List.getElem?_toArray, List.getElem?_cons_succ, List.getElem?_cons_zero]; rfl)
                    case p4q => exact fun _ _ _ h => h
                    case p4y => (refine Or.inl ⟨by first | kernel_rfl | rfl, ?_⟩; intro w hSw; (try dsimp only at hSw); have y0 := hSw.a.cell 0 rfl; have y1 := hSw.a.cell 1 rfl; have y2 := hSw.a.cell 2 rfl; have y3 := hSw.a.cell 3 rfl; have y4 := hSw.a.cell 4 rfl; go_simp <;> (try with_reducible rfl))
                    try simp only [Act.put, List.setIfInBounds_toArray, List.set_cons_zero, List.set_cons_succ]
                    refine wpAnyH_take (i := 5) (oi := ?p5o) (v := ?p5v) ?p5h (by kernel_rfl) (by kernel_rfl) (by kernel_rfl) ?p5q ?p5y hHeld ?p5r
                    case p5h => (simp only [List.getElem?_toArray, List.getElem?_cons_succ, List.getElem?_cons_zero]; rfl)
                    case p5q => exact fun _ _ _ h => h
                    case p5y => (refine Or.inl ⟨by first | kernel_rfl | rfl, ?_⟩; intro w hSw; (try dsimp only at hSw); have y0 := hSw.a.cell 0 rfl; have y1 := hSw.a.cell 1 rfl; have y2 := hSw.a.cell 2 rfl; have y3 := hSw.a.cell 3 rfl; have y4 := hSw.a.cell 4 rfl; go_simp <;> (try with_reducible rfl))
                    try simp only [Act.put, List.setIfInBounds_toArray, List.set_cons_zero, List.set_cons_succ]
                    refine wpAnyH_take (i := 6) (oi := ?p6o) (v := ?p6v) ?p6h (by kernel_rfl) (by kernel_rfl) (by kernel_rfl) ?p6q ?p6y hHeld ?p6r
                    case p6h => (simp only [List.getElem?_toArray, List.getElem?_cons_succ, List.getElem?_cons_zero]; rfl)
                    case p6q => exact fun _ _ _ h => h
                    case p6y => (refine Or.inl ⟨by first | kernel_rfl | rfl, ?_⟩; intro w hSw; (try dsimp only at hSw); have y0 := hSw.a.cell 0 rfl; have y1 := hSw.a.cell 1 rfl; have y2 := hSw.a.cell 2 rfl; have y3 := hSw.a.cell 3 rfl; have y4 := hSw.a.cell 4 rfl; go_simp <;> (try with_reducible rfl))
                    try simp only [Act.put, List.setIfInBounds_toArray, List.set_cons_zero, List.set_cons_succ]
                    refine wpAnyH_ready (rs := [4]) (by kernel_rfl) (by simp) ?_
                    refine (AllReadyH.cons rfl (fun K hK => ?_) AllReadyH.nil)
                    go_simp
                    ((with_reducible refine (kx _).mono ?_); rintro e2 w7 ⟨rfl, hb⟩; (have H7 := Lib.hid (hHeld.keep hb)); clear hb)
                    refine hK.out _ _ (H7.out) (fun hHeld => ?_)
                    clear hK K
                    try simp only [Act.put, List.setIfInBounds_toArray, List.set_cons_zero, List.set_cons_succ]
                    refine wpAnyH_ready (rs := [7]) (by kernel_rfl) (by simp) ?_
                    refine (AllReadyH.cons rfl (fun K hK => ?_) AllReadyH.nil)
                    go_simp
                    ((with_reducible refine (k1 _).mono ?_); rintro e2 w7 ⟨rfl, hb⟩; (have H7 := Lib.hid (hHeld.keep hb)); clear hb)
                    refine hK.out _ _ (H7.out) (fun hHeld => ?_)
                    clear hK K
                    try simp only [Act.put, List.setIfInBounds_toArray, List.set_cons_zero, List.set_cons_succ]
                    refine wpAnyH_take (i := 8) (oi := ?p7o) (v := ?p7v) ?p7h (by kernel_rfl) (by kernel_rfl) (by kernel_rfl) ?p7q ?p7y hHeld ?p7r
                    case p7h => (simp only [List.getElem?_toArray, List.getElem?_cons_succ, List.getElem?_cons_zero]; rfl)
                    case p7q => exact fun _ _ _ h => h
                    case p7y => (refine Or.inl ⟨by first | kernel_rfl | rfl, ?_⟩; intro w hSw; (try dsimp only at hSw); have y0 := hSw.a.cell 0 rfl; have y1 := hSw.a.cell 1 rfl; have y2 := hSw.a.cell 2 rfl; have y3 := hSw.a.cell 3 rfl; have y4 := hSw.a.cell 4 rfl; go_simp <;> (try with_reducible rfl))
                    try simp only [Act.put, List.setIfInBounds_toArray, List.set_cons_zero, List.set_cons_succ]
                    refine wpAnyH_take (i := 9) (oi := ?p8o) (v := ?p8v) ?p8h (by kernel_rfl) (by kernel_rfl) (by kernel_rfl) ?p8q ?p8y hHeld ?p8r
                    case p8h => (simp only [List.getElem?_toArray, List.getElem?_cons_succ, List.getElem?_cons_zero]; rfl)
                    case p8q => exact fun _ _ _ h => h
                    case p8y => (refine Or.inl ⟨by first | kernel_rfl | rfl, ?_⟩; intro w hSw; (try dsimp only at hSw); have y0 := hSw.a.cell 0 rfl; have y1 := hSw.a.cell 1 rfl; have y2 := hSw.a.cell 2 rfl; have y3 := hSw.a.cell 3 rfl; have y4 := hSw.a.cell 4 rfl; go_simp <;> (try with_reducible rfl))
                    try simp only [Act.put, List.setIfInBounds_toArray, List.set_cons_zero, List.set_cons_succ]
                    refine wpAnyH_take (i := 10) (oi := ?p9o) (v := ?p9v) ?p9h (by kernel_rfl) (by kernel_rfl) (by kernel_rfl) ?p9q ?p9y hHeld ?p9r
                    case p9h => (simp only [List.getElem?_toArray, List.getElem?_cons_succ, List.getElem?_cons_zero]; rfl)
                    case p9q => exact fun _ _ _ h => h
                    case p9y => (refine Or.inl ⟨by first | kernel_rfl | rfl, ?_⟩; intro w hSw; (try dsimp only at hSw); have y0 := hSw.a.cell 0 rfl; have y1 := hSw.a.cell 1 rfl; have y2 := hSw.a.cell 2 rfl; have y3 := hSw.a.cell 3 rfl; have y4 := hSw.a.cell 4 rfl; go_simp <;> (try with_reducible rfl))
                    try simp only [Act.put, List.setIfInBounds_toArray, List.set_cons_zero, List.set_cons_succ]
                    refine wpAnyH_take (i := 11) (oi := ?p10o) (v := ?p10v) ?p10h (by kernel_rfl) (by kernel_rfl) (by kernel_rfl) ?p10q ?p10y hHeld ?p10r
                    case p10h => (simp only [List.getElem?_toArray, List.getElem?_cons_succ, List.getElem?_cons_zero]; rfl)
                    case p10q => exact fun _ _ _ h => h
                    case p10y => (refine Or.inl ⟨by first | kernel_rfl | rfl, ?_⟩; intro w hSw; (try dsimp only at hSw); have y0 := hSw.a.cell 0 rfl; have y1 := hSw.a.cell 1 rfl; have y2 := hSw.a.cell 2 rfl; have y3 := hSw.a.cell 3 rfl; have y4 := hSw.a.cell 4 rfl; go_simp <;> (try with_reducible rfl))
                    try simp only [Act.put, List.setIfInBounds_toArray, List.set_cons_zero, List.set_cons_succ]
                    refine wpAnyH_take (i := 12) (oi := ?p11o) (v := ?p11v) ?p11h (by kernel_rfl) (by kernel_rfl) (by kernel_rfl) ?p11q ?p11y hHeld ?p11r
                    case p11h => (simp only [List.getElem?_toArray, List.getElem?_cons_succ, List.getElem?_cons_zero]; rfl)
                    case p11q => exact fun _ _ _ h => h
                    case p11y => (refine Or.inl ⟨by first | kernel_rfl | rfl, ?_⟩; intro w hSw; (try dsimp only at hSw); have y0 := hSw.a.cell 0 rfl; have y1 := hSw.a.cell 1 rfl; have y2 := hSw.a.cell 2 rfl; have y3 := hSw.a.cell 3 rfl; have y4 := hSw.a.cell 4 rfl; go_simp <;> (try with_reducible rfl))
                    try simp only [Act.put, List.setIfInBounds_toArray, List.set_cons_zero, List.set_cons_succ]
                    refine wpAnyH_take (i := 13) (oi := ?p12o) (v := ?p12v) ?p12h (by kernel_rfl) (by kernel_rfl) (by kernel_rfl) ?p12q ?p12y hHeld ?p12r
                    case p12h => (simp only [List.getElem?_toArray, List.getElem?_cons_succ, List.getElem?_cons_zero]; rfl)
                    case p12q => exact fun _ _ _ h => h
                    case p12y => (refine Or.inl ⟨by first | kernel_rfl | rfl, ?_⟩; intro w hSw; (try dsimp only at hSw); have y0 := hSw.a.cell 0 rfl; have y1 := hSw.a.cell 1 rfl; have y2 := hSw.a.cell 2 rfl; have y3 := hSw.a.cell 3 rfl; have y4 := hSw.a.cell 4 rfl; go_simp <;> (try with_reducible rfl))
                    try simp only [Act.put, List.setIfInBounds_toArray, List.set_cons_zero, List.set_cons_succ]
                    refine wpAnyH_take (i := 15) (oi := ?p13o) (v := ?p13v) ?p13h (by kernel_rfl) (by kernel_rfl) (by kernel_rfl) ?p13q ?p13y hHeld ?p13r
                    case p13h => (simp only [List.getElem?_toArray, List.getElem?_cons_succ, List.getElem?_cons_zero]; rfl)
                    case p13q => exact fun _ _ _ h => h
                    case p13y => (refine Or.inl ⟨by first | kernel_rfl | rfl, ?_⟩; intro w hSw; (try dsimp only at hSw); have y0 := hSw.a.cell 0 rfl; have y1 := hSw.a.cell 1 rfl; have y2 := hSw.a.cell 2 rfl; have y3 := hSw.a.cell 3 rfl; have y4 := hSw.a.cell 4 rfl; go_simp <;> (try with_reducible rfl))
                    try simp only [Act.put, List.setIfInBounds_toArray, List.set_cons_zero, List.set_cons_succ]
                    refine wpAnyH_take (i := 16) (oi := ?p14o) (v := ?p14v) ?p14h (by kernel_rfl) (by kernel_rfl) (by kernel_rfl) ?p14q ?p14y hHeld ?p14r
                    case p14h => (simp only [List.getElem?_toArray, List.getElem?_cons_succ, List.getElem?_cons_zero]; rfl)
                    case p14q => exact fun _ _ _ h => h
                    case p14y => (refine Or.inl ⟨by first | kernel_rfl | rfl, ?_⟩; intro w hSw; (try dsimp only at hSw); have y0 := hSw.a.cell 0 rfl; have y1 := hSw.a.cell 1 rfl; have y2 := hSw.a.cell 2 rfl; have y3 := hSw.a.cell 3 rfl; have y4 := hSw.a.cell 4 rfl; go_simp <;> (try with_reducible rfl))
                    try simp only [Act.put, List.setIfInBounds_toArray, List.set_cons_zero, List.set_cons_succ]
                    refine wpAnyH_ready (rs := [14]) (by kernel_rfl) (by simp) ?_
                    refine (AllReadyH.cons rfl (fun K hK => ?_) AllReadyH.nil)
                    go_simp
                    ((with_reducible refine (ky _).mono ?_); rintro e2 w7 ⟨rfl, hb⟩; (have H7 := Lib.hid (hHeld.keep hb)); clear hb)
                    refine hK.out _ _ (H7.out) (fun hHeld => ?_)
                    clear hK K
                    try simp only [Act.put, List.setIfInBounds_toArray, List.set_cons_zero, List.set_cons_succ]
                    refine wpAnyH_ready (rs := [17]) (by kernel_rfl) (by simp) ?_
                    refine (AllReadyH.cons rfl (fun K hK => ?_) AllReadyH.nil)
                    go_simp
                    ((with_reducible refine (k2 _).mono ?_); rintro e2 w7 ⟨rfl, hb⟩; (have H7 := Lib.hid (hHeld.keep hb)); clear hb)
                    refine hK.out _ _ (H7.out) (fun hHeld => ?_)
                    clear hK K
                    try simp only [Act.put, List.setIfInBounds_toArray, List.set_cons_zero, List.set_cons_succ]
                    refine wpAnyH_take (i := 18) (oi := ?p15o) (v := ?p15v) ?p15h (by kernel_rfl) (by kernel_rfl) (by kernel_rfl) ?p15q ?p15y hHeld ?p15r
                    case p15h => (simp only [List.getElem?_toArray, List.getElem?_cons_succ, List.getElem?_cons_zero]; rfl)
                    case p15q => exact fun _ _ _ h => h
                    case p15y => (refine Or.inl ⟨by first | kernel_rfl | rfl, ?_⟩; intro w hSw; (try dsimp only at hSw); have y0 := hSw.a.cell 0 rfl; have y1 := hSw.a.cell 1 rfl; have y2 := hSw.a.cell 2 rfl; have y3 := hSw.a.cell 3 rfl; have y4 := hSw.a.cell 4 rfl; go_simp <;> (try with_reducible rfl))
                    try simp only [Act.put, List.setIfInBounds_toArray, List.set_cons_zero, List.set_cons_succ]
                    refine wpAnyH_take (i := 19) (oi := ?p16o) (v := ?p16v) ?p16h (by kernel_rfl) (by kernel_rfl) (by kernel_rfl) ?p16q ?p16y hHeld ?p16r
                    case p16h => (simp only [List.getElem?_toArray, List.getElem?_cons_succ, List.getElem?_cons_zero]; rfl)
                    case p16q => exact fun _ _ _ h => h
                    case p16y => (refine Or.inl ⟨by first | kernel_rfl | rfl, ?_⟩; intro w hSw; (try dsimp only at hSw); have y0 := hSw.a.cell 0 rfl; have y1 := hSw.a.cell 1 rfl; have y2 := hSw.a.cell 2 rfl; have y3 := hSw.a.cell 3 rfl; have y4 := hSw.a.cell 4 rfl; go_simp <;> (try with_reducible rfl))
                    try simp only [Act.put, List.setIfInBounds_toArray, List.set_cons_zero, List.set_cons_succ]
                    refine wpAnyH_done (by kernel_rfl) ?_ _
                    have hbel := hHeld.bel
                    go_wp2
                    go_ret
                    exact ⟨rfl, hbel⟩
                  · have f2 : decide (c2 < 0) = false := decide_eq_false q2
                    obtain rfl : (0 : Int) = er := HYE.out (Or.inr (by
                      obtain ⟨g1, g2, g3, g4⟩ := HE.out
                      obtain ⟨m1, m2, m3⟩ := HM.out
                      have hl := (HAL2.out lo (by omega)).2 (Or.inl rfl)
                      have hh := (HAL2.out hi (by omega)).2 (Or.inr rfl)
                      have hl2 := (HALL.out lo (by omega)).1
                      have hh2 := (HALL.out hi (by omega)).1
                      exact ⟨hn1, by omega, ⟨by omega, by omega, by omega, by rw [g3]; omega, by rw [g4]; omega⟩, fun i hi => ⟨(HALL.out i hi).1, (HALL.out i hi).2, (HAL2.out i hi).1⟩, by rw [HS.out]; exact HSN.out, by omega, by omega, HST.out⟩))
                    clear q1 q2
                    refine wp_region_held_drew (S := (HB w a)) (by kernel_rfl) H4.out.drew (fun hHeld => ?_)
                    refine wpAnyH_take (i := 0) (oi := ?q1o) (v := ?q1v) ?q1h (by kernel_rfl) (by kernel_rfl) (by kernel_rfl) ?q1q ?q1y hHeld ?q1r
                    case q1h => (simp only [List.getElem?_toArray, List.getElem?_cons_zero]; rfl)
                    case q1q => exact fun _ _ _ h => h
                    case q1y => (refine Or.inl ⟨by first | kernel_rfl | rfl, ?_⟩; intro w hSw; (try dsimp only at hSw); have y0 := hSw.a.cell 0 rfl; have y1 := hSw.a.cell 1 rfl; have y2 := hSw.a.cell 2 rfl; have y3 := hSw.a.cell 3 rfl; have y4 := hSw.a.cell 4 rfl; go_simp <;> (try with_reducible rfl))
                    try simp only [Act.put, List.setIfInBounds_toArray, List.set_cons_zero, List.set_cons_succ]
                    refine wpAnyH_take (i := 1) (oi := ?q2o) (v := ?q2v) ?q2h (by kernel_rfl) (by kernel_rfl) (by kernel_rfl) ?q2q ?q2y hHeld ?q2r
                    case q2h => (simp only [List.getElem?_toArray, List.getElem?_cons_succ, List.getElem?_cons_zero]; rfl)
                    case q2q => exact fun _ _ _ h => h
                    case q2y => (refine Or.inl ⟨by first | kernel_rfl | rfl, ?_⟩; intro w hSw; (try dsimp only at hSw); have y0 := hSw.a.cell 0 rfl; have y1 := hSw.a.cell 1 rfl; have y2 := hSw.a.cell 2 rfl; have y3 := hSw.a.cell 3 rfl; have y4 := hSw.a.cell 4 rfl; go_simp <;> (try with_reducible rfl))
                    try simp only [Act.put, List.setIfInBounds_toArray, List.set_cons_zero, List.set_cons_succ]
                    refine wpAnyH_take (i := 2) (oi := ?q3o) (v := ?q3v) ?q3h (by kernel_rfl) (by kernel_rfl) (by kernel_rfl) ?q3q ?q3y hHeld ?q3r
                    case q3h => (simp only [List.getElem?_toArray, List.getElem?_cons_succ, List.getElem?_cons_zero]; rfl)
                    case q3q => exact fun _ _ _ h => h
                    case q3y => (refine Or.inl ⟨by first | kernel_rfl | rfl, ?_⟩; intro w hSw; (try dsimp only at hSw); have y0 := hSw.a.cell 0 rfl; have y1 := hSw.a.cell 1 rfl; have y2 := hSw.a.cell 2 rfl; have y3 := hSw.a.cell 3 rfl; have y4 := hSw.a.cell 4 rfl; go_simp <;> (try with_reducible rfl))
                    try simp only [Act.put, List.setIfInBounds_toArray, List.set_cons_zero, List.set_cons_succ]
                    refine wpAnyH_take (i := 3) (oi := ?q4o) (v := ?q4v) ?q4h (by kernel_rfl) (by kernel_rfl) (by kernel_rfl) ?q4q ?q4y hHeld ?q4r
                    case q4h => (simp only [List.getElem?_toArray, List.getElem?_cons_succ, List.getElem?_cons_zero]; rfl)
                    case q4q => exact fun _ _ _ h => h
                    case q4y => (refine Or.inl ⟨by first | kernel_rfl | rfl, ?_⟩; intro w hSw; (try dsimp only at hSw); have y0 := hSw.a.cell 0 rfl; have y1 := hSw.a.cell 1 rfl; have y2 := hSw.a.cell 2 rfl; have y3 := hSw.a.cell 3 rfl; have y4 := hSw.a.cell 4 rfl; go_simp <;> (try with_reducible rfl))
                    try simp only [Act.put, List.setIfInBounds_toArray, List.set_cons_zero, List.set_cons_succ]
                    refine wpAnyH_take (i := 5) (oi := ?q5o) (v := ?q5v) ?q5h (by kernel_rfl) (by kernel_rfl) (by kernel_rfl) ?q5q ?q5y hHeld ?q5r
                    case q5h => (simp only [List.getElem?_toArray, List.getElem?_cons_succ, List.getElem?_cons_zero]; rfl)
                    case q5q => exact fun _ _ _ h => h
                    case q5y => (refine Or.inl ⟨by first | kernel_rfl | rfl, ?_⟩; intro w hSw; (try dsimp only at hSw); have y0 := hSw.a.cell 0 rfl; have y1 := hSw.a.cell 1 rfl; have y2 := hSw.a.cell 2 rfl; have y3 := hSw.a.cell 3 rfl; have y4 := hSw.a.cell 4 rfl; go_simp <;> (try with_reducible rfl))
                    try simp only [Act.put, List.setIfInBounds_toArray, List.set_cons_zero, List.set_cons_succ]
                    refine wpAnyH_take (i := 6) (oi := ?q6o) (v := ?q6v) ?q6h (by kernel_rfl) (by kernel_rfl) (by kernel_rfl) ?q6q ?q6y hHeld ?q6r
                    case q6h => (simp only [List.getElem?_toArray, List.getElem?_cons_succ, List.getElem?_cons_zero]; rfl)
                    case q6q => exact fun _ _ _ h => h
                    case q6y => (refine Or.inl ⟨by first | kernel_rfl | rfl, ?_⟩; intro w hSw; (try dsimp only at hSw); have y0 := hSw.a.cell 0 rfl; have y1 := hSw.a.cell 1 rfl; have y2 := hSw.a.cell 2 rfl; have y3 := hSw.a.cell 3 rfl; have y4 := hSw.a.cell 4 rfl; go_simp <;> (try with_reducible rfl))
                    try simp only [Act.put, List.setIfInBounds_toArray, List.set_cons_zero, List.set_cons_succ]
                    refine wpAnyH_ready (rs := [4]) (by kernel_rfl) (by simp) ?_
                    refine (AllReadyH.cons rfl (fun K hK => ?_) AllReadyH.nil)
                    go_simp
                    ((with_reducible refine (kx _).mono ?_); rintro e2 w7 ⟨rfl, hb⟩; (have H7 := Lib.hid (hHeld.keep hb)); clear hb)
                    refine hK.out _ _ (H7.out) (fun hHeld => ?_)
                    clear hK K
                    try simp only [Act.put, List.setIfInBounds_toArray, List.set_cons_zero, List.set_cons_succ]
                    refine wpAnyH_ready (rs := [7]) (by kernel_rfl) (by simp) ?_
                    refine (AllReadyH.cons rfl (fun K hK => ?_) AllReadyH.nil)
                    go_simp
                    ((with_reducible refine (k1 _).mono ?_); rintro e2 w7 ⟨rfl, hb⟩; (have H7 := Lib.hid (hHeld.keep hb)); clear hb)
                    refine hK.out _ _ (H7.out) (fun hHeld => ?_)
                    clear hK K
                    try simp only [Act.put, List.setIfInBounds_toArray, List.set_cons_zero, List.set_cons_succ]
                    refine wpAnyH_take (i := 8) (oi := ?q7o) (v := ?q7v) ?q7h (by kernel_rfl) (by kernel_rfl) (by kernel_rfl) ?q7q ?q7y hHeld ?q7r
                    case q7h => (simp only [List.getElem?_toArray, List.getElem?_cons_succ, List.getElem?_cons_zero]; rfl)
                    case q7q => exact fun _ _ _ h => h
                    case q7y => (refine Or.inl ⟨by first | kernel_rfl | rfl, ?_⟩; intro w hSw; (try dsimp only at hSw); have y0 := hSw.a.cell 0 rfl; have y1 := hSw.a.cell 1 rfl; have y2 := hSw.a.cell 2 rfl; have y3 := hSw.a.cell 3 rfl; have y4 := hSw.a.cell 4 rfl; go_simp <;> (try with_reducible rfl))
                    try simp only [Act.put, List.setIfInBounds_toArray, List.set_cons_zero, List.set_cons_succ]
                    refine wpAnyH_take (i := 9) (oi := ?q8o) (v := ?q8v) ?q8h (by kernel_rfl) (by kernel_rfl) (by kernel_rfl) ?q8q ?q8y hHeld ?q8r
                    case q8h => (simp only [List.getElem?_toArray, List.getElem?_cons_succ, List.getElem?_cons_zero]; rfl)
                    case q8q => exact fun _ _ _ h => h
                    case q8y => (refine Or.inl ⟨by first | kernel_rfl | rfl, ?_⟩; intro w hSw; (try dsimp only at hSw); have y0 := hSw.a.cell 0 rfl; have y1 := hSw.a.cell 1 rfl; have y2 := hSw.a.cell 2 rfl; have y3 := hSw.a.cell 3 rfl; have y4 := hSw.a.cell 4 rfl; go_simp <;> (try with_reducible rfl))
                    try simp only [Act.put, List.setIfInBounds_toArray, List.set_cons_zero, List.set_cons_succ]
                    refine wpAnyH_take (i := 10) (oi := ?q9o) (v := ?q9v) ?q9h (by kernel_rfl) (by kernel_rfl) (by kernel_rfl) ?q9q ?q9y hHeld ?q9r
                    case q9h => (simp only [List.getElem?_toArray, List.getElem?_cons_succ, List.getElem?_cons_zero]; rfl)
                    case q9q => exact fun _ _ _ h => h
                    case q9y => (refine Or.inl ⟨by first | kernel_rfl | rfl, ?_⟩; intro w hSw; (try dsimp only at hSw); have y0 := hSw.a.cell 0 rfl; have y1 := hSw.a.cell 1 rfl; have y2 := hSw.a.cell 2 rfl; have y3 := hSw.a.cell 3 rfl; have y4 := hSw.a.cell 4 rfl; go_simp <;> (try with_reducible rfl))
                    try simp only [Act.put, List.setIfInBounds_toArray, List.set_cons_zero, List.set_cons_succ]
                    refine wpAnyH_take (i := 11) (oi := ?q10o) (v := ?q10v) ?q10h (by kernel_rfl) (by kernel_rfl) (by kernel_rfl) ?q10q ?q10y hHeld ?q10r
                    case q10h => (simp only [List.getElem?_toArray, List.getElem?_cons_succ, List.getElem?_cons_zero]; rfl)
                    case q10q => exact fun _ _ _ h => h
                    case q10y => (refine Or.inl ⟨by first | kernel_rfl | rfl, ?_⟩; intro w hSw; (try dsimp only at hSw); have y0 := hSw.a.cell 0 rfl; have y1 := hSw.a.cell 1 rfl; have y2 := hSw.a.cell 2 rfl; have y3 := hSw.a.cell 3 rfl; have y4 := hSw.a.cell 4 rfl; go_simp <;> (try with_reducible rfl))
                    try simp only [Act.put, List.setIfInBounds_toArray, List.set_cons_zero, List.set_cons_succ]
                    refine wpAnyH_take (i := 12) (oi := ?q11o) (v := ?q11v) ?q11h (by kernel_rfl) (by kernel_rfl) (by kernel_rfl) ?q11q ?q11y hHeld ?q11r
                    case q11h => (simp only [List.getElem?_toArray, List.getElem?_cons_succ, List.getElem?_cons_zero]; rfl)
                    case q11q => exact fun _ _ _ h => h
                    case q11y => (refine Or.inl ⟨by first | kernel_rfl | rfl, ?_⟩; intro w hSw; (try dsimp only at hSw); have y0 := hSw.a.cell 0 rfl; have y1 := hSw.a.cell 1 rfl; have y2 := hSw.a.cell 2 rfl; have y3 := hSw.a.cell 3 rfl; have y4 := hSw.a.cell 4 rfl; go_simp <;> (try with_reducible rfl))
                    try simp only [Act.put, List.setIfInBounds_toArray, List.set_cons_zero, List.set_cons_succ]
                    refine wpAnyH_take (i := 13) (oi := ?q12o) (v := ?q12v) ?q12h (by kernel_rfl) (by kernel_rfl) (by kernel_rfl) ?q12q ?q12y hHeld ?q12r
                    case q12h => (simp only [List.getElem?_toArray, List.getElem?_cons_succ, List.getElem?_cons_zero]; rfl)
                    case q12q => exact fun _ _ _ h => h
                    case q12y => (refine Or.inl ⟨by first | kernel_rfl | rfl, ?_⟩; intro w hSw; (try dsimp only at hSw); have y0 := hSw.a.cell 0 rfl; have y1 := hSw.a.cell 1 rfl; have y2 := hSw.a.cell 2 rfl; have y3 := hSw.a.cell 3 rfl; have y4 := hSw.a.cell 4 rfl; go_simp <;> (try with_reducible rfl))
                    try simp only [Act.put, List.setIfInBounds_toArray, List.set_cons_zero, List.set_cons_succ]
                    refine wpAnyH_take (i := 15) (oi := ?q13o) (v := ?q13v) ?q13h (by kernel_rfl) (by kernel_rfl) (by kernel_rfl) ?q13q ?q13y hHeld ?q13r
                    case q13h => (simp only [List.getElem?_toArray, List.getElem?_cons_succ, List.getElem?_cons_zero]; rfl)
                    case q13q => exact fun _ _ _ h => h
                    case q13y => (refine Or.inl ⟨by first | kernel_rfl | rfl, ?_⟩; intro w hSw; (try dsimp only at hSw); have y0 := hSw.a.cell 0 rfl; have y1 := hSw.a.cell 1 rfl; have y2 := hSw.a.cell 2 rfl; have y3 := hSw.a.cell 3 rfl; have y4 := hSw.a.cell 4 rfl; go_simp <;> (try with_reducible rfl))
                    try simp only [Act.put, List.setIfInBounds_toArray, List.set_cons_zero, List.set_cons_succ]
                    refine wpAnyH_take (i := 16) (oi := ?q14o) (v := ?q14v) ?q14h (by kernel_rfl) (by kernel_rfl) (by kernel_rfl) ?q14q ?q14y hHeld ?q14r
                    case q14h => (simp only [List.getElem?_toArray, List.getElem?_cons_succ, List.getElem?_cons_zero]; rfl)
                    case q14q => exact fun _ _ _ h => h
                    case q14y => (refine Or.inl ⟨by first | kernel_rfl | rfl, ?_⟩; intro w hSw; (try dsimp only at hSw); have y0 := hSw.a.cell 0 rfl; have y1 := hSw.a.cell 1 rfl; have y2 := hSw.a.cell 2 rfl; have y3 := hSw.a.cell 3 rfl; have y4 := hSw.a.cell 4 rfl; go_simp <;> (try with_reducible rfl))
                    try simp only [Act.put, List.setIfInBounds_toArray, List.set_cons_zero, List.set_cons_succ]
                    refine wpAnyH_ready (rs := [14]) (by kernel_rfl) (by simp) ?_
                    refine (AllReadyH.cons rfl (fun K hK => ?_) AllReadyH.nil)
                    go_simp
                    ((with_reducible refine (ky _).mono ?_); rintro e2 w7 ⟨rfl, hb⟩; (have H7 := Lib.hid (hHeld.keep hb)); clear hb)
                    refine hK.out _ _ (H7.out) (fun hHeld => ?_)
                    clear hK K
                    try simp only [Act.put, List.setIfInBounds_toArray, List.set_cons_zero, List.set_cons_succ]
                    refine wpAnyH_ready (rs := [17]) (by kernel_rfl) (by simp) ?_
                    refine (AllReadyH.cons rfl (fun K hK => ?_) AllReadyH.nil)
                    go_simp
                    ((with_reducible refine (k2 _).mono ?_); rintro e2 w7 ⟨rfl, hb⟩; (have H7 := Lib.hid (hHeld.keep hb)); clear hb)
                    refine hK.out _ _ (H7.out) (fun hHeld => ?_)
                    clear hK K
                    try simp only [Act.put, List.setIfInBounds_toArray, List.set_cons_zero, List.set_cons_succ]
                    refine wpAnyH_take (i := 18) (oi := ?q15o) (v := ?q15v) ?q15h (by kernel_rfl) (by kernel_rfl) (by kernel_rfl) ?q15q ?q15y hHeld ?q15r
                    case q15h => (simp only [List.getElem?_toArray, List.getElem?_cons_succ, List.getElem?_cons_zero]; rfl)
                    case q15q => exact fun _ _ _ h => h
                    case q15y => (refine Or.inl ⟨by first | kernel_rfl | rfl, ?_⟩; intro w hSw; (try dsimp only at hSw); have y0 := hSw.a.cell 0 rfl; have y1 := hSw.a.cell 1 rfl; have y2 := hSw.a.cell 2 rfl; have y3 := hSw.a.cell 3 rfl; have y4 := hSw.a.cell 4 rfl; go_simp <;> (try with_reducible rfl))
                    try simp only [Act.put, List.setIfInBounds_toArray, List.set_cons_zero, List.set_cons_succ]
                    refine wpAnyH_take (i := 19) (oi := ?q16o) (v := ?q16v) ?q16h (by kernel_rfl) (by kernel_rfl) (by kernel_rfl) ?q16q ?q16y hHeld ?q16r
                    case q16h => (simp only [List.getElem?_toArray, List.getElem?_cons_succ, List.getElem?_cons_zero]; rfl)
                    case q16q => exact fun _ _ _ h => h
                    case q16y => (refine Or.inl ⟨by first | kernel_rfl | rfl, ?_⟩; intro w hSw; (try dsimp only at hSw); have y0 := hSw.a.cell 0 rfl; have y1 := hSw.a.cell 1 rfl; have y2 := hSw.a.cell 2 rfl; have y3 := hSw.a.cell 3 rfl; have y4 := hSw.a.cell 4 rfl; go_simp <;> (try with_reducible rfl))
                    try simp only [Act.put, List.setIfInBounds_toArray, List.set_cons_zero, List.set_cons_succ]
                    refine wpAnyH_done (by kernel_rfl) ?_ _
                    have hbel := hHeld.bel
                    go_wp2
                    go_ret
                    exact ⟨rfl, hbel⟩
      · have d1 : (s != a.n) = true := by simpa using b1
        obtain rfl : (1 : Int) = er := HNO.out (by
          have := HS.out
          rintro (h | h)
          · have h1 := acc_same h 9 (by omega); have h2 := same_n h; omega
          · have := h.2.2.2.2.1; omega)
        clear b1
        go_wp2
        go_ret
        exact ⟨rfl, H1.out.bel⟩
end Go.Proofs.Ytipjhlabcbkgjaa.Ag
