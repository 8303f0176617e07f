/- The contract of the document's answer for layer 2: how two numbers compare. -/
import Derived.Test.YtafgfpppemdedaaWideRefCmp
namespace Go.Proofs.Ytafgfpppemdedaa
open Go.RowKit Go.Proofs.Ytafgfpppemdedaa.Wd

theorem turn_upd (d : Nat → Int) (v : Int) (hv : v = (d 0 + 128) % 256) : updI d 0 v = turn d := by
  funext i
  unfold updI turn
  by_cases h : i = 0
  · rw [if_pos h, if_pos h, hv]
  · rw [if_neg h, if_neg h]

set_option maxHeartbeats 2000000 in
theorem refCmp_any (h1 l1 h2 l2 a b v : Int) (w : World) (A : Rep h1 l1 a) (B : Rep h2 l2 b) (hv : Hid (cmp a b = v)) :
    Calls Try.prog 11 #[.agg #[.int .i64 (h1), .int .u64 (l1)], .agg #[.int .i64 (h2), .int .u64 (l2)]] w fun e w' => e = .returned (.int .i64 v) ∧ Below w.heap.size w w' := by
  obtain ⟨x, hx⟩ : ∃ x, dg h1 l1 = x := ⟨_, rfl⟩
  obtain ⟨y, hy⟩ : ∃ y, dg h2 l2 = y := ⟨_, rfl⟩
  have k1 := fun w => digits_any h1 l1 x w A.l0 A.l1 hx
  have k2 := fun w => digits_any h2 l2 y w B.l0 B.l1 hy
  have hx8 : 0 ≤ x 0 ∧ x 0 ≤ 255 := by rw [← hx]; exact dg_range h1 l1 0
  have hy8 : 0 ≤ y 0 ∧ y 0 ≤ 255 := by rw [← hy]; exact dg_range h2 l2 0
  obtain ⟨X, hX⟩ : ∃ X, turn x = X := ⟨_, rfl⟩
  obtain ⟨Y, hY⟩ : ∃ Y, turn y = Y := ⟨_, rfl⟩
  have hXr : Hid (∀ i, 0 ≤ X i ∧ X i ≤ 255) := fun i => by rw [← hX, ← hx]; exact turn_range h1 l1 i
  have hYr : Hid (∀ i, 0 ≤ Y i ∧ Y i ≤ 255) := fun i => by rw [← hY, ← hy]; exact turn_range h2 l2 i
  have hXv : Hid (tailv X 16 = a + 170141183460469231731687303715884105728) := by show _ = _; rw [← hX, ← hx]; exact tailv_turn A
  have hYv : Hid (tailv Y 16 = b + 170141183460469231731687303715884105728) := by show _ = _; rw [← hY, ← hy]; exact tailv_turn B
  have uX : Hid (updI x 0 ((x 0 + 128) % 256) = X) := by show _ = _; rw [← hX]; exact turn_upd x _ rfl
  have uY : Hid (updI y 0 ((y 0 + 128) % 256) = Y) := by show _ = _; rw [← hY]; exact turn_upd y _ rfl
  have hP := WideAt.new (w.alloc (.cells #[.int .i64 h1, .int .u64 l1] 24)) h2 l2 24
  simp only [World.size_alloc] at hP
  have HVV := Lib.hid hv.out
  clear hx hy hX hY A B hv
  go_enter Try.func11, Try.ntmps11
  go_upto_region 3 with (first
    | (go_at_call 33; (with_reducible refine (k1 _).mono ?_); rintro e wz ⟨rfl, hbz⟩; have hPz := hP.below hbz)
    | (refine wpList_new_arr (f := x) rfl _ _ rfl rfl rfl ?_; intro wy hAy hby; have hPy := hPz.below hby; have p0 := hPy.c0; have p1 := hPy.c1)
    | (go_at_call 33; (with_reducible refine (k2 _).mono ?_); rintro e wx ⟨rfl, hbx⟩; have hAx := hAy.below hbx)
    | (refine wpList_new_arr (f := y) rfl _ _ rfl rfl rfl ?_; intro wv hAv hbv; have hA1 := hAx.below hbv))
  have hbel : Below w.heap.size w wv := by (repeat (first | exact Below.refl _ _ | assumption | refine below_add ?_ _ | (refine below_on ?_ (by assumption)) | refine Below.drew ?_ | refine below_drewN ?_ _ | (refine Below.setCell ?_ (by simp; try omega) _) | (refine below_new ?_ _ (by simp; try omega)) | (refine below_next ?_ (by assumption) (by simp; try omega))))
  have hlt2 := hAx.room
  have hr0 := hPz.room
  have N1 := (hA1.stored 0 (by decide) ((x 0 + 128) % 256)).other ⟨wx.heap.size, 0, none⟩ (.int .i64 ((y 0 + 128) % 256)) (by show wz.heap.size ≠ wx.heap.size; omega)
  have N2 := (hAv.other ⟨wz.heap.size, 0, none⟩ (.int .i64 ((x 0 + 128) % 256)) (by show wx.heap.size ≠ wz.heap.size; omega)).stored 0 (by decide) ((y 0 + 128) % 256)
  rw [uX.out] at N1
  rw [uY.out] at N2
  have M1 := Lib.hid N1
  have M2 := Lib.hid N2
  have c1 := (hA1 0 (by decide)).1
  have f1 := (hA1 0 (by decide)).2
  have c2 := (hAv 0 (by decide)).1
  have f2 := (hAv 0 (by decide)).2
  have hb3 : Below w.heap.size w ((wv.setCell ⟨wz.heap.size, 0, none⟩ (.int .i64 ((x 0 + 128) % 256))).setCell ⟨wx.heap.size, 0, none⟩ (.int .i64 ((y 0 + 128) % 256))) :=
    (hbel.setCell (by show w.heap.size ≤ wz.heap.size; omega) _).setCell (by show w.heap.size ≤ wx.heap.size; omega) _
  have hne : ¬ wx.heap.size = wz.heap.size := by omega
  have hne2 : ¬ wz.heap.size = wx.heap.size := by omega
  obtain ⟨x0, hx0⟩ : ∃ x0, x 0 = x0 := ⟨_, rfl⟩
  obtain ⟨y0, hy0⟩ : ∃ y0, y 0 = y0 := ⟨_, rfl⟩
  rw [hx0] at c1 hx8 M1 M2 hb3
  rw [hy0] at c2 hy8 M1 M2 hb3
  clear N1 N2 hP hPz hPy p0 p1 hAy hAx hA1 hAv k1 k2 hbel uX uY hx0 hy0
  go_wp2
  go_loopw [7] (fun i wr => ∃ k : Nat, k ≤ 16 ∧ i = .int .i64 (k : Int) ∧ (∀ i, i < k → X i = Y i) ∧ Arr wr wz.heap.size X ∧ Arr wr wx.heap.size Y ∧ Below w.heap.size w wr) (fun i _ => 16 - (intOf i).toNat)
  case atStart => exact ⟨0, by decide, rfl, fun i hi => absurd hi (by omega), M1.out, M2.out, hb3⟩
  case round =>
    obtain ⟨k, hk, rfl, hpre, R1, R2, hbr⟩ := hrel
    have HP := Lib.hid hpre
    have HR1 := Lib.hid R1
    have HR2 := Lib.hid R2
    clear hpre R1 R2 M1 M2 hb3 c1 f1 c2 f2
    by_cases hlt : k < 16
    · have c1 := (HR1.out k hlt).1
      have c2 := (HR2.out k hlt).1
      have hk1 : (k : Int) < 16 := by omega
      have hk2 : (0 : Int) ≤ (k : Int) := by omega
      obtain ⟨p, hp⟩ : ∃ p, X k = p := ⟨_, rfl⟩
      obtain ⟨q, hq⟩ : ∃ q, Y k = q := ⟨_, rfl⟩
      rw [hp] at c1
      rw [hq] at c2
      have HPK := Lib.hid hp
      have HQK := Lib.hid hq
      clear hp hq
      rcases Int.lt_trichotomy p q with h | h | h
      · have hr : Hid (v = -1) := by
          show _ = _
          have := first_lt hXr.out hYr.out k hlt HP.out (by rw [HPK.out, HQK.out]; exact h)
          rw [hXv.out, hYv.out] at this
          rw [← HVV.out]; unfold cmp; rw [if_neg (by omega), if_pos (by omega)]
        go_wp2_with fail
        go_quiet (fail)
        go_wp2
        go_ret
        exact ⟨ret_int hr.out.symm, by (repeat (first | exact Below.refl _ _ | assumption | refine below_add ?_ _ | (refine below_on ?_ (by assumption)) | refine Below.drew ?_ | refine below_drewN ?_ _ | (refine Below.setCell ?_ (by simp; try omega) _) | (refine below_new ?_ _ (by simp; try omega)) | (refine below_next ?_ (by assumption) (by simp; try omega))))⟩
      · have h3 : decide (p < q) = false := decide_eq_false (by omega)
        have h4 : decide (q < p) = false := decide_eq_false (by omega)
        have HE := Lib.hid h
        clear h
        go_wp2_with fail
        go_quiet (fail)
        go_wp2_with fail
        go_quiet (fail)
        go_wp2
        go_roundw
        case rel => exact ⟨k + 1, by omega, by go_num, fun i hi => by
          by_cases e : i = k
          · rw [e, HPK.out, HQK.out, HE.out]
          · exact HP.out i (by omega), fun i hi => HR1.out i hi, fun i hi => HR2.out i hi, by (repeat (first | exact Below.refl _ _ | assumption | refine below_add ?_ _ | (refine below_on ?_ (by assumption)) | refine Below.drew ?_ | refine below_drewN ?_ _ | (refine Below.setCell ?_ (by simp; try omega) _) | (refine below_new ?_ _ (by simp; try omega)) | (refine below_next ?_ (by assumption) (by simp; try omega))))⟩
        case measure => simp [intOf]; omega
      · have hr : Hid (v = 1) := by
          show _ = _
          have := first_lt hYr.out hXr.out k hlt (fun i hi => (HP.out i hi).symm) (by rw [HPK.out, HQK.out]; exact h)
          rw [hXv.out, hYv.out] at this
          rw [← HVV.out]; unfold cmp; rw [if_neg (by omega), if_neg (by omega)]
        have h3 : decide (p < q) = false := decide_eq_false (by omega)
        go_wp2_with fail
        go_quiet (fail)
        go_wp2_with fail
        go_quiet (fail)
        go_wp2
        go_ret
        exact ⟨ret_int hr.out.symm, by (repeat (first | exact Below.refl _ _ | assumption | refine below_add ?_ _ | (refine below_on ?_ (by assumption)) | refine Below.drew ?_ | refine below_drewN ?_ _ | (refine Below.setCell ?_ (by simp; try omega) _) | (refine below_new ?_ _ (by simp; try omega)) | (refine below_next ?_ (by assumption) (by simp; try omega))))⟩
    · have e : k = 16 := by omega
      subst e
      have hr : Hid (v = 0) := by
        show _ = _
        have := tailv_congr (d := X) (e := Y) 16 (fun m hm => HP.out (15 - m) (by omega))
        rw [hXv.out, hYv.out] at this
        rw [← HVV.out]; unfold cmp; rw [if_pos (by omega)]
      go_wp2
      go_ret
      exact ⟨ret_int hr.out.symm, hbr⟩
end Go.Proofs.Ytafgfpppemdedaa
