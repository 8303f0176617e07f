/- Contracts: valuesFit, bucketsFit. -/
import Derived.Test.YtipjhlabcbkgjaaAggChkMath
import Derived.Test.YtipjhlabcbkgjaaAggRMean
import Derived.Test.YtipjhlabcbkgjaaAggTimes
import Derived.Test.YtipjhlabcbkgjaaAggBucket
import Derived.Test.YtipjhlabcbkgjaaAggUnder
import Derived.Test.YtipjhlabcbkgjaaAggAdded
import Derived.Deep.RegionHeld
import Derived.BigQuiet
set_option maxRecDepth 20000
namespace Go.Proofs.Ytipjhlabcbkgjaa.Ag
open Go.RowKit Go.Proofs.Ytipjhlabcbkgjaa Go.Proofs.Ytipjhlabcbkgjaa.Wd Go.Proofs.Ytipjhlabcbkgjaa.Vi Go.Proofs.Ytipjhlabcbkgjaa.Mk

/-- The argument in its box. -/
structure HB (w : World) (a : Ag) (W : World) : Prop where
  a : AgAt W w.heap.size a
  bel : Below w.heap.size w W
theorem HB.keep {w : World} {a : Ag} {W W' : World} (h : HB w a W) (k : Below W.heap.size W W') : HB w a W' := ⟨h.a.below k, bel_next h.bel k⟩
theorem HB.drew {w : World} {a : Ag} {W : World} (h : HB w a W) : HB w a W.drew := h.keep ((Below.refl _ _).drew)
theorem HB.new (w : World) (a : Ag) : HB w a (w.alloc (.cells (cells18 a).toArray 29)) := ⟨(AgW.new w a 29).at_, bel_new (Below.refl _ _) _⟩
theorem HB.name {w : World} {a : Ag} {W : World} (h : HB w a W) : ∃ x, x = W ∧ HB w a x := ⟨W, rfl, h⟩
theorem mul_inW {v n : Int} (hv : -9223372036854775808 ≤ v ∧ v ≤ 9223372036854775807) (hn : 0 ≤ n ∧ n ≤ 1099511627776) : InW (v * n) := by
  have := rmul_bounds v n hv.1 hv.2 hn.1
  constructor <;> omega
set_option maxHeartbeats 4000000 in
theorem values_is (a : Ag) (v : Bool) (ha : a.fits) (hn : 0 ≤ a.n ∧ a.n ≤ 1099511627776) (hv : Hid (vOk a = v)) (w : World) : Calls Try.prog 47 #[agV a] w fun e w' => e = .returned (.bool v) ∧ Below w.heap.size w w' := by
  have hN := HB.new w a
  simp only [cells18] at hN
  have HN := Lib.hid hN
  obtain ⟨X, hX⟩ : ∃ X, a.mn * a.n = X := ⟨_, rfl⟩
  obtain ⟨Y, hY⟩ : ∃ Y, a.mx * a.n = Y := ⟨_, rfl⟩
  have iX := mul_inW ha.mn hn
  have iY := mul_inW ha.mx hn
  have kx := fun W => times_is a.mn a.n W ha.mn hn
  have ky := fun W => times_is a.mx a.n W ha.mx hn
  rw [hX] at iX kx
  rw [hY] at iY ky
  obtain ⟨c1, hc1⟩ : ∃ c, cmp X a.s = c := ⟨_, rfl⟩
  obtain ⟨c2, hc2⟩ : ∃ c, cmp a.s Y = c := ⟨_, rfl⟩
  have k1 := fun W => cmp_is (wh X) (wl X) (wh a.s) (wl a.s) X a.s c1 W (wrep iX) (wrep ha.s) (Lib.hid hc1)
  have k2 := fun W => cmp_is (wh a.s) (wl a.s) (wh Y) (wl Y) a.s Y c2 W (wrep ha.s) (wrep iY) (Lib.hid hc2)
  have hv' : decide (a.mn ≤ a.mx ∧ a.mn ≤ a.la ∧ a.la ≤ a.mx ∧ X ≤ a.s ∧ a.s ≤ Y) = v := by rw [← hX, ← hY]; exact hv.out
  have e1 := cmp_nonpos hc1
  have e2 := cmp_nonpos hc2
  have HE := Lib.hid (And.intro e1 e2)
  have HV := Lib.hid hv'
  clear hN hX hY hv hc1 hc2 hv' e1 e2 iX iY
  rw [show agV a = .agg #[.int .i64 a.n, .int .i64 (wh a.s), .int .u64 (wl a.s), .int .i64 a.mn, .int .i64 a.mx, .int .i64 a.la, .int .i64 a.st.c, .int .i64 a.st.s, .int .i64 a.st.q, .int .i64 (a.b 0), .int .i64 (a.b 1), .int .i64 (a.b 2), .int .i64 (a.b 3), .int .i64 (a.b 4), .int .i64 (a.b 5), .int .i64 (a.b 6), .int .i64 (a.b 7), .int .i64 (a.b 8)] from rfl]
  go_enter Try.func47, Try.ntmps47
  go_upto_region 1 with fail
  obtain ⟨w0, hw0, h0⟩ := HN.out.name
  rw [← hw0]
  have H0 := Lib.hid h0
  have x3 := h0.a.cell 3 rfl
  have x4 := h0.a.cell 4 rfl
  have x5 := h0.a.cell 5 rfl
  clear hw0 h0 HN
  by_cases m1 : a.mx < a.mn
  · obtain rfl : false = v := by rw [← HV.out]; exact (decide_eq_false (by omega)).symm
    go_wp2
    go_ret
    exact ⟨rfl, H0.out.bel⟩
  have d1 : decide (a.mx < a.mn) = false := decide_eq_false m1
  by_cases m2 : a.la < a.mn
  · obtain rfl : false = v := by rw [← HV.out]; exact (decide_eq_false (by omega)).symm
    go_wp2
    go_ret
    exact ⟨rfl, H0.out.bel⟩
  have d2 : decide (a.la < a.mn) = false := decide_eq_false m2
  by_cases m3 : a.mx < a.la
  · obtain rfl : false = v := by rw [← HV.out]; exact (decide_eq_false (by omega)).symm
    go_wp2
    go_ret
    exact ⟨rfl, H0.out.bel⟩
  have d3 : decide (a.mx < a.la) = false := decide_eq_false m3
  go_upto_region 3 with fail
  clear x3 x4 x5
  by_cases q1 : c1 ≤ 0
  · have f1 : decide (c1 ≤ 0) = true := decide_eq_true q1
    by_cases q2 : c2 ≤ 0
    · have f2 : decide (c2 ≤ 0) = true := decide_eq_true q2
      obtain rfl : true = v := by rw [← HV.out]; have := HE.out; exact (decide_eq_true (by omega)).symm
      clear m1 m2 m3 q1 q2 d1 d2 d3
      refine wp_region_held_drew (S := (HB w a)) (by kernel_rfl) H0.out.drew (fun hHeld => ?_)
      refine wpAnyH_take (i := 0) (oi := ?o1o) (v := ?o1v) ?o1h (by kernel_rfl) (by kernel_rfl) (by kernel_rfl) ?o1q ?o1y hHeld ?o1r
      case o1h => (simp only [List.getElem?_toArray, List.getElem?_cons_zero]; rfl)
      case o1q => exact fun _ _ _ h => h
      case o1y => (refine Or.inl ⟨by first | kernel_rfl | rfl, ?_⟩; intro w hSw; (try dsimp only at hSw); have y0 := hSw.a.cell 0 rfl; have y1 := hSw.a.cell 1 rfl; have y2 := hSw.a.cell 2 rfl; have y3 := hSw.a.cell 3 rfl; have y4 := hSw.a.cell 4 rfl; go_simp <;> (try with_reducible rfl))
      try simp only [Act.put, List.setIfInBounds_toArray, List.set_cons_zero, List.set_cons_succ]
      refine wpAnyH_take (i := 1) (oi := ?o2o) (v := ?o2v) ?o2h (by kernel_rfl) (by kernel_rfl) (by kernel_rfl) ?o2q ?o2y hHeld ?o2r
      case o2h => (simp only [List.getElem?_toArray, List.getElem?_cons_succ, List.getElem?_cons_zero]; rfl)
      case o2q => exact fun _ _ _ h => h
      case o2y => (refine Or.inl ⟨by first | kernel_rfl | rfl, ?_⟩; intro w hSw; (try dsimp only at hSw); have y0 := hSw.a.cell 0 rfl; have y1 := hSw.a.cell 1 rfl; have y2 := hSw.a.cell 2 rfl; have y3 := hSw.a.cell 3 rfl; have y4 := hSw.a.cell 4 rfl; go_simp <;> (try with_reducible rfl))
      try simp only [Act.put, List.setIfInBounds_toArray, List.set_cons_zero, List.set_cons_succ]
      refine wpAnyH_take (i := 2) (oi := ?o3o) (v := ?o3v) ?o3h (by kernel_rfl) (by kernel_rfl) (by kernel_rfl) ?o3q ?o3y hHeld ?o3r
      case o3h => (simp only [List.getElem?_toArray, List.getElem?_cons_succ, List.getElem?_cons_zero]; rfl)
      case o3q => exact fun _ _ _ h => h
      case o3y => (refine Or.inl ⟨by first | kernel_rfl | rfl, ?_⟩; intro w hSw; (try dsimp only at hSw); have y0 := hSw.a.cell 0 rfl; have y1 := hSw.a.cell 1 rfl; have y2 := hSw.a.cell 2 rfl; have y3 := hSw.a.cell 3 rfl; have y4 := hSw.a.cell 4 rfl; go_simp <;> (try with_reducible rfl))
      try simp only [Act.put, List.setIfInBounds_toArray, List.set_cons_zero, List.set_cons_succ]
      refine wpAnyH_take (i := 3) (oi := ?o4o) (v := ?o4v) ?o4h (by kernel_rfl) (by kernel_rfl) (by kernel_rfl) ?o4q ?o4y hHeld ?o4r
      case o4h => (simp only [List.getElem?_toArray, List.getElem?_cons_succ, List.getElem?_cons_zero]; rfl)
      case o4q => exact fun _ _ _ h => h
      case o4y => (refine Or.inl ⟨by first | kernel_rfl | rfl, ?_⟩; intro w hSw; (try dsimp only at hSw); have y0 := hSw.a.cell 0 rfl; have y1 := hSw.a.cell 1 rfl; have y2 := hSw.a.cell 2 rfl; have y3 := hSw.a.cell 3 rfl; have y4 := hSw.a.cell 4 rfl; go_simp <;> (try with_reducible rfl))
      try simp only [Act.put, List.setIfInBounds_toArray, List.set_cons_zero, List.set_cons_succ]
      refine wpAnyH_take (i := 5) (oi := ?o5o) (v := ?o5v) ?o5h (by kernel_rfl) (by kernel_rfl) (by kernel_rfl) ?o5q ?o5y hHeld ?o5r
      case o5h => (simp only [List.getElem?_toArray, List.getElem?_cons_succ, List.getElem?_cons_zero]; rfl)
      case o5q => exact fun _ _ _ h => h
      case o5y => (refine Or.inl ⟨by first | kernel_rfl | rfl, ?_⟩; intro w hSw; (try dsimp only at hSw); have y0 := hSw.a.cell 0 rfl; have y1 := hSw.a.cell 1 rfl; have y2 := hSw.a.cell 2 rfl; have y3 := hSw.a.cell 3 rfl; have y4 := hSw.a.cell 4 rfl; go_simp <;> (try with_reducible rfl))
      try simp only [Act.put, List.setIfInBounds_toArray, List.set_cons_zero, List.set_cons_succ]
      refine wpAnyH_take (i := 6) (oi := ?o6o) (v := ?o6v) ?o6h (by kernel_rfl) (by kernel_rfl) (by kernel_rfl) ?o6q ?o6y hHeld ?o6r
      case o6h => (simp only [List.getElem?_toArray, List.getElem?_cons_succ, List.getElem?_cons_zero]; rfl)
      case o6q => exact fun _ _ _ h => h
      case o6y => (refine Or.inl ⟨by first | kernel_rfl | rfl, ?_⟩; intro w hSw; (try dsimp only at hSw); have y0 := hSw.a.cell 0 rfl; have y1 := hSw.a.cell 1 rfl; have y2 := hSw.a.cell 2 rfl; have y3 := hSw.a.cell 3 rfl; have y4 := hSw.a.cell 4 rfl; go_simp <;> (try with_reducible rfl))
      try simp only [Act.put, List.setIfInBounds_toArray, List.set_cons_zero, List.set_cons_succ]
      refine wpAnyH_ready (rs := [4]) (by kernel_rfl) (by simp) ?_
      refine (AllReadyH.cons rfl (fun K hK => ?_) AllReadyH.nil)
      go_simp
      ((with_reducible refine (kx _).mono ?_); rintro e w2 ⟨rfl, hb⟩; (have H2 := Lib.hid (hHeld.keep hb)); clear hb)
      refine hK.out _ _ (H2.out) (fun hHeld => ?_)
      clear hK K
      try simp only [Act.put, List.setIfInBounds_toArray, List.set_cons_zero, List.set_cons_succ]
      refine wpAnyH_ready (rs := [7]) (by kernel_rfl) (by simp) ?_
      refine (AllReadyH.cons rfl (fun K hK => ?_) AllReadyH.nil)
      go_simp
      ((with_reducible refine (k1 _).mono ?_); rintro e w2 ⟨rfl, hb⟩; (have H2 := Lib.hid (hHeld.keep hb)); clear hb)
      refine hK.out _ _ (H2.out) (fun hHeld => ?_)
      clear hK K
      try simp only [Act.put, List.setIfInBounds_toArray, List.set_cons_zero, List.set_cons_succ]
      refine wpAnyH_take (i := 8) (oi := ?o7o) (v := ?o7v) ?o7h (by kernel_rfl) (by kernel_rfl) (by kernel_rfl) ?o7q ?o7y hHeld ?o7r
      case o7h => (simp only [List.getElem?_toArray, List.getElem?_cons_succ, List.getElem?_cons_zero]; rfl)
      case o7q => exact fun _ _ _ h => h
      case o7y => (refine Or.inl ⟨by first | kernel_rfl | rfl, ?_⟩; intro w hSw; (try dsimp only at hSw); have y0 := hSw.a.cell 0 rfl; have y1 := hSw.a.cell 1 rfl; have y2 := hSw.a.cell 2 rfl; have y3 := hSw.a.cell 3 rfl; have y4 := hSw.a.cell 4 rfl; go_simp <;> (try with_reducible rfl))
      try simp only [Act.put, List.setIfInBounds_toArray, List.set_cons_zero, List.set_cons_succ]
      refine wpAnyH_take (i := 9) (oi := ?o8o) (v := ?o8v) ?o8h (by kernel_rfl) (by kernel_rfl) (by kernel_rfl) ?o8q ?o8y hHeld ?o8r
      case o8h => (simp only [List.getElem?_toArray, List.getElem?_cons_succ, List.getElem?_cons_zero]; rfl)
      case o8q => exact fun _ _ _ h => h
      case o8y => (refine Or.inl ⟨by first | kernel_rfl | rfl, ?_⟩; intro w hSw; (try dsimp only at hSw); have y0 := hSw.a.cell 0 rfl; have y1 := hSw.a.cell 1 rfl; have y2 := hSw.a.cell 2 rfl; have y3 := hSw.a.cell 3 rfl; have y4 := hSw.a.cell 4 rfl; go_simp <;> (try with_reducible rfl))
      try simp only [Act.put, List.setIfInBounds_toArray, List.set_cons_zero, List.set_cons_succ]
      refine wpAnyH_take (i := 10) (oi := ?o9o) (v := ?o9v) ?o9h (by kernel_rfl) (by kernel_rfl) (by kernel_rfl) ?o9q ?o9y hHeld ?o9r
      case o9h => (simp only [List.getElem?_toArray, List.getElem?_cons_succ, List.getElem?_cons_zero]; rfl)
      case o9q => exact fun _ _ _ h => h
      case o9y => (refine Or.inl ⟨by first | kernel_rfl | rfl, ?_⟩; intro w hSw; (try dsimp only at hSw); have y0 := hSw.a.cell 0 rfl; have y1 := hSw.a.cell 1 rfl; have y2 := hSw.a.cell 2 rfl; have y3 := hSw.a.cell 3 rfl; have y4 := hSw.a.cell 4 rfl; go_simp <;> (try with_reducible rfl))
      try simp only [Act.put, List.setIfInBounds_toArray, List.set_cons_zero, List.set_cons_succ]
      refine wpAnyH_take (i := 11) (oi := ?o10o) (v := ?o10v) ?o10h (by kernel_rfl) (by kernel_rfl) (by kernel_rfl) ?o10q ?o10y hHeld ?o10r
      case o10h => (simp only [List.getElem?_toArray, List.getElem?_cons_succ, List.getElem?_cons_zero]; rfl)
      case o10q => exact fun _ _ _ h => h
      case o10y => (refine Or.inl ⟨by first | kernel_rfl | rfl, ?_⟩; intro w hSw; (try dsimp only at hSw); have y0 := hSw.a.cell 0 rfl; have y1 := hSw.a.cell 1 rfl; have y2 := hSw.a.cell 2 rfl; have y3 := hSw.a.cell 3 rfl; have y4 := hSw.a.cell 4 rfl; go_simp <;> (try with_reducible rfl))
      try simp only [Act.put, List.setIfInBounds_toArray, List.set_cons_zero, List.set_cons_succ]
      refine wpAnyH_take (i := 12) (oi := ?o11o) (v := ?o11v) ?o11h (by kernel_rfl) (by kernel_rfl) (by kernel_rfl) ?o11q ?o11y hHeld ?o11r
      case o11h => (simp only [List.getElem?_toArray, List.getElem?_cons_succ, List.getElem?_cons_zero]; rfl)
      case o11q => exact fun _ _ _ h => h
      case o11y => (refine Or.inl ⟨by first | kernel_rfl | rfl, ?_⟩; intro w hSw; (try dsimp only at hSw); have y0 := hSw.a.cell 0 rfl; have y1 := hSw.a.cell 1 rfl; have y2 := hSw.a.cell 2 rfl; have y3 := hSw.a.cell 3 rfl; have y4 := hSw.a.cell 4 rfl; go_simp <;> (try with_reducible rfl))
      try simp only [Act.put, List.setIfInBounds_toArray, List.set_cons_zero, List.set_cons_succ]
      refine wpAnyH_take (i := 13) (oi := ?o12o) (v := ?o12v) ?o12h (by kernel_rfl) (by kernel_rfl) (by kernel_rfl) ?o12q ?o12y hHeld ?o12r
      case o12h => (simp only [List.getElem?_toArray, List.getElem?_cons_succ, List.getElem?_cons_zero]; rfl)
      case o12q => exact fun _ _ _ h => h
      case o12y => (refine Or.inl ⟨by first | kernel_rfl | rfl, ?_⟩; intro w hSw; (try dsimp only at hSw); have y0 := hSw.a.cell 0 rfl; have y1 := hSw.a.cell 1 rfl; have y2 := hSw.a.cell 2 rfl; have y3 := hSw.a.cell 3 rfl; have y4 := hSw.a.cell 4 rfl; go_simp <;> (try with_reducible rfl))
      try simp only [Act.put, List.setIfInBounds_toArray, List.set_cons_zero, List.set_cons_succ]
      refine wpAnyH_take (i := 14) (oi := ?o13o) (v := ?o13v) ?o13h (by kernel_rfl) (by kernel_rfl) (by kernel_rfl) ?o13q ?o13y hHeld ?o13r
      case o13h => (simp only [List.getElem?_toArray, List.getElem?_cons_succ, List.getElem?_cons_zero]; rfl)
      case o13q => exact fun _ _ _ h => h
      case o13y => (refine Or.inl ⟨by first | kernel_rfl | rfl, ?_⟩; intro w hSw; (try dsimp only at hSw); have y0 := hSw.a.cell 0 rfl; have y1 := hSw.a.cell 1 rfl; have y2 := hSw.a.cell 2 rfl; have y3 := hSw.a.cell 3 rfl; have y4 := hSw.a.cell 4 rfl; go_simp <;> (try with_reducible rfl))
      try simp only [Act.put, List.setIfInBounds_toArray, List.set_cons_zero, List.set_cons_succ]
      refine wpAnyH_take (i := 15) (oi := ?o14o) (v := ?o14v) ?o14h (by kernel_rfl) (by kernel_rfl) (by kernel_rfl) ?o14q ?o14y hHeld ?o14r
      case o14h => (simp only [List.getElem?_toArray, List.getElem?_cons_succ, List.getElem?_cons_zero]; rfl)
      case o14q => exact fun _ _ _ h => h
      case o14y => (refine Or.inl ⟨by first | kernel_rfl | rfl, ?_⟩; intro w hSw; (try dsimp only at hSw); have y0 := hSw.a.cell 0 rfl; have y1 := hSw.a.cell 1 rfl; have y2 := hSw.a.cell 2 rfl; have y3 := hSw.a.cell 3 rfl; have y4 := hSw.a.cell 4 rfl; go_simp <;> (try with_reducible rfl))
      try simp only [Act.put, List.setIfInBounds_toArray, List.set_cons_zero, List.set_cons_succ]
      refine wpAnyH_ready (rs := [16]) (by kernel_rfl) (by simp) ?_
      refine (AllReadyH.cons rfl (fun K hK => ?_) AllReadyH.nil)
      go_simp
      ((with_reducible refine (ky _).mono ?_); rintro e w2 ⟨rfl, hb⟩; (have H2 := Lib.hid (hHeld.keep hb)); clear hb)
      refine hK.out _ _ (H2.out) (fun hHeld => ?_)
      clear hK K
      try simp only [Act.put, List.setIfInBounds_toArray, List.set_cons_zero, List.set_cons_succ]
      refine wpAnyH_ready (rs := [17]) (by kernel_rfl) (by simp) ?_
      refine (AllReadyH.cons rfl (fun K hK => ?_) AllReadyH.nil)
      go_simp
      ((with_reducible refine (k2 _).mono ?_); rintro e w2 ⟨rfl, hb⟩; (have H2 := Lib.hid (hHeld.keep hb)); clear hb)
      refine hK.out _ _ (H2.out) (fun hHeld => ?_)
      clear hK K
      try simp only [Act.put, List.setIfInBounds_toArray, List.set_cons_zero, List.set_cons_succ]
      refine wpAnyH_take (i := 18) (oi := ?o15o) (v := ?o15v) ?o15h (by kernel_rfl) (by kernel_rfl) (by kernel_rfl) ?o15q ?o15y hHeld ?o15r
      case o15h => (simp only [List.getElem?_toArray, List.getElem?_cons_succ, List.getElem?_cons_zero]; rfl)
      case o15q => exact fun _ _ _ h => h
      case o15y => (refine Or.inl ⟨by first | kernel_rfl | rfl, ?_⟩; intro w hSw; (try dsimp only at hSw); have y0 := hSw.a.cell 0 rfl; have y1 := hSw.a.cell 1 rfl; have y2 := hSw.a.cell 2 rfl; have y3 := hSw.a.cell 3 rfl; have y4 := hSw.a.cell 4 rfl; go_simp <;> (try with_reducible rfl))
      try simp only [Act.put, List.setIfInBounds_toArray, List.set_cons_zero, List.set_cons_succ]
      refine wpAnyH_take (i := 19) (oi := ?o16o) (v := ?o16v) ?o16h (by kernel_rfl) (by kernel_rfl) (by kernel_rfl) ?o16q ?o16y hHeld ?o16r
      case o16h => (simp only [List.getElem?_toArray, List.getElem?_cons_succ, List.getElem?_cons_zero]; rfl)
      case o16q => exact fun _ _ _ h => h
      case o16y => (refine Or.inl ⟨by first | kernel_rfl | rfl, ?_⟩; intro w hSw; (try dsimp only at hSw); have y0 := hSw.a.cell 0 rfl; have y1 := hSw.a.cell 1 rfl; have y2 := hSw.a.cell 2 rfl; have y3 := hSw.a.cell 3 rfl; have y4 := hSw.a.cell 4 rfl; go_simp <;> (try with_reducible rfl))
      try simp only [Act.put, List.setIfInBounds_toArray, List.set_cons_zero, List.set_cons_succ]
      refine wpAnyH_take (i := 20) (oi := ?o17o) (v := ?o17v) ?o17h (by kernel_rfl) (by kernel_rfl) (by kernel_rfl) ?o17q ?o17y hHeld ?o17r
      case o17h => (simp only [List.getElem?_toArray, List.getElem?_cons_succ, List.getElem?_cons_zero]; rfl)
      case o17q => exact fun _ _ _ h => h
      case o17y => (refine Or.inl ⟨by first | kernel_rfl | rfl, ?_⟩; intro w hSw; (try dsimp only at hSw); have y0 := hSw.a.cell 0 rfl; have y1 := hSw.a.cell 1 rfl; have y2 := hSw.a.cell 2 rfl; have y3 := hSw.a.cell 3 rfl; have y4 := hSw.a.cell 4 rfl; go_simp <;> (try with_reducible rfl))
      try simp only [Act.put, List.setIfInBounds_toArray, List.set_cons_zero, List.set_cons_succ]
      refine wpAnyH_done (by kernel_rfl) ?_ _
      have hbel := hHeld.bel
      go_wp2
      go_ret
      exact ⟨rfl, hbel⟩
    · have f2 : decide (c2 ≤ 0) = false := decide_eq_false q2
      obtain rfl : false = v := by rw [← HV.out]; have := HE.out; exact (decide_eq_false (by omega)).symm
      clear m1 m2 m3 q1 q2 d1 d2 d3
      refine wp_region_held_drew (S := (HB w a)) (by kernel_rfl) H0.out.drew (fun hHeld => ?_)
      refine wpAnyH_take (i := 0) (oi := ?p1o) (v := ?p1v) ?p1h (by kernel_rfl) (by kernel_rfl) (by kernel_rfl) ?p1q ?p1y hHeld ?p1r
      case p1h => (simp only [List.getElem?_toArray, List.getElem?_cons_zero]; rfl)
      case p1q => exact fun _ _ _ h => h
      case p1y => (refine Or.inl ⟨by first | kernel_rfl | rfl, ?_⟩; intro w hSw; (try dsimp only at hSw); have y0 := hSw.a.cell 0 rfl; have y1 := hSw.a.cell 1 rfl; have y2 := hSw.a.cell 2 rfl; have y3 := hSw.a.cell 3 rfl; have y4 := hSw.a.cell 4 rfl; go_simp <;> (try with_reducible rfl))
      try simp only [Act.put, List.setIfInBounds_toArray, List.set_cons_zero, List.set_cons_succ]
      refine wpAnyH_take (i := 1) (oi := ?p2o) (v := ?p2v) ?p2h (by kernel_rfl) (by kernel_rfl) (by kernel_rfl) ?p2q ?p2y hHeld ?p2r
      case p2h => (simp only [List.getElem?_toArray, List.getElem?_cons_succ, List.getElem?_cons_zero]; rfl)
      case p2q => exact fun _ _ _ h => h
      case p2y => (refine Or.inl ⟨by first | kernel_rfl | rfl, ?_⟩; intro w hSw; (try dsimp only at hSw); have y0 := hSw.a.cell 0 rfl; have y1 := hSw.a.cell 1 rfl; have y2 := hSw.a.cell 2 rfl; have y3 := hSw.a.cell 3 rfl; have y4 := hSw.a.cell 4 rfl; go_simp <;> (try with_reducible rfl))
      try simp only [Act.put, List.setIfInBounds_toArray, List.set_cons_zero, List.set_cons_succ]
      refine wpAnyH_take (i := 2) (oi := ?p3o) (v := ?p3v) ?p3h (by kernel_rfl) (by kernel_rfl) (by kernel_rfl) ?p3q ?p3y hHeld ?p3r
      case p3h => (simp only [List.getElem?_toArray, List.getElem?_cons_succ, List.getElem?_cons_zero]; rfl)
      case p3q => exact fun _ _ _ h => h
      case p3y => (refine Or.inl ⟨by first | kernel_rfl | rfl, ?_⟩; intro w hSw; (try dsimp only at hSw); have y0 := hSw.a.cell 0 rfl; have y1 := hSw.a.cell 1 rfl; have y2 := hSw.a.cell 2 rfl; have y3 := hSw.a.cell 3 rfl; have y4 := hSw.a.cell 4 rfl; go_simp <;> (try with_reducible rfl))
      try simp only [Act.put, List.setIfInBounds_toArray, List.set_cons_zero, List.set_cons_succ]
      refine wpAnyH_take (i := 3) (oi := ?p4o) (v := ?p4v) ?p4h (by kernel_rfl) (by kernel_rfl) (by kernel_rfl) ?p4q ?p4y hHeld ?p4r
      case p4h => (simp only [List.getElem?_toArray, List.getElem?_cons_succ, List.getElem?_cons_zero]; rfl)
      case p4q => exact fun _ _ _ h => h
      case p4y => (refine Or.inl ⟨by first | kernel_rfl | rfl, ?_⟩; intro w hSw; (try dsimp only at hSw); have y0 := hSw.a.cell 0 rfl; have y1 := hSw.a.cell 1 rfl; have y2 := hSw.a.cell 2 rfl; have y3 := hSw.a.cell 3 rfl; have y4 := hSw.a.cell 4 rfl; go_simp <;> (try with_reducible rfl))
      try simp only [Act.put, List.setIfInBounds_toArray, List.set_cons_zero, List.set_cons_succ]
      refine wpAnyH_take (i := 5) (oi := ?p5o) (v := ?p5v) ?p5h (by kernel_rfl) (by kernel_rfl) (by kernel_rfl) ?p5q ?p5y hHeld ?p5r
      case p5h => (simp only [List.getElem?_toArray, List.getElem?_cons_succ, List.getElem?_cons_zero]; rfl)
      case p5q => exact fun _ _ _ h => h
      case p5y => (refine Or.inl ⟨by first | kernel_rfl | rfl, ?_⟩; intro w hSw; (try dsimp only at hSw); have y0 := hSw.a.cell 0 rfl; have y1 := hSw.a.cell 1 rfl; have y2 := hSw.a.cell 2 rfl; have y3 := hSw.a.cell 3 rfl; have y4 := hSw.a.cell 4 rfl; go_simp <;> (try with_reducible rfl))
      try simp only [Act.put, List.setIfInBounds_toArray, List.set_cons_zero, List.set_cons_succ]
      refine wpAnyH_take (i := 6) (oi := ?p6o) (v := ?p6v) ?p6h (by kernel_rfl) (by kernel_rfl) (by kernel_rfl) ?p6q ?p6y hHeld ?p6r
      case p6h => (simp only [List.getElem?_toArray, List.getElem?_cons_succ, List.getElem?_cons_zero]; rfl)
      case p6q => exact fun _ _ _ h => h
      case p6y => (refine Or.inl ⟨by first | kernel_rfl | rfl, ?_⟩; intro w hSw; (try dsimp only at hSw); have y0 := hSw.a.cell 0 rfl; have y1 := hSw.a.cell 1 rfl; have y2 := hSw.a.cell 2 rfl; have y3 := hSw.a.cell 3 rfl; have y4 := hSw.a.cell 4 rfl; go_simp <;> (try with_reducible rfl))
      try simp only [Act.put, List.setIfInBounds_toArray, List.set_cons_zero, List.set_cons_succ]
      refine wpAnyH_ready (rs := [4]) (by kernel_rfl) (by simp) ?_
      refine (AllReadyH.cons rfl (fun K hK => ?_) AllReadyH.nil)
      go_simp
      ((with_reducible refine (kx _).mono ?_); rintro e w2 ⟨rfl, hb⟩; (have H2 := Lib.hid (hHeld.keep hb)); clear hb)
      refine hK.out _ _ (H2.out) (fun hHeld => ?_)
      clear hK K
      try simp only [Act.put, List.setIfInBounds_toArray, List.set_cons_zero, List.set_cons_succ]
      refine wpAnyH_ready (rs := [7]) (by kernel_rfl) (by simp) ?_
      refine (AllReadyH.cons rfl (fun K hK => ?_) AllReadyH.nil)
      go_simp
      ((with_reducible refine (k1 _).mono ?_); rintro e w2 ⟨rfl, hb⟩; (have H2 := Lib.hid (hHeld.keep hb)); clear hb)
      refine hK.out _ _ (H2.out) (fun hHeld => ?_)
      clear hK K
      try simp only [Act.put, List.setIfInBounds_toArray, List.set_cons_zero, List.set_cons_succ]
      refine wpAnyH_take (i := 8) (oi := ?p7o) (v := ?p7v) ?p7h (by kernel_rfl) (by kernel_rfl) (by kernel_rfl) ?p7q ?p7y hHeld ?p7r
      case p7h => (simp only [List.getElem?_toArray, List.getElem?_cons_succ, List.getElem?_cons_zero]; rfl)
      case p7q => exact fun _ _ _ h => h
      case p7y => (refine Or.inl ⟨by first | kernel_rfl | rfl, ?_⟩; intro w hSw; (try dsimp only at hSw); have y0 := hSw.a.cell 0 rfl; have y1 := hSw.a.cell 1 rfl; have y2 := hSw.a.cell 2 rfl; have y3 := hSw.a.cell 3 rfl; have y4 := hSw.a.cell 4 rfl; go_simp <;> (try with_reducible rfl))
      try simp only [Act.put, List.setIfInBounds_toArray, List.set_cons_zero, List.set_cons_succ]
      refine wpAnyH_take (i := 9) (oi := ?p8o) (v := ?p8v) ?p8h (by kernel_rfl) (by kernel_rfl) (by kernel_rfl) ?p8q ?p8y hHeld ?p8r
      case p8h => (simp only [List.getElem?_toArray, List.getElem?_cons_succ, List.getElem?_cons_zero]; rfl)
      case p8q => exact fun _ _ _ h => h
      case p8y => (refine Or.inl ⟨by first | kernel_rfl | rfl, ?_⟩; intro w hSw; (try dsimp only at hSw); have y0 := hSw.a.cell 0 rfl; have y1 := hSw.a.cell 1 rfl; have y2 := hSw.a.cell 2 rfl; have y3 := hSw.a.cell 3 rfl; have y4 := hSw.a.cell 4 rfl; go_simp <;> (try with_reducible rfl))
      try simp only [Act.put, List.setIfInBounds_toArray, List.set_cons_zero, List.set_cons_succ]
      refine wpAnyH_take (i := 10) (oi := ?p9o) (v := ?p9v) ?p9h (by kernel_rfl) (by kernel_rfl) (by kernel_rfl) ?p9q ?p9y hHeld ?p9r
      case p9h => (simp only [List.getElem?_toArray, List.getElem?_cons_succ, List.getElem?_cons_zero]; rfl)
      case p9q => exact fun _ _ _ h => h
      case p9y => (refine Or.inl ⟨by first | kernel_rfl | rfl, ?_⟩; intro w hSw; (try dsimp only at hSw); have y0 := hSw.a.cell 0 rfl; have y1 := hSw.a.cell 1 rfl; have y2 := hSw.a.cell 2 rfl; have y3 := hSw.a.cell 3 rfl; have y4 := hSw.a.cell 4 rfl; go_simp <;> (try with_reducible rfl))
      try simp only [Act.put, List.setIfInBounds_toArray, List.set_cons_zero, List.set_cons_succ]
      refine wpAnyH_take (i := 11) (oi := ?p10o) (v := ?p10v) ?p10h (by kernel_rfl) (by kernel_rfl) (by kernel_rfl) ?p10q ?p10y hHeld ?p10r
      case p10h => (simp only [List.getElem?_toArray, List.getElem?_cons_succ, List.getElem?_cons_zero]; rfl)
      case p10q => exact fun _ _ _ h => h
      case p10y => (refine Or.inl ⟨by first | kernel_rfl | rfl, ?_⟩; intro w hSw; (try dsimp only at hSw); have y0 := hSw.a.cell 0 rfl; have y1 := hSw.a.cell 1 rfl; have y2 := hSw.a.cell 2 rfl; have y3 := hSw.a.cell 3 rfl; have y4 := hSw.a.cell 4 rfl; go_simp <;> (try with_reducible rfl))
      try simp only [Act.put, List.setIfInBounds_toArray, List.set_cons_zero, List.set_cons_succ]
      refine wpAnyH_take (i := 12) (oi := ?p11o) (v := ?p11v) ?p11h (by kernel_rfl) (by kernel_rfl) (by kernel_rfl) ?p11q ?p11y hHeld ?p11r
      case p11h => (simp only [List.getElem?_toArray, List.getElem?_cons_succ, List.getElem?_cons_zero]; rfl)
      case p11q => exact fun _ _ _ h => h
      case p11y => (refine Or.inl ⟨by first | kernel_rfl | rfl, ?_⟩; intro w hSw; (try dsimp only at hSw); have y0 := hSw.a.cell 0 rfl; have y1 := hSw.a.cell 1 rfl; have y2 := hSw.a.cell 2 rfl; have y3 := hSw.a.cell 3 rfl; have y4 := hSw.a.cell 4 rfl; go_simp <;> (try with_reducible rfl))
      try simp only [Act.put, List.setIfInBounds_toArray, List.set_cons_zero, List.set_cons_succ]
      refine wpAnyH_take (i := 13) (oi := ?p12o) (v := ?p12v) ?p12h (by kernel_rfl) (by kernel_rfl) (by kernel_rfl) ?p12q ?p12y hHeld ?p12r
      case p12h => (simp only [List.getElem?_toArray, List.getElem?_cons_succ, List.getElem?_cons_zero]; rfl)
      case p12q => exact fun _ _ _ h => h
      case p12y => (refine Or.inl ⟨by first | kernel_rfl | rfl, ?_⟩; intro w hSw; (try dsimp only at hSw); have y0 := hSw.a.cell 0 rfl; have y1 := hSw.a.cell 1 rfl; have y2 := hSw.a.cell 2 rfl; have y3 := hSw.a.cell 3 rfl; have y4 := hSw.a.cell 4 rfl; go_simp <;> (try with_reducible rfl))
      try simp only [Act.put, List.setIfInBounds_toArray, List.set_cons_zero, List.set_cons_succ]
      refine wpAnyH_take (i := 14) (oi := ?p13o) (v := ?p13v) ?p13h (by kernel_rfl) (by kernel_rfl) (by kernel_rfl) ?p13q ?p13y hHeld ?p13r
      case p13h => (simp only [List.getElem?_toArray, List.getElem?_cons_succ, List.getElem?_cons_zero]; rfl)
      case p13q => exact fun _ _ _ h => h
      case p13y => (refine Or.inl ⟨by first | kernel_rfl | rfl, ?_⟩; intro w hSw; (try dsimp only at hSw); have y0 := hSw.a.cell 0 rfl; have y1 := hSw.a.cell 1 rfl; have y2 := hSw.a.cell 2 rfl; have y3 := hSw.a.cell 3 rfl; have y4 := hSw.a.cell 4 rfl; go_simp <;> (try with_reducible rfl))
      try simp only [Act.put, List.setIfInBounds_toArray, List.set_cons_zero, List.set_cons_succ]
      refine wpAnyH_take (i := 15) (oi := ?p14o) (v := ?p14v) ?p14h (by kernel_rfl) (by kernel_rfl) (by kernel_rfl) ?p14q ?p14y hHeld ?p14r
      case p14h => (simp only [List.getElem?_toArray, List.getElem?_cons_succ, List.getElem?_cons_zero]; rfl)
      case p14q => exact fun _ _ _ h => h
      case p14y => (refine Or.inl ⟨by first | kernel_rfl | rfl, ?_⟩; intro w hSw; (try dsimp only at hSw); have y0 := hSw.a.cell 0 rfl; have y1 := hSw.a.cell 1 rfl; have y2 := hSw.a.cell 2 rfl; have y3 := hSw.a.cell 3 rfl; have y4 := hSw.a.cell 4 rfl; go_simp <;> (try with_reducible rfl))
      try simp only [Act.put, List.setIfInBounds_toArray, List.set_cons_zero, List.set_cons_succ]
      refine wpAnyH_ready (rs := [16]) (by kernel_rfl) (by simp) ?_
      refine (AllReadyH.cons rfl (fun K hK => ?_) AllReadyH.nil)
      go_simp
      ((with_reducible refine (ky _).mono ?_); rintro e w2 ⟨rfl, hb⟩; (have H2 := Lib.hid (hHeld.keep hb)); clear hb)
      refine hK.out _ _ (H2.out) (fun hHeld => ?_)
      clear hK K
      try simp only [Act.put, List.setIfInBounds_toArray, List.set_cons_zero, List.set_cons_succ]
      refine wpAnyH_ready (rs := [17]) (by kernel_rfl) (by simp) ?_
      refine (AllReadyH.cons rfl (fun K hK => ?_) AllReadyH.nil)
      go_simp
      ((with_reducible refine (k2 _).mono ?_); rintro e w2 ⟨rfl, hb⟩; (have H2 := Lib.hid (hHeld.keep hb)); clear hb)
      refine hK.out _ _ (H2.out) (fun hHeld => ?_)
      clear hK K
      try simp only [Act.put, List.setIfInBounds_toArray, List.set_cons_zero, List.set_cons_succ]
      refine wpAnyH_take (i := 18) (oi := ?p15o) (v := ?p15v) ?p15h (by kernel_rfl) (by kernel_rfl) (by kernel_rfl) ?p15q ?p15y hHeld ?p15r
      case p15h => (simp only [List.getElem?_toArray, List.getElem?_cons_succ, List.getElem?_cons_zero]; rfl)
      case p15q => exact fun _ _ _ h => h
      case p15y => (refine Or.inl ⟨by first | kernel_rfl | rfl, ?_⟩; intro w hSw; (try dsimp only at hSw); have y0 := hSw.a.cell 0 rfl; have y1 := hSw.a.cell 1 rfl; have y2 := hSw.a.cell 2 rfl; have y3 := hSw.a.cell 3 rfl; have y4 := hSw.a.cell 4 rfl; go_simp <;> (try with_reducible rfl))
      try simp only [Act.put, List.setIfInBounds_toArray, List.set_cons_zero, List.set_cons_succ]
      refine wpAnyH_take (i := 19) (oi := ?p16o) (v := ?p16v) ?p16h (by kernel_rfl) (by kernel_rfl) (by kernel_rfl) ?p16q ?p16y hHeld ?p16r
      case p16h => (simp only [List.getElem?_toArray, List.getElem?_cons_succ, List.getElem?_cons_zero]; rfl)
      case p16q => exact fun _ _ _ h => h
      case p16y => (refine Or.inl ⟨by first | kernel_rfl | rfl, ?_⟩; intro w hSw; (try dsimp only at hSw); have y0 := hSw.a.cell 0 rfl; have y1 := hSw.a.cell 1 rfl; have y2 := hSw.a.cell 2 rfl; have y3 := hSw.a.cell 3 rfl; have y4 := hSw.a.cell 4 rfl; go_simp <;> (try with_reducible rfl))
      try simp only [Act.put, List.setIfInBounds_toArray, List.set_cons_zero, List.set_cons_succ]
      refine wpAnyH_take (i := 20) (oi := ?p17o) (v := ?p17v) ?p17h (by kernel_rfl) (by kernel_rfl) (by kernel_rfl) ?p17q ?p17y hHeld ?p17r
      case p17h => (simp only [List.getElem?_toArray, List.getElem?_cons_succ, List.getElem?_cons_zero]; rfl)
      case p17q => exact fun _ _ _ h => h
      case p17y => (refine Or.inl ⟨by first | kernel_rfl | rfl, ?_⟩; intro w hSw; (try dsimp only at hSw); have y0 := hSw.a.cell 0 rfl; have y1 := hSw.a.cell 1 rfl; have y2 := hSw.a.cell 2 rfl; have y3 := hSw.a.cell 3 rfl; have y4 := hSw.a.cell 4 rfl; go_simp <;> (try with_reducible rfl))
      try simp only [Act.put, List.setIfInBounds_toArray, List.set_cons_zero, List.set_cons_succ]
      refine wpAnyH_done (by kernel_rfl) ?_ _
      have hbel := hHeld.bel
      go_wp2
      go_ret
      exact ⟨rfl, hbel⟩
  · have f1 : decide (c1 ≤ 0) = false := decide_eq_false q1
    obtain rfl : false = v := by rw [← HV.out]; have := HE.out; exact (decide_eq_false (by omega)).symm
    clear m1 m2 m3 q1 d1 d2 d3
    refine wp_region_held_drew (S := (HB w a)) (by kernel_rfl) H0.out.drew (fun hHeld => ?_)
    refine wpAnyH_take (i := 0) (oi := ?q1o) (v := ?q1v) ?q1h (by kernel_rfl) (by kernel_rfl) (by kernel_rfl) ?q1q ?q1y hHeld ?q1r
    case q1h => (simp only [List.getElem?_toArray, List.getElem?_cons_zero]; rfl)
    case q1q => exact fun _ _ _ h => h
    case q1y => (refine Or.inl ⟨by first | kernel_rfl | rfl, ?_⟩; intro w hSw; (try dsimp only at hSw); have y0 := hSw.a.cell 0 rfl; have y1 := hSw.a.cell 1 rfl; have y2 := hSw.a.cell 2 rfl; have y3 := hSw.a.cell 3 rfl; have y4 := hSw.a.cell 4 rfl; go_simp <;> (try with_reducible rfl))
    try simp only [Act.put, List.setIfInBounds_toArray, List.set_cons_zero, List.set_cons_succ]
    refine wpAnyH_take (i := 1) (oi := ?q2o) (v := ?q2v) ?q2h (by kernel_rfl) (by kernel_rfl) (by kernel_rfl) ?q2q ?q2y hHeld ?q2r
    case q2h => (simp only [List.getElem?_toArray, List.getElem?_cons_succ, List.getElem?_cons_zero]; rfl)
    case q2q => exact fun _ _ _ h => h
    case q2y => (refine Or.inl ⟨by first | kernel_rfl | rfl, ?_⟩; intro w hSw; (try dsimp only at hSw); have y0 := hSw.a.cell 0 rfl; have y1 := hSw.a.cell 1 rfl; have y2 := hSw.a.cell 2 rfl; have y3 := hSw.a.cell 3 rfl; have y4 := hSw.a.cell 4 rfl; go_simp <;> (try with_reducible rfl))
    try simp only [Act.put, List.setIfInBounds_toArray, List.set_cons_zero, List.set_cons_succ]
    refine wpAnyH_take (i := 2) (oi := ?q3o) (v := ?q3v) ?q3h (by kernel_rfl) (by kernel_rfl) (by kernel_rfl) ?q3q ?q3y hHeld ?q3r
    case q3h => (simp only [List.getElem?_toArray, List.getElem?_cons_succ, List.getElem?_cons_zero]; rfl)
    case q3q => exact fun _ _ _ h => h
    case q3y => (refine Or.inl ⟨by first | kernel_rfl | rfl, ?_⟩; intro w hSw; (try dsimp only at hSw); have y0 := hSw.a.cell 0 rfl; have y1 := hSw.a.cell 1 rfl; have y2 := hSw.a.cell 2 rfl; have y3 := hSw.a.cell 3 rfl; have y4 := hSw.a.cell 4 rfl; go_simp <;> (try with_reducible rfl))
    try simp only [Act.put, List.setIfInBounds_toArray, List.set_cons_zero, List.set_cons_succ]
    refine wpAnyH_take (i := 3) (oi := ?q4o) (v := ?q4v) ?q4h (by kernel_rfl) (by kernel_rfl) (by kernel_rfl) ?q4q ?q4y hHeld ?q4r
    case q4h => (simp only [List.getElem?_toArray, List.getElem?_cons_succ, List.getElem?_cons_zero]; rfl)
    case q4q => exact fun _ _ _ h => h
    case q4y => (refine Or.inl ⟨by first | kernel_rfl | rfl, ?_⟩; intro w hSw; (try dsimp only at hSw); have y0 := hSw.a.cell 0 rfl; have y1 := hSw.a.cell 1 rfl; have y2 := hSw.a.cell 2 rfl; have y3 := hSw.a.cell 3 rfl; have y4 := hSw.a.cell 4 rfl; go_simp <;> (try with_reducible rfl))
    try simp only [Act.put, List.setIfInBounds_toArray, List.set_cons_zero, List.set_cons_succ]
    refine wpAnyH_take (i := 5) (oi := ?q5o) (v := ?q5v) ?q5h (by kernel_rfl) (by kernel_rfl) (by kernel_rfl) ?q5q ?q5y hHeld ?q5r
    case q5h => (simp only [List.getElem?_toArray, List.getElem?_cons_succ, List.getElem?_cons_zero]; rfl)
    case q5q => exact fun _ _ _ h => h
    case q5y => (refine Or.inl ⟨by first | kernel_rfl | rfl, ?_⟩; intro w hSw; (try dsimp only at hSw); have y0 := hSw.a.cell 0 rfl; have y1 := hSw.a.cell 1 rfl; have y2 := hSw.a.cell 2 rfl; have y3 := hSw.a.cell 3 rfl; have y4 := hSw.a.cell 4 rfl; go_simp <;> (try with_reducible rfl))
    try simp only [Act.put, List.setIfInBounds_toArray, List.set_cons_zero, List.set_cons_succ]
    refine wpAnyH_take (i := 6) (oi := ?q6o) (v := ?q6v) ?q6h (by kernel_rfl) (by kernel_rfl) (by kernel_rfl) ?q6q ?q6y hHeld ?q6r
    case q6h => (simp only [List.getElem?_toArray, List.getElem?_cons_succ, List.getElem?_cons_zero]; rfl)
    case q6q => exact fun _ _ _ h => h
    case q6y => (refine Or.inl ⟨by first | kernel_rfl | rfl, ?_⟩; intro w hSw; (try dsimp only at hSw); have y0 := hSw.a.cell 0 rfl; have y1 := hSw.a.cell 1 rfl; have y2 := hSw.a.cell 2 rfl; have y3 := hSw.a.cell 3 rfl; have y4 := hSw.a.cell 4 rfl; go_simp <;> (try with_reducible rfl))
    try simp only [Act.put, List.setIfInBounds_toArray, List.set_cons_zero, List.set_cons_succ]
    refine wpAnyH_ready (rs := [4]) (by kernel_rfl) (by simp) ?_
    refine (AllReadyH.cons rfl (fun K hK => ?_) AllReadyH.nil)
    go_simp
    ((with_reducible refine (kx _).mono ?_); rintro e w2 ⟨rfl, hb⟩; (have H2 := Lib.hid (hHeld.keep hb)); clear hb)
    refine hK.out _ _ (H2.out) (fun hHeld => ?_)
    clear hK K
    try simp only [Act.put, List.setIfInBounds_toArray, List.set_cons_zero, List.set_cons_succ]
    refine wpAnyH_ready (rs := [7]) (by kernel_rfl) (by simp) ?_
    refine (AllReadyH.cons rfl (fun K hK => ?_) AllReadyH.nil)
    go_simp
    ((with_reducible refine (k1 _).mono ?_); rintro e w2 ⟨rfl, hb⟩; (have H2 := Lib.hid (hHeld.keep hb)); clear hb)
    refine hK.out _ _ (H2.out) (fun hHeld => ?_)
    clear hK K
    try simp only [Act.put, List.setIfInBounds_toArray, List.set_cons_zero, List.set_cons_succ]
    refine wpAnyH_take (i := 8) (oi := ?q7o) (v := ?q7v) ?q7h (by kernel_rfl) (by kernel_rfl) (by kernel_rfl) ?q7q ?q7y hHeld ?q7r
    case q7h => (simp only [List.getElem?_toArray, List.getElem?_cons_succ, List.getElem?_cons_zero]; rfl)
    case q7q => exact fun _ _ _ h => h
    case q7y => (refine Or.inl ⟨by first | kernel_rfl | rfl, ?_⟩; intro w hSw; (try dsimp only at hSw); have y0 := hSw.a.cell 0 rfl; have y1 := hSw.a.cell 1 rfl; have y2 := hSw.a.cell 2 rfl; have y3 := hSw.a.cell 3 rfl; have y4 := hSw.a.cell 4 rfl; go_simp <;> (try with_reducible rfl))
    try simp only [Act.put, List.setIfInBounds_toArray, List.set_cons_zero, List.set_cons_succ]
    refine wpAnyH_take (i := 9) (oi := ?q8o) (v := ?q8v) ?q8h (by kernel_rfl) (by kernel_rfl) (by kernel_rfl) ?q8q ?q8y hHeld ?q8r
    case q8h => (simp only [List.getElem?_toArray, List.getElem?_cons_succ, List.getElem?_cons_zero]; rfl)
    case q8q => exact fun _ _ _ h => h
    case q8y => (refine Or.inl ⟨by first | kernel_rfl | rfl, ?_⟩; intro w hSw; (try dsimp only at hSw); have y0 := hSw.a.cell 0 rfl; have y1 := hSw.a.cell 1 rfl; have y2 := hSw.a.cell 2 rfl; have y3 := hSw.a.cell 3 rfl; have y4 := hSw.a.cell 4 rfl; go_simp <;> (try with_reducible rfl))
    try simp only [Act.put, List.setIfInBounds_toArray, List.set_cons_zero, List.set_cons_succ]
    refine wpAnyH_take (i := 10) (oi := ?q9o) (v := undef) ?q9h (by kernel_rfl) (by kernel_rfl) (by kernel_rfl) ?q9q ?q9y hHeld ?q9r
    case q9h => (simp only [List.getElem?_toArray, List.getElem?_cons_succ, List.getElem?_cons_zero]; rfl)
    case q9q => exact fun _ _ _ h => h
    case q9y => exact Or.inr ⟨by first | kernel_rfl | rfl, rfl⟩
    try simp only [Act.put, List.setIfInBounds_toArray, List.set_cons_zero, List.set_cons_succ]
    refine wpAnyH_take (i := 11) (oi := ?q10o) (v := undef) ?q10h (by kernel_rfl) (by kernel_rfl) (by kernel_rfl) ?q10q ?q10y hHeld ?q10r
    case q10h => (simp only [List.getElem?_toArray, List.getElem?_cons_succ, List.getElem?_cons_zero]; rfl)
    case q10q => exact fun _ _ _ h => h
    case q10y => exact Or.inr ⟨by first | kernel_rfl | rfl, rfl⟩
    try simp only [Act.put, List.setIfInBounds_toArray, List.set_cons_zero, List.set_cons_succ]
    refine wpAnyH_take (i := 12) (oi := ?q11o) (v := undef) ?q11h (by kernel_rfl) (by kernel_rfl) (by kernel_rfl) ?q11q ?q11y hHeld ?q11r
    case q11h => (simp only [List.getElem?_toArray, List.getElem?_cons_succ, List.getElem?_cons_zero]; rfl)
    case q11q => exact fun _ _ _ h => h
    case q11y => exact Or.inr ⟨by first | kernel_rfl | rfl, rfl⟩
    try simp only [Act.put, List.setIfInBounds_toArray, List.set_cons_zero, List.set_cons_succ]
    refine wpAnyH_take (i := 13) (oi := ?q12o) (v := undef) ?q12h (by kernel_rfl) (by kernel_rfl) (by kernel_rfl) ?q12q ?q12y hHeld ?q12r
    case q12h => (simp only [List.getElem?_toArray, List.getElem?_cons_succ, List.getElem?_cons_zero]; rfl)
    case q12q => exact fun _ _ _ h => h
    case q12y => exact Or.inr ⟨by first | kernel_rfl | rfl, rfl⟩
    try simp only [Act.put, List.setIfInBounds_toArray, List.set_cons_zero, List.set_cons_succ]
    refine wpAnyH_take (i := 14) (oi := ?q13o) (v := undef) ?q13h (by kernel_rfl) (by kernel_rfl) (by kernel_rfl) ?q13q ?q13y hHeld ?q13r
    case q13h => (simp only [List.getElem?_toArray, List.getElem?_cons_succ, List.getElem?_cons_zero]; rfl)
    case q13q => exact fun _ _ _ h => h
    case q13y => exact Or.inr ⟨by first | kernel_rfl | rfl, rfl⟩
    try simp only [Act.put, List.setIfInBounds_toArray, List.set_cons_zero, List.set_cons_succ]
    refine wpAnyH_take (i := 15) (oi := ?q14o) (v := undef) ?q14h (by kernel_rfl) (by kernel_rfl) (by kernel_rfl) ?q14q ?q14y hHeld ?q14r
    case q14h => (simp only [List.getElem?_toArray, List.getElem?_cons_succ, List.getElem?_cons_zero]; rfl)
    case q14q => exact fun _ _ _ h => h
    case q14y => exact Or.inr ⟨by first | kernel_rfl | rfl, rfl⟩
    try simp only [Act.put, List.setIfInBounds_toArray, List.set_cons_zero, List.set_cons_succ]
    refine wpAnyH_take (i := 16) (oi := ?q15o) (v := undef) ?q15h (by kernel_rfl) (by kernel_rfl) (by kernel_rfl) ?q15q ?q15y hHeld ?q15r
    case q15h => (simp only [List.getElem?_toArray, List.getElem?_cons_succ, List.getElem?_cons_zero]; rfl)
    case q15q => exact fun _ _ _ h => h
    case q15y => exact Or.inr ⟨by first | kernel_rfl | rfl, rfl⟩
    try simp only [Act.put, List.setIfInBounds_toArray, List.set_cons_zero, List.set_cons_succ]
    refine wpAnyH_take (i := 17) (oi := ?q16o) (v := undef) ?q16h (by kernel_rfl) (by kernel_rfl) (by kernel_rfl) ?q16q ?q16y hHeld ?q16r
    case q16h => (simp only [List.getElem?_toArray, List.getElem?_cons_succ, List.getElem?_cons_zero]; rfl)
    case q16q => exact fun _ _ _ h => h
    case q16y => exact Or.inr ⟨by first | kernel_rfl | rfl, rfl⟩
    try simp only [Act.put, List.setIfInBounds_toArray, List.set_cons_zero, List.set_cons_succ]
    refine wpAnyH_take (i := 18) (oi := ?q17o) (v := undef) ?q17h (by kernel_rfl) (by kernel_rfl) (by kernel_rfl) ?q17q ?q17y hHeld ?q17r
    case q17h => (simp only [List.getElem?_toArray, List.getElem?_cons_succ, List.getElem?_cons_zero]; rfl)
    case q17q => exact fun _ _ _ h => h
    case q17y => exact Or.inr ⟨by first | kernel_rfl | rfl, rfl⟩
    try simp only [Act.put, List.setIfInBounds_toArray, List.set_cons_zero, List.set_cons_succ]
    refine wpAnyH_take (i := 19) (oi := ?q18o) (v := ?q18v) ?q18h (by kernel_rfl) (by kernel_rfl) (by kernel_rfl) ?q18q ?q18y hHeld ?q18r
    case q18h => (simp only [List.getElem?_toArray, List.getElem?_cons_succ, List.getElem?_cons_zero]; rfl)
    case q18q => exact fun _ _ _ h => h
    case q18y => (refine Or.inl ⟨by first | kernel_rfl | rfl, ?_⟩; intro w hSw; (try dsimp only at hSw); have y0 := hSw.a.cell 0 rfl; have y1 := hSw.a.cell 1 rfl; have y2 := hSw.a.cell 2 rfl; have y3 := hSw.a.cell 3 rfl; have y4 := hSw.a.cell 4 rfl; go_simp <;> (try with_reducible rfl))
    try simp only [Act.put, List.setIfInBounds_toArray, List.set_cons_zero, List.set_cons_succ]
    refine wpAnyH_take (i := 20) (oi := ?q19o) (v := ?q19v) ?q19h (by kernel_rfl) (by kernel_rfl) (by kernel_rfl) ?q19q ?q19y hHeld ?q19r
    case q19h => (simp only [List.getElem?_toArray, List.getElem?_cons_succ, List.getElem?_cons_zero]; rfl)
    case q19q => exact fun _ _ _ h => h
    case q19y => (refine Or.inl ⟨by first | kernel_rfl | rfl, ?_⟩; intro w hSw; (try dsimp only at hSw); have y0 := hSw.a.cell 0 rfl; have y1 := hSw.a.cell 1 rfl; have y2 := hSw.a.cell 2 rfl; have y3 := hSw.a.cell 3 rfl; have y4 := hSw.a.cell 4 rfl; go_simp <;> (try with_reducible rfl))
    try simp only [Act.put, List.setIfInBounds_toArray, List.set_cons_zero, List.set_cons_succ]
    refine wpAnyH_done (by kernel_rfl) ?_ _
    have hbel := hHeld.bel
    go_wp2
    go_ret
    exact ⟨rfl, hbel⟩
theorem load9 {op : Oper} {a : Act} {w : World} {K : Act → World → Prop} {Q : Exit → Act → World → Prop} (x : Operand) (ho : op.op = .load 27 x) (b o : Nat) (f : Nat → Int) (hx : a.eval x = .pointer (some ⟨b, o, none⟩))
    (hA : w.rangeAt b o (cells9 f)) (h : K (a.put op.dst (b9V f)) w) : op.wp Try.prog a w K Q :=
  wp_load_mid 27 x ho b o hx (cells9 f) _ hA Try.underlying27 rfl infoA9 h
theorem index9' (g : Nat → Int) (k : Nat) (hk : k < 9) (w : World) : Sem.run Try.prog (Instr.index 27 (b9V g) (.int .i64 (k : Int))) w = .ok (.int .i64 (g k)) w := index9 g k hk w
theorem range9 {w : World} {b : Nat} {a : Ag} (h : AgAt w b a) : w.rangeAt b 9 (cells9 a.b) := fun j v hv => by
  have hj : j < 9 := (List.getElem?_eq_some_iff.1 hv).1
  rw [cells9_at _ j hj] at hv
  cases hv
  exact h.bucket j hj
set_option maxHeartbeats 4000000 in
theorem buckets_is (a : Ag) (v : Bool) (ha : a.fits) (hn : 0 ≤ a.n ∧ a.n ≤ 1099511627776) (hv : Hid (bOk a = v)) (w : World) : Calls Try.prog 48 #[agV a] w fun e w' => e = .returned (.bool v) ∧ Below w.heap.size w w' := by
  have hN := HB.new w a
  simp only [cells18] at hN
  have HN := Lib.hid hN
  obtain ⟨lo, hlo⟩ : ∃ k, bk a.mn = k := ⟨_, rfl⟩
  obtain ⟨hi, hhi⟩ : ∃ k, bk a.mx = k := ⟨_, rfl⟩
  have lo8 : lo ≤ 8 := by rw [← hlo]; exact bk_le _
  have hi8 : hi ≤ 8 := by rw [← hhi]; exact bk_le _
  have k1 := fun W => bucket_is a.mn W ha.mn lo (Lib.hid hlo)
  have k2 := fun W => bucket_is a.mx W ha.mx hi (Lib.hid hhi)
  have HG := Lib.hid (show ∀ i, bGood a i ↔ 0 ≤ a.b i ∧ a.b i ≤ a.n ∧ (0 < a.b i → lo ≤ i ∧ i ≤ hi) from fun i => by unfold bGood; rw [hlo, hhi])
  have HNO := Lib.hid (show ¬ ((∀ i, i < 9 → bGood a i) ∧ accB a.b 9 = a.n ∧ 0 < a.b lo ∧ 0 < a.b hi) → false = v from fun h => by rw [← hlo, ← hhi] at h; rw [← hv.out]; exact (bOk_not h).symm)
  have HYE := Lib.hid (show ((∀ i, i < 9 → bGood a i) ∧ accB a.b 9 = a.n ∧ 0 < a.b lo ∧ 0 < a.b hi) → true = v from fun h => by rw [← hlo, ← hhi] at h; rw [← hv.out]; exact (bOk_iff.2 h).symm)
  clear hN hlo hhi hv
  rw [show agV a = .agg #[.int .i64 a.n, .int .i64 (wh a.s), .int .u64 (wl a.s), .int .i64 a.mn, .int .i64 a.mx, .int .i64 a.la, .int .i64 a.st.c, .int .i64 a.st.s, .int .i64 a.st.q, .int .i64 (a.b 0), .int .i64 (a.b 1), .int .i64 (a.b 2), .int .i64 (a.b 3), .int .i64 (a.b 4), .int .i64 (a.b 5), .int .i64 (a.b 6), .int .i64 (a.b 7), .int .i64 (a.b 8)] from rfl]
  go_enter Try.func48, Try.ntmps48
  go_upto_region 1 with fail
  obtain ⟨w0, hw0, h0⟩ := HN.out.name
  rw [← hw0]
  have H0 := Lib.hid h0
  clear hw0 h0 HN
  refine wp_region_held_drew (S := (HB w a)) (by kernel_rfl) H0.out.drew (fun hHeld => ?_)
  refine wpAnyH_take (i := 0) (oi := ?o1o) (v := ?o1v) ?o1h (by kernel_rfl) (by kernel_rfl) (by kernel_rfl) ?o1q ?o1y hHeld ?o1r
  case o1h => (simp only [List.getElem?_toArray, List.getElem?_cons_zero]; rfl)
  case o1q => exact fun _ _ _ h => h
  case o1y => (refine Or.inl ⟨by first | kernel_rfl | rfl, ?_⟩; intro w hSw; (try dsimp only at hSw); have y3 := hSw.a.cell 3 rfl; have y4 := hSw.a.cell 4 rfl; go_simp <;> (try with_reducible rfl))
  try simp only [Act.put, List.setIfInBounds_toArray, List.set_cons_zero, List.set_cons_succ]
  refine wpAnyH_take (i := 1) (oi := ?o2o) (v := ?o2v) ?o2h (by kernel_rfl) (by kernel_rfl) (by kernel_rfl) ?o2q ?o2y hHeld ?o2r
  case o2h => (simp only [List.getElem?_toArray, List.getElem?_cons_succ, List.getElem?_cons_zero]; rfl)
  case o2q => exact fun _ _ _ h => h
  case o2y => (refine Or.inl ⟨by first | kernel_rfl | rfl, ?_⟩; intro w hSw; (try dsimp only at hSw); have y3 := hSw.a.cell 3 rfl; have y4 := hSw.a.cell 4 rfl; go_simp <;> (try with_reducible rfl))
  try simp only [Act.put, List.setIfInBounds_toArray, List.set_cons_zero, List.set_cons_succ]
  refine wpAnyH_take (i := 3) (oi := ?o3o) (v := ?o3v) ?o3h (by kernel_rfl) (by kernel_rfl) (by kernel_rfl) ?o3q ?o3y hHeld ?o3r
  case o3h => (simp only [List.getElem?_toArray, List.getElem?_cons_succ, List.getElem?_cons_zero]; rfl)
  case o3q => exact fun _ _ _ h => h
  case o3y => (refine Or.inl ⟨by first | kernel_rfl | rfl, ?_⟩; intro w hSw; (try dsimp only at hSw); have y3 := hSw.a.cell 3 rfl; have y4 := hSw.a.cell 4 rfl; go_simp <;> (try with_reducible rfl))
  try simp only [Act.put, List.setIfInBounds_toArray, List.set_cons_zero, List.set_cons_succ]
  refine wpAnyH_take (i := 4) (oi := ?o4o) (v := ?o4v) ?o4h (by kernel_rfl) (by kernel_rfl) (by kernel_rfl) ?o4q ?o4y hHeld ?o4r
  case o4h => (simp only [List.getElem?_toArray, List.getElem?_cons_succ, List.getElem?_cons_zero]; rfl)
  case o4q => exact fun _ _ _ h => h
  case o4y => (refine Or.inl ⟨by first | kernel_rfl | rfl, ?_⟩; intro w hSw; (try dsimp only at hSw); have y3 := hSw.a.cell 3 rfl; have y4 := hSw.a.cell 4 rfl; go_simp <;> (try with_reducible rfl))
  try simp only [Act.put, List.setIfInBounds_toArray, List.set_cons_zero, List.set_cons_succ]
  refine wpAnyH_ready (rs := [2]) (by kernel_rfl) (by simp) ?_
  refine (AllReadyH.cons rfl (fun K hK => ?_) AllReadyH.nil)
  go_simp
  ((with_reducible refine (k1 _).mono ?_); rintro e w2 ⟨rfl, rfl⟩)
  refine hK.out _ _ (hHeld) (fun hHeld => ?_)
  clear hK K
  try simp only [Act.put, List.setIfInBounds_toArray, List.set_cons_zero, List.set_cons_succ]
  refine wpAnyH_ready (rs := [5]) (by kernel_rfl) (by simp) ?_
  refine (AllReadyH.cons rfl (fun K hK => ?_) AllReadyH.nil)
  go_simp
  ((with_reducible refine (k2 _).mono ?_); rintro e w2 ⟨rfl, rfl⟩)
  refine hK.out _ _ (hHeld) (fun hHeld => ?_)
  clear hK K
  try simp only [Act.put, List.setIfInBounds_toArray, List.set_cons_zero, List.set_cons_succ]
  refine wpAnyH_take (i := 6) (oi := ?o5o) (v := ?o5v) ?o5h (by kernel_rfl) (by kernel_rfl) (by kernel_rfl) ?o5q ?o5y hHeld ?o5r
  case o5h => (simp only [List.getElem?_toArray, List.getElem?_cons_succ, List.getElem?_cons_zero]; rfl)
  case o5q => exact fun _ _ _ h => h
  case o5y => (refine Or.inl ⟨by first | kernel_rfl | rfl, ?_⟩; intro w hSw; (try dsimp only at hSw); have y3 := hSw.a.cell 3 rfl; have y4 := hSw.a.cell 4 rfl; go_simp <;> (try with_reducible rfl))
  try simp only [Act.put, List.setIfInBounds_toArray, List.set_cons_zero, List.set_cons_succ]
  refine wpAnyH_take (i := 7) (oi := ?o6o) (v := ?o6v) ?o6h (by kernel_rfl) (by kernel_rfl) (by kernel_rfl) ?o6q ?o6y hHeld ?o6r
  case o6h => (simp only [List.getElem?_toArray, List.getElem?_cons_succ, List.getElem?_cons_zero]; rfl)
  case o6q => exact fun _ _ _ h => h
  case o6y => (refine Or.inl ⟨by first | kernel_rfl | rfl, ?_⟩; intro w hSw; (try dsimp only at hSw); have y3 := hSw.a.cell 3 rfl; have y4 := hSw.a.cell 4 rfl; go_simp <;> (try with_reducible rfl))
  try simp only [Act.put, List.setIfInBounds_toArray, List.set_cons_zero, List.set_cons_succ]
  refine wpAnyH_take (i := 8) (oi := ?o7o) (v := ?o7v) ?o7h (by kernel_rfl) (by kernel_rfl) (by kernel_rfl) ?o7q ?o7y hHeld ?o7r
  case o7h => (simp only [List.getElem?_toArray, List.getElem?_cons_succ, List.getElem?_cons_zero]; rfl)
  case o7q => exact fun _ _ _ h => h
  case o7y => (refine Or.inl ⟨by first | kernel_rfl | rfl, ?_⟩; intro w hSw; (try dsimp only at hSw); have y3 := hSw.a.cell 3 rfl; have y4 := hSw.a.cell 4 rfl; go_simp <;> (try with_reducible rfl))
  try simp only [Act.put, List.setIfInBounds_toArray, List.set_cons_zero, List.set_cons_succ]
  refine wpAnyH_done (by kernel_rfl) ?_ _
  have H1 := Lib.hid hHeld
  clear hHeld
  go_upto_region 2 with fail
  refine wp_region_lit ?_
  refine wpList_plain rfl fun K hK => ?_
  go_simp
  refine hK _ _ ?_
  clear hK K
  (try simp only [Act.put, List.setIfInBounds_toArray, List.set_cons_zero, List.set_cons_succ])
  refine wpList_plain rfl fun K hK => ?_
  refine load9 _ rfl w.heap.size 9 a.b rfl (range9 H1.out.a) ?_
  refine hK _ _ ?_
  clear hK K
  (try simp only [Act.put, List.setIfInBounds_toArray, List.set_cons_zero, List.set_cons_succ])
  refine wpList_plain rfl fun K hK => ?_
  go_simp
  refine hK _ _ ?_
  clear hK K
  (try simp only [Act.put, List.setIfInBounds_toArray, List.set_cons_zero, List.set_cons_succ])
  refine wpList_nil ?_
  obtain ⟨w1, hw1⟩ : ∃ x, x = w0.drew := ⟨_, rfl⟩
  rw [← hw1] at H1 ⊢
  clear hw1
  go_wp2
  go_loopw [5, 6, 7, 16] (fun s _ _ i wr => ∃ k : Nat, i = .int .i64 (k : Int) ∧ k ≤ 9 ∧ s = .int .i64 (accB a.b k) ∧ (∀ j, j < k → bGood a j) ∧ w1 = wr) (fun _ _ _ i _ => 9 - (intOf i).toNat)
  case atStart => exact ⟨0, rfl, by omega, rfl, fun j hj => by omega, rfl⟩
  case round =>
    obtain ⟨k, rfl, hk, rfl, hall, hwr⟩ := hrel
    subst hwr
    have hacc := acc_bound' (f := a.b) hn.1 k hk (fun i hi => by have := (HG.out i).1 (hall i hi); omega)
    have HALL := Lib.hid hall
    clear hall
    have x0 := H1.out.a.cell 0 rfl
    by_cases hk9 : k < 9
    · have hki : (k : Int) < 9 := by omega
      have hwk : IntKind.i64.wrap ((k : Int) + 1) = (k : Int) + 1 := by rw [IntKind.wrap_i64]; omega
      have hix := fun w => index9' a.b k hk9 w
      obtain ⟨y, hy⟩ : ∃ y, a.b k = y := ⟨_, rfl⟩
      obtain ⟨s, hs⟩ : ∃ s, accB a.b k = s := ⟨_, rfl⟩
      rw [hy] at hix
      rw [hs] at hacc ⊢
      have HY := Lib.hid (And.intro hy hs)
      have HGK := Lib.hid (show bGood a k ↔ 0 ≤ y ∧ y ≤ a.n ∧ (0 < y → lo ≤ k ∧ k ≤ hi) by rw [HG.out, hy])
      clear hy hs
      by_cases b1 : y < 0
      · obtain rfl : false = v := HNO.out (fun h => by have := HGK.out.1 (h.1 k hk9); omega)
        go_wp2
        go_ret
        exact ⟨rfl, H1.out.bel⟩
      have d1 : decide (y < 0) = false := decide_eq_false b1
      by_cases b2 : a.n < y
      · obtain rfl : false = v := HNO.out (fun h => by have := HGK.out.1 (h.1 k hk9); omega)
        go_wp2
        go_ret
        exact ⟨rfl, H1.out.bel⟩
      have d2 : decide (a.n < y) = false := decide_eq_false b2
      have hws : IntKind.i64.wrap (s + y) = s + y := by rw [IntKind.wrap_i64]; omega
      by_cases b3 : 0 < y
      · have d3 : decide (0 < y) = true := decide_eq_true b3
        by_cases b4 : k < lo
        · have b4i : (k : Int) < (lo : Int) := by omega
          obtain rfl : false = v := HNO.out (fun h => by have := HGK.out.1 (h.1 k hk9); omega)
          go_wp2
          go_ret
          exact ⟨rfl, H1.out.bel⟩
        · have d4 : decide ((k : Int) < (lo : Int)) = false := decide_eq_false (by omega)
          by_cases b5 : hi < k
          · have b5i : (hi : Int) < (k : Int) := by omega
            obtain rfl : false = v := HNO.out (fun h => by have := HGK.out.1 (h.1 k hk9); omega)
            go_wp2
            go_ret
            exact ⟨rfl, H1.out.bel⟩
          · have d5 : decide ((hi : Int) < (k : Int)) = false := decide_eq_false (by omega)
            have hgk := HGK.out.2 ⟨by omega, by omega, fun _ => by omega⟩
            have HGD := Lib.hid hgk
            clear hgk
            go_wp2
            go_roundw
            case rel => exact ⟨k + 1, by go_num, by omega, by obtain ⟨q1, q2⟩ := HY.out; unfold accB; rw [q1, q2], fun j hj => by
              by_cases e : j = k
              · rw [e]; exact HGD.out
              · exact HALL.out j (by omega), trivial⟩
            case measure => simp [intOf]; omega
      · have d3 : decide (0 < y) = false := decide_eq_false b3
        have hgk := HGK.out.2 ⟨by omega, by omega, fun h => absurd h b3⟩
        have HGD := Lib.hid hgk
        clear hgk
        go_wp2
        go_roundw
        case rel => exact ⟨k + 1, by go_num, by omega, by obtain ⟨q1, q2⟩ := HY.out; unfold accB; rw [q1, q2], fun j hj => by
          by_cases e : j = k
          · rw [e]; exact HGD.out
          · exact HALL.out j (by omega), trivial⟩
        case measure => simp [intOf]; omega
    · obtain rfl : k = 9 := by omega
      obtain ⟨s, hs⟩ : ∃ s, accB a.b 9 = s := ⟨_, rfl⟩
      rw [hs]
      have c1 := H1.out.a.bucket lo (by omega)
      have c2 := H1.out.a.bucket hi (by omega)
      obtain ⟨y1, hy1⟩ : ∃ y, a.b lo = y := ⟨_, rfl⟩
      obtain ⟨y2, hy2⟩ : ∃ y, a.b hi = y := ⟨_, rfl⟩
      rw [hy1] at c1
      rw [hy2] at c2
      have c1' := c1
      have c2' := c2
      rw [Nat.add_comm] at c1' c2'
      have HS := Lib.hid (And.intro hs (And.intro hy1 hy2))
      clear hs hy1 hy2
      have hlo9 : (lo : Int) < 9 := by omega
      have hhi9 : (hi : Int) < 9 := by omega
      by_cases b1 : s = a.n
      · have d1 : (s == a.n) = true := by simpa using b1
        by_cases b2 : 0 < y1
        · have d2 : decide (0 < y1) = true := decide_eq_true b2
          by_cases b3 : 0 < y2
          · have d3 : decide (0 < y2) = true := decide_eq_true b3
            obtain rfl : true = v := HYE.out ⟨HALL.out, by obtain ⟨q1, q2, q3⟩ := HS.out; omega⟩
            clear b1
            go_wp2
            go_ret
            exact ⟨rfl, H1.out.bel⟩
          · have d3 : decide (0 < y2) = false := decide_eq_false b3
            obtain rfl : false = v := HNO.out (fun h => by obtain ⟨q1, q2, q3⟩ := HS.out; omega)
            clear b1
            go_wp2
            go_ret
            exact ⟨rfl, H1.out.bel⟩
        · have d2 : decide (0 < y1) = false := decide_eq_false b2
          obtain rfl : false = v := HNO.out (fun h => by obtain ⟨q1, q2, q3⟩ := HS.out; omega)
          clear b1
          go_wp2
          go_ret
          exact ⟨rfl, H1.out.bel⟩
      · have d1 : (s == a.n) = false := by simpa using b1
        obtain rfl : false = v := HNO.out (fun h => by obtain ⟨q1, q2, q3⟩ := HS.out; omega)
        clear b1
        go_wp2
        go_ret
        exact ⟨rfl, H1.out.bel⟩
end Go.Proofs.Ytipjhlabcbkgjaa.Ag
