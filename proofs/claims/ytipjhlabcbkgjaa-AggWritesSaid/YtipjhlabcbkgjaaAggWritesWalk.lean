/- The walk of AggWrites. -/
import Derived.Test.YtipjhlabcbkgjaaAggAwake
import Derived.Test.YtipjhlabcbkgjaaAggRead
import Derived.Test.YtipjhlabcbkgjaaAggBack
import Derived.Test.YtipjhlabcbkgjaaAggRCheck
import Derived.Test.YtipjhlabcbkgjaaAggArgs
import Derived.Test.YtipjhlabcbkgjaaAggYields
set_option maxRecDepth 20000
namespace Go.Proofs.Ytipjhlabcbkgjaa.aggWrites
open Go.RowKit Go.Proofs.Ytipjhlabcbkgjaa Go.Proofs.Ytipjhlabcbkgjaa.Wd Go.Proofs.Ytipjhlabcbkgjaa.Vi Go.Proofs.Ytipjhlabcbkgjaa.Mk Go.Proofs.Ytipjhlabcbkgjaa.Ag

/-- The argument in its box. -/
structure HA (w : World) (a : Ag) (W : World) : Prop where
  a : AgAt W w.heap.size a
  bel : Below w.heap.size w W
theorem HA.keep {w : World} {a : Ag} {W W' : World} (h : HA w a W) (k : Below W.heap.size W W') : HA w a W' := ⟨h.a.below k, bel_next h.bel k⟩
theorem HA.drew {w : World} {a : Ag} {W : World} (h : HA w a W) : HA w a W.drew := h.keep ((Below.refl _ _).drew)
theorem HA.new (w : World) (a : Ag) : HA w a (w.alloc (.cells (cells18 a).toArray 29)) := ⟨(AgW.new w a 29).at_, bel_new (Below.refl _ _) _⟩
theorem HA.name {w : World} {a : Ag} {W : World} (h : HA w a W) : ∃ x, x = W ∧ HA w a x := ⟨W, rfl, h⟩
set_option maxHeartbeats 4000000 in
theorem walk (a : Ag) (w : World) (ha : a.fits) : Calls Try.prog 5 #[agV a] w fun e w' => e = .returned (.bool true) ∧ Below w.heap.size w w' := by
  have hN := HA.new w a
  simp only [cells18] at hN
  have HN := Lib.hid hN
  obtain ⟨T, hT⟩ : ∃ z, tx (bytesA a) = z := ⟨_, rfl⟩
  have hTs : T.size ≤ 1000 := by rw [← hT, tx_size]; exact bytesA_len ha
  obtain ⟨er, her⟩ : ∃ z, errA a = z := ⟨_, rfl⟩
  have kb := fun W => bytes8_is a ha T (Lib.hid hT) W
  have kc := fun W => rbytes8_is a ha T (Lib.hid hT) W
  have kd := fun W => check8_is a ha er (Lib.hid her) W
  have ke := fun W => rcheck8_is a ha er (Lib.hid her) W
  have q0 := fun w => eqAg_self a w
  have g0 := fun x y w => guardAg x y a a w
  rw [her] at kb kc
  have HW : Hid (er = 1 ∨ er = 0 ∧ ∃ g, readA T = (g, 0) ∧ agV g = agV a) := by
    refine Lib.hid ?_
    rw [← her, ← hT]
    unfold errA
    cases hok : okA a with
    | false => exact Or.inl rfl
    | true => exact Or.inr ⟨rfl, read_back ha hok⟩
  have hTT : (T.toList == T.toList) = true := by simp
  clear hN hT her
  rw [show agV a = .agg #[.int .i64 a.n, .int .i64 (wh a.s), .int .u64 (wl a.s), .int .i64 a.mn, .int .i64 a.mx, .int .i64 a.la, .int .i64 a.st.c, .int .i64 a.st.s, .int .i64 a.st.q, .int .i64 (a.b 0), .int .i64 (a.b 1), .int .i64 (a.b 2), .int .i64 (a.b 3), .int .i64 (a.b 4), .int .i64 (a.b 5), .int .i64 (a.b 6), .int .i64 (a.b 7), .int .i64 (a.b 8)] from rfl]
  go_enter Try.func5, Try.ntmps5
  go_upto_region 1 with fail
  obtain ⟨w0, hw0, h0⟩ := HN.out.name
  rw [← hw0]
  have H0 := Lib.hid h0
  clear hw0 h0 HN
  go_upto_region 2 with (go_at_call 11; (with_reducible refine (awake_is _).mono ?_); rintro e w1 ⟨rfl, hb1⟩; (have H1 := Lib.hid (H0.out.keep hb1)); clear hb1)
  refine wp_region_lit ?_
  refine list_load_ag rfl _ rfl w.heap.size a rfl H1.out.a ?_
  refine wpList_plain rfl fun K hK => ?_
  go_simp
  ((with_reducible refine (kb _).mono ?_); rintro e w2 ⟨rfl, hb2⟩)
  refine hK _ _ ?_
  clear hK K
  (try simp only [Act.put, List.setIfInBounds_toArray, List.set_cons_zero, List.set_cons_succ])
  refine wpList_plain rfl fun K hK => ?_
  go_simp
  refine hK _ _ ?_
  clear hK K
  (try simp only [Act.put, List.setIfInBounds_toArray, List.set_cons_zero, List.set_cons_succ])
  refine wpList_plain rfl fun K hK => ?_
  go_simp
  refine hK _ _ ?_
  clear hK K
  (try simp only [Act.put, List.setIfInBounds_toArray, List.set_cons_zero, List.set_cons_succ])
  refine wpList_plain rfl fun K hK => ?_
  go_simp
  refine hK _ _ ?_
  clear hK K
  (try simp only [Act.put, List.setIfInBounds_toArray, List.set_cons_zero, List.set_cons_succ])
  refine wpList_plain rfl fun K hK => ?_
  go_simp
  refine hK _ _ ?_
  clear hK K
  (try simp only [Act.put, List.setIfInBounds_toArray, List.set_cons_zero, List.set_cons_succ])
  refine wpList_plain rfl fun K hK => ?_
  go_simp
  refine hK _ _ ?_
  clear hK K
  (try simp only [Act.put, List.setIfInBounds_toArray, List.set_cons_zero, List.set_cons_succ])
  have H2 := Lib.hid (H1.out.keep hb2)
  refine wpList_nil ?_
  go_upto_region 3 with fail
  refine wp_region_lit ?_
  refine list_load_ag rfl _ rfl w.heap.size a rfl H2.out.a ?_
  refine wpList_plain rfl fun K hK => ?_
  go_simp
  ((with_reducible refine (kc _).mono ?_); rintro e w3 ⟨rfl, hb3⟩)
  refine hK _ _ ?_
  clear hK K
  (try simp only [Act.put, List.setIfInBounds_toArray, List.set_cons_zero, List.set_cons_succ])
  refine wpList_plain rfl fun K hK => ?_
  go_simp
  refine hK _ _ ?_
  clear hK K
  (try simp only [Act.put, List.setIfInBounds_toArray, List.set_cons_zero, List.set_cons_succ])
  refine wpList_plain rfl fun K hK => ?_
  go_simp
  refine hK _ _ ?_
  clear hK K
  (try simp only [Act.put, List.setIfInBounds_toArray, List.set_cons_zero, List.set_cons_succ])
  refine wpList_plain rfl fun K hK => ?_
  go_simp
  refine hK _ _ ?_
  clear hK K
  (try simp only [Act.put, List.setIfInBounds_toArray, List.set_cons_zero, List.set_cons_succ])
  refine wpList_plain rfl fun K hK => ?_
  go_simp
  refine hK _ _ ?_
  clear hK K
  (try simp only [Act.put, List.setIfInBounds_toArray, List.set_cons_zero, List.set_cons_succ])
  refine wpList_plain rfl fun K hK => ?_
  go_simp
  refine hK _ _ ?_
  clear hK K
  (try simp only [Act.put, List.setIfInBounds_toArray, List.set_cons_zero, List.set_cons_succ])
  have H3 := Lib.hid (H2.out.keep hb3)
  refine wpList_nil ?_
  clear hb2 hb3 H0 H1 H2 kb kc
  rcases HW.out with rfl | ⟨rfl, g, hg, hga⟩
  · clear HW
    go_upto_region 4 with fail
    refine wp_region_held_drew (S := (HA w a)) (by kernel_rfl) H3.out.drew (fun hHeld => ?_)
    refine wpAnyH_take (i := 0) (oi := ?o1o) (v := ?o1v) ?o1h (by kernel_rfl) (by kernel_rfl) (by kernel_rfl) ?o1q ?o1y hHeld ?o1r
    case o1h => (simp only [List.getElem?_toArray, List.getElem?_cons_zero]; rfl)
    case o1q => exact fun _ _ _ h => h
    case o1y => (refine Or.inl ⟨by first | kernel_rfl | rfl, ?_⟩; intro w hSw; (try dsimp only at hSw); go_simp <;> (try with_reducible rfl))
    try simp only [Act.put, List.setIfInBounds_toArray, List.set_cons_zero, List.set_cons_succ]
    refine wpAnyH_take (i := 1) (oi := ?o2o) (v := ?o2v) ?o2h (by kernel_rfl) (by kernel_rfl) (by kernel_rfl) ?o2q ?o2y hHeld ?o2r
    case o2h => (simp only [List.getElem?_toArray, List.getElem?_cons_succ, List.getElem?_cons_zero]; rfl)
    case o2q => exact fun _ _ _ h => h
    case o2y => (refine Or.inl ⟨by first | kernel_rfl | rfl, ?_⟩; intro w hSw; (try dsimp only at hSw); go_simp <;> (try with_reducible rfl))
    try simp only [Act.put, List.setIfInBounds_toArray, List.set_cons_zero, List.set_cons_succ]
    refine wpAnyH_take (i := 2) (oi := ?o3o) (v := ?o3v) ?o3h (by kernel_rfl) (by kernel_rfl) (by kernel_rfl) ?o3q ?o3y hHeld ?o3r
    case o3h => (simp only [List.getElem?_toArray, List.getElem?_cons_succ, List.getElem?_cons_zero]; rfl)
    case o3q => exact fun _ _ _ h => h
    case o3y => (refine Or.inl ⟨by first | kernel_rfl | rfl, ?_⟩; intro w hSw; (try dsimp only at hSw); go_simp <;> (try with_reducible rfl))
    try simp only [Act.put, List.setIfInBounds_toArray, List.set_cons_zero, List.set_cons_succ]
    refine wpAnyH_take (i := 3) (oi := ?o4o) (v := ?o4v) ?o4h (by kernel_rfl) (by kernel_rfl) (by kernel_rfl) ?o4q ?o4y hHeld ?o4r
    case o4h => (simp only [List.getElem?_toArray, List.getElem?_cons_succ, List.getElem?_cons_zero]; rfl)
    case o4q => exact fun _ _ _ h => h
    case o4y => (refine Or.inl ⟨by first | kernel_rfl | rfl, ?_⟩; intro w hSw; (try dsimp only at hSw); go_simp <;> (try with_reducible rfl))
    try simp only [Act.put, List.setIfInBounds_toArray, List.set_cons_zero, List.set_cons_succ]
    refine wpAnyH_take (i := 4) (oi := ?o5o) (v := ?o5v) ?o5h (by kernel_rfl) (by kernel_rfl) (by kernel_rfl) ?o5q ?o5y hHeld ?o5r
    case o5h => (simp only [List.getElem?_toArray, List.getElem?_cons_succ, List.getElem?_cons_zero]; rfl)
    case o5q => exact fun _ _ _ h => h
    case o5y => (refine Or.inl ⟨by first | kernel_rfl | rfl, ?_⟩; intro w hSw; (try dsimp only at hSw); go_simp <;> (try with_reducible rfl))
    try simp only [Act.put, List.setIfInBounds_toArray, List.set_cons_zero, List.set_cons_succ]
    refine wpAnyH_take (i := 5) (oi := ?o6o) (v := ?o6v) ?o6h (by kernel_rfl) (by kernel_rfl) (by kernel_rfl) ?o6q ?o6y hHeld ?o6r
    case o6h => (simp only [List.getElem?_toArray, List.getElem?_cons_succ, List.getElem?_cons_zero]; rfl)
    case o6q => exact fun _ _ _ h => h
    case o6y => (refine Or.inl ⟨by first | kernel_rfl | rfl, ?_⟩; intro w hSw; (try dsimp only at hSw); go_simp <;> (try with_reducible rfl))
    try simp only [Act.put, List.setIfInBounds_toArray, List.set_cons_zero, List.set_cons_succ]
    refine wpAnyH_take (i := 6) (oi := ?o7o) (v := ?o7v) ?o7h (by kernel_rfl) (by kernel_rfl) (by kernel_rfl) ?o7q ?o7y hHeld ?o7r
    case o7h => (simp only [List.getElem?_toArray, List.getElem?_cons_succ, List.getElem?_cons_zero]; rfl)
    case o7q => exact fun _ _ _ h => h
    case o7y => (refine Or.inl ⟨by first | kernel_rfl | rfl, ?_⟩; intro w hSw; (try dsimp only at hSw); go_simp <;> (try with_reducible rfl))
    try simp only [Act.put, List.setIfInBounds_toArray, List.set_cons_zero, List.set_cons_succ]
    refine wpAnyH_take (i := 7) (oi := ?o8o) (v := ?o8v) ?o8h (by kernel_rfl) (by kernel_rfl) (by kernel_rfl) ?o8q ?o8y hHeld ?o8r
    case o8h => (simp only [List.getElem?_toArray, List.getElem?_cons_succ, List.getElem?_cons_zero]; rfl)
    case o8q => exact fun _ _ _ h => h
    case o8y => (refine Or.inl ⟨by first | kernel_rfl | rfl, ?_⟩; intro w hSw; (try dsimp only at hSw); go_simp <;> (try with_reducible rfl))
    try simp only [Act.put, List.setIfInBounds_toArray, List.set_cons_zero, List.set_cons_succ]
    refine wpAnyH_take (i := 8) (oi := ?o9o) (v := ?o9v) ?o9h (by kernel_rfl) (by kernel_rfl) (by kernel_rfl) ?o9q ?o9y hHeld ?o9r
    case o9h => (simp only [List.getElem?_toArray, List.getElem?_cons_succ, List.getElem?_cons_zero]; rfl)
    case o9q => exact fun _ _ _ h => h
    case o9y => (refine Or.inl ⟨by first | kernel_rfl | rfl, ?_⟩; intro w hSw; (try dsimp only at hSw); go_simp <;> (try with_reducible rfl))
    try simp only [Act.put, List.setIfInBounds_toArray, List.set_cons_zero, List.set_cons_succ]
    refine wpAnyH_take (i := 9) (oi := ?o10o) (v := agV a) ?o10h (by kernel_rfl) (by kernel_rfl) (by kernel_rfl) ?o10q ?o10y hHeld ?o10r
    case o10h => (simp only [List.getElem?_toArray, List.getElem?_cons_succ, List.getElem?_cons_zero]; rfl)
    case o10q => exact fun _ _ _ h => h
    case o10y => exact yields_ag (by kernel_rfl) _ rfl w.heap.size a rfl (fun _ h => h.a)
    try simp only [Act.put, List.setIfInBounds_toArray, List.set_cons_zero, List.set_cons_succ]
    refine wpAnyH_take (i := 11) (oi := ?o11o) (v := agV a) ?o11h (by kernel_rfl) (by kernel_rfl) (by kernel_rfl) ?o11q ?o11y hHeld ?o11r
    case o11h => (simp only [List.getElem?_toArray, List.getElem?_cons_succ, List.getElem?_cons_zero]; rfl)
    case o11q => exact fun _ _ _ h => h
    case o11y => exact yields_ag (by kernel_rfl) _ rfl w.heap.size a rfl (fun _ h => h.a)
    try simp only [Act.put, List.setIfInBounds_toArray, List.set_cons_zero, List.set_cons_succ]
    refine wpAnyH_ready (rs := [10]) (by kernel_rfl) (by simp) ?_
    refine (AllReadyH.cons rfl (fun K hK => ?_) AllReadyH.nil)
    go_simp
    ((with_reducible refine (kd _).mono ?_); rintro e w4 ⟨rfl, hb⟩; (have H4 := Lib.hid (hHeld.keep hb)); clear hb)
    refine hK.out _ _ (H4.out) (fun hHeld => ?_)
    clear hK K
    try simp only [Act.put, List.setIfInBounds_toArray, List.set_cons_zero, List.set_cons_succ]
    refine wpAnyH_ready (rs := [12]) (by kernel_rfl) (by simp) ?_
    refine (AllReadyH.cons rfl (fun K hK => ?_) AllReadyH.nil)
    go_simp
    ((with_reducible refine (ke _).mono ?_); rintro e w5 ⟨rfl, hb⟩; (have H5 := Lib.hid (hHeld.keep hb)); clear hb)
    refine hK.out _ _ (H5.out) (fun hHeld => ?_)
    clear hK K
    try simp only [Act.put, List.setIfInBounds_toArray, List.set_cons_zero, List.set_cons_succ]
    refine wpAnyH_take (i := 13) (oi := ?o12o) (v := ?o12v) ?o12h (by kernel_rfl) (by kernel_rfl) (by kernel_rfl) ?o12q ?o12y hHeld ?o12r
    case o12h => (simp only [List.getElem?_toArray, List.getElem?_cons_succ, List.getElem?_cons_zero]; rfl)
    case o12q => exact fun _ _ _ h => h
    case o12y => (refine Or.inl ⟨by first | kernel_rfl | rfl, ?_⟩; intro w hSw; (try dsimp only at hSw); go_simp <;> (try with_reducible rfl))
    try simp only [Act.put, List.setIfInBounds_toArray, List.set_cons_zero, List.set_cons_succ]
    refine wpAnyH_take (i := 14) (oi := ?o13o) (v := ?o13v) ?o13h (by kernel_rfl) (by kernel_rfl) (by kernel_rfl) ?o13q ?o13y hHeld ?o13r
    case o13h => (simp only [List.getElem?_toArray, List.getElem?_cons_succ, List.getElem?_cons_zero]; rfl)
    case o13q => exact fun _ _ _ h => h
    case o13y => (refine Or.inl ⟨by first | kernel_rfl | rfl, ?_⟩; intro w hSw; (try dsimp only at hSw); go_simp <;> (try with_reducible rfl))
    try simp only [Act.put, List.setIfInBounds_toArray, List.set_cons_zero, List.set_cons_succ]
    refine wpAnyH_done (by kernel_rfl) ?_ _
    have hbel := hHeld.bel
    go_wp2
    go_ret
    exact ⟨rfl, hbel⟩
  · clear HW
    have kr := fun W => read8_is T W hTs g 0 (Lib.hid hg)
    rw [hga] at kr
    clear hg hga
    go_upto_region 4 with fail
    refine wp_region_held_drew (S := (HA w a)) (by kernel_rfl) H3.out.drew (fun hHeld => ?_)
    refine wpAnyH_take (i := 0) (oi := ?u1o) (v := ?u1v) ?u1h (by kernel_rfl) (by kernel_rfl) (by kernel_rfl) ?u1q ?u1y hHeld ?u1r
    case u1h => (simp only [List.getElem?_toArray, List.getElem?_cons_zero]; rfl)
    case u1q => exact fun _ _ _ h => h
    case u1y => (refine Or.inl ⟨by first | kernel_rfl | rfl, ?_⟩; intro w hSw; (try dsimp only at hSw); go_simp <;> (try with_reducible rfl))
    try simp only [Act.put, List.setIfInBounds_toArray, List.set_cons_zero, List.set_cons_succ]
    refine wpAnyH_take (i := 1) (oi := ?u2o) (v := ?u2v) ?u2h (by kernel_rfl) (by kernel_rfl) (by kernel_rfl) ?u2q ?u2y hHeld ?u2r
    case u2h => (simp only [List.getElem?_toArray, List.getElem?_cons_succ, List.getElem?_cons_zero]; rfl)
    case u2q => exact fun _ _ _ h => h
    case u2y => (refine Or.inl ⟨by first | kernel_rfl | rfl, ?_⟩; intro w hSw; (try dsimp only at hSw); go_simp <;> (try with_reducible rfl))
    try simp only [Act.put, List.setIfInBounds_toArray, List.set_cons_zero, List.set_cons_succ]
    refine wpAnyH_take (i := 2) (oi := ?u3o) (v := ?u3v) ?u3h (by kernel_rfl) (by kernel_rfl) (by kernel_rfl) ?u3q ?u3y hHeld ?u3r
    case u3h => (simp only [List.getElem?_toArray, List.getElem?_cons_succ, List.getElem?_cons_zero]; rfl)
    case u3q => exact fun _ _ _ h => h
    case u3y => (refine Or.inl ⟨by first | kernel_rfl | rfl, ?_⟩; intro w hSw; (try dsimp only at hSw); go_simp <;> (try with_reducible rfl))
    try simp only [Act.put, List.setIfInBounds_toArray, List.set_cons_zero, List.set_cons_succ]
    refine wpAnyH_take (i := 3) (oi := ?u4o) (v := ?u4v) ?u4h (by kernel_rfl) (by kernel_rfl) (by kernel_rfl) ?u4q ?u4y hHeld ?u4r
    case u4h => (simp only [List.getElem?_toArray, List.getElem?_cons_succ, List.getElem?_cons_zero]; rfl)
    case u4q => exact fun _ _ _ h => h
    case u4y => (refine Or.inl ⟨by first | kernel_rfl | rfl, ?_⟩; intro w hSw; (try dsimp only at hSw); go_simp <;> (try with_reducible rfl))
    try simp only [Act.put, List.setIfInBounds_toArray, List.set_cons_zero, List.set_cons_succ]
    refine wpAnyH_take (i := 4) (oi := ?u5o) (v := ?u5v) ?u5h (by kernel_rfl) (by kernel_rfl) (by kernel_rfl) ?u5q ?u5y hHeld ?u5r
    case u5h => (simp only [List.getElem?_toArray, List.getElem?_cons_succ, List.getElem?_cons_zero]; rfl)
    case u5q => exact fun _ _ _ h => h
    case u5y => (refine Or.inl ⟨by first | kernel_rfl | rfl, ?_⟩; intro w hSw; (try dsimp only at hSw); go_simp <;> (try with_reducible rfl))
    try simp only [Act.put, List.setIfInBounds_toArray, List.set_cons_zero, List.set_cons_succ]
    refine wpAnyH_take (i := 5) (oi := ?u6o) (v := ?u6v) ?u6h (by kernel_rfl) (by kernel_rfl) (by kernel_rfl) ?u6q ?u6y hHeld ?u6r
    case u6h => (simp only [List.getElem?_toArray, List.getElem?_cons_succ, List.getElem?_cons_zero]; rfl)
    case u6q => exact fun _ _ _ h => h
    case u6y => (refine Or.inl ⟨by first | kernel_rfl | rfl, ?_⟩; intro w hSw; (try dsimp only at hSw); go_simp <;> (try with_reducible rfl))
    try simp only [Act.put, List.setIfInBounds_toArray, List.set_cons_zero, List.set_cons_succ]
    refine wpAnyH_take (i := 6) (oi := ?u7o) (v := ?u7v) ?u7h (by kernel_rfl) (by kernel_rfl) (by kernel_rfl) ?u7q ?u7y hHeld ?u7r
    case u7h => (simp only [List.getElem?_toArray, List.getElem?_cons_succ, List.getElem?_cons_zero]; rfl)
    case u7q => exact fun _ _ _ h => h
    case u7y => (refine Or.inl ⟨by first | kernel_rfl | rfl, ?_⟩; intro w hSw; (try dsimp only at hSw); go_simp <;> (try with_reducible rfl))
    try simp only [Act.put, List.setIfInBounds_toArray, List.set_cons_zero, List.set_cons_succ]
    refine wpAnyH_take (i := 7) (oi := ?u8o) (v := ?u8v) ?u8h (by kernel_rfl) (by kernel_rfl) (by kernel_rfl) ?u8q ?u8y hHeld ?u8r
    case u8h => (simp only [List.getElem?_toArray, List.getElem?_cons_succ, List.getElem?_cons_zero]; rfl)
    case u8q => exact fun _ _ _ h => h
    case u8y => (refine Or.inl ⟨by first | kernel_rfl | rfl, ?_⟩; intro w hSw; (try dsimp only at hSw); go_simp <;> (try with_reducible rfl))
    try simp only [Act.put, List.setIfInBounds_toArray, List.set_cons_zero, List.set_cons_succ]
    refine wpAnyH_take (i := 8) (oi := ?u9o) (v := ?u9v) ?u9h (by kernel_rfl) (by kernel_rfl) (by kernel_rfl) ?u9q ?u9y hHeld ?u9r
    case u9h => (simp only [List.getElem?_toArray, List.getElem?_cons_succ, List.getElem?_cons_zero]; rfl)
    case u9q => exact fun _ _ _ h => h
    case u9y => (refine Or.inl ⟨by first | kernel_rfl | rfl, ?_⟩; intro w hSw; (try dsimp only at hSw); go_simp <;> (try with_reducible rfl))
    try simp only [Act.put, List.setIfInBounds_toArray, List.set_cons_zero, List.set_cons_succ]
    refine wpAnyH_take (i := 9) (oi := ?u10o) (v := agV a) ?u10h (by kernel_rfl) (by kernel_rfl) (by kernel_rfl) ?u10q ?u10y hHeld ?u10r
    case u10h => (simp only [List.getElem?_toArray, List.getElem?_cons_succ, List.getElem?_cons_zero]; rfl)
    case u10q => exact fun _ _ _ h => h
    case u10y => exact yields_ag (by kernel_rfl) _ rfl w.heap.size a rfl (fun _ h => h.a)
    try simp only [Act.put, List.setIfInBounds_toArray, List.set_cons_zero, List.set_cons_succ]
    refine wpAnyH_take (i := 11) (oi := ?u11o) (v := agV a) ?u11h (by kernel_rfl) (by kernel_rfl) (by kernel_rfl) ?u11q ?u11y hHeld ?u11r
    case u11h => (simp only [List.getElem?_toArray, List.getElem?_cons_succ, List.getElem?_cons_zero]; rfl)
    case u11q => exact fun _ _ _ h => h
    case u11y => exact yields_ag (by kernel_rfl) _ rfl w.heap.size a rfl (fun _ h => h.a)
    try simp only [Act.put, List.setIfInBounds_toArray, List.set_cons_zero, List.set_cons_succ]
    refine wpAnyH_ready (rs := [10]) (by kernel_rfl) (by simp) ?_
    refine (AllReadyH.cons rfl (fun K hK => ?_) AllReadyH.nil)
    go_simp
    ((with_reducible refine (kd _).mono ?_); rintro e w4 ⟨rfl, hb⟩; (have H4 := Lib.hid (hHeld.keep hb)); clear hb)
    refine hK.out _ _ (H4.out) (fun hHeld => ?_)
    clear hK K
    try simp only [Act.put, List.setIfInBounds_toArray, List.set_cons_zero, List.set_cons_succ]
    refine wpAnyH_ready (rs := [12]) (by kernel_rfl) (by simp) ?_
    refine (AllReadyH.cons rfl (fun K hK => ?_) AllReadyH.nil)
    go_simp
    ((with_reducible refine (ke _).mono ?_); rintro e w5 ⟨rfl, hb⟩; (have H5 := Lib.hid (hHeld.keep hb)); clear hb)
    refine hK.out _ _ (H5.out) (fun hHeld => ?_)
    clear hK K
    try simp only [Act.put, List.setIfInBounds_toArray, List.set_cons_zero, List.set_cons_succ]
    refine wpAnyH_take (i := 13) (oi := ?u12o) (v := ?u12v) ?u12h (by kernel_rfl) (by kernel_rfl) (by kernel_rfl) ?u12q ?u12y hHeld ?u12r
    case u12h => (simp only [List.getElem?_toArray, List.getElem?_cons_succ, List.getElem?_cons_zero]; rfl)
    case u12q => exact fun _ _ _ h => h
    case u12y => (refine Or.inl ⟨by first | kernel_rfl | rfl, ?_⟩; intro w hSw; (try dsimp only at hSw); go_simp <;> (try with_reducible rfl))
    try simp only [Act.put, List.setIfInBounds_toArray, List.set_cons_zero, List.set_cons_succ]
    refine wpAnyH_take (i := 14) (oi := ?u13o) (v := ?u13v) ?u13h (by kernel_rfl) (by kernel_rfl) (by kernel_rfl) ?u13q ?u13y hHeld ?u13r
    case u13h => (simp only [List.getElem?_toArray, List.getElem?_cons_succ, List.getElem?_cons_zero]; rfl)
    case u13q => exact fun _ _ _ h => h
    case u13y => (refine Or.inl ⟨by first | kernel_rfl | rfl, ?_⟩; intro w hSw; (try dsimp only at hSw); go_simp <;> (try with_reducible rfl))
    try simp only [Act.put, List.setIfInBounds_toArray, List.set_cons_zero, List.set_cons_succ]
    refine wpAnyH_done (by kernel_rfl) ?_ _
    have H5 := Lib.hid hHeld
    clear hHeld
    go_upto_region 8 with fail
    refine wp_region_lit ?_
    refine wpList_plain rfl fun K hK => ?_
    go_simp
    refine hK _ _ ?_
    clear hK K
    (try simp only [Act.put, List.setIfInBounds_toArray, List.set_cons_zero, List.set_cons_succ])
    refine wpList_plain rfl fun K hK => ?_
    go_simp
    ((with_reducible refine (kr _).mono ?_); rintro e w7 ⟨rfl, hb7⟩)
    refine hK _ _ ?_
    clear hK K
    (try simp only [Act.put, List.setIfInBounds_toArray, List.set_cons_zero, List.set_cons_succ])
    refine wpList_plain rfl fun K hK => ?_
    go_simp
    refine hK _ _ ?_
    clear hK K
    (try simp only [Act.put, List.setIfInBounds_toArray, List.set_cons_zero, List.set_cons_succ])
    refine wpList_plain rfl fun K hK => ?_
    go_simp
    refine hK _ _ ?_
    clear hK K
    (try simp only [Act.put, List.setIfInBounds_toArray, List.set_cons_zero, List.set_cons_succ])
    refine wpList_plain rfl fun K hK => ?_
    go_simp
    refine hK _ _ ?_
    clear hK K
    (try simp only [Act.put, List.setIfInBounds_toArray, List.set_cons_zero, List.set_cons_succ])
    have H7 := Lib.hid (H5.out.keep hb7)
    clear hb7 kr
    refine wpList_plain rfl fun K hK => ?_
    go_simp
    refine hK _ _ ?_
    clear hK K
    (try simp only [Act.put, List.setIfInBounds_toArray, List.set_cons_zero, List.set_cons_succ])
    refine list_store_ag rfl _ _ rfl w7.heap.size Ag.zero a rfl rfl (AgW.zero w7 _) ?_
    obtain ⟨w8, hw8, h8⟩ : ∃ x, x = stA (w7.alloc (.cells #[.int .i64 0, .int .i64 0, .int .u64 0, .int .i64 0, .int .i64 0, .int .i64 0, .int .i64 0, .int .i64 0, .int .i64 0, .int .i64 0, .int .i64 0, .int .i64 0, .int .i64 0, .int .i64 0, .int .i64 0, .int .i64 0, .int .i64 0, .int .i64 0] 29)) w7.heap.size a ∧ (HA w a x ∧ AgAt x w7.heap.size a) := by
      have kk := stA_below a (bel_new (Below.refl w7.heap.size w7) (.cells #[.int .i64 0, .int .i64 0, .int .u64 0, .int .i64 0, .int .i64 0, .int .i64 0, .int .i64 0, .int .i64 0, .int .i64 0, .int .i64 0, .int .i64 0, .int .i64 0, .int .i64 0, .int .i64 0, .int .i64 0, .int .i64 0, .int .i64 0, .int .i64 0] 29)) (Nat.le_refl _)
      exact ⟨_, rfl, H7.out.keep kk, ((AgW.zero w7 29).st a).at_⟩
    rw [← hw8]
    obtain ⟨b8, hb8⟩ : ∃ b, w7.heap.size = b := ⟨_, rfl⟩
    rw [hb8] at h8 ⊢
    have H8 := Lib.hid h8
    clear hw8 h8 hb8 H7 H5
    refine wpList_plain rfl fun K hK => ?_
    go_simp
    refine hK _ _ ?_
    clear hK K
    (try simp only [Act.put, List.setIfInBounds_toArray, List.set_cons_zero, List.set_cons_succ])
    refine wpList_nil ?_
    go_upto_region 9 with fail
    refine wp_region_lit ?_
    refine wpList_plain rfl fun K hK => ?_
    go_simp
    refine hK _ _ ?_
    clear hK K
    (try simp only [Act.put, List.setIfInBounds_toArray, List.set_cons_zero, List.set_cons_succ])
    refine wpList_plain rfl fun K hK => ?_
    go_simp
    refine hK _ _ ?_
    clear hK K
    (try simp only [Act.put, List.setIfInBounds_toArray, List.set_cons_zero, List.set_cons_succ])
    refine wpList_step fun K hK => ?_
    refine (if_pos (by kernel_rfl)).mpr ?_
    refine load_ag _ rfl b8 a rfl H8.out.2 ?_
    refine hK _ _ ?_
    clear hK K
    (try simp only [Act.put, List.setIfInBounds_toArray, List.set_cons_zero, List.set_cons_succ])
    refine wpList_step fun K hK => ?_
    refine (if_pos (by kernel_rfl)).mpr ?_
    refine load_ag _ rfl w.heap.size a rfl H8.out.1.a ?_
    refine hK _ _ ?_
    clear hK K
    (try simp only [Act.put, List.setIfInBounds_toArray, List.set_cons_zero, List.set_cons_succ])
    refine wpList_step fun K hK => ?_
    refine (if_pos (by kernel_rfl)).mpr ?_
    go_simp
    refine hK _ _ ?_
    clear hK K
    (try simp only [Act.put, List.setIfInBounds_toArray, List.set_cons_zero, List.set_cons_succ])
    refine wpList_plain rfl fun K hK => ?_
    go_simp
    refine hK _ _ ?_
    clear hK K
    (try simp only [Act.put, List.setIfInBounds_toArray, List.set_cons_zero, List.set_cons_succ])
    refine wpList_plain rfl fun K hK => ?_
    go_simp
    refine hK _ _ ?_
    clear hK K
    (try simp only [Act.put, List.setIfInBounds_toArray, List.set_cons_zero, List.set_cons_succ])
    refine wpList_step fun K hK => ?_
    refine (if_pos (by kernel_rfl)).mpr ?_
    go_simp
    refine hK _ _ ?_
    clear hK K
    (try simp only [Act.put, List.setIfInBounds_toArray, List.set_cons_zero, List.set_cons_succ])
    refine wpList_step fun K hK => ?_
    refine (if_pos (by kernel_rfl)).mpr ?_
    go_simp
    refine hK _ _ ?_
    clear hK K
    (try simp only [Act.put, List.setIfInBounds_toArray, List.set_cons_zero, List.set_cons_succ])
    refine wpList_plain rfl fun K hK => ?_
    go_simp
    refine hK _ _ ?_
    clear hK K
    (try simp only [Act.put, List.setIfInBounds_toArray, List.set_cons_zero, List.set_cons_succ])
    refine wpList_plain rfl fun K hK => ?_
    go_simp
    refine hK _ _ ?_
    clear hK K
    (try simp only [Act.put, List.setIfInBounds_toArray, List.set_cons_zero, List.set_cons_succ])
    refine wpList_nil ?_
    have hbel := H8.out.1.bel
    go_wp2
    go_ret
    exact ⟨rfl, hbel⟩
end Go.Proofs.Ytipjhlabcbkgjaa.aggWrites
