/- The walk of law SampleRecords: it returns true and turns nothing that was there. -/
import Derived.Test.YtjckphmkhikpaaaSampleAwake
import Derived.Test.YtjckphmkhikpaaaSampleSmallB
import Derived.Test.YtjckphmkhikpaaaSamplePPointOf
import Derived.Test.YtjckphmkhikpaaaSampleArgs
set_option maxRecDepth 50000
namespace Go.Proofs.Ytjckphmkhikpaaa.sampleRecords
open Go.RowKit Go.Proofs.Ytjckphmkhikpaaa Go.Proofs.Ytjckphmkhikpaaa.Vi Go.Proofs.Ytjckphmkhikpaaa.Mk

/-- The record in its block, and its numbers. -/
structure RcH (w : World) (b : Nat) (r : Rec) (dv : Value) (w' : World) : Prop where
  at_ : RecW w' b r dv
  ns : Ns w' dv r.d
  bel : Below w.heap.size w w'
theorem RcH.keep {w w1 w2 : World} {b : Nat} {r : Rec} {dv : Value} (h : RcH w b r dv w1) (k : Below w1.heap.size w1 w2) : RcH w b r dv w2 := ⟨h.at_.below k, h.ns.later k, bel_next h.bel k⟩
structure R8 (w : World) (b d1 d2 : Nat) (r : Rec) (dv : Value) (p : Pt) (w' : World) : Prop where
  at_ : RecAt w' b r dv
  ns : Ns w' dv r.d
  p1 : PtAt w' d1 p
  p2 : PtAt w' d2 p
  bel : Below w.heap.size w w'
theorem R8.keep {w w1 w2 : World} {b d1 d2 : Nat} {r : Rec} {dv : Value} {p : Pt} (h : R8 w b d1 d2 r dv p w1) (k : Below w1.heap.size w1 w2) : R8 w b d1 d2 r dv p w2 :=
  ⟨h.at_.below k h.at_.room, h.ns.later k, h.p1.below k h.p1.room, h.p2.below k h.p2.room, bel_next h.bel k⟩
theorem R8.drew {w w1 : World} {b d1 d2 : Nat} {r : Rec} {dv : Value} {p : Pt} (h : R8 w b d1 d2 r dv p w1) : R8 w b d1 d2 r dv p w1.drew := h.keep ((Below.refl _ _).drew)
theorem pt_eql (p : Pt) (w : World) : (binOp .eql 34 (.agg #[.string p.s, .int .i64 p.t, .int .i64 p.v, .int .i64 p.st.c, .int .i64 p.st.s, .int .i64 p.st.q]) (.agg #[.string p.s, .int .i64 p.t, .int .i64 p.v, .int .i64 p.st.c, .int .i64 p.st.s, .int .i64 p.st.q])).run Try.prog w = .ok (.bool true) w := by simp [go_sem]

set_option maxHeartbeats 16000000 in
theorem walk (r0 : Rec) (dv0 : Value) (s0 : ByteArray) (w : World) (hr : r0.wide) (hA : ArgNs w dv0 r0.d) (_ : s0.size ≤ maxLen) : Calls Try.prog 3 #[recV r0 dv0, .string s0] w fun e w' => e = .returned (.bool true) ∧ Below w.heap.size w w' := by
  have hfit := hr.small
  have hNs := hA.cut
  obtain ⟨dv, hdv⟩ : ∃ dv, cut12 dv0 = dv := ⟨_, rfl⟩
  obtain ⟨r, hrr⟩ : ∃ r, r0.small = r := ⟨_, rfl⟩
  have hsm := fun w h => lsmall_cut r0 dv0 w h
  have hd : r0.d.take 12 = r.d := by rw [← hrr]; rfl
  rw [hdv, hrr] at hsm
  rw [hrr] at hfit
  rw [hdv, hd] at hNs
  clear hdv
  obtain ⟨da, dc, rfl⟩ := hNs.slice
  obtain ⟨y, hy⟩ : ∃ y, cutB s0 60 = y := ⟨_, rfl⟩
  have hyz := (cutB_size s0 60).1
  rw [hy] at hyz
  have hsh := fun w => short_is s0 y 60 60 w rfl (by omega) (Lib.hid hy)
  obtain ⟨nm, hnm⟩ : ∃ x, nameB y = x := ⟨_, rfl⟩
  have kn := fun w => name_is y nm w (by omega) (Lib.hid hnm)
  have kn' := fun w => rname_is y nm w (by omega) (Lib.hid hnm)
  have hB := fun w h => bytes6_is r (.slice da r.d.length dc) w h hfit
  have hB' := fun w h => rbytes6_is r (.slice da r.d.length dc) w h hfit
  obtain ⟨T, E, hTE⟩ : ∃ T E, r.enc = (T, E) := ⟨_, _, rfl⟩
  rw [hTE] at hB hB'
  obtain ⟨p, hp⟩ : ∃ p, r.pt = p := ⟨_, rfl⟩
  obtain ⟨z, hz⟩ : ∃ z, r.isPt = z := ⟨_, rfl⟩
  have hP := fun w h => pointof_is r (.slice da r.d.length dc) p z w h hfit (Lib.hid hp) (Lib.hid hz)
  have hP' := fun w h => rpointof_is r (.slice da r.d.length dc) p z w h hfit (Lib.hid hp) (Lib.hid hz)
  have hC := fun w h => check6_is r (.slice da r.d.length dc) w h hfit
  have hC' := fun w h => rcheck6_is r (.slice da r.d.length dc) w h hfit
  obtain ⟨er, her⟩ : ∃ er, r.err = er := ⟨_, rfl⟩
  rw [her] at hC hC'
  have HA := Lib.hid hA
  have HN := Lib.hid hNs
  have hbox := (Below.refl w.heap.size w).alloc (Nat.le_refl _) (.cells #[.int .i64 r0.k, .string r0.s, .int .i64 r0.t, .int .i64 r0.v, .int .i64 r0.tier, .int .i64 r0.st.c, .int .i64 r0.st.s, .int .i64 r0.st.q, dv0] 26)
  have H0 := RecW.new w r0 dv0
  have qe := fun w => pt_eql p w
  unfold recV at hsm hB hB' hP hP' hC hC' ⊢
  unfold ptV at hP hP'
  dsimp only at hB hB'
  clear hA hNs hr hfit hrr hd hy hnm hTE hp hz her hyz
  go_enter Try.func3, Try.ntmps3
  go_wp2_with (first
    | (go_at_call 9; (with_reducible refine (awake_any _).mono ?_); rintro e w1 ⟨rfl, hb1⟩; have H1 := H0.below hb1; have B1 := hbox.trans (hb1.mono (by simp)); have G := H1; obtain ⟨⟨x0, x1, x2, x3, x4, x5, x6, x7, x8⟩, y0, y1, y2, y3, y4, y5, y6, y7, y8⟩ := G)
    | (go_at_call 10; (with_reducible refine (hsm _ (HA.out.below B1)).mono ?_); rintro e w2 ⟨rfl, hb2⟩; have H2 := H1.below hb2; have B2 := bel_next B1 hb2; have G := H2; obtain ⟨⟨x0, x1, x2, x3, x4, x5, x6, x7, x8⟩, y0, y1, y2, y3, y4, y5, y6, y7, y8⟩ := G; have B3 := nine_bel (r := r) (dv := .slice da r.d.length dc) B2 (Nat.le_refl w.heap.size); have H3 : RcH w w.heap.size r (.slice da r.d.length dc) (nine w2 w.heap.size r (.slice da r.d.length dc)) := ⟨H2.nine, (HN.out.below B3).mono B3.size (Nat.le_refl _), B3⟩; unfold nine at H3; clear B3)
    | (go_at_call 11; (with_reducible refine (hsh _).mono ?_); rintro e w3 ⟨rfl, rfl⟩)
    | (go_at_call 12; (with_reducible refine (hB _ H3.ns).mono ?_); rintro e w4 ⟨rfl, hb4⟩; have H4 := H3.keep hb4; have G := H4.at_; obtain ⟨⟨x0, x1, x2, x3, x4, x5, x6, x7, x8⟩, y0, y1, y2, y3, y4, y5, y6, y7, y8⟩ := G)
    | (go_at_call 13; (with_reducible refine (hB' _ H4.ns).mono ?_); rintro e w5 ⟨rfl, hb5⟩; have H5 := H4.keep hb5; have G := H5.at_; obtain ⟨⟨x0, x1, x2, x3, x4, x5, x6, x7, x8⟩, y0, y1, y2, y3, y4, y5, y6, y7, y8⟩ := G)
    | (go_at_call 14; (with_reducible refine (hP _ H5.ns).mono ?_); rintro e w6 ⟨rfl, hb6⟩; have H6 := (H5.keep hb6).keep ((Below.refl _ _).alloc (Nat.le_refl _) (.cells #[.string p.s, .int .i64 p.t, .int .i64 p.v, .int .i64 p.st.c, .int .i64 p.st.s, .int .i64 p.st.q] 34)); have P6 := PtAt.new w6 p; have G := H6.at_; obtain ⟨⟨x0, x1, x2, x3, x4, x5, x6, x7, x8⟩, y0, y1, y2, y3, y4, y5, y6, y7, y8⟩ := G)
    | (go_at_call 15; (with_reducible refine (hP' _ H6.ns).mono ?_); rintro e w7 ⟨rfl, hb7⟩; have H7 := (H6.keep hb7).keep ((Below.refl _ _).alloc (Nat.le_refl _) (.cells #[.string p.s, .int .i64 p.t, .int .i64 p.v, .int .i64 p.st.c, .int .i64 p.st.s, .int .i64 p.st.q] 34)); have P7 := (P6.below hb7 P6.room).alloc (.cells #[.string p.s, .int .i64 p.t, .int .i64 p.v, .int .i64 p.st.c, .int .i64 p.st.s, .int .i64 p.st.q] 34); have Q7 := PtAt.new w7 p))
  have H8 : R8 w w.heap.size w6.heap.size w7.heap.size r (.slice da r.d.length dc) p (w7.alloc (.cells #[.string p.s, .int .i64 p.t, .int .i64 p.v, .int .i64 p.st.c, .int .i64 p.st.s, .int .i64 p.st.q] 34)) := ⟨H7.at_.at_, H7.ns, P7, Q7, H7.bel⟩
  clear H0 H1 H2 H3 H4 H5 H6 H7 P6 P7 Q7 hb1 hb2 hb4 hb5 hb6 hb7 B1 B2 hbox x0 x1 x2 x3 x4 x5 x6 x7 x8 y0 y1 y2 y3 y4 y5 y6 y7 y8 hsm hsh hB hB' hP hP' HA HN
  generalize w6.heap.size = d1 at H8 ⊢
  generalize w7.heap.size = d2 at H8 ⊢
  go_wp2_with fail
  refine wp_region_held_drew (S := (R8 w w.heap.size d1 d2 r (.slice da r.d.length dc) p)) (by kernel_rfl) H8.drew (fun hHeld => ?_)
  refine wpAnyH_take (i := 0) (oi := ?op1o) (v := ?op1v) ?op1h (by kernel_rfl) (by kernel_rfl) (by kernel_rfl) ?op1q ?op1y hHeld ?op1r
  case op1h => (simp only [List.getElem?_toArray, List.getElem?_cons_zero]; rfl)
  case op1q => exact fun _ _ _ h => h
  case op1y => (refine Or.inl ⟨by first | kernel_rfl | rfl, ?_⟩; intro w hSw; (try dsimp only at hSw); obtain ⟨⟨x0, x1, x2, x3, x4, x5, x6, x7, x8⟩, -, ⟨p0, p1, p2, p3, p4, p5⟩, ⟨q0, q1, q2, q3, q4, q5⟩, -⟩ := hSw; go_simp <;> (try with_reducible rfl))
  try simp only [Act.put, List.setIfInBounds_toArray, List.set_cons_zero, List.set_cons_succ]
  refine wpAnyH_take (i := 1) (oi := ?op2o) (v := ?op2v) ?op2h (by kernel_rfl) (by kernel_rfl) (by kernel_rfl) ?op2q ?op2y hHeld ?op2r
  case op2h => (simp only [List.getElem?_toArray, List.getElem?_cons_succ, List.getElem?_cons_zero]; rfl)
  case op2q => exact fun _ _ _ h => h
  case op2y => (refine Or.inl ⟨by first | kernel_rfl | rfl, ?_⟩; intro w hSw; (try dsimp only at hSw); obtain ⟨⟨x0, x1, x2, x3, x4, x5, x6, x7, x8⟩, -, ⟨p0, p1, p2, p3, p4, p5⟩, ⟨q0, q1, q2, q3, q4, q5⟩, -⟩ := hSw; go_simp <;> (try with_reducible rfl))
  try simp only [Act.put, List.setIfInBounds_toArray, List.set_cons_zero, List.set_cons_succ]
  refine wpAnyH_take (i := 2) (oi := ?op3o) (v := ?op3v) ?op3h (by kernel_rfl) (by kernel_rfl) (by kernel_rfl) ?op3q ?op3y hHeld ?op3r
  case op3h => (simp only [List.getElem?_toArray, List.getElem?_cons_succ, List.getElem?_cons_zero]; rfl)
  case op3q => exact fun _ _ _ h => h
  case op3y => (refine Or.inl ⟨by first | kernel_rfl | rfl, ?_⟩; intro w hSw; (try dsimp only at hSw); obtain ⟨⟨x0, x1, x2, x3, x4, x5, x6, x7, x8⟩, -, ⟨p0, p1, p2, p3, p4, p5⟩, ⟨q0, q1, q2, q3, q4, q5⟩, -⟩ := hSw; go_simp <;> (try with_reducible rfl))
  try simp only [Act.put, List.setIfInBounds_toArray, List.set_cons_zero, List.set_cons_succ]
  refine wpAnyH_take (i := 4) (oi := ?op4o) (v := ?op4v) ?op4h (by kernel_rfl) (by kernel_rfl) (by kernel_rfl) ?op4q ?op4y hHeld ?op4r
  case op4h => (simp only [List.getElem?_toArray, List.getElem?_cons_succ, List.getElem?_cons_zero]; rfl)
  case op4q => exact fun _ _ _ h => h
  case op4y => (refine Or.inl ⟨by first | kernel_rfl | rfl, ?_⟩; intro w hSw; (try dsimp only at hSw); obtain ⟨⟨x0, x1, x2, x3, x4, x5, x6, x7, x8⟩, -, ⟨p0, p1, p2, p3, p4, p5⟩, ⟨q0, q1, q2, q3, q4, q5⟩, -⟩ := hSw; go_simp <;> (try with_reducible rfl))
  try simp only [Act.put, List.setIfInBounds_toArray, List.set_cons_zero, List.set_cons_succ]
  refine wpAnyH_ready (rs := [3]) (by kernel_rfl) (by simp) ?_
  refine (AllReadyH.cons rfl (fun K hK => ?_) AllReadyH.nil)
  go_simp
  ((with_reducible refine (hC _ hHeld.ns).mono ?_); rintro e w' ⟨rfl, hb'⟩)
  refine hK.out _ _ (hHeld.keep hb') (fun hHeld => ?_)
  clear hK K
  try simp only [Act.put, List.setIfInBounds_toArray, List.set_cons_zero, List.set_cons_succ]
  refine wpAnyH_ready (rs := [5]) (by kernel_rfl) (by simp) ?_
  refine (AllReadyH.cons rfl (fun K hK => ?_) AllReadyH.nil)
  go_simp
  ((with_reducible refine (hC' _ hHeld.ns).mono ?_); rintro e w' ⟨rfl, hb'⟩)
  refine hK.out _ _ (hHeld.keep hb') (fun hHeld => ?_)
  clear hK K
  try simp only [Act.put, List.setIfInBounds_toArray, List.set_cons_zero, List.set_cons_succ]
  refine wpAnyH_take (i := 6) (oi := ?op5o) (v := ?op5v) ?op5h (by kernel_rfl) (by kernel_rfl) (by kernel_rfl) ?op5q ?op5y hHeld ?op5r
  case op5h => (simp only [List.getElem?_toArray, List.getElem?_cons_succ, List.getElem?_cons_zero]; rfl)
  case op5q => exact fun _ _ _ h => h
  case op5y => (refine Or.inl ⟨by first | kernel_rfl | rfl, ?_⟩; intro w hSw; (try dsimp only at hSw); obtain ⟨⟨x0, x1, x2, x3, x4, x5, x6, x7, x8⟩, -, ⟨p0, p1, p2, p3, p4, p5⟩, ⟨q0, q1, q2, q3, q4, q5⟩, -⟩ := hSw; go_simp <;> (try with_reducible rfl))
  try simp only [Act.put, List.setIfInBounds_toArray, List.set_cons_zero, List.set_cons_succ]
  refine wpAnyH_take (i := 7) (oi := ?op6o) (v := ?op6v) ?op6h (by kernel_rfl) (by kernel_rfl) (by kernel_rfl) ?op6q ?op6y hHeld ?op6r
  case op6h => (simp only [List.getElem?_toArray, List.getElem?_cons_succ, List.getElem?_cons_zero]; rfl)
  case op6q => exact fun _ _ _ h => h
  case op6y => (refine Or.inl ⟨by first | kernel_rfl | rfl, ?_⟩; intro w hSw; (try dsimp only at hSw); obtain ⟨⟨x0, x1, x2, x3, x4, x5, x6, x7, x8⟩, -, ⟨p0, p1, p2, p3, p4, p5⟩, ⟨q0, q1, q2, q3, q4, q5⟩, -⟩ := hSw; go_simp <;> (try with_reducible rfl))
  try simp only [Act.put, List.setIfInBounds_toArray, List.set_cons_zero, List.set_cons_succ]
  refine wpAnyH_take (i := 8) (oi := ?op7o) (v := ?op7v) ?op7h (by kernel_rfl) (by kernel_rfl) (by kernel_rfl) ?op7q ?op7y hHeld ?op7r
  case op7h => (simp only [List.getElem?_toArray, List.getElem?_cons_succ, List.getElem?_cons_zero]; rfl)
  case op7q => exact fun _ _ _ h => h
  case op7y => (refine Or.inl ⟨by first | kernel_rfl | rfl, ?_⟩; intro w hSw; (try dsimp only at hSw); obtain ⟨⟨x0, x1, x2, x3, x4, x5, x6, x7, x8⟩, -, ⟨p0, p1, p2, p3, p4, p5⟩, ⟨q0, q1, q2, q3, q4, q5⟩, -⟩ := hSw; go_simp <;> (try with_reducible rfl))
  try simp only [Act.put, List.setIfInBounds_toArray, List.set_cons_zero, List.set_cons_succ]
  refine wpAnyH_take (i := 9) (oi := ?op8o) (v := ?op8v) ?op8h (by kernel_rfl) (by kernel_rfl) (by kernel_rfl) ?op8q ?op8y hHeld ?op8r
  case op8h => (simp only [List.getElem?_toArray, List.getElem?_cons_succ, List.getElem?_cons_zero]; rfl)
  case op8q => exact fun _ _ _ h => h
  case op8y => (refine Or.inl ⟨by first | kernel_rfl | rfl, ?_⟩; intro w hSw; (try dsimp only at hSw); obtain ⟨⟨x0, x1, x2, x3, x4, x5, x6, x7, x8⟩, -, ⟨p0, p1, p2, p3, p4, p5⟩, ⟨q0, q1, q2, q3, q4, q5⟩, -⟩ := hSw; go_simp <;> (try with_reducible rfl))
  try simp only [Act.put, List.setIfInBounds_toArray, List.set_cons_zero, List.set_cons_succ]
  refine wpAnyH_take (i := 10) (oi := ?op9o) (v := ?op9v) ?op9h (by kernel_rfl) (by kernel_rfl) (by kernel_rfl) ?op9q ?op9y hHeld ?op9r
  case op9h => (simp only [List.getElem?_toArray, List.getElem?_cons_succ, List.getElem?_cons_zero]; rfl)
  case op9q => exact fun _ _ _ h => h
  case op9y => (refine Or.inl ⟨by first | kernel_rfl | rfl, ?_⟩; intro w hSw; (try dsimp only at hSw); obtain ⟨⟨x0, x1, x2, x3, x4, x5, x6, x7, x8⟩, -, ⟨p0, p1, p2, p3, p4, p5⟩, ⟨q0, q1, q2, q3, q4, q5⟩, -⟩ := hSw; go_simp <;> (try with_reducible rfl))
  try simp only [Act.put, List.setIfInBounds_toArray, List.set_cons_zero, List.set_cons_succ]
  refine wpAnyH_take (i := 11) (oi := ?op10o) (v := ?op10v) ?op10h (by kernel_rfl) (by kernel_rfl) (by kernel_rfl) ?op10q ?op10y hHeld ?op10r
  case op10h => (simp only [List.getElem?_toArray, List.getElem?_cons_succ, List.getElem?_cons_zero]; rfl)
  case op10q => exact fun _ _ _ h => h
  case op10y => (refine Or.inl ⟨by first | kernel_rfl | rfl, ?_⟩; intro w hSw; (try dsimp only at hSw); obtain ⟨⟨x0, x1, x2, x3, x4, x5, x6, x7, x8⟩, -, ⟨p0, p1, p2, p3, p4, p5⟩, ⟨q0, q1, q2, q3, q4, q5⟩, -⟩ := hSw; go_simp <;> (try with_reducible rfl))
  try simp only [Act.put, List.setIfInBounds_toArray, List.set_cons_zero, List.set_cons_succ]
  refine wpAnyH_take (i := 12) (oi := ?op11o) (v := ?op11v) ?op11h (by kernel_rfl) (by kernel_rfl) (by kernel_rfl) ?op11q ?op11y hHeld ?op11r
  case op11h => (simp only [List.getElem?_toArray, List.getElem?_cons_succ, List.getElem?_cons_zero]; rfl)
  case op11q => exact fun _ _ _ h => h
  case op11y => (refine Or.inl ⟨by first | kernel_rfl | rfl, ?_⟩; intro w hSw; (try dsimp only at hSw); obtain ⟨⟨x0, x1, x2, x3, x4, x5, x6, x7, x8⟩, -, ⟨p0, p1, p2, p3, p4, p5⟩, ⟨q0, q1, q2, q3, q4, q5⟩, -⟩ := hSw; go_simp <;> (try with_reducible rfl))
  try simp only [Act.put, List.setIfInBounds_toArray, List.set_cons_zero, List.set_cons_succ]
  refine wpAnyH_take (i := 13) (oi := ?op12o) (v := ?op12v) ?op12h (by kernel_rfl) (by kernel_rfl) (by kernel_rfl) ?op12q ?op12y hHeld ?op12r
  case op12h => (simp only [List.getElem?_toArray, List.getElem?_cons_succ, List.getElem?_cons_zero]; rfl)
  case op12q => exact fun _ _ _ h => h
  case op12y => (refine Or.inl ⟨by first | kernel_rfl | rfl, ?_⟩; intro w hSw; (try dsimp only at hSw); obtain ⟨⟨x0, x1, x2, x3, x4, x5, x6, x7, x8⟩, -, ⟨p0, p1, p2, p3, p4, p5⟩, ⟨q0, q1, q2, q3, q4, q5⟩, -⟩ := hSw; go_simp <;> (try with_reducible rfl))
  try simp only [Act.put, List.setIfInBounds_toArray, List.set_cons_zero, List.set_cons_succ]
  refine wpAnyH_take (i := 14) (oi := ?op13o) (v := ?op13v) ?op13h (by kernel_rfl) (by kernel_rfl) (by kernel_rfl) ?op13q ?op13y hHeld ?op13r
  case op13h => (simp only [List.getElem?_toArray, List.getElem?_cons_succ, List.getElem?_cons_zero]; rfl)
  case op13q => exact fun _ _ _ h => h
  case op13y => (refine Or.inl ⟨by first | kernel_rfl | rfl, ?_⟩; intro w hSw; (try dsimp only at hSw); obtain ⟨⟨x0, x1, x2, x3, x4, x5, x6, x7, x8⟩, -, ⟨p0, p1, p2, p3, p4, p5⟩, ⟨q0, q1, q2, q3, q4, q5⟩, -⟩ := hSw; go_simp <;> (try with_reducible rfl))
  try simp only [Act.put, List.setIfInBounds_toArray, List.set_cons_zero, List.set_cons_succ]
  refine wpAnyH_take (i := 15) (oi := ?op14o) (v := ?op14v) ?op14h (by kernel_rfl) (by kernel_rfl) (by kernel_rfl) ?op14q ?op14y hHeld ?op14r
  case op14h => (simp only [List.getElem?_toArray, List.getElem?_cons_succ, List.getElem?_cons_zero]; rfl)
  case op14q => exact fun _ _ _ h => h
  case op14y => (refine Or.inl ⟨by first | kernel_rfl | rfl, ?_⟩; intro w hSw; (try dsimp only at hSw); obtain ⟨⟨x0, x1, x2, x3, x4, x5, x6, x7, x8⟩, -, ⟨p0, p1, p2, p3, p4, p5⟩, ⟨q0, q1, q2, q3, q4, q5⟩, -⟩ := hSw; go_simp <;> (try with_reducible rfl))
  try simp only [Act.put, List.setIfInBounds_toArray, List.set_cons_zero, List.set_cons_succ]
  refine wpAnyH_take (i := 16) (oi := ?op15o) (v := ?op15v) ?op15h (by kernel_rfl) (by kernel_rfl) (by kernel_rfl) ?op15q ?op15y hHeld ?op15r
  case op15h => (simp only [List.getElem?_toArray, List.getElem?_cons_succ, List.getElem?_cons_zero]; rfl)
  case op15q => exact fun _ _ _ h => h
  case op15y => (refine Or.inl ⟨by first | kernel_rfl | rfl, ?_⟩; intro w hSw; (try dsimp only at hSw); obtain ⟨⟨x0, x1, x2, x3, x4, x5, x6, x7, x8⟩, -, ⟨p0, p1, p2, p3, p4, p5⟩, ⟨q0, q1, q2, q3, q4, q5⟩, -⟩ := hSw; go_simp <;> (try with_reducible rfl))
  try simp only [Act.put, List.setIfInBounds_toArray, List.set_cons_zero, List.set_cons_succ]
  refine wpAnyH_take (i := 17) (oi := ?op16o) (v := ?op16v) ?op16h (by kernel_rfl) (by kernel_rfl) (by kernel_rfl) ?op16q ?op16y hHeld ?op16r
  case op16h => (simp only [List.getElem?_toArray, List.getElem?_cons_succ, List.getElem?_cons_zero]; rfl)
  case op16q => exact fun _ _ _ h => h
  case op16y => (refine Or.inl ⟨by first | kernel_rfl | rfl, ?_⟩; intro w hSw; (try dsimp only at hSw); obtain ⟨⟨x0, x1, x2, x3, x4, x5, x6, x7, x8⟩, -, ⟨p0, p1, p2, p3, p4, p5⟩, ⟨q0, q1, q2, q3, q4, q5⟩, -⟩ := hSw; go_simp <;> (try with_reducible rfl))
  try simp only [Act.put, List.setIfInBounds_toArray, List.set_cons_zero, List.set_cons_succ]
  refine wpAnyH_take (i := 18) (oi := ?op17o) (v := ?op17v) ?op17h (by kernel_rfl) (by kernel_rfl) (by kernel_rfl) ?op17q ?op17y hHeld ?op17r
  case op17h => (simp only [List.getElem?_toArray, List.getElem?_cons_succ, List.getElem?_cons_zero]; rfl)
  case op17q => exact fun _ _ _ h => h
  case op17y => (refine Or.inl ⟨by first | kernel_rfl | rfl, ?_⟩; intro w hSw; (try dsimp only at hSw); obtain ⟨⟨x0, x1, x2, x3, x4, x5, x6, x7, x8⟩, -, ⟨p0, p1, p2, p3, p4, p5⟩, ⟨q0, q1, q2, q3, q4, q5⟩, -⟩ := hSw; go_simp <;> (try with_reducible rfl))
  try simp only [Act.put, List.setIfInBounds_toArray, List.set_cons_zero, List.set_cons_succ]
  refine wpAnyH_take (i := 19) (oi := ?op18o) (v := ?op18v) ?op18h (by kernel_rfl) (by kernel_rfl) (by kernel_rfl) ?op18q ?op18y hHeld ?op18r
  case op18h => (simp only [List.getElem?_toArray, List.getElem?_cons_succ, List.getElem?_cons_zero]; rfl)
  case op18q => exact fun _ _ _ h => h
  case op18y => (refine Or.inl ⟨by first | kernel_rfl | rfl, ?_⟩; intro w hSw; (try dsimp only at hSw); obtain ⟨⟨x0, x1, x2, x3, x4, x5, x6, x7, x8⟩, -, ⟨p0, p1, p2, p3, p4, p5⟩, ⟨q0, q1, q2, q3, q4, q5⟩, -⟩ := hSw; go_simp <;> (try with_reducible rfl))
  try simp only [Act.put, List.setIfInBounds_toArray, List.set_cons_zero, List.set_cons_succ]
  refine wpAnyH_take (i := 20) (oi := ?op19o) (v := ?op19v) ?op19h (by kernel_rfl) (by kernel_rfl) (by kernel_rfl) ?op19q ?op19y hHeld ?op19r
  case op19h => (simp only [List.getElem?_toArray, List.getElem?_cons_succ, List.getElem?_cons_zero]; rfl)
  case op19q => exact fun _ _ _ h => h
  case op19y => (refine Or.inl ⟨by first | kernel_rfl | rfl, ?_⟩; intro w hSw; (try dsimp only at hSw); obtain ⟨⟨x0, x1, x2, x3, x4, x5, x6, x7, x8⟩, -, ⟨p0, p1, p2, p3, p4, p5⟩, ⟨q0, q1, q2, q3, q4, q5⟩, -⟩ := hSw; go_simp <;> (try with_reducible rfl))
  try simp only [Act.put, List.setIfInBounds_toArray, List.set_cons_zero, List.set_cons_succ]
  refine wpAnyH_take (i := 21) (oi := ?op20o) (v := ?op20v) ?op20h (by kernel_rfl) (by kernel_rfl) (by kernel_rfl) ?op20q ?op20y hHeld ?op20r
  case op20h => (simp only [List.getElem?_toArray, List.getElem?_cons_succ, List.getElem?_cons_zero]; rfl)
  case op20q => exact fun _ _ _ h => h
  case op20y => (refine Or.inl ⟨by first | kernel_rfl | rfl, ?_⟩; intro w hSw; (try dsimp only at hSw); obtain ⟨⟨x0, x1, x2, x3, x4, x5, x6, x7, x8⟩, -, ⟨p0, p1, p2, p3, p4, p5⟩, ⟨q0, q1, q2, q3, q4, q5⟩, -⟩ := hSw; go_simp <;> (try with_reducible rfl))
  try simp only [Act.put, List.setIfInBounds_toArray, List.set_cons_zero, List.set_cons_succ]
  refine wpAnyH_take (i := 22) (oi := ?op21o) (v := ?op21v) ?op21h (by kernel_rfl) (by kernel_rfl) (by kernel_rfl) ?op21q ?op21y hHeld ?op21r
  case op21h => (simp only [List.getElem?_toArray, List.getElem?_cons_succ, List.getElem?_cons_zero]; rfl)
  case op21q => exact fun _ _ _ h => h
  case op21y => (refine Or.inl ⟨by first | kernel_rfl | rfl, ?_⟩; intro w hSw; (try dsimp only at hSw); obtain ⟨⟨x0, x1, x2, x3, x4, x5, x6, x7, x8⟩, -, ⟨p0, p1, p2, p3, p4, p5⟩, ⟨q0, q1, q2, q3, q4, q5⟩, -⟩ := hSw; go_simp <;> (try with_reducible rfl))
  try simp only [Act.put, List.setIfInBounds_toArray, List.set_cons_zero, List.set_cons_succ]
  refine wpAnyH_take (i := 23) (oi := ?op22o) (v := ?op22v) ?op22h (by kernel_rfl) (by kernel_rfl) (by kernel_rfl) ?op22q ?op22y hHeld ?op22r
  case op22h => (simp only [List.getElem?_toArray, List.getElem?_cons_succ, List.getElem?_cons_zero]; rfl)
  case op22q => exact fun _ _ _ h => h
  case op22y => (refine Or.inl ⟨by first | kernel_rfl | rfl, ?_⟩; intro w hSw; (try dsimp only at hSw); obtain ⟨⟨x0, x1, x2, x3, x4, x5, x6, x7, x8⟩, -, ⟨p0, p1, p2, p3, p4, p5⟩, ⟨q0, q1, q2, q3, q4, q5⟩, -⟩ := hSw; go_simp <;> (try with_reducible rfl))
  try simp only [Act.put, List.setIfInBounds_toArray, List.set_cons_zero, List.set_cons_succ]
  refine wpAnyH_take (i := 24) (oi := ?op23o) (v := ?op23v) ?op23h (by kernel_rfl) (by kernel_rfl) (by kernel_rfl) ?op23q ?op23y hHeld ?op23r
  case op23h => (simp only [List.getElem?_toArray, List.getElem?_cons_succ, List.getElem?_cons_zero]; rfl)
  case op23q => exact fun _ _ _ h => h
  case op23y => (refine Or.inl ⟨by first | kernel_rfl | rfl, ?_⟩; intro w hSw; (try dsimp only at hSw); obtain ⟨⟨x0, x1, x2, x3, x4, x5, x6, x7, x8⟩, -, ⟨p0, p1, p2, p3, p4, p5⟩, ⟨q0, q1, q2, q3, q4, q5⟩, -⟩ := hSw; go_simp <;> (try with_reducible rfl))
  try simp only [Act.put, List.setIfInBounds_toArray, List.set_cons_zero, List.set_cons_succ]
  refine wpAnyH_take (i := 25) (oi := ?op24o) (v := ?op24v) ?op24h (by kernel_rfl) (by kernel_rfl) (by kernel_rfl) ?op24q ?op24y hHeld ?op24r
  case op24h => (simp only [List.getElem?_toArray, List.getElem?_cons_succ, List.getElem?_cons_zero]; rfl)
  case op24q => exact fun _ _ _ h => h
  case op24y => (refine Or.inl ⟨by first | kernel_rfl | rfl, ?_⟩; intro w hSw; (try dsimp only at hSw); obtain ⟨⟨x0, x1, x2, x3, x4, x5, x6, x7, x8⟩, -, ⟨p0, p1, p2, p3, p4, p5⟩, ⟨q0, q1, q2, q3, q4, q5⟩, -⟩ := hSw; go_simp <;> (try with_reducible rfl))
  try simp only [Act.put, List.setIfInBounds_toArray, List.set_cons_zero, List.set_cons_succ]
  refine wpAnyH_take (i := 26) (oi := ?op25o) (v := ?op25v) ?op25h (by kernel_rfl) (by kernel_rfl) (by kernel_rfl) ?op25q ?op25y hHeld ?op25r
  case op25h => (simp only [List.getElem?_toArray, List.getElem?_cons_succ, List.getElem?_cons_zero]; rfl)
  case op25q => exact fun _ _ _ h => h
  case op25y => (refine Or.inl ⟨by first | kernel_rfl | rfl, ?_⟩; intro w hSw; (try dsimp only at hSw); obtain ⟨⟨x0, x1, x2, x3, x4, x5, x6, x7, x8⟩, -, ⟨p0, p1, p2, p3, p4, p5⟩, ⟨q0, q1, q2, q3, q4, q5⟩, -⟩ := hSw; go_simp <;> (try with_reducible rfl))
  try simp only [Act.put, List.setIfInBounds_toArray, List.set_cons_zero, List.set_cons_succ]
  refine wpAnyH_take (i := 27) (oi := ?op26o) (v := ?op26v) ?op26h (by kernel_rfl) (by kernel_rfl) (by kernel_rfl) ?op26q ?op26y hHeld ?op26r
  case op26h => (simp only [List.getElem?_toArray, List.getElem?_cons_succ, List.getElem?_cons_zero]; rfl)
  case op26q => exact fun _ _ _ h => h
  case op26y => (refine Or.inl ⟨by first | kernel_rfl | rfl, ?_⟩; intro w hSw; (try dsimp only at hSw); obtain ⟨⟨x0, x1, x2, x3, x4, x5, x6, x7, x8⟩, -, ⟨p0, p1, p2, p3, p4, p5⟩, ⟨q0, q1, q2, q3, q4, q5⟩, -⟩ := hSw; go_simp <;> (try with_reducible rfl))
  try simp only [Act.put, List.setIfInBounds_toArray, List.set_cons_zero, List.set_cons_succ]
  refine wpAnyH_take (i := 28) (oi := ?op27o) (v := ?op27v) ?op27h (by kernel_rfl) (by kernel_rfl) (by kernel_rfl) ?op27q ?op27y hHeld ?op27r
  case op27h => (simp only [List.getElem?_toArray, List.getElem?_cons_succ, List.getElem?_cons_zero]; rfl)
  case op27q => exact fun _ _ _ h => h
  case op27y => (refine Or.inl ⟨by first | kernel_rfl | rfl, ?_⟩; intro w hSw; (try dsimp only at hSw); obtain ⟨⟨x0, x1, x2, x3, x4, x5, x6, x7, x8⟩, -, ⟨p0, p1, p2, p3, p4, p5⟩, ⟨q0, q1, q2, q3, q4, q5⟩, -⟩ := hSw; go_simp <;> (try with_reducible rfl))
  try simp only [Act.put, List.setIfInBounds_toArray, List.set_cons_zero, List.set_cons_succ]
  refine wpAnyH_take (i := 29) (oi := ?op28o) (v := ?op28v) ?op28h (by kernel_rfl) (by kernel_rfl) (by kernel_rfl) ?op28q ?op28y hHeld ?op28r
  case op28h => (simp only [List.getElem?_toArray, List.getElem?_cons_succ, List.getElem?_cons_zero]; rfl)
  case op28q => exact fun _ _ _ h => h
  case op28y => (refine Or.inl ⟨by first | kernel_rfl | rfl, ?_⟩; intro w hSw; (try dsimp only at hSw); obtain ⟨⟨x0, x1, x2, x3, x4, x5, x6, x7, x8⟩, -, ⟨p0, p1, p2, p3, p4, p5⟩, ⟨q0, q1, q2, q3, q4, q5⟩, -⟩ := hSw; go_simp <;> (try with_reducible rfl))
  try simp only [Act.put, List.setIfInBounds_toArray, List.set_cons_zero, List.set_cons_succ]
  refine wpAnyH_take (i := 31) (oi := ?op29o) (v := ?op29v) ?op29h (by kernel_rfl) (by kernel_rfl) (by kernel_rfl) ?op29q ?op29y hHeld ?op29r
  case op29h => (simp only [List.getElem?_toArray, List.getElem?_cons_succ, List.getElem?_cons_zero]; rfl)
  case op29q => exact fun _ _ _ h => h
  case op29y => (refine Or.inl ⟨by first | kernel_rfl | rfl, ?_⟩; intro w hSw; (try dsimp only at hSw); obtain ⟨⟨x0, x1, x2, x3, x4, x5, x6, x7, x8⟩, -, ⟨p0, p1, p2, p3, p4, p5⟩, ⟨q0, q1, q2, q3, q4, q5⟩, -⟩ := hSw; go_simp <;> (try with_reducible rfl))
  try simp only [Act.put, List.setIfInBounds_toArray, List.set_cons_zero, List.set_cons_succ]
  refine wpAnyH_ready (rs := [30]) (by kernel_rfl) (by simp) ?_
  refine (AllReadyH.cons rfl (fun K hK => ?_) AllReadyH.nil)
  go_simp
  ((with_reducible refine (kn _).mono ?_); rintro e w' ⟨rfl, rfl⟩)
  refine hK.out _ _ (hHeld) (fun hHeld => ?_)
  clear hK K
  try simp only [Act.put, List.setIfInBounds_toArray, List.set_cons_zero, List.set_cons_succ]
  refine wpAnyH_ready (rs := [32]) (by kernel_rfl) (by simp) ?_
  refine (AllReadyH.cons rfl (fun K hK => ?_) AllReadyH.nil)
  go_simp
  ((with_reducible refine (kn' _).mono ?_); rintro e w' ⟨rfl, rfl⟩)
  refine hK.out _ _ (hHeld) (fun hHeld => ?_)
  clear hK K
  try simp only [Act.put, List.setIfInBounds_toArray, List.set_cons_zero, List.set_cons_succ]
  refine wpAnyH_take (i := 33) (oi := ?op30o) (v := ?op30v) ?op30h (by kernel_rfl) (by kernel_rfl) (by kernel_rfl) ?op30q ?op30y hHeld ?op30r
  case op30h => (simp only [List.getElem?_toArray, List.getElem?_cons_succ, List.getElem?_cons_zero]; rfl)
  case op30q => exact fun _ _ _ h => h
  case op30y => (refine Or.inl ⟨by first | kernel_rfl | rfl, ?_⟩; intro w hSw; (try dsimp only at hSw); obtain ⟨⟨x0, x1, x2, x3, x4, x5, x6, x7, x8⟩, -, ⟨p0, p1, p2, p3, p4, p5⟩, ⟨q0, q1, q2, q3, q4, q5⟩, -⟩ := hSw; go_simp <;> (try with_reducible rfl))
  try simp only [Act.put, List.setIfInBounds_toArray, List.set_cons_zero, List.set_cons_succ]
  refine wpAnyH_take (i := 34) (oi := ?op31o) (v := ?op31v) ?op31h (by kernel_rfl) (by kernel_rfl) (by kernel_rfl) ?op31q ?op31y hHeld ?op31r
  case op31h => (simp only [List.getElem?_toArray, List.getElem?_cons_succ, List.getElem?_cons_zero]; rfl)
  case op31q => exact fun _ _ _ h => h
  case op31y => (refine Or.inl ⟨by first | kernel_rfl | rfl, ?_⟩; intro w hSw; (try dsimp only at hSw); obtain ⟨⟨x0, x1, x2, x3, x4, x5, x6, x7, x8⟩, -, ⟨p0, p1, p2, p3, p4, p5⟩, ⟨q0, q1, q2, q3, q4, q5⟩, -⟩ := hSw; go_simp <;> (try with_reducible rfl))
  try simp only [Act.put, List.setIfInBounds_toArray, List.set_cons_zero, List.set_cons_succ]
  refine wpAnyH_take (i := 35) (oi := ?op32o) (v := ?op32v) ?op32h (by kernel_rfl) (by kernel_rfl) (by kernel_rfl) ?op32q ?op32y hHeld ?op32r
  case op32h => (simp only [List.getElem?_toArray, List.getElem?_cons_succ, List.getElem?_cons_zero]; rfl)
  case op32q => exact fun _ _ _ h => h
  case op32y => (refine Or.inl ⟨by first | kernel_rfl | rfl, ?_⟩; intro w hSw; (try dsimp only at hSw); obtain ⟨⟨x0, x1, x2, x3, x4, x5, x6, x7, x8⟩, -, ⟨p0, p1, p2, p3, p4, p5⟩, ⟨q0, q1, q2, q3, q4, q5⟩, -⟩ := hSw; go_simp <;> (try with_reducible rfl))
  try simp only [Act.put, List.setIfInBounds_toArray, List.set_cons_zero, List.set_cons_succ]
  refine wpAnyH_done (by kernel_rfl) ?_ _
  have hbel := hHeld.bel
  go_wp2
  go_ret
  exact ⟨rfl, hbel⟩
end Go.Proofs.Ytjckphmkhikpaaa.sampleRecords
