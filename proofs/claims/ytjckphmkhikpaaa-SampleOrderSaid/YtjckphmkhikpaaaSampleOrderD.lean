/- Ways of law SampleOrder. -/
import Derived.Test.YtjckphmkhikpaaaSampleOrderMath
set_option maxRecDepth 20000
namespace Go.Proofs.Ytjckphmkhikpaaa.sampleOrder
open Go.RowKit Go.Proofs.Ytjckphmkhikpaaa Go.Proofs.Ytjckphmkhikpaaa.Vi Go.Proofs.Ytjckphmkhikpaaa.Mk

set_option maxHeartbeats 8000000 in
theorem caseP010 (a b c : Pt) (h1 : a.s = b.s) (h2 : a.t = b.t) (h : a.st.lt b.st = true) : Rest a b c := by
  intro a0 b0 c0 w hfew
  have hs := seq_eq h1
  have ht : (a.t == b.t) = true := by simpa using h2
  have kab := fun w => before_is a b false w (Lib.hid (by rw [before_s h1]; exact decide_eq_false (by omega)))
  have kba := fun w => before_is b a false w (Lib.hid (by rw [before_s h1.symm]; exact decide_eq_false (by omega)))
  have jab := fun w => newer_is a b false w (Lib.hid (by rw [newer_same h1 h2]; exact St.lt_not h))
  have jba := fun w => newer_is b a true w (Lib.hid (by rw [newer_same h1.symm h2.symm]; exact h))
  have hne : ¬ a.st = b.st := fun e => by rw [e, St.lt_self] at h; cases h
  have qn : ∀ w, (binOp .neq 23 (.agg #[.int .i64 a.st.c, .int .i64 a.st.s, .int .i64 a.st.q]) (.agg #[.int .i64 b.st.c, .int .i64 b.st.s, .int .i64 b.st.q])).run Try.prog w = .ok (.bool true) w := fun w => by rw [neq_run]; simp [hne]
  unfold ptV at kab kba jab jba  
  clear h h1 h2  hne
  have H0a := (PHeld.new w a0).keep (bel_new ((Below.refl _ _).alloc (Nat.le_refl _) (.cells #[.string b0.s, .int .i64 b0.t, .int .i64 b0.v, .int .i64 b0.st.c, .int .i64 b0.st.s, .int .i64 b0.st.q] 34)) (.cells #[.string c0.s, .int .i64 c0.t, .int .i64 c0.v, .int .i64 c0.st.c, .int .i64 c0.st.s, .int .i64 c0.st.q] 34))
  have H0b := (PHeld.new (w.alloc (.cells #[.string a0.s, .int .i64 a0.t, .int .i64 a0.v, .int .i64 a0.st.c, .int .i64 a0.st.s, .int .i64 a0.st.q] 34)) b0).keep ((Below.refl _ _).alloc (Nat.le_refl _) (.cells #[.string c0.s, .int .i64 c0.t, .int .i64 c0.v, .int .i64 c0.st.c, .int .i64 c0.st.s, .int .i64 c0.st.q] 34))
  have H0c := PHeld.new ((w.alloc (.cells #[.string a0.s, .int .i64 a0.t, .int .i64 a0.v, .int .i64 a0.st.c, .int .i64 a0.st.s, .int .i64 a0.st.q] 34)).alloc (.cells #[.string b0.s, .int .i64 b0.t, .int .i64 b0.v, .int .i64 b0.st.c, .int .i64 b0.st.s, .int .i64 b0.st.q] 34)) c0
  simp only [World.size_alloc] at H0b H0c
  have HF := Lib.hid hfew
  unfold ptV
  clear hfew
  go_enter Try.func7, Try.ntmps7
  go_wp2_with (first
    | (go_at_call 9; (with_reducible refine (awake_any _).mono ?_); rintro e w1 ⟨rfl, hb⟩; have Ha := H0a.keep hb; have Hb := H0b.keep hb; have Hc := H0c.keep hb; obtain ⟨⟨x0, x1, x2, x3, x4, x5⟩, -⟩ := Ha; obtain ⟨⟨y0, y1, y2, y3, y4, y5⟩, -⟩ := Hb; obtain ⟨⟨z0, z1, z2, z3, z4, z5⟩, -⟩ := Hc; have HB := H0a.bel.trans (hb.mono (by simp; omega)))
    | (go_at_call 26; (with_reducible refine (few3 a0 b0 c0 _).mono ?_); rintro e w2 ⟨v, rfl, hR, hb2⟩; rw [HF.out] at hR; obtain ⟨g, cap, rfl, hT⟩ := tri_of hR; have HH : OHeld w g a b c w2 := ⟨hT, bel_next (bel_new HB _) hb2⟩))
  clear H0a H0b H0c HB hb2 hb hT hR HF x0 x1 x2 x3 x4 x5 y0 y1 y2 y3 y4 y5 z0 z1 z2 z3 z4 z5
  go_wp2_with fail
  refine wp_region_held_drew (S := (OHeld w g a b c)) (by kernel_rfl) HH.drew (fun hHeld => ?_)
  refine wpAnyH_take (i := 0) (oi := ?ocaseP01031o) (v := ?ocaseP01031v) ?ocaseP01031h (by kernel_rfl) (by kernel_rfl) (by kernel_rfl) ?ocaseP01031q ?ocaseP01031y hHeld ?ocaseP01031r
  case ocaseP01031h => (simp only [List.getElem?_toArray, List.getElem?_cons_zero]; rfl)
  case ocaseP01031q => exact fun _ _ _ h => h
  case ocaseP01031y => (refine Or.inl ⟨by first | kernel_rfl | rfl, ?_⟩; intro w hSw; (try dsimp only at hSw); obtain ⟨⟨x0, x1, x2, x3, x4, x5, y0, y1, y2, y3, y4, y5, z0, z1, z2, z3, z4, z5⟩, -⟩ := hSw; go_simp <;> (try with_reducible rfl))
  try simp only [Act.put, List.setIfInBounds_toArray, List.set_cons_zero, List.set_cons_succ]
  refine wpAnyH_take (i := 1) (oi := ?ocaseP01032o) (v := ?ocaseP01032v) ?ocaseP01032h (by kernel_rfl) (by kernel_rfl) (by kernel_rfl) ?ocaseP01032q ?ocaseP01032y hHeld ?ocaseP01032r
  case ocaseP01032h => (simp only [List.getElem?_toArray, List.getElem?_cons_succ, List.getElem?_cons_zero]; rfl)
  case ocaseP01032q => exact fun _ _ _ h => h
  case ocaseP01032y => (refine Or.inl ⟨by first | kernel_rfl | rfl, ?_⟩; intro w hSw; (try dsimp only at hSw); obtain ⟨⟨x0, x1, x2, x3, x4, x5, y0, y1, y2, y3, y4, y5, z0, z1, z2, z3, z4, z5⟩, -⟩ := hSw; go_simp <;> (try with_reducible rfl))
  try simp only [Act.put, List.setIfInBounds_toArray, List.set_cons_zero, List.set_cons_succ]
  refine wpAnyH_take (i := 2) (oi := ?ocaseP01033o) (v := ?ocaseP01033v) ?ocaseP01033h (by kernel_rfl) (by kernel_rfl) (by kernel_rfl) ?ocaseP01033q ?ocaseP01033y hHeld ?ocaseP01033r
  case ocaseP01033h => (simp only [List.getElem?_toArray, List.getElem?_cons_succ, List.getElem?_cons_zero]; rfl)
  case ocaseP01033q => exact fun _ _ _ h => h
  case ocaseP01033y => (refine Or.inl ⟨by first | kernel_rfl | rfl, ?_⟩; intro w hSw; (try dsimp only at hSw); obtain ⟨⟨x0, x1, x2, x3, x4, x5, y0, y1, y2, y3, y4, y5, z0, z1, z2, z3, z4, z5⟩, -⟩ := hSw; go_simp <;> (try with_reducible rfl))
  try simp only [Act.put, List.setIfInBounds_toArray, List.set_cons_zero, List.set_cons_succ]
  refine wpAnyH_take (i := 3) (oi := ?ocaseP01034o) (v := ?ocaseP01034v) ?ocaseP01034h (by kernel_rfl) (by kernel_rfl) (by kernel_rfl) ?ocaseP01034q ?ocaseP01034y hHeld ?ocaseP01034r
  case ocaseP01034h => (simp only [List.getElem?_toArray, List.getElem?_cons_succ, List.getElem?_cons_zero]; rfl)
  case ocaseP01034q => exact fun _ _ _ h => h
  case ocaseP01034y => (refine Or.inl ⟨by first | kernel_rfl | rfl, ?_⟩; intro w hSw; (try dsimp only at hSw); obtain ⟨⟨x0, x1, x2, x3, x4, x5, y0, y1, y2, y3, y4, y5, z0, z1, z2, z3, z4, z5⟩, -⟩ := hSw; go_simp <;> (try with_reducible rfl))
  try simp only [Act.put, List.setIfInBounds_toArray, List.set_cons_zero, List.set_cons_succ]
  refine wpAnyH_take (i := 4) (oi := ?ocaseP01035o) (v := ?ocaseP01035v) ?ocaseP01035h (by kernel_rfl) (by kernel_rfl) (by kernel_rfl) ?ocaseP01035q ?ocaseP01035y hHeld ?ocaseP01035r
  case ocaseP01035h => (simp only [List.getElem?_toArray, List.getElem?_cons_succ, List.getElem?_cons_zero]; rfl)
  case ocaseP01035q => exact fun _ _ _ h => h
  case ocaseP01035y => (refine Or.inl ⟨by first | kernel_rfl | rfl, ?_⟩; intro w hSw; (try dsimp only at hSw); obtain ⟨⟨x0, x1, x2, x3, x4, x5, y0, y1, y2, y3, y4, y5, z0, z1, z2, z3, z4, z5⟩, -⟩ := hSw; go_simp <;> (try with_reducible rfl))
  try simp only [Act.put, List.setIfInBounds_toArray, List.set_cons_zero, List.set_cons_succ]
  refine wpAnyH_take (i := 5) (oi := ?ocaseP01036o) (v := ?ocaseP01036v) ?ocaseP01036h (by kernel_rfl) (by kernel_rfl) (by kernel_rfl) ?ocaseP01036q ?ocaseP01036y hHeld ?ocaseP01036r
  case ocaseP01036h => (simp only [List.getElem?_toArray, List.getElem?_cons_succ, List.getElem?_cons_zero]; rfl)
  case ocaseP01036q => exact fun _ _ _ h => h
  case ocaseP01036y => (refine Or.inl ⟨by first | kernel_rfl | rfl, ?_⟩; intro w hSw; (try dsimp only at hSw); obtain ⟨⟨x0, x1, x2, x3, x4, x5, y0, y1, y2, y3, y4, y5, z0, z1, z2, z3, z4, z5⟩, -⟩ := hSw; go_simp <;> (try with_reducible rfl))
  try simp only [Act.put, List.setIfInBounds_toArray, List.set_cons_zero, List.set_cons_succ]
  refine wpAnyH_ready (rs := [6]) (by kernel_rfl) (by simp) ?_
  refine (AllReadyH.cons rfl (fun K hK => ?_) AllReadyH.nil)
  go_simp
  ((with_reducible refine (kab _).mono ?_); rintro e w' ⟨rfl, hb'⟩)
  refine hK.out _ _ (hHeld.keep hb') (fun hHeld => ?_)
  clear hK K
  try simp only [Act.put, List.setIfInBounds_toArray, List.set_cons_zero, List.set_cons_succ]
  refine wpAnyH_take (i := 7) (oi := ?ocaseP01037o) (v := ?ocaseP01037v) ?ocaseP01037h (by kernel_rfl) (by kernel_rfl) (by kernel_rfl) ?ocaseP01037q ?ocaseP01037y hHeld ?ocaseP01037r
  case ocaseP01037h => (simp only [List.getElem?_toArray, List.getElem?_cons_succ, List.getElem?_cons_zero]; rfl)
  case ocaseP01037q => exact fun _ _ _ h => h
  case ocaseP01037y => (refine Or.inl ⟨by first | kernel_rfl | rfl, ?_⟩; intro w hSw; (try dsimp only at hSw); obtain ⟨⟨x0, x1, x2, x3, x4, x5, y0, y1, y2, y3, y4, y5, z0, z1, z2, z3, z4, z5⟩, -⟩ := hSw; go_simp <;> (try with_reducible rfl))
  try simp only [Act.put, List.setIfInBounds_toArray, List.set_cons_zero, List.set_cons_succ]
  refine wpAnyH_done (by kernel_rfl) ?_ _
  go_wp2_with fail
  refine wp_region_held_drew (S := (OHeld w g a b c)) (by kernel_rfl) hHeld.drew (fun hHeld => ?_)
  refine wpAnyH_take (i := 0) (oi := ?ocaseP01041o) (v := ?ocaseP01041v) ?ocaseP01041h (by kernel_rfl) (by kernel_rfl) (by kernel_rfl) ?ocaseP01041q ?ocaseP01041y hHeld ?ocaseP01041r
  case ocaseP01041h => (simp only [List.getElem?_toArray, List.getElem?_cons_zero]; rfl)
  case ocaseP01041q => exact fun _ _ _ h => h
  case ocaseP01041y => (refine Or.inl ⟨by first | kernel_rfl | rfl, ?_⟩; intro w hSw; (try dsimp only at hSw); obtain ⟨⟨x0, x1, x2, x3, x4, x5, y0, y1, y2, y3, y4, y5, z0, z1, z2, z3, z4, z5⟩, -⟩ := hSw; go_simp <;> (try with_reducible rfl))
  try simp only [Act.put, List.setIfInBounds_toArray, List.set_cons_zero, List.set_cons_succ]
  refine wpAnyH_take (i := 1) (oi := ?ocaseP01042o) (v := ?ocaseP01042v) ?ocaseP01042h (by kernel_rfl) (by kernel_rfl) (by kernel_rfl) ?ocaseP01042q ?ocaseP01042y hHeld ?ocaseP01042r
  case ocaseP01042h => (simp only [List.getElem?_toArray, List.getElem?_cons_succ, List.getElem?_cons_zero]; rfl)
  case ocaseP01042q => exact fun _ _ _ h => h
  case ocaseP01042y => (refine Or.inl ⟨by first | kernel_rfl | rfl, ?_⟩; intro w hSw; (try dsimp only at hSw); obtain ⟨⟨x0, x1, x2, x3, x4, x5, y0, y1, y2, y3, y4, y5, z0, z1, z2, z3, z4, z5⟩, -⟩ := hSw; go_simp <;> (try with_reducible rfl))
  try simp only [Act.put, List.setIfInBounds_toArray, List.set_cons_zero, List.set_cons_succ]
  refine wpAnyH_take (i := 2) (oi := ?ocaseP01043o) (v := ?ocaseP01043v) ?ocaseP01043h (by kernel_rfl) (by kernel_rfl) (by kernel_rfl) ?ocaseP01043q ?ocaseP01043y hHeld ?ocaseP01043r
  case ocaseP01043h => (simp only [List.getElem?_toArray, List.getElem?_cons_succ, List.getElem?_cons_zero]; rfl)
  case ocaseP01043q => exact fun _ _ _ h => h
  case ocaseP01043y => (refine Or.inl ⟨by first | kernel_rfl | rfl, ?_⟩; intro w hSw; (try dsimp only at hSw); obtain ⟨⟨x0, x1, x2, x3, x4, x5, y0, y1, y2, y3, y4, y5, z0, z1, z2, z3, z4, z5⟩, -⟩ := hSw; go_simp <;> (try with_reducible rfl))
  try simp only [Act.put, List.setIfInBounds_toArray, List.set_cons_zero, List.set_cons_succ]
  refine wpAnyH_take (i := 3) (oi := ?ocaseP01044o) (v := ?ocaseP01044v) ?ocaseP01044h (by kernel_rfl) (by kernel_rfl) (by kernel_rfl) ?ocaseP01044q ?ocaseP01044y hHeld ?ocaseP01044r
  case ocaseP01044h => (simp only [List.getElem?_toArray, List.getElem?_cons_succ, List.getElem?_cons_zero]; rfl)
  case ocaseP01044q => exact fun _ _ _ h => h
  case ocaseP01044y => (refine Or.inl ⟨by first | kernel_rfl | rfl, ?_⟩; intro w hSw; (try dsimp only at hSw); obtain ⟨⟨x0, x1, x2, x3, x4, x5, y0, y1, y2, y3, y4, y5, z0, z1, z2, z3, z4, z5⟩, -⟩ := hSw; go_simp <;> (try with_reducible rfl))
  try simp only [Act.put, List.setIfInBounds_toArray, List.set_cons_zero, List.set_cons_succ]
  refine wpAnyH_take (i := 4) (oi := ?ocaseP01045o) (v := ?ocaseP01045v) ?ocaseP01045h (by kernel_rfl) (by kernel_rfl) (by kernel_rfl) ?ocaseP01045q ?ocaseP01045y hHeld ?ocaseP01045r
  case ocaseP01045h => (simp only [List.getElem?_toArray, List.getElem?_cons_succ, List.getElem?_cons_zero]; rfl)
  case ocaseP01045q => exact fun _ _ _ h => h
  case ocaseP01045y => (refine Or.inl ⟨by first | kernel_rfl | rfl, ?_⟩; intro w hSw; (try dsimp only at hSw); obtain ⟨⟨x0, x1, x2, x3, x4, x5, y0, y1, y2, y3, y4, y5, z0, z1, z2, z3, z4, z5⟩, -⟩ := hSw; go_simp <;> (try with_reducible rfl))
  try simp only [Act.put, List.setIfInBounds_toArray, List.set_cons_zero, List.set_cons_succ]
  refine wpAnyH_take (i := 5) (oi := ?ocaseP01046o) (v := ?ocaseP01046v) ?ocaseP01046h (by kernel_rfl) (by kernel_rfl) (by kernel_rfl) ?ocaseP01046q ?ocaseP01046y hHeld ?ocaseP01046r
  case ocaseP01046h => (simp only [List.getElem?_toArray, List.getElem?_cons_succ, List.getElem?_cons_zero]; rfl)
  case ocaseP01046q => exact fun _ _ _ h => h
  case ocaseP01046y => (refine Or.inl ⟨by first | kernel_rfl | rfl, ?_⟩; intro w hSw; (try dsimp only at hSw); obtain ⟨⟨x0, x1, x2, x3, x4, x5, y0, y1, y2, y3, y4, y5, z0, z1, z2, z3, z4, z5⟩, -⟩ := hSw; go_simp <;> (try with_reducible rfl))
  try simp only [Act.put, List.setIfInBounds_toArray, List.set_cons_zero, List.set_cons_succ]
  refine wpAnyH_ready (rs := [6]) (by kernel_rfl) (by simp) ?_
  refine (AllReadyH.cons rfl (fun K hK => ?_) AllReadyH.nil)
  go_simp
  ((with_reducible refine (kba _).mono ?_); rintro e w' ⟨rfl, hb'⟩)
  refine hK.out _ _ (hHeld.keep hb') (fun hHeld => ?_)
  clear hK K
  try simp only [Act.put, List.setIfInBounds_toArray, List.set_cons_zero, List.set_cons_succ]
  refine wpAnyH_take (i := 7) (oi := ?ocaseP01047o) (v := ?ocaseP01047v) ?ocaseP01047h (by kernel_rfl) (by kernel_rfl) (by kernel_rfl) ?ocaseP01047q ?ocaseP01047y hHeld ?ocaseP01047r
  case ocaseP01047h => (simp only [List.getElem?_toArray, List.getElem?_cons_succ, List.getElem?_cons_zero]; rfl)
  case ocaseP01047q => exact fun _ _ _ h => h
  case ocaseP01047y => (refine Or.inl ⟨by first | kernel_rfl | rfl, ?_⟩; intro w hSw; (try dsimp only at hSw); obtain ⟨⟨x0, x1, x2, x3, x4, x5, y0, y1, y2, y3, y4, y5, z0, z1, z2, z3, z4, z5⟩, -⟩ := hSw; go_simp <;> (try with_reducible rfl))
  try simp only [Act.put, List.setIfInBounds_toArray, List.set_cons_zero, List.set_cons_succ]
  refine wpAnyH_done (by kernel_rfl) ?_ _
  have H4 := hHeld
  have G := hHeld
  obtain ⟨⟨x0, x1, x2, x3, x4, x5, y0, y1, y2, y3, y4, y5, z0, z1, z2, z3, z4, z5⟩, -⟩ := G
  clear hHeld
  go_wp2_with fail
  go_quiet (fail)
  have HP := H4.drewN (n := nq)
  skip
  go_wp2_with fail
  refine wp_region_held_drew (S := (OHeld w g a b c)) (by kernel_rfl) HP.drew (fun hHeld => ?_)
  refine wpAnyH_take (i := 0) (oi := ?ocaseP01061o) (v := ?ocaseP01061v) ?ocaseP01061h (by kernel_rfl) (by kernel_rfl) (by kernel_rfl) ?ocaseP01061q ?ocaseP01061y hHeld ?ocaseP01061r
  case ocaseP01061h => (simp only [List.getElem?_toArray, List.getElem?_cons_zero]; rfl)
  case ocaseP01061q => exact fun _ _ _ h => h
  case ocaseP01061y => (refine Or.inl ⟨by first | kernel_rfl | rfl, ?_⟩; intro w hSw; (try dsimp only at hSw); obtain ⟨⟨x0, x1, x2, x3, x4, x5, y0, y1, y2, y3, y4, y5, z0, z1, z2, z3, z4, z5⟩, -⟩ := hSw; go_simp <;> (try with_reducible rfl))
  try simp only [Act.put, List.setIfInBounds_toArray, List.set_cons_zero, List.set_cons_succ]
  refine wpAnyH_take (i := 1) (oi := ?ocaseP01062o) (v := ?ocaseP01062v) ?ocaseP01062h (by kernel_rfl) (by kernel_rfl) (by kernel_rfl) ?ocaseP01062q ?ocaseP01062y hHeld ?ocaseP01062r
  case ocaseP01062h => (simp only [List.getElem?_toArray, List.getElem?_cons_succ, List.getElem?_cons_zero]; rfl)
  case ocaseP01062q => exact fun _ _ _ h => h
  case ocaseP01062y => (refine Or.inl ⟨by first | kernel_rfl | rfl, ?_⟩; intro w hSw; (try dsimp only at hSw); obtain ⟨⟨x0, x1, x2, x3, x4, x5, y0, y1, y2, y3, y4, y5, z0, z1, z2, z3, z4, z5⟩, -⟩ := hSw; go_simp <;> (try with_reducible rfl))
  try simp only [Act.put, List.setIfInBounds_toArray, List.set_cons_zero, List.set_cons_succ]
  refine wpAnyH_take (i := 2) (oi := ?ocaseP01063o) (v := ?ocaseP01063v) ?ocaseP01063h (by kernel_rfl) (by kernel_rfl) (by kernel_rfl) ?ocaseP01063q ?ocaseP01063y hHeld ?ocaseP01063r
  case ocaseP01063h => (simp only [List.getElem?_toArray, List.getElem?_cons_succ, List.getElem?_cons_zero]; rfl)
  case ocaseP01063q => exact fun _ _ _ h => h
  case ocaseP01063y => (refine Or.inl ⟨by first | kernel_rfl | rfl, ?_⟩; intro w hSw; (try dsimp only at hSw); obtain ⟨⟨x0, x1, x2, x3, x4, x5, y0, y1, y2, y3, y4, y5, z0, z1, z2, z3, z4, z5⟩, -⟩ := hSw; go_simp <;> (try with_reducible rfl))
  try simp only [Act.put, List.setIfInBounds_toArray, List.set_cons_zero, List.set_cons_succ]
  refine wpAnyH_take (i := 3) (oi := ?ocaseP01064o) (v := ?ocaseP01064v) ?ocaseP01064h (by kernel_rfl) (by kernel_rfl) (by kernel_rfl) ?ocaseP01064q ?ocaseP01064y hHeld ?ocaseP01064r
  case ocaseP01064h => (simp only [List.getElem?_toArray, List.getElem?_cons_succ, List.getElem?_cons_zero]; rfl)
  case ocaseP01064q => exact fun _ _ _ h => h
  case ocaseP01064y => (refine Or.inl ⟨by first | kernel_rfl | rfl, ?_⟩; intro w hSw; (try dsimp only at hSw); obtain ⟨⟨x0, x1, x2, x3, x4, x5, y0, y1, y2, y3, y4, y5, z0, z1, z2, z3, z4, z5⟩, -⟩ := hSw; go_simp <;> (try with_reducible rfl))
  try simp only [Act.put, List.setIfInBounds_toArray, List.set_cons_zero, List.set_cons_succ]
  refine wpAnyH_take (i := 4) (oi := ?ocaseP01065o) (v := ?ocaseP01065v) ?ocaseP01065h (by kernel_rfl) (by kernel_rfl) (by kernel_rfl) ?ocaseP01065q ?ocaseP01065y hHeld ?ocaseP01065r
  case ocaseP01065h => (simp only [List.getElem?_toArray, List.getElem?_cons_succ, List.getElem?_cons_zero]; rfl)
  case ocaseP01065q => exact fun _ _ _ h => h
  case ocaseP01065y => (refine Or.inl ⟨by first | kernel_rfl | rfl, ?_⟩; intro w hSw; (try dsimp only at hSw); obtain ⟨⟨x0, x1, x2, x3, x4, x5, y0, y1, y2, y3, y4, y5, z0, z1, z2, z3, z4, z5⟩, -⟩ := hSw; go_simp <;> (try with_reducible rfl))
  try simp only [Act.put, List.setIfInBounds_toArray, List.set_cons_zero, List.set_cons_succ]
  refine wpAnyH_take (i := 5) (oi := ?ocaseP01066o) (v := ?ocaseP01066v) ?ocaseP01066h (by kernel_rfl) (by kernel_rfl) (by kernel_rfl) ?ocaseP01066q ?ocaseP01066y hHeld ?ocaseP01066r
  case ocaseP01066h => (simp only [List.getElem?_toArray, List.getElem?_cons_succ, List.getElem?_cons_zero]; rfl)
  case ocaseP01066q => exact fun _ _ _ h => h
  case ocaseP01066y => (refine Or.inl ⟨by first | kernel_rfl | rfl, ?_⟩; intro w hSw; (try dsimp only at hSw); obtain ⟨⟨x0, x1, x2, x3, x4, x5, y0, y1, y2, y3, y4, y5, z0, z1, z2, z3, z4, z5⟩, -⟩ := hSw; go_simp <;> (try with_reducible rfl))
  try simp only [Act.put, List.setIfInBounds_toArray, List.set_cons_zero, List.set_cons_succ]
  refine wpAnyH_ready (rs := [6]) (by kernel_rfl) (by simp) ?_
  refine (AllReadyH.cons rfl (fun K hK => ?_) AllReadyH.nil)
  go_simp
  ((with_reducible refine (jab _).mono ?_); rintro e w' ⟨rfl, hb'⟩)
  refine hK.out _ _ (hHeld.keep hb') (fun hHeld => ?_)
  clear hK K
  try simp only [Act.put, List.setIfInBounds_toArray, List.set_cons_zero, List.set_cons_succ]
  refine wpAnyH_take (i := 7) (oi := ?ocaseP01067o) (v := ?ocaseP01067v) ?ocaseP01067h (by kernel_rfl) (by kernel_rfl) (by kernel_rfl) ?ocaseP01067q ?ocaseP01067y hHeld ?ocaseP01067r
  case ocaseP01067h => (simp only [List.getElem?_toArray, List.getElem?_cons_succ, List.getElem?_cons_zero]; rfl)
  case ocaseP01067q => exact fun _ _ _ h => h
  case ocaseP01067y => (refine Or.inl ⟨by first | kernel_rfl | rfl, ?_⟩; intro w hSw; (try dsimp only at hSw); obtain ⟨⟨x0, x1, x2, x3, x4, x5, y0, y1, y2, y3, y4, y5, z0, z1, z2, z3, z4, z5⟩, -⟩ := hSw; go_simp <;> (try with_reducible rfl))
  try simp only [Act.put, List.setIfInBounds_toArray, List.set_cons_zero, List.set_cons_succ]
  refine wpAnyH_done (by kernel_rfl) ?_ _
  go_wp2_with fail
  refine wp_region_held_drew (S := (OHeld w g a b c)) (by kernel_rfl) hHeld.drew (fun hHeld => ?_)
  refine wpAnyH_take (i := 0) (oi := ?ocaseP01071o) (v := ?ocaseP01071v) ?ocaseP01071h (by kernel_rfl) (by kernel_rfl) (by kernel_rfl) ?ocaseP01071q ?ocaseP01071y hHeld ?ocaseP01071r
  case ocaseP01071h => (simp only [List.getElem?_toArray, List.getElem?_cons_zero]; rfl)
  case ocaseP01071q => exact fun _ _ _ h => h
  case ocaseP01071y => (refine Or.inl ⟨by first | kernel_rfl | rfl, ?_⟩; intro w hSw; (try dsimp only at hSw); obtain ⟨⟨x0, x1, x2, x3, x4, x5, y0, y1, y2, y3, y4, y5, z0, z1, z2, z3, z4, z5⟩, -⟩ := hSw; go_simp <;> (try with_reducible rfl))
  try simp only [Act.put, List.setIfInBounds_toArray, List.set_cons_zero, List.set_cons_succ]
  refine wpAnyH_take (i := 1) (oi := ?ocaseP01072o) (v := ?ocaseP01072v) ?ocaseP01072h (by kernel_rfl) (by kernel_rfl) (by kernel_rfl) ?ocaseP01072q ?ocaseP01072y hHeld ?ocaseP01072r
  case ocaseP01072h => (simp only [List.getElem?_toArray, List.getElem?_cons_succ, List.getElem?_cons_zero]; rfl)
  case ocaseP01072q => exact fun _ _ _ h => h
  case ocaseP01072y => (refine Or.inl ⟨by first | kernel_rfl | rfl, ?_⟩; intro w hSw; (try dsimp only at hSw); obtain ⟨⟨x0, x1, x2, x3, x4, x5, y0, y1, y2, y3, y4, y5, z0, z1, z2, z3, z4, z5⟩, -⟩ := hSw; go_simp <;> (try with_reducible rfl))
  try simp only [Act.put, List.setIfInBounds_toArray, List.set_cons_zero, List.set_cons_succ]
  refine wpAnyH_take (i := 2) (oi := ?ocaseP01073o) (v := ?ocaseP01073v) ?ocaseP01073h (by kernel_rfl) (by kernel_rfl) (by kernel_rfl) ?ocaseP01073q ?ocaseP01073y hHeld ?ocaseP01073r
  case ocaseP01073h => (simp only [List.getElem?_toArray, List.getElem?_cons_succ, List.getElem?_cons_zero]; rfl)
  case ocaseP01073q => exact fun _ _ _ h => h
  case ocaseP01073y => (refine Or.inl ⟨by first | kernel_rfl | rfl, ?_⟩; intro w hSw; (try dsimp only at hSw); obtain ⟨⟨x0, x1, x2, x3, x4, x5, y0, y1, y2, y3, y4, y5, z0, z1, z2, z3, z4, z5⟩, -⟩ := hSw; go_simp <;> (try with_reducible rfl))
  try simp only [Act.put, List.setIfInBounds_toArray, List.set_cons_zero, List.set_cons_succ]
  refine wpAnyH_take (i := 3) (oi := ?ocaseP01074o) (v := ?ocaseP01074v) ?ocaseP01074h (by kernel_rfl) (by kernel_rfl) (by kernel_rfl) ?ocaseP01074q ?ocaseP01074y hHeld ?ocaseP01074r
  case ocaseP01074h => (simp only [List.getElem?_toArray, List.getElem?_cons_succ, List.getElem?_cons_zero]; rfl)
  case ocaseP01074q => exact fun _ _ _ h => h
  case ocaseP01074y => (refine Or.inl ⟨by first | kernel_rfl | rfl, ?_⟩; intro w hSw; (try dsimp only at hSw); obtain ⟨⟨x0, x1, x2, x3, x4, x5, y0, y1, y2, y3, y4, y5, z0, z1, z2, z3, z4, z5⟩, -⟩ := hSw; go_simp <;> (try with_reducible rfl))
  try simp only [Act.put, List.setIfInBounds_toArray, List.set_cons_zero, List.set_cons_succ]
  refine wpAnyH_take (i := 4) (oi := ?ocaseP01075o) (v := ?ocaseP01075v) ?ocaseP01075h (by kernel_rfl) (by kernel_rfl) (by kernel_rfl) ?ocaseP01075q ?ocaseP01075y hHeld ?ocaseP01075r
  case ocaseP01075h => (simp only [List.getElem?_toArray, List.getElem?_cons_succ, List.getElem?_cons_zero]; rfl)
  case ocaseP01075q => exact fun _ _ _ h => h
  case ocaseP01075y => (refine Or.inl ⟨by first | kernel_rfl | rfl, ?_⟩; intro w hSw; (try dsimp only at hSw); obtain ⟨⟨x0, x1, x2, x3, x4, x5, y0, y1, y2, y3, y4, y5, z0, z1, z2, z3, z4, z5⟩, -⟩ := hSw; go_simp <;> (try with_reducible rfl))
  try simp only [Act.put, List.setIfInBounds_toArray, List.set_cons_zero, List.set_cons_succ]
  refine wpAnyH_take (i := 5) (oi := ?ocaseP01076o) (v := ?ocaseP01076v) ?ocaseP01076h (by kernel_rfl) (by kernel_rfl) (by kernel_rfl) ?ocaseP01076q ?ocaseP01076y hHeld ?ocaseP01076r
  case ocaseP01076h => (simp only [List.getElem?_toArray, List.getElem?_cons_succ, List.getElem?_cons_zero]; rfl)
  case ocaseP01076q => exact fun _ _ _ h => h
  case ocaseP01076y => (refine Or.inl ⟨by first | kernel_rfl | rfl, ?_⟩; intro w hSw; (try dsimp only at hSw); obtain ⟨⟨x0, x1, x2, x3, x4, x5, y0, y1, y2, y3, y4, y5, z0, z1, z2, z3, z4, z5⟩, -⟩ := hSw; go_simp <;> (try with_reducible rfl))
  try simp only [Act.put, List.setIfInBounds_toArray, List.set_cons_zero, List.set_cons_succ]
  refine wpAnyH_ready (rs := [6]) (by kernel_rfl) (by simp) ?_
  refine (AllReadyH.cons rfl (fun K hK => ?_) AllReadyH.nil)
  go_simp
  ((with_reducible refine (jba _).mono ?_); rintro e w' ⟨rfl, hb'⟩)
  refine hK.out _ _ (hHeld.keep hb') (fun hHeld => ?_)
  clear hK K
  try simp only [Act.put, List.setIfInBounds_toArray, List.set_cons_zero, List.set_cons_succ]
  refine wpAnyH_take (i := 7) (oi := ?ocaseP01077o) (v := ?ocaseP01077v) ?ocaseP01077h (by kernel_rfl) (by kernel_rfl) (by kernel_rfl) ?ocaseP01077q ?ocaseP01077y hHeld ?ocaseP01077r
  case ocaseP01077h => (simp only [List.getElem?_toArray, List.getElem?_cons_succ, List.getElem?_cons_zero]; rfl)
  case ocaseP01077q => exact fun _ _ _ h => h
  case ocaseP01077y => (refine Or.inl ⟨by first | kernel_rfl | rfl, ?_⟩; intro w hSw; (try dsimp only at hSw); obtain ⟨⟨x0, x1, x2, x3, x4, x5, y0, y1, y2, y3, y4, y5, z0, z1, z2, z3, z4, z5⟩, -⟩ := hSw; go_simp <;> (try with_reducible rfl))
  try simp only [Act.put, List.setIfInBounds_toArray, List.set_cons_zero, List.set_cons_succ]
  refine wpAnyH_done (by kernel_rfl) ?_ _
  have H7 := hHeld
  have G := hHeld
  obtain ⟨⟨x0, x1, x2, x3, x4, x5, y0, y1, y2, y3, y4, y5, z0, z1, z2, z3, z4, z5⟩, -⟩ := G
  clear hHeld
  go_wp2_with fail
  go_quiet (fail)
  have HQ := H7.drewN (n := nq)
  skip
  go_wp2_with fail
  refine wp_region_held_drew (S := (OHeld w g a b c)) (by kernel_rfl) HQ.drew (fun hHeld => ?_)
  refine wpAnyH_take (i := 0) (oi := ?ocaseP010101o) (v := ?ocaseP010101v) ?ocaseP010101h (by kernel_rfl) (by kernel_rfl) (by kernel_rfl) ?ocaseP010101q ?ocaseP010101y hHeld ?ocaseP010101r
  case ocaseP010101h => (simp only [List.getElem?_toArray, List.getElem?_cons_zero]; rfl)
  case ocaseP010101q => exact fun _ _ _ h => h
  case ocaseP010101y => (refine Or.inl ⟨by first | kernel_rfl | rfl, ?_⟩; intro w hSw; (try dsimp only at hSw); obtain ⟨⟨x0, x1, x2, x3, x4, x5, y0, y1, y2, y3, y4, y5, z0, z1, z2, z3, z4, z5⟩, -⟩ := hSw; go_simp <;> (try with_reducible rfl))
  try simp only [Act.put, List.setIfInBounds_toArray, List.set_cons_zero, List.set_cons_succ]
  refine wpAnyH_take (i := 1) (oi := ?ocaseP010102o) (v := ?ocaseP010102v) ?ocaseP010102h (by kernel_rfl) (by kernel_rfl) (by kernel_rfl) ?ocaseP010102q ?ocaseP010102y hHeld ?ocaseP010102r
  case ocaseP010102h => (simp only [List.getElem?_toArray, List.getElem?_cons_succ, List.getElem?_cons_zero]; rfl)
  case ocaseP010102q => exact fun _ _ _ h => h
  case ocaseP010102y => (refine Or.inl ⟨by first | kernel_rfl | rfl, ?_⟩; intro w hSw; (try dsimp only at hSw); obtain ⟨⟨x0, x1, x2, x3, x4, x5, y0, y1, y2, y3, y4, y5, z0, z1, z2, z3, z4, z5⟩, -⟩ := hSw; go_simp <;> (try with_reducible rfl))
  try simp only [Act.put, List.setIfInBounds_toArray, List.set_cons_zero, List.set_cons_succ]
  refine wpAnyH_take (i := 2) (oi := ?ocaseP010103o) (v := ?ocaseP010103v) ?ocaseP010103h (by kernel_rfl) (by kernel_rfl) (by kernel_rfl) ?ocaseP010103q ?ocaseP010103y hHeld ?ocaseP010103r
  case ocaseP010103h => (simp only [List.getElem?_toArray, List.getElem?_cons_succ, List.getElem?_cons_zero]; rfl)
  case ocaseP010103q => exact fun _ _ _ h => h
  case ocaseP010103y => (refine Or.inl ⟨by first | kernel_rfl | rfl, ?_⟩; intro w hSw; (try dsimp only at hSw); obtain ⟨⟨x0, x1, x2, x3, x4, x5, y0, y1, y2, y3, y4, y5, z0, z1, z2, z3, z4, z5⟩, -⟩ := hSw; go_simp <;> (try with_reducible rfl))
  try simp only [Act.put, List.setIfInBounds_toArray, List.set_cons_zero, List.set_cons_succ]
  refine wpAnyH_take (i := 3) (oi := ?ocaseP010104o) (v := undef) ?ocaseP010104h (by kernel_rfl) (by kernel_rfl) (by kernel_rfl) ?ocaseP010104q ?ocaseP010104y hHeld ?ocaseP010104r
  case ocaseP010104h => (simp only [List.getElem?_toArray, List.getElem?_cons_succ, List.getElem?_cons_zero]; rfl)
  case ocaseP010104q => exact fun _ _ _ h => h
  case ocaseP010104y => exact Or.inr ⟨by first | kernel_rfl | rfl, rfl⟩
  try simp only [Act.put, List.setIfInBounds_toArray, List.set_cons_zero, List.set_cons_succ]
  refine wpAnyH_take (i := 4) (oi := ?ocaseP010105o) (v := undef) ?ocaseP010105h (by kernel_rfl) (by kernel_rfl) (by kernel_rfl) ?ocaseP010105q ?ocaseP010105y hHeld ?ocaseP010105r
  case ocaseP010105h => (simp only [List.getElem?_toArray, List.getElem?_cons_succ, List.getElem?_cons_zero]; rfl)
  case ocaseP010105q => exact fun _ _ _ h => h
  case ocaseP010105y => exact Or.inr ⟨by first | kernel_rfl | rfl, rfl⟩
  try simp only [Act.put, List.setIfInBounds_toArray, List.set_cons_zero, List.set_cons_succ]
  refine wpAnyH_take (i := 5) (oi := ?ocaseP010106o) (v := undef) ?ocaseP010106h (by kernel_rfl) (by kernel_rfl) (by kernel_rfl) ?ocaseP010106q ?ocaseP010106y hHeld ?ocaseP010106r
  case ocaseP010106h => (simp only [List.getElem?_toArray, List.getElem?_cons_succ, List.getElem?_cons_zero]; rfl)
  case ocaseP010106q => exact fun _ _ _ h => h
  case ocaseP010106y => exact Or.inr ⟨by first | kernel_rfl | rfl, rfl⟩
  try simp only [Act.put, List.setIfInBounds_toArray, List.set_cons_zero, List.set_cons_succ]
  refine wpAnyH_take (i := 6) (oi := ?ocaseP010107o) (v := undef) ?ocaseP010107h (by kernel_rfl) (by kernel_rfl) (by kernel_rfl) ?ocaseP010107q ?ocaseP010107y hHeld ?ocaseP010107r
  case ocaseP010107h => (simp only [List.getElem?_toArray, List.getElem?_cons_succ, List.getElem?_cons_zero]; rfl)
  case ocaseP010107q => exact fun _ _ _ h => h
  case ocaseP010107y => exact Or.inr ⟨by first | kernel_rfl | rfl, rfl⟩
  try simp only [Act.put, List.setIfInBounds_toArray, List.set_cons_zero, List.set_cons_succ]
  refine wpAnyH_take (i := 7) (oi := ?ocaseP010108o) (v := undef) ?ocaseP010108h (by kernel_rfl) (by kernel_rfl) (by kernel_rfl) ?ocaseP010108q ?ocaseP010108y hHeld ?ocaseP010108r
  case ocaseP010108h => (simp only [List.getElem?_toArray, List.getElem?_cons_succ, List.getElem?_cons_zero]; rfl)
  case ocaseP010108q => exact fun _ _ _ h => h
  case ocaseP010108y => exact Or.inr ⟨by first | kernel_rfl | rfl, rfl⟩
  try simp only [Act.put, List.setIfInBounds_toArray, List.set_cons_zero, List.set_cons_succ]
  refine wpAnyH_take (i := 8) (oi := ?ocaseP010109o) (v := undef) ?ocaseP010109h (by kernel_rfl) (by kernel_rfl) (by kernel_rfl) ?ocaseP010109q ?ocaseP010109y hHeld ?ocaseP010109r
  case ocaseP010109h => (simp only [List.getElem?_toArray, List.getElem?_cons_succ, List.getElem?_cons_zero]; rfl)
  case ocaseP010109q => exact fun _ _ _ h => h
  case ocaseP010109y => exact Or.inr ⟨by first | kernel_rfl | rfl, rfl⟩
  try simp only [Act.put, List.setIfInBounds_toArray, List.set_cons_zero, List.set_cons_succ]
  refine wpAnyH_take (i := 9) (oi := ?ocaseP0101010o) (v := undef) ?ocaseP0101010h (by kernel_rfl) (by kernel_rfl) (by kernel_rfl) ?ocaseP0101010q ?ocaseP0101010y hHeld ?ocaseP0101010r
  case ocaseP0101010h => (simp only [List.getElem?_toArray, List.getElem?_cons_succ, List.getElem?_cons_zero]; rfl)
  case ocaseP0101010q => exact fun _ _ _ h => h
  case ocaseP0101010y => exact Or.inr ⟨by first | kernel_rfl | rfl, rfl⟩
  try simp only [Act.put, List.setIfInBounds_toArray, List.set_cons_zero, List.set_cons_succ]
  refine wpAnyH_take (i := 10) (oi := ?ocaseP0101011o) (v := undef) ?ocaseP0101011h (by kernel_rfl) (by kernel_rfl) (by kernel_rfl) ?ocaseP0101011q ?ocaseP0101011y hHeld ?ocaseP0101011r
  case ocaseP0101011h => (simp only [List.getElem?_toArray, List.getElem?_cons_succ, List.getElem?_cons_zero]; rfl)
  case ocaseP0101011q => exact fun _ _ _ h => h
  case ocaseP0101011y => exact Or.inr ⟨by first | kernel_rfl | rfl, rfl⟩
  try simp only [Act.put, List.setIfInBounds_toArray, List.set_cons_zero, List.set_cons_succ]
  refine wpAnyH_take (i := 11) (oi := ?ocaseP0101012o) (v := ?ocaseP0101012v) ?ocaseP0101012h (by kernel_rfl) (by kernel_rfl) (by kernel_rfl) ?ocaseP0101012q ?ocaseP0101012y hHeld ?ocaseP0101012r
  case ocaseP0101012h => (simp only [List.getElem?_toArray, List.getElem?_cons_succ, List.getElem?_cons_zero]; rfl)
  case ocaseP0101012q => exact fun _ _ _ h => h
  case ocaseP0101012y => (refine Or.inl ⟨by first | kernel_rfl | rfl, ?_⟩; intro w hSw; (try dsimp only at hSw); obtain ⟨⟨x0, x1, x2, x3, x4, x5, y0, y1, y2, y3, y4, y5, z0, z1, z2, z3, z4, z5⟩, -⟩ := hSw; go_simp <;> (try with_reducible rfl))
  try simp only [Act.put, List.setIfInBounds_toArray, List.set_cons_zero, List.set_cons_succ]
  refine wpAnyH_take (i := 12) (oi := ?ocaseP0101013o) (v := ?ocaseP0101013v) ?ocaseP0101013h (by kernel_rfl) (by kernel_rfl) (by kernel_rfl) ?ocaseP0101013q ?ocaseP0101013y hHeld ?ocaseP0101013r
  case ocaseP0101013h => (simp only [List.getElem?_toArray, List.getElem?_cons_succ, List.getElem?_cons_zero]; rfl)
  case ocaseP0101013q => exact fun _ _ _ h => h
  case ocaseP0101013y => (refine Or.inl ⟨by first | kernel_rfl | rfl, ?_⟩; intro w hSw; (try dsimp only at hSw); obtain ⟨⟨x0, x1, x2, x3, x4, x5, y0, y1, y2, y3, y4, y5, z0, z1, z2, z3, z4, z5⟩, -⟩ := hSw; go_simp <;> (try with_reducible rfl))
  try simp only [Act.put, List.setIfInBounds_toArray, List.set_cons_zero, List.set_cons_succ]
  refine wpAnyH_take (i := 13) (oi := ?ocaseP0101014o) (v := undef) ?ocaseP0101014h (by kernel_rfl) (by kernel_rfl) (by kernel_rfl) ?ocaseP0101014q ?ocaseP0101014y hHeld ?ocaseP0101014r
  case ocaseP0101014h => (simp only [List.getElem?_toArray, List.getElem?_cons_succ, List.getElem?_cons_zero]; rfl)
  case ocaseP0101014q => exact fun _ _ _ h => h
  case ocaseP0101014y => exact Or.inr ⟨by first | kernel_rfl | rfl, rfl⟩
  try simp only [Act.put, List.setIfInBounds_toArray, List.set_cons_zero, List.set_cons_succ]
  refine wpAnyH_take (i := 14) (oi := ?ocaseP0101015o) (v := undef) ?ocaseP0101015h (by kernel_rfl) (by kernel_rfl) (by kernel_rfl) ?ocaseP0101015q ?ocaseP0101015y hHeld ?ocaseP0101015r
  case ocaseP0101015h => (simp only [List.getElem?_toArray, List.getElem?_cons_succ, List.getElem?_cons_zero]; rfl)
  case ocaseP0101015q => exact fun _ _ _ h => h
  case ocaseP0101015y => exact Or.inr ⟨by first | kernel_rfl | rfl, rfl⟩
  try simp only [Act.put, List.setIfInBounds_toArray, List.set_cons_zero, List.set_cons_succ]
  refine wpAnyH_take (i := 15) (oi := ?ocaseP0101016o) (v := undef) ?ocaseP0101016h (by kernel_rfl) (by kernel_rfl) (by kernel_rfl) ?ocaseP0101016q ?ocaseP0101016y hHeld ?ocaseP0101016r
  case ocaseP0101016h => (simp only [List.getElem?_toArray, List.getElem?_cons_succ, List.getElem?_cons_zero]; rfl)
  case ocaseP0101016q => exact fun _ _ _ h => h
  case ocaseP0101016y => exact Or.inr ⟨by first | kernel_rfl | rfl, rfl⟩
  try simp only [Act.put, List.setIfInBounds_toArray, List.set_cons_zero, List.set_cons_succ]
  refine wpAnyH_take (i := 16) (oi := ?ocaseP0101017o) (v := undef) ?ocaseP0101017h (by kernel_rfl) (by kernel_rfl) (by kernel_rfl) ?ocaseP0101017q ?ocaseP0101017y hHeld ?ocaseP0101017r
  case ocaseP0101017h => (simp only [List.getElem?_toArray, List.getElem?_cons_succ, List.getElem?_cons_zero]; rfl)
  case ocaseP0101017q => exact fun _ _ _ h => h
  case ocaseP0101017y => exact Or.inr ⟨by first | kernel_rfl | rfl, rfl⟩
  try simp only [Act.put, List.setIfInBounds_toArray, List.set_cons_zero, List.set_cons_succ]
  refine wpAnyH_take (i := 17) (oi := ?ocaseP0101018o) (v := undef) ?ocaseP0101018h (by kernel_rfl) (by kernel_rfl) (by kernel_rfl) ?ocaseP0101018q ?ocaseP0101018y hHeld ?ocaseP0101018r
  case ocaseP0101018h => (simp only [List.getElem?_toArray, List.getElem?_cons_succ, List.getElem?_cons_zero]; rfl)
  case ocaseP0101018q => exact fun _ _ _ h => h
  case ocaseP0101018y => exact Or.inr ⟨by first | kernel_rfl | rfl, rfl⟩
  try simp only [Act.put, List.setIfInBounds_toArray, List.set_cons_zero, List.set_cons_succ]
  refine wpAnyH_take (i := 18) (oi := ?ocaseP0101019o) (v := undef) ?ocaseP0101019h (by kernel_rfl) (by kernel_rfl) (by kernel_rfl) ?ocaseP0101019q ?ocaseP0101019y hHeld ?ocaseP0101019r
  case ocaseP0101019h => (simp only [List.getElem?_toArray, List.getElem?_cons_succ, List.getElem?_cons_zero]; rfl)
  case ocaseP0101019q => exact fun _ _ _ h => h
  case ocaseP0101019y => exact Or.inr ⟨by first | kernel_rfl | rfl, rfl⟩
  try simp only [Act.put, List.setIfInBounds_toArray, List.set_cons_zero, List.set_cons_succ]
  refine wpAnyH_take (i := 19) (oi := ?ocaseP0101020o) (v := undef) ?ocaseP0101020h (by kernel_rfl) (by kernel_rfl) (by kernel_rfl) ?ocaseP0101020q ?ocaseP0101020y hHeld ?ocaseP0101020r
  case ocaseP0101020h => (simp only [List.getElem?_toArray, List.getElem?_cons_succ, List.getElem?_cons_zero]; rfl)
  case ocaseP0101020q => exact fun _ _ _ h => h
  case ocaseP0101020y => exact Or.inr ⟨by first | kernel_rfl | rfl, rfl⟩
  try simp only [Act.put, List.setIfInBounds_toArray, List.set_cons_zero, List.set_cons_succ]
  refine wpAnyH_take (i := 20) (oi := ?ocaseP0101021o) (v := ?ocaseP0101021v) ?ocaseP0101021h (by kernel_rfl) (by kernel_rfl) (by kernel_rfl) ?ocaseP0101021q ?ocaseP0101021y hHeld ?ocaseP0101021r
  case ocaseP0101021h => (simp only [List.getElem?_toArray, List.getElem?_cons_succ, List.getElem?_cons_zero]; rfl)
  case ocaseP0101021q => exact fun _ _ _ h => h
  case ocaseP0101021y => (refine Or.inl ⟨by first | kernel_rfl | rfl, ?_⟩; intro w hSw; (try dsimp only at hSw); obtain ⟨⟨x0, x1, x2, x3, x4, x5, y0, y1, y2, y3, y4, y5, z0, z1, z2, z3, z4, z5⟩, -⟩ := hSw; go_simp <;> (try with_reducible rfl))
  try simp only [Act.put, List.setIfInBounds_toArray, List.set_cons_zero, List.set_cons_succ]
  refine wpAnyH_take (i := 21) (oi := ?ocaseP0101022o) (v := ?ocaseP0101022v) ?ocaseP0101022h (by kernel_rfl) (by kernel_rfl) (by kernel_rfl) ?ocaseP0101022q ?ocaseP0101022y hHeld ?ocaseP0101022r
  case ocaseP0101022h => (simp only [List.getElem?_toArray, List.getElem?_cons_succ, List.getElem?_cons_zero]; rfl)
  case ocaseP0101022q => exact fun _ _ _ h => h
  case ocaseP0101022y => (refine Or.inl ⟨by first | kernel_rfl | rfl, ?_⟩; intro w hSw; (try dsimp only at hSw); obtain ⟨⟨x0, x1, x2, x3, x4, x5, y0, y1, y2, y3, y4, y5, z0, z1, z2, z3, z4, z5⟩, -⟩ := hSw; go_simp <;> (try with_reducible rfl))
  try simp only [Act.put, List.setIfInBounds_toArray, List.set_cons_zero, List.set_cons_succ]
  refine wpAnyH_done (by kernel_rfl) ?_ _
  go_wp2_with fail
  refine wp_region_held_drew (S := (OHeld w g a b c)) (by kernel_rfl) hHeld.drew (fun hHeld => ?_)
  refine wpAnyH_take (i := 0) (oi := ?ocaseP010111o) (v := ?ocaseP010111v) ?ocaseP010111h (by kernel_rfl) (by kernel_rfl) (by kernel_rfl) ?ocaseP010111q ?ocaseP010111y hHeld ?ocaseP010111r
  case ocaseP010111h => (simp only [List.getElem?_toArray, List.getElem?_cons_zero]; rfl)
  case ocaseP010111q => exact fun _ _ _ h => h
  case ocaseP010111y => (refine Or.inl ⟨by first | kernel_rfl | rfl, ?_⟩; intro w hSw; (try dsimp only at hSw); obtain ⟨⟨x0, x1, x2, x3, x4, x5, y0, y1, y2, y3, y4, y5, z0, z1, z2, z3, z4, z5⟩, -⟩ := hSw; go_simp <;> (try with_reducible rfl))
  try simp only [Act.put, List.setIfInBounds_toArray, List.set_cons_zero, List.set_cons_succ]
  refine wpAnyH_take (i := 1) (oi := ?ocaseP010112o) (v := ?ocaseP010112v) ?ocaseP010112h (by kernel_rfl) (by kernel_rfl) (by kernel_rfl) ?ocaseP010112q ?ocaseP010112y hHeld ?ocaseP010112r
  case ocaseP010112h => (simp only [List.getElem?_toArray, List.getElem?_cons_succ, List.getElem?_cons_zero]; rfl)
  case ocaseP010112q => exact fun _ _ _ h => h
  case ocaseP010112y => (refine Or.inl ⟨by first | kernel_rfl | rfl, ?_⟩; intro w hSw; (try dsimp only at hSw); obtain ⟨⟨x0, x1, x2, x3, x4, x5, y0, y1, y2, y3, y4, y5, z0, z1, z2, z3, z4, z5⟩, -⟩ := hSw; go_simp <;> (try with_reducible rfl))
  try simp only [Act.put, List.setIfInBounds_toArray, List.set_cons_zero, List.set_cons_succ]
  refine wpAnyH_take (i := 2) (oi := ?ocaseP010113o) (v := ?ocaseP010113v) ?ocaseP010113h (by kernel_rfl) (by kernel_rfl) (by kernel_rfl) ?ocaseP010113q ?ocaseP010113y hHeld ?ocaseP010113r
  case ocaseP010113h => (simp only [List.getElem?_toArray, List.getElem?_cons_succ, List.getElem?_cons_zero]; rfl)
  case ocaseP010113q => exact fun _ _ _ h => h
  case ocaseP010113y => (refine Or.inl ⟨by first | kernel_rfl | rfl, ?_⟩; intro w hSw; (try dsimp only at hSw); obtain ⟨⟨x0, x1, x2, x3, x4, x5, y0, y1, y2, y3, y4, y5, z0, z1, z2, z3, z4, z5⟩, -⟩ := hSw; go_simp <;> (try with_reducible rfl))
  try simp only [Act.put, List.setIfInBounds_toArray, List.set_cons_zero, List.set_cons_succ]
  refine wpAnyH_take (i := 3) (oi := ?ocaseP010114o) (v := undef) ?ocaseP010114h (by kernel_rfl) (by kernel_rfl) (by kernel_rfl) ?ocaseP010114q ?ocaseP010114y hHeld ?ocaseP010114r
  case ocaseP010114h => (simp only [List.getElem?_toArray, List.getElem?_cons_succ, List.getElem?_cons_zero]; rfl)
  case ocaseP010114q => exact fun _ _ _ h => h
  case ocaseP010114y => exact Or.inr ⟨by first | kernel_rfl | rfl, rfl⟩
  try simp only [Act.put, List.setIfInBounds_toArray, List.set_cons_zero, List.set_cons_succ]
  refine wpAnyH_take (i := 4) (oi := ?ocaseP010115o) (v := undef) ?ocaseP010115h (by kernel_rfl) (by kernel_rfl) (by kernel_rfl) ?ocaseP010115q ?ocaseP010115y hHeld ?ocaseP010115r
  case ocaseP010115h => (simp only [List.getElem?_toArray, List.getElem?_cons_succ, List.getElem?_cons_zero]; rfl)
  case ocaseP010115q => exact fun _ _ _ h => h
  case ocaseP010115y => exact Or.inr ⟨by first | kernel_rfl | rfl, rfl⟩
  try simp only [Act.put, List.setIfInBounds_toArray, List.set_cons_zero, List.set_cons_succ]
  refine wpAnyH_take (i := 5) (oi := ?ocaseP010116o) (v := undef) ?ocaseP010116h (by kernel_rfl) (by kernel_rfl) (by kernel_rfl) ?ocaseP010116q ?ocaseP010116y hHeld ?ocaseP010116r
  case ocaseP010116h => (simp only [List.getElem?_toArray, List.getElem?_cons_succ, List.getElem?_cons_zero]; rfl)
  case ocaseP010116q => exact fun _ _ _ h => h
  case ocaseP010116y => exact Or.inr ⟨by first | kernel_rfl | rfl, rfl⟩
  try simp only [Act.put, List.setIfInBounds_toArray, List.set_cons_zero, List.set_cons_succ]
  refine wpAnyH_take (i := 6) (oi := ?ocaseP010117o) (v := undef) ?ocaseP010117h (by kernel_rfl) (by kernel_rfl) (by kernel_rfl) ?ocaseP010117q ?ocaseP010117y hHeld ?ocaseP010117r
  case ocaseP010117h => (simp only [List.getElem?_toArray, List.getElem?_cons_succ, List.getElem?_cons_zero]; rfl)
  case ocaseP010117q => exact fun _ _ _ h => h
  case ocaseP010117y => exact Or.inr ⟨by first | kernel_rfl | rfl, rfl⟩
  try simp only [Act.put, List.setIfInBounds_toArray, List.set_cons_zero, List.set_cons_succ]
  refine wpAnyH_take (i := 7) (oi := ?ocaseP010118o) (v := undef) ?ocaseP010118h (by kernel_rfl) (by kernel_rfl) (by kernel_rfl) ?ocaseP010118q ?ocaseP010118y hHeld ?ocaseP010118r
  case ocaseP010118h => (simp only [List.getElem?_toArray, List.getElem?_cons_succ, List.getElem?_cons_zero]; rfl)
  case ocaseP010118q => exact fun _ _ _ h => h
  case ocaseP010118y => exact Or.inr ⟨by first | kernel_rfl | rfl, rfl⟩
  try simp only [Act.put, List.setIfInBounds_toArray, List.set_cons_zero, List.set_cons_succ]
  refine wpAnyH_take (i := 8) (oi := ?ocaseP010119o) (v := undef) ?ocaseP010119h (by kernel_rfl) (by kernel_rfl) (by kernel_rfl) ?ocaseP010119q ?ocaseP010119y hHeld ?ocaseP010119r
  case ocaseP010119h => (simp only [List.getElem?_toArray, List.getElem?_cons_succ, List.getElem?_cons_zero]; rfl)
  case ocaseP010119q => exact fun _ _ _ h => h
  case ocaseP010119y => exact Or.inr ⟨by first | kernel_rfl | rfl, rfl⟩
  try simp only [Act.put, List.setIfInBounds_toArray, List.set_cons_zero, List.set_cons_succ]
  refine wpAnyH_take (i := 9) (oi := ?ocaseP0101110o) (v := undef) ?ocaseP0101110h (by kernel_rfl) (by kernel_rfl) (by kernel_rfl) ?ocaseP0101110q ?ocaseP0101110y hHeld ?ocaseP0101110r
  case ocaseP0101110h => (simp only [List.getElem?_toArray, List.getElem?_cons_succ, List.getElem?_cons_zero]; rfl)
  case ocaseP0101110q => exact fun _ _ _ h => h
  case ocaseP0101110y => exact Or.inr ⟨by first | kernel_rfl | rfl, rfl⟩
  try simp only [Act.put, List.setIfInBounds_toArray, List.set_cons_zero, List.set_cons_succ]
  refine wpAnyH_take (i := 10) (oi := ?ocaseP0101111o) (v := undef) ?ocaseP0101111h (by kernel_rfl) (by kernel_rfl) (by kernel_rfl) ?ocaseP0101111q ?ocaseP0101111y hHeld ?ocaseP0101111r
  case ocaseP0101111h => (simp only [List.getElem?_toArray, List.getElem?_cons_succ, List.getElem?_cons_zero]; rfl)
  case ocaseP0101111q => exact fun _ _ _ h => h
  case ocaseP0101111y => exact Or.inr ⟨by first | kernel_rfl | rfl, rfl⟩
  try simp only [Act.put, List.setIfInBounds_toArray, List.set_cons_zero, List.set_cons_succ]
  refine wpAnyH_take (i := 11) (oi := ?ocaseP0101112o) (v := ?ocaseP0101112v) ?ocaseP0101112h (by kernel_rfl) (by kernel_rfl) (by kernel_rfl) ?ocaseP0101112q ?ocaseP0101112y hHeld ?ocaseP0101112r
  case ocaseP0101112h => (simp only [List.getElem?_toArray, List.getElem?_cons_succ, List.getElem?_cons_zero]; rfl)
  case ocaseP0101112q => exact fun _ _ _ h => h
  case ocaseP0101112y => (refine Or.inl ⟨by first | kernel_rfl | rfl, ?_⟩; intro w hSw; (try dsimp only at hSw); obtain ⟨⟨x0, x1, x2, x3, x4, x5, y0, y1, y2, y3, y4, y5, z0, z1, z2, z3, z4, z5⟩, -⟩ := hSw; go_simp <;> (try with_reducible rfl))
  try simp only [Act.put, List.setIfInBounds_toArray, List.set_cons_zero, List.set_cons_succ]
  refine wpAnyH_take (i := 12) (oi := ?ocaseP0101113o) (v := ?ocaseP0101113v) ?ocaseP0101113h (by kernel_rfl) (by kernel_rfl) (by kernel_rfl) ?ocaseP0101113q ?ocaseP0101113y hHeld ?ocaseP0101113r
  case ocaseP0101113h => (simp only [List.getElem?_toArray, List.getElem?_cons_succ, List.getElem?_cons_zero]; rfl)
  case ocaseP0101113q => exact fun _ _ _ h => h
  case ocaseP0101113y => (refine Or.inl ⟨by first | kernel_rfl | rfl, ?_⟩; intro w hSw; (try dsimp only at hSw); obtain ⟨⟨x0, x1, x2, x3, x4, x5, y0, y1, y2, y3, y4, y5, z0, z1, z2, z3, z4, z5⟩, -⟩ := hSw; go_simp <;> (try with_reducible rfl))
  try simp only [Act.put, List.setIfInBounds_toArray, List.set_cons_zero, List.set_cons_succ]
  refine wpAnyH_take (i := 13) (oi := ?ocaseP0101114o) (v := undef) ?ocaseP0101114h (by kernel_rfl) (by kernel_rfl) (by kernel_rfl) ?ocaseP0101114q ?ocaseP0101114y hHeld ?ocaseP0101114r
  case ocaseP0101114h => (simp only [List.getElem?_toArray, List.getElem?_cons_succ, List.getElem?_cons_zero]; rfl)
  case ocaseP0101114q => exact fun _ _ _ h => h
  case ocaseP0101114y => exact Or.inr ⟨by first | kernel_rfl | rfl, rfl⟩
  try simp only [Act.put, List.setIfInBounds_toArray, List.set_cons_zero, List.set_cons_succ]
  refine wpAnyH_take (i := 14) (oi := ?ocaseP0101115o) (v := undef) ?ocaseP0101115h (by kernel_rfl) (by kernel_rfl) (by kernel_rfl) ?ocaseP0101115q ?ocaseP0101115y hHeld ?ocaseP0101115r
  case ocaseP0101115h => (simp only [List.getElem?_toArray, List.getElem?_cons_succ, List.getElem?_cons_zero]; rfl)
  case ocaseP0101115q => exact fun _ _ _ h => h
  case ocaseP0101115y => exact Or.inr ⟨by first | kernel_rfl | rfl, rfl⟩
  try simp only [Act.put, List.setIfInBounds_toArray, List.set_cons_zero, List.set_cons_succ]
  refine wpAnyH_take (i := 15) (oi := ?ocaseP0101116o) (v := undef) ?ocaseP0101116h (by kernel_rfl) (by kernel_rfl) (by kernel_rfl) ?ocaseP0101116q ?ocaseP0101116y hHeld ?ocaseP0101116r
  case ocaseP0101116h => (simp only [List.getElem?_toArray, List.getElem?_cons_succ, List.getElem?_cons_zero]; rfl)
  case ocaseP0101116q => exact fun _ _ _ h => h
  case ocaseP0101116y => exact Or.inr ⟨by first | kernel_rfl | rfl, rfl⟩
  try simp only [Act.put, List.setIfInBounds_toArray, List.set_cons_zero, List.set_cons_succ]
  refine wpAnyH_take (i := 16) (oi := ?ocaseP0101117o) (v := undef) ?ocaseP0101117h (by kernel_rfl) (by kernel_rfl) (by kernel_rfl) ?ocaseP0101117q ?ocaseP0101117y hHeld ?ocaseP0101117r
  case ocaseP0101117h => (simp only [List.getElem?_toArray, List.getElem?_cons_succ, List.getElem?_cons_zero]; rfl)
  case ocaseP0101117q => exact fun _ _ _ h => h
  case ocaseP0101117y => exact Or.inr ⟨by first | kernel_rfl | rfl, rfl⟩
  try simp only [Act.put, List.setIfInBounds_toArray, List.set_cons_zero, List.set_cons_succ]
  refine wpAnyH_take (i := 17) (oi := ?ocaseP0101118o) (v := undef) ?ocaseP0101118h (by kernel_rfl) (by kernel_rfl) (by kernel_rfl) ?ocaseP0101118q ?ocaseP0101118y hHeld ?ocaseP0101118r
  case ocaseP0101118h => (simp only [List.getElem?_toArray, List.getElem?_cons_succ, List.getElem?_cons_zero]; rfl)
  case ocaseP0101118q => exact fun _ _ _ h => h
  case ocaseP0101118y => exact Or.inr ⟨by first | kernel_rfl | rfl, rfl⟩
  try simp only [Act.put, List.setIfInBounds_toArray, List.set_cons_zero, List.set_cons_succ]
  refine wpAnyH_take (i := 18) (oi := ?ocaseP0101119o) (v := undef) ?ocaseP0101119h (by kernel_rfl) (by kernel_rfl) (by kernel_rfl) ?ocaseP0101119q ?ocaseP0101119y hHeld ?ocaseP0101119r
  case ocaseP0101119h => (simp only [List.getElem?_toArray, List.getElem?_cons_succ, List.getElem?_cons_zero]; rfl)
  case ocaseP0101119q => exact fun _ _ _ h => h
  case ocaseP0101119y => exact Or.inr ⟨by first | kernel_rfl | rfl, rfl⟩
  try simp only [Act.put, List.setIfInBounds_toArray, List.set_cons_zero, List.set_cons_succ]
  refine wpAnyH_take (i := 19) (oi := ?ocaseP0101120o) (v := undef) ?ocaseP0101120h (by kernel_rfl) (by kernel_rfl) (by kernel_rfl) ?ocaseP0101120q ?ocaseP0101120y hHeld ?ocaseP0101120r
  case ocaseP0101120h => (simp only [List.getElem?_toArray, List.getElem?_cons_succ, List.getElem?_cons_zero]; rfl)
  case ocaseP0101120q => exact fun _ _ _ h => h
  case ocaseP0101120y => exact Or.inr ⟨by first | kernel_rfl | rfl, rfl⟩
  try simp only [Act.put, List.setIfInBounds_toArray, List.set_cons_zero, List.set_cons_succ]
  refine wpAnyH_take (i := 20) (oi := ?ocaseP0101121o) (v := ?ocaseP0101121v) ?ocaseP0101121h (by kernel_rfl) (by kernel_rfl) (by kernel_rfl) ?ocaseP0101121q ?ocaseP0101121y hHeld ?ocaseP0101121r
  case ocaseP0101121h => (simp only [List.getElem?_toArray, List.getElem?_cons_succ, List.getElem?_cons_zero]; rfl)
  case ocaseP0101121q => exact fun _ _ _ h => h
  case ocaseP0101121y => (refine Or.inl ⟨by first | kernel_rfl | rfl, ?_⟩; intro w hSw; (try dsimp only at hSw); obtain ⟨⟨x0, x1, x2, x3, x4, x5, y0, y1, y2, y3, y4, y5, z0, z1, z2, z3, z4, z5⟩, -⟩ := hSw; go_simp <;> (try with_reducible rfl))
  try simp only [Act.put, List.setIfInBounds_toArray, List.set_cons_zero, List.set_cons_succ]
  refine wpAnyH_take (i := 21) (oi := ?ocaseP0101122o) (v := ?ocaseP0101122v) ?ocaseP0101122h (by kernel_rfl) (by kernel_rfl) (by kernel_rfl) ?ocaseP0101122q ?ocaseP0101122y hHeld ?ocaseP0101122r
  case ocaseP0101122h => (simp only [List.getElem?_toArray, List.getElem?_cons_succ, List.getElem?_cons_zero]; rfl)
  case ocaseP0101122q => exact fun _ _ _ h => h
  case ocaseP0101122y => (refine Or.inl ⟨by first | kernel_rfl | rfl, ?_⟩; intro w hSw; (try dsimp only at hSw); obtain ⟨⟨x0, x1, x2, x3, x4, x5, y0, y1, y2, y3, y4, y5, z0, z1, z2, z3, z4, z5⟩, -⟩ := hSw; go_simp <;> (try with_reducible rfl))
  try simp only [Act.put, List.setIfInBounds_toArray, List.set_cons_zero, List.set_cons_succ]
  refine wpAnyH_done (by kernel_rfl) ?_ _
  have hbel := hHeld.bel
  go_wp2
  go_ret
  exact ⟨rfl, hbel⟩

set_option maxHeartbeats 8000000 in
theorem caseP000 (a b c : Pt) (h1 : a.s = b.s) (h2 : a.t = b.t) (h : a.st = b.st) : Rest a b c := by
  intro a0 b0 c0 w hfew
  have hs := seq_eq h1
  have ht : (a.t == b.t) = true := by simpa using h2
  have kab := fun w => before_is a b false w (Lib.hid (by rw [before_s h1]; exact decide_eq_false (by omega)))
  have kba := fun w => before_is b a false w (Lib.hid (by rw [before_s h1.symm]; exact decide_eq_false (by omega)))
  have jab := fun w => newer_is a b false w (Lib.hid (by rw [newer_same h1 h2]; exact (by rw [h]; exact St.lt_self _)))
  have jba := fun w => newer_is b a false w (Lib.hid (by rw [newer_same h1.symm h2.symm]; exact (by rw [h]; exact St.lt_self _)))
  have qn : ∀ w, (binOp .neq 23 (.agg #[.int .i64 a.st.c, .int .i64 a.st.s, .int .i64 a.st.q]) (.agg #[.int .i64 b.st.c, .int .i64 b.st.s, .int .i64 b.st.q])).run Try.prog w = .ok (.bool false) w := fun w => by rw [neq_run]; simp [h]
  unfold ptV at kab kba jab jba  
  clear h h1 h2  
  have H0a := (PHeld.new w a0).keep (bel_new ((Below.refl _ _).alloc (Nat.le_refl _) (.cells #[.string b0.s, .int .i64 b0.t, .int .i64 b0.v, .int .i64 b0.st.c, .int .i64 b0.st.s, .int .i64 b0.st.q] 34)) (.cells #[.string c0.s, .int .i64 c0.t, .int .i64 c0.v, .int .i64 c0.st.c, .int .i64 c0.st.s, .int .i64 c0.st.q] 34))
  have H0b := (PHeld.new (w.alloc (.cells #[.string a0.s, .int .i64 a0.t, .int .i64 a0.v, .int .i64 a0.st.c, .int .i64 a0.st.s, .int .i64 a0.st.q] 34)) b0).keep ((Below.refl _ _).alloc (Nat.le_refl _) (.cells #[.string c0.s, .int .i64 c0.t, .int .i64 c0.v, .int .i64 c0.st.c, .int .i64 c0.st.s, .int .i64 c0.st.q] 34))
  have H0c := PHeld.new ((w.alloc (.cells #[.string a0.s, .int .i64 a0.t, .int .i64 a0.v, .int .i64 a0.st.c, .int .i64 a0.st.s, .int .i64 a0.st.q] 34)).alloc (.cells #[.string b0.s, .int .i64 b0.t, .int .i64 b0.v, .int .i64 b0.st.c, .int .i64 b0.st.s, .int .i64 b0.st.q] 34)) c0
  simp only [World.size_alloc] at H0b H0c
  have HF := Lib.hid hfew
  unfold ptV
  clear hfew
  go_enter Try.func7, Try.ntmps7
  go_wp2_with (first
    | (go_at_call 9; (with_reducible refine (awake_any _).mono ?_); rintro e w1 ⟨rfl, hb⟩; have Ha := H0a.keep hb; have Hb := H0b.keep hb; have Hc := H0c.keep hb; obtain ⟨⟨x0, x1, x2, x3, x4, x5⟩, -⟩ := Ha; obtain ⟨⟨y0, y1, y2, y3, y4, y5⟩, -⟩ := Hb; obtain ⟨⟨z0, z1, z2, z3, z4, z5⟩, -⟩ := Hc; have HB := H0a.bel.trans (hb.mono (by simp; omega)))
    | (go_at_call 26; (with_reducible refine (few3 a0 b0 c0 _).mono ?_); rintro e w2 ⟨v, rfl, hR, hb2⟩; rw [HF.out] at hR; obtain ⟨g, cap, rfl, hT⟩ := tri_of hR; have HH : OHeld w g a b c w2 := ⟨hT, bel_next (bel_new HB _) hb2⟩))
  clear H0a H0b H0c HB hb2 hb hT hR HF x0 x1 x2 x3 x4 x5 y0 y1 y2 y3 y4 y5 z0 z1 z2 z3 z4 z5
  go_wp2_with fail
  refine wp_region_held_drew (S := (OHeld w g a b c)) (by kernel_rfl) HH.drew (fun hHeld => ?_)
  refine wpAnyH_take (i := 0) (oi := ?ocaseP00031o) (v := ?ocaseP00031v) ?ocaseP00031h (by kernel_rfl) (by kernel_rfl) (by kernel_rfl) ?ocaseP00031q ?ocaseP00031y hHeld ?ocaseP00031r
  case ocaseP00031h => (simp only [List.getElem?_toArray, List.getElem?_cons_zero]; rfl)
  case ocaseP00031q => exact fun _ _ _ h => h
  case ocaseP00031y => (refine Or.inl ⟨by first | kernel_rfl | rfl, ?_⟩; intro w hSw; (try dsimp only at hSw); obtain ⟨⟨x0, x1, x2, x3, x4, x5, y0, y1, y2, y3, y4, y5, z0, z1, z2, z3, z4, z5⟩, -⟩ := hSw; go_simp <;> (try with_reducible rfl))
  try simp only [Act.put, List.setIfInBounds_toArray, List.set_cons_zero, List.set_cons_succ]
  refine wpAnyH_take (i := 1) (oi := ?ocaseP00032o) (v := ?ocaseP00032v) ?ocaseP00032h (by kernel_rfl) (by kernel_rfl) (by kernel_rfl) ?ocaseP00032q ?ocaseP00032y hHeld ?ocaseP00032r
  case ocaseP00032h => (simp only [List.getElem?_toArray, List.getElem?_cons_succ, List.getElem?_cons_zero]; rfl)
  case ocaseP00032q => exact fun _ _ _ h => h
  case ocaseP00032y => (refine Or.inl ⟨by first | kernel_rfl | rfl, ?_⟩; intro w hSw; (try dsimp only at hSw); obtain ⟨⟨x0, x1, x2, x3, x4, x5, y0, y1, y2, y3, y4, y5, z0, z1, z2, z3, z4, z5⟩, -⟩ := hSw; go_simp <;> (try with_reducible rfl))
  try simp only [Act.put, List.setIfInBounds_toArray, List.set_cons_zero, List.set_cons_succ]
  refine wpAnyH_take (i := 2) (oi := ?ocaseP00033o) (v := ?ocaseP00033v) ?ocaseP00033h (by kernel_rfl) (by kernel_rfl) (by kernel_rfl) ?ocaseP00033q ?ocaseP00033y hHeld ?ocaseP00033r
  case ocaseP00033h => (simp only [List.getElem?_toArray, List.getElem?_cons_succ, List.getElem?_cons_zero]; rfl)
  case ocaseP00033q => exact fun _ _ _ h => h
  case ocaseP00033y => (refine Or.inl ⟨by first | kernel_rfl | rfl, ?_⟩; intro w hSw; (try dsimp only at hSw); obtain ⟨⟨x0, x1, x2, x3, x4, x5, y0, y1, y2, y3, y4, y5, z0, z1, z2, z3, z4, z5⟩, -⟩ := hSw; go_simp <;> (try with_reducible rfl))
  try simp only [Act.put, List.setIfInBounds_toArray, List.set_cons_zero, List.set_cons_succ]
  refine wpAnyH_take (i := 3) (oi := ?ocaseP00034o) (v := ?ocaseP00034v) ?ocaseP00034h (by kernel_rfl) (by kernel_rfl) (by kernel_rfl) ?ocaseP00034q ?ocaseP00034y hHeld ?ocaseP00034r
  case ocaseP00034h => (simp only [List.getElem?_toArray, List.getElem?_cons_succ, List.getElem?_cons_zero]; rfl)
  case ocaseP00034q => exact fun _ _ _ h => h
  case ocaseP00034y => (refine Or.inl ⟨by first | kernel_rfl | rfl, ?_⟩; intro w hSw; (try dsimp only at hSw); obtain ⟨⟨x0, x1, x2, x3, x4, x5, y0, y1, y2, y3, y4, y5, z0, z1, z2, z3, z4, z5⟩, -⟩ := hSw; go_simp <;> (try with_reducible rfl))
  try simp only [Act.put, List.setIfInBounds_toArray, List.set_cons_zero, List.set_cons_succ]
  refine wpAnyH_take (i := 4) (oi := ?ocaseP00035o) (v := ?ocaseP00035v) ?ocaseP00035h (by kernel_rfl) (by kernel_rfl) (by kernel_rfl) ?ocaseP00035q ?ocaseP00035y hHeld ?ocaseP00035r
  case ocaseP00035h => (simp only [List.getElem?_toArray, List.getElem?_cons_succ, List.getElem?_cons_zero]; rfl)
  case ocaseP00035q => exact fun _ _ _ h => h
  case ocaseP00035y => (refine Or.inl ⟨by first | kernel_rfl | rfl, ?_⟩; intro w hSw; (try dsimp only at hSw); obtain ⟨⟨x0, x1, x2, x3, x4, x5, y0, y1, y2, y3, y4, y5, z0, z1, z2, z3, z4, z5⟩, -⟩ := hSw; go_simp <;> (try with_reducible rfl))
  try simp only [Act.put, List.setIfInBounds_toArray, List.set_cons_zero, List.set_cons_succ]
  refine wpAnyH_take (i := 5) (oi := ?ocaseP00036o) (v := ?ocaseP00036v) ?ocaseP00036h (by kernel_rfl) (by kernel_rfl) (by kernel_rfl) ?ocaseP00036q ?ocaseP00036y hHeld ?ocaseP00036r
  case ocaseP00036h => (simp only [List.getElem?_toArray, List.getElem?_cons_succ, List.getElem?_cons_zero]; rfl)
  case ocaseP00036q => exact fun _ _ _ h => h
  case ocaseP00036y => (refine Or.inl ⟨by first | kernel_rfl | rfl, ?_⟩; intro w hSw; (try dsimp only at hSw); obtain ⟨⟨x0, x1, x2, x3, x4, x5, y0, y1, y2, y3, y4, y5, z0, z1, z2, z3, z4, z5⟩, -⟩ := hSw; go_simp <;> (try with_reducible rfl))
  try simp only [Act.put, List.setIfInBounds_toArray, List.set_cons_zero, List.set_cons_succ]
  refine wpAnyH_ready (rs := [6]) (by kernel_rfl) (by simp) ?_
  refine (AllReadyH.cons rfl (fun K hK => ?_) AllReadyH.nil)
  go_simp
  ((with_reducible refine (kab _).mono ?_); rintro e w' ⟨rfl, hb'⟩)
  refine hK.out _ _ (hHeld.keep hb') (fun hHeld => ?_)
  clear hK K
  try simp only [Act.put, List.setIfInBounds_toArray, List.set_cons_zero, List.set_cons_succ]
  refine wpAnyH_take (i := 7) (oi := ?ocaseP00037o) (v := ?ocaseP00037v) ?ocaseP00037h (by kernel_rfl) (by kernel_rfl) (by kernel_rfl) ?ocaseP00037q ?ocaseP00037y hHeld ?ocaseP00037r
  case ocaseP00037h => (simp only [List.getElem?_toArray, List.getElem?_cons_succ, List.getElem?_cons_zero]; rfl)
  case ocaseP00037q => exact fun _ _ _ h => h
  case ocaseP00037y => (refine Or.inl ⟨by first | kernel_rfl | rfl, ?_⟩; intro w hSw; (try dsimp only at hSw); obtain ⟨⟨x0, x1, x2, x3, x4, x5, y0, y1, y2, y3, y4, y5, z0, z1, z2, z3, z4, z5⟩, -⟩ := hSw; go_simp <;> (try with_reducible rfl))
  try simp only [Act.put, List.setIfInBounds_toArray, List.set_cons_zero, List.set_cons_succ]
  refine wpAnyH_done (by kernel_rfl) ?_ _
  go_wp2_with fail
  refine wp_region_held_drew (S := (OHeld w g a b c)) (by kernel_rfl) hHeld.drew (fun hHeld => ?_)
  refine wpAnyH_take (i := 0) (oi := ?ocaseP00041o) (v := ?ocaseP00041v) ?ocaseP00041h (by kernel_rfl) (by kernel_rfl) (by kernel_rfl) ?ocaseP00041q ?ocaseP00041y hHeld ?ocaseP00041r
  case ocaseP00041h => (simp only [List.getElem?_toArray, List.getElem?_cons_zero]; rfl)
  case ocaseP00041q => exact fun _ _ _ h => h
  case ocaseP00041y => (refine Or.inl ⟨by first | kernel_rfl | rfl, ?_⟩; intro w hSw; (try dsimp only at hSw); obtain ⟨⟨x0, x1, x2, x3, x4, x5, y0, y1, y2, y3, y4, y5, z0, z1, z2, z3, z4, z5⟩, -⟩ := hSw; go_simp <;> (try with_reducible rfl))
  try simp only [Act.put, List.setIfInBounds_toArray, List.set_cons_zero, List.set_cons_succ]
  refine wpAnyH_take (i := 1) (oi := ?ocaseP00042o) (v := ?ocaseP00042v) ?ocaseP00042h (by kernel_rfl) (by kernel_rfl) (by kernel_rfl) ?ocaseP00042q ?ocaseP00042y hHeld ?ocaseP00042r
  case ocaseP00042h => (simp only [List.getElem?_toArray, List.getElem?_cons_succ, List.getElem?_cons_zero]; rfl)
  case ocaseP00042q => exact fun _ _ _ h => h
  case ocaseP00042y => (refine Or.inl ⟨by first | kernel_rfl | rfl, ?_⟩; intro w hSw; (try dsimp only at hSw); obtain ⟨⟨x0, x1, x2, x3, x4, x5, y0, y1, y2, y3, y4, y5, z0, z1, z2, z3, z4, z5⟩, -⟩ := hSw; go_simp <;> (try with_reducible rfl))
  try simp only [Act.put, List.setIfInBounds_toArray, List.set_cons_zero, List.set_cons_succ]
  refine wpAnyH_take (i := 2) (oi := ?ocaseP00043o) (v := ?ocaseP00043v) ?ocaseP00043h (by kernel_rfl) (by kernel_rfl) (by kernel_rfl) ?ocaseP00043q ?ocaseP00043y hHeld ?ocaseP00043r
  case ocaseP00043h => (simp only [List.getElem?_toArray, List.getElem?_cons_succ, List.getElem?_cons_zero]; rfl)
  case ocaseP00043q => exact fun _ _ _ h => h
  case ocaseP00043y => (refine Or.inl ⟨by first | kernel_rfl | rfl, ?_⟩; intro w hSw; (try dsimp only at hSw); obtain ⟨⟨x0, x1, x2, x3, x4, x5, y0, y1, y2, y3, y4, y5, z0, z1, z2, z3, z4, z5⟩, -⟩ := hSw; go_simp <;> (try with_reducible rfl))
  try simp only [Act.put, List.setIfInBounds_toArray, List.set_cons_zero, List.set_cons_succ]
  refine wpAnyH_take (i := 3) (oi := ?ocaseP00044o) (v := ?ocaseP00044v) ?ocaseP00044h (by kernel_rfl) (by kernel_rfl) (by kernel_rfl) ?ocaseP00044q ?ocaseP00044y hHeld ?ocaseP00044r
  case ocaseP00044h => (simp only [List.getElem?_toArray, List.getElem?_cons_succ, List.getElem?_cons_zero]; rfl)
  case ocaseP00044q => exact fun _ _ _ h => h
  case ocaseP00044y => (refine Or.inl ⟨by first | kernel_rfl | rfl, ?_⟩; intro w hSw; (try dsimp only at hSw); obtain ⟨⟨x0, x1, x2, x3, x4, x5, y0, y1, y2, y3, y4, y5, z0, z1, z2, z3, z4, z5⟩, -⟩ := hSw; go_simp <;> (try with_reducible rfl))
  try simp only [Act.put, List.setIfInBounds_toArray, List.set_cons_zero, List.set_cons_succ]
  refine wpAnyH_take (i := 4) (oi := ?ocaseP00045o) (v := ?ocaseP00045v) ?ocaseP00045h (by kernel_rfl) (by kernel_rfl) (by kernel_rfl) ?ocaseP00045q ?ocaseP00045y hHeld ?ocaseP00045r
  case ocaseP00045h => (simp only [List.getElem?_toArray, List.getElem?_cons_succ, List.getElem?_cons_zero]; rfl)
  case ocaseP00045q => exact fun _ _ _ h => h
  case ocaseP00045y => (refine Or.inl ⟨by first | kernel_rfl | rfl, ?_⟩; intro w hSw; (try dsimp only at hSw); obtain ⟨⟨x0, x1, x2, x3, x4, x5, y0, y1, y2, y3, y4, y5, z0, z1, z2, z3, z4, z5⟩, -⟩ := hSw; go_simp <;> (try with_reducible rfl))
  try simp only [Act.put, List.setIfInBounds_toArray, List.set_cons_zero, List.set_cons_succ]
  refine wpAnyH_take (i := 5) (oi := ?ocaseP00046o) (v := ?ocaseP00046v) ?ocaseP00046h (by kernel_rfl) (by kernel_rfl) (by kernel_rfl) ?ocaseP00046q ?ocaseP00046y hHeld ?ocaseP00046r
  case ocaseP00046h => (simp only [List.getElem?_toArray, List.getElem?_cons_succ, List.getElem?_cons_zero]; rfl)
  case ocaseP00046q => exact fun _ _ _ h => h
  case ocaseP00046y => (refine Or.inl ⟨by first | kernel_rfl | rfl, ?_⟩; intro w hSw; (try dsimp only at hSw); obtain ⟨⟨x0, x1, x2, x3, x4, x5, y0, y1, y2, y3, y4, y5, z0, z1, z2, z3, z4, z5⟩, -⟩ := hSw; go_simp <;> (try with_reducible rfl))
  try simp only [Act.put, List.setIfInBounds_toArray, List.set_cons_zero, List.set_cons_succ]
  refine wpAnyH_ready (rs := [6]) (by kernel_rfl) (by simp) ?_
  refine (AllReadyH.cons rfl (fun K hK => ?_) AllReadyH.nil)
  go_simp
  ((with_reducible refine (kba _).mono ?_); rintro e w' ⟨rfl, hb'⟩)
  refine hK.out _ _ (hHeld.keep hb') (fun hHeld => ?_)
  clear hK K
  try simp only [Act.put, List.setIfInBounds_toArray, List.set_cons_zero, List.set_cons_succ]
  refine wpAnyH_take (i := 7) (oi := ?ocaseP00047o) (v := ?ocaseP00047v) ?ocaseP00047h (by kernel_rfl) (by kernel_rfl) (by kernel_rfl) ?ocaseP00047q ?ocaseP00047y hHeld ?ocaseP00047r
  case ocaseP00047h => (simp only [List.getElem?_toArray, List.getElem?_cons_succ, List.getElem?_cons_zero]; rfl)
  case ocaseP00047q => exact fun _ _ _ h => h
  case ocaseP00047y => (refine Or.inl ⟨by first | kernel_rfl | rfl, ?_⟩; intro w hSw; (try dsimp only at hSw); obtain ⟨⟨x0, x1, x2, x3, x4, x5, y0, y1, y2, y3, y4, y5, z0, z1, z2, z3, z4, z5⟩, -⟩ := hSw; go_simp <;> (try with_reducible rfl))
  try simp only [Act.put, List.setIfInBounds_toArray, List.set_cons_zero, List.set_cons_succ]
  refine wpAnyH_done (by kernel_rfl) ?_ _
  have H4 := hHeld
  have G := hHeld
  obtain ⟨⟨x0, x1, x2, x3, x4, x5, y0, y1, y2, y3, y4, y5, z0, z1, z2, z3, z4, z5⟩, -⟩ := G
  clear hHeld
  go_wp2_with fail
  go_quiet (fail)
  have HP := H4.drewN (n := nq)
  skip
  go_wp2_with fail
  refine wp_region_held_drew (S := (OHeld w g a b c)) (by kernel_rfl) HP.drew (fun hHeld => ?_)
  refine wpAnyH_take (i := 0) (oi := ?ocaseP00061o) (v := ?ocaseP00061v) ?ocaseP00061h (by kernel_rfl) (by kernel_rfl) (by kernel_rfl) ?ocaseP00061q ?ocaseP00061y hHeld ?ocaseP00061r
  case ocaseP00061h => (simp only [List.getElem?_toArray, List.getElem?_cons_zero]; rfl)
  case ocaseP00061q => exact fun _ _ _ h => h
  case ocaseP00061y => (refine Or.inl ⟨by first | kernel_rfl | rfl, ?_⟩; intro w hSw; (try dsimp only at hSw); obtain ⟨⟨x0, x1, x2, x3, x4, x5, y0, y1, y2, y3, y4, y5, z0, z1, z2, z3, z4, z5⟩, -⟩ := hSw; go_simp <;> (try with_reducible rfl))
  try simp only [Act.put, List.setIfInBounds_toArray, List.set_cons_zero, List.set_cons_succ]
  refine wpAnyH_take (i := 1) (oi := ?ocaseP00062o) (v := ?ocaseP00062v) ?ocaseP00062h (by kernel_rfl) (by kernel_rfl) (by kernel_rfl) ?ocaseP00062q ?ocaseP00062y hHeld ?ocaseP00062r
  case ocaseP00062h => (simp only [List.getElem?_toArray, List.getElem?_cons_succ, List.getElem?_cons_zero]; rfl)
  case ocaseP00062q => exact fun _ _ _ h => h
  case ocaseP00062y => (refine Or.inl ⟨by first | kernel_rfl | rfl, ?_⟩; intro w hSw; (try dsimp only at hSw); obtain ⟨⟨x0, x1, x2, x3, x4, x5, y0, y1, y2, y3, y4, y5, z0, z1, z2, z3, z4, z5⟩, -⟩ := hSw; go_simp <;> (try with_reducible rfl))
  try simp only [Act.put, List.setIfInBounds_toArray, List.set_cons_zero, List.set_cons_succ]
  refine wpAnyH_take (i := 2) (oi := ?ocaseP00063o) (v := ?ocaseP00063v) ?ocaseP00063h (by kernel_rfl) (by kernel_rfl) (by kernel_rfl) ?ocaseP00063q ?ocaseP00063y hHeld ?ocaseP00063r
  case ocaseP00063h => (simp only [List.getElem?_toArray, List.getElem?_cons_succ, List.getElem?_cons_zero]; rfl)
  case ocaseP00063q => exact fun _ _ _ h => h
  case ocaseP00063y => (refine Or.inl ⟨by first | kernel_rfl | rfl, ?_⟩; intro w hSw; (try dsimp only at hSw); obtain ⟨⟨x0, x1, x2, x3, x4, x5, y0, y1, y2, y3, y4, y5, z0, z1, z2, z3, z4, z5⟩, -⟩ := hSw; go_simp <;> (try with_reducible rfl))
  try simp only [Act.put, List.setIfInBounds_toArray, List.set_cons_zero, List.set_cons_succ]
  refine wpAnyH_take (i := 3) (oi := ?ocaseP00064o) (v := ?ocaseP00064v) ?ocaseP00064h (by kernel_rfl) (by kernel_rfl) (by kernel_rfl) ?ocaseP00064q ?ocaseP00064y hHeld ?ocaseP00064r
  case ocaseP00064h => (simp only [List.getElem?_toArray, List.getElem?_cons_succ, List.getElem?_cons_zero]; rfl)
  case ocaseP00064q => exact fun _ _ _ h => h
  case ocaseP00064y => (refine Or.inl ⟨by first | kernel_rfl | rfl, ?_⟩; intro w hSw; (try dsimp only at hSw); obtain ⟨⟨x0, x1, x2, x3, x4, x5, y0, y1, y2, y3, y4, y5, z0, z1, z2, z3, z4, z5⟩, -⟩ := hSw; go_simp <;> (try with_reducible rfl))
  try simp only [Act.put, List.setIfInBounds_toArray, List.set_cons_zero, List.set_cons_succ]
  refine wpAnyH_take (i := 4) (oi := ?ocaseP00065o) (v := ?ocaseP00065v) ?ocaseP00065h (by kernel_rfl) (by kernel_rfl) (by kernel_rfl) ?ocaseP00065q ?ocaseP00065y hHeld ?ocaseP00065r
  case ocaseP00065h => (simp only [List.getElem?_toArray, List.getElem?_cons_succ, List.getElem?_cons_zero]; rfl)
  case ocaseP00065q => exact fun _ _ _ h => h
  case ocaseP00065y => (refine Or.inl ⟨by first | kernel_rfl | rfl, ?_⟩; intro w hSw; (try dsimp only at hSw); obtain ⟨⟨x0, x1, x2, x3, x4, x5, y0, y1, y2, y3, y4, y5, z0, z1, z2, z3, z4, z5⟩, -⟩ := hSw; go_simp <;> (try with_reducible rfl))
  try simp only [Act.put, List.setIfInBounds_toArray, List.set_cons_zero, List.set_cons_succ]
  refine wpAnyH_take (i := 5) (oi := ?ocaseP00066o) (v := ?ocaseP00066v) ?ocaseP00066h (by kernel_rfl) (by kernel_rfl) (by kernel_rfl) ?ocaseP00066q ?ocaseP00066y hHeld ?ocaseP00066r
  case ocaseP00066h => (simp only [List.getElem?_toArray, List.getElem?_cons_succ, List.getElem?_cons_zero]; rfl)
  case ocaseP00066q => exact fun _ _ _ h => h
  case ocaseP00066y => (refine Or.inl ⟨by first | kernel_rfl | rfl, ?_⟩; intro w hSw; (try dsimp only at hSw); obtain ⟨⟨x0, x1, x2, x3, x4, x5, y0, y1, y2, y3, y4, y5, z0, z1, z2, z3, z4, z5⟩, -⟩ := hSw; go_simp <;> (try with_reducible rfl))
  try simp only [Act.put, List.setIfInBounds_toArray, List.set_cons_zero, List.set_cons_succ]
  refine wpAnyH_ready (rs := [6]) (by kernel_rfl) (by simp) ?_
  refine (AllReadyH.cons rfl (fun K hK => ?_) AllReadyH.nil)
  go_simp
  ((with_reducible refine (jab _).mono ?_); rintro e w' ⟨rfl, hb'⟩)
  refine hK.out _ _ (hHeld.keep hb') (fun hHeld => ?_)
  clear hK K
  try simp only [Act.put, List.setIfInBounds_toArray, List.set_cons_zero, List.set_cons_succ]
  refine wpAnyH_take (i := 7) (oi := ?ocaseP00067o) (v := ?ocaseP00067v) ?ocaseP00067h (by kernel_rfl) (by kernel_rfl) (by kernel_rfl) ?ocaseP00067q ?ocaseP00067y hHeld ?ocaseP00067r
  case ocaseP00067h => (simp only [List.getElem?_toArray, List.getElem?_cons_succ, List.getElem?_cons_zero]; rfl)
  case ocaseP00067q => exact fun _ _ _ h => h
  case ocaseP00067y => (refine Or.inl ⟨by first | kernel_rfl | rfl, ?_⟩; intro w hSw; (try dsimp only at hSw); obtain ⟨⟨x0, x1, x2, x3, x4, x5, y0, y1, y2, y3, y4, y5, z0, z1, z2, z3, z4, z5⟩, -⟩ := hSw; go_simp <;> (try with_reducible rfl))
  try simp only [Act.put, List.setIfInBounds_toArray, List.set_cons_zero, List.set_cons_succ]
  refine wpAnyH_done (by kernel_rfl) ?_ _
  go_wp2_with fail
  refine wp_region_held_drew (S := (OHeld w g a b c)) (by kernel_rfl) hHeld.drew (fun hHeld => ?_)
  refine wpAnyH_take (i := 0) (oi := ?ocaseP00071o) (v := ?ocaseP00071v) ?ocaseP00071h (by kernel_rfl) (by kernel_rfl) (by kernel_rfl) ?ocaseP00071q ?ocaseP00071y hHeld ?ocaseP00071r
  case ocaseP00071h => (simp only [List.getElem?_toArray, List.getElem?_cons_zero]; rfl)
  case ocaseP00071q => exact fun _ _ _ h => h
  case ocaseP00071y => (refine Or.inl ⟨by first | kernel_rfl | rfl, ?_⟩; intro w hSw; (try dsimp only at hSw); obtain ⟨⟨x0, x1, x2, x3, x4, x5, y0, y1, y2, y3, y4, y5, z0, z1, z2, z3, z4, z5⟩, -⟩ := hSw; go_simp <;> (try with_reducible rfl))
  try simp only [Act.put, List.setIfInBounds_toArray, List.set_cons_zero, List.set_cons_succ]
  refine wpAnyH_take (i := 1) (oi := ?ocaseP00072o) (v := ?ocaseP00072v) ?ocaseP00072h (by kernel_rfl) (by kernel_rfl) (by kernel_rfl) ?ocaseP00072q ?ocaseP00072y hHeld ?ocaseP00072r
  case ocaseP00072h => (simp only [List.getElem?_toArray, List.getElem?_cons_succ, List.getElem?_cons_zero]; rfl)
  case ocaseP00072q => exact fun _ _ _ h => h
  case ocaseP00072y => (refine Or.inl ⟨by first | kernel_rfl | rfl, ?_⟩; intro w hSw; (try dsimp only at hSw); obtain ⟨⟨x0, x1, x2, x3, x4, x5, y0, y1, y2, y3, y4, y5, z0, z1, z2, z3, z4, z5⟩, -⟩ := hSw; go_simp <;> (try with_reducible rfl))
  try simp only [Act.put, List.setIfInBounds_toArray, List.set_cons_zero, List.set_cons_succ]
  refine wpAnyH_take (i := 2) (oi := ?ocaseP00073o) (v := ?ocaseP00073v) ?ocaseP00073h (by kernel_rfl) (by kernel_rfl) (by kernel_rfl) ?ocaseP00073q ?ocaseP00073y hHeld ?ocaseP00073r
  case ocaseP00073h => (simp only [List.getElem?_toArray, List.getElem?_cons_succ, List.getElem?_cons_zero]; rfl)
  case ocaseP00073q => exact fun _ _ _ h => h
  case ocaseP00073y => (refine Or.inl ⟨by first | kernel_rfl | rfl, ?_⟩; intro w hSw; (try dsimp only at hSw); obtain ⟨⟨x0, x1, x2, x3, x4, x5, y0, y1, y2, y3, y4, y5, z0, z1, z2, z3, z4, z5⟩, -⟩ := hSw; go_simp <;> (try with_reducible rfl))
  try simp only [Act.put, List.setIfInBounds_toArray, List.set_cons_zero, List.set_cons_succ]
  refine wpAnyH_take (i := 3) (oi := ?ocaseP00074o) (v := ?ocaseP00074v) ?ocaseP00074h (by kernel_rfl) (by kernel_rfl) (by kernel_rfl) ?ocaseP00074q ?ocaseP00074y hHeld ?ocaseP00074r
  case ocaseP00074h => (simp only [List.getElem?_toArray, List.getElem?_cons_succ, List.getElem?_cons_zero]; rfl)
  case ocaseP00074q => exact fun _ _ _ h => h
  case ocaseP00074y => (refine Or.inl ⟨by first | kernel_rfl | rfl, ?_⟩; intro w hSw; (try dsimp only at hSw); obtain ⟨⟨x0, x1, x2, x3, x4, x5, y0, y1, y2, y3, y4, y5, z0, z1, z2, z3, z4, z5⟩, -⟩ := hSw; go_simp <;> (try with_reducible rfl))
  try simp only [Act.put, List.setIfInBounds_toArray, List.set_cons_zero, List.set_cons_succ]
  refine wpAnyH_take (i := 4) (oi := ?ocaseP00075o) (v := ?ocaseP00075v) ?ocaseP00075h (by kernel_rfl) (by kernel_rfl) (by kernel_rfl) ?ocaseP00075q ?ocaseP00075y hHeld ?ocaseP00075r
  case ocaseP00075h => (simp only [List.getElem?_toArray, List.getElem?_cons_succ, List.getElem?_cons_zero]; rfl)
  case ocaseP00075q => exact fun _ _ _ h => h
  case ocaseP00075y => (refine Or.inl ⟨by first | kernel_rfl | rfl, ?_⟩; intro w hSw; (try dsimp only at hSw); obtain ⟨⟨x0, x1, x2, x3, x4, x5, y0, y1, y2, y3, y4, y5, z0, z1, z2, z3, z4, z5⟩, -⟩ := hSw; go_simp <;> (try with_reducible rfl))
  try simp only [Act.put, List.setIfInBounds_toArray, List.set_cons_zero, List.set_cons_succ]
  refine wpAnyH_take (i := 5) (oi := ?ocaseP00076o) (v := ?ocaseP00076v) ?ocaseP00076h (by kernel_rfl) (by kernel_rfl) (by kernel_rfl) ?ocaseP00076q ?ocaseP00076y hHeld ?ocaseP00076r
  case ocaseP00076h => (simp only [List.getElem?_toArray, List.getElem?_cons_succ, List.getElem?_cons_zero]; rfl)
  case ocaseP00076q => exact fun _ _ _ h => h
  case ocaseP00076y => (refine Or.inl ⟨by first | kernel_rfl | rfl, ?_⟩; intro w hSw; (try dsimp only at hSw); obtain ⟨⟨x0, x1, x2, x3, x4, x5, y0, y1, y2, y3, y4, y5, z0, z1, z2, z3, z4, z5⟩, -⟩ := hSw; go_simp <;> (try with_reducible rfl))
  try simp only [Act.put, List.setIfInBounds_toArray, List.set_cons_zero, List.set_cons_succ]
  refine wpAnyH_ready (rs := [6]) (by kernel_rfl) (by simp) ?_
  refine (AllReadyH.cons rfl (fun K hK => ?_) AllReadyH.nil)
  go_simp
  ((with_reducible refine (jba _).mono ?_); rintro e w' ⟨rfl, hb'⟩)
  refine hK.out _ _ (hHeld.keep hb') (fun hHeld => ?_)
  clear hK K
  try simp only [Act.put, List.setIfInBounds_toArray, List.set_cons_zero, List.set_cons_succ]
  refine wpAnyH_take (i := 7) (oi := ?ocaseP00077o) (v := ?ocaseP00077v) ?ocaseP00077h (by kernel_rfl) (by kernel_rfl) (by kernel_rfl) ?ocaseP00077q ?ocaseP00077y hHeld ?ocaseP00077r
  case ocaseP00077h => (simp only [List.getElem?_toArray, List.getElem?_cons_succ, List.getElem?_cons_zero]; rfl)
  case ocaseP00077q => exact fun _ _ _ h => h
  case ocaseP00077y => (refine Or.inl ⟨by first | kernel_rfl | rfl, ?_⟩; intro w hSw; (try dsimp only at hSw); obtain ⟨⟨x0, x1, x2, x3, x4, x5, y0, y1, y2, y3, y4, y5, z0, z1, z2, z3, z4, z5⟩, -⟩ := hSw; go_simp <;> (try with_reducible rfl))
  try simp only [Act.put, List.setIfInBounds_toArray, List.set_cons_zero, List.set_cons_succ]
  refine wpAnyH_done (by kernel_rfl) ?_ _
  have H7 := hHeld
  have G := hHeld
  obtain ⟨⟨x0, x1, x2, x3, x4, x5, y0, y1, y2, y3, y4, y5, z0, z1, z2, z3, z4, z5⟩, -⟩ := G
  clear hHeld
  go_wp2_with fail
  go_quiet (fail)
  have HQ := H7.drewN (n := nq)
  skip
  go_wp2_with fail
  refine wp_region_held_drew (S := (OHeld w g a b c)) (by kernel_rfl) HQ.drew (fun hHeld => ?_)
  refine wpAnyH_take (i := 0) (oi := ?ocaseP000101o) (v := ?ocaseP000101v) ?ocaseP000101h (by kernel_rfl) (by kernel_rfl) (by kernel_rfl) ?ocaseP000101q ?ocaseP000101y hHeld ?ocaseP000101r
  case ocaseP000101h => (simp only [List.getElem?_toArray, List.getElem?_cons_zero]; rfl)
  case ocaseP000101q => exact fun _ _ _ h => h
  case ocaseP000101y => (refine Or.inl ⟨by first | kernel_rfl | rfl, ?_⟩; intro w hSw; (try dsimp only at hSw); obtain ⟨⟨x0, x1, x2, x3, x4, x5, y0, y1, y2, y3, y4, y5, z0, z1, z2, z3, z4, z5⟩, -⟩ := hSw; go_simp <;> (try with_reducible rfl))
  try simp only [Act.put, List.setIfInBounds_toArray, List.set_cons_zero, List.set_cons_succ]
  refine wpAnyH_take (i := 1) (oi := ?ocaseP000102o) (v := ?ocaseP000102v) ?ocaseP000102h (by kernel_rfl) (by kernel_rfl) (by kernel_rfl) ?ocaseP000102q ?ocaseP000102y hHeld ?ocaseP000102r
  case ocaseP000102h => (simp only [List.getElem?_toArray, List.getElem?_cons_succ, List.getElem?_cons_zero]; rfl)
  case ocaseP000102q => exact fun _ _ _ h => h
  case ocaseP000102y => (refine Or.inl ⟨by first | kernel_rfl | rfl, ?_⟩; intro w hSw; (try dsimp only at hSw); obtain ⟨⟨x0, x1, x2, x3, x4, x5, y0, y1, y2, y3, y4, y5, z0, z1, z2, z3, z4, z5⟩, -⟩ := hSw; go_simp <;> (try with_reducible rfl))
  try simp only [Act.put, List.setIfInBounds_toArray, List.set_cons_zero, List.set_cons_succ]
  refine wpAnyH_take (i := 2) (oi := ?ocaseP000103o) (v := ?ocaseP000103v) ?ocaseP000103h (by kernel_rfl) (by kernel_rfl) (by kernel_rfl) ?ocaseP000103q ?ocaseP000103y hHeld ?ocaseP000103r
  case ocaseP000103h => (simp only [List.getElem?_toArray, List.getElem?_cons_succ, List.getElem?_cons_zero]; rfl)
  case ocaseP000103q => exact fun _ _ _ h => h
  case ocaseP000103y => (refine Or.inl ⟨by first | kernel_rfl | rfl, ?_⟩; intro w hSw; (try dsimp only at hSw); obtain ⟨⟨x0, x1, x2, x3, x4, x5, y0, y1, y2, y3, y4, y5, z0, z1, z2, z3, z4, z5⟩, -⟩ := hSw; go_simp <;> (try with_reducible rfl))
  try simp only [Act.put, List.setIfInBounds_toArray, List.set_cons_zero, List.set_cons_succ]
  refine wpAnyH_take (i := 3) (oi := ?ocaseP000104o) (v := undef) ?ocaseP000104h (by kernel_rfl) (by kernel_rfl) (by kernel_rfl) ?ocaseP000104q ?ocaseP000104y hHeld ?ocaseP000104r
  case ocaseP000104h => (simp only [List.getElem?_toArray, List.getElem?_cons_succ, List.getElem?_cons_zero]; rfl)
  case ocaseP000104q => exact fun _ _ _ h => h
  case ocaseP000104y => exact Or.inr ⟨by first | kernel_rfl | rfl, rfl⟩
  try simp only [Act.put, List.setIfInBounds_toArray, List.set_cons_zero, List.set_cons_succ]
  refine wpAnyH_take (i := 4) (oi := ?ocaseP000105o) (v := undef) ?ocaseP000105h (by kernel_rfl) (by kernel_rfl) (by kernel_rfl) ?ocaseP000105q ?ocaseP000105y hHeld ?ocaseP000105r
  case ocaseP000105h => (simp only [List.getElem?_toArray, List.getElem?_cons_succ, List.getElem?_cons_zero]; rfl)
  case ocaseP000105q => exact fun _ _ _ h => h
  case ocaseP000105y => exact Or.inr ⟨by first | kernel_rfl | rfl, rfl⟩
  try simp only [Act.put, List.setIfInBounds_toArray, List.set_cons_zero, List.set_cons_succ]
  refine wpAnyH_take (i := 5) (oi := ?ocaseP000106o) (v := undef) ?ocaseP000106h (by kernel_rfl) (by kernel_rfl) (by kernel_rfl) ?ocaseP000106q ?ocaseP000106y hHeld ?ocaseP000106r
  case ocaseP000106h => (simp only [List.getElem?_toArray, List.getElem?_cons_succ, List.getElem?_cons_zero]; rfl)
  case ocaseP000106q => exact fun _ _ _ h => h
  case ocaseP000106y => exact Or.inr ⟨by first | kernel_rfl | rfl, rfl⟩
  try simp only [Act.put, List.setIfInBounds_toArray, List.set_cons_zero, List.set_cons_succ]
  refine wpAnyH_take (i := 6) (oi := ?ocaseP000107o) (v := undef) ?ocaseP000107h (by kernel_rfl) (by kernel_rfl) (by kernel_rfl) ?ocaseP000107q ?ocaseP000107y hHeld ?ocaseP000107r
  case ocaseP000107h => (simp only [List.getElem?_toArray, List.getElem?_cons_succ, List.getElem?_cons_zero]; rfl)
  case ocaseP000107q => exact fun _ _ _ h => h
  case ocaseP000107y => exact Or.inr ⟨by first | kernel_rfl | rfl, rfl⟩
  try simp only [Act.put, List.setIfInBounds_toArray, List.set_cons_zero, List.set_cons_succ]
  refine wpAnyH_take (i := 7) (oi := ?ocaseP000108o) (v := undef) ?ocaseP000108h (by kernel_rfl) (by kernel_rfl) (by kernel_rfl) ?ocaseP000108q ?ocaseP000108y hHeld ?ocaseP000108r
  case ocaseP000108h => (simp only [List.getElem?_toArray, List.getElem?_cons_succ, List.getElem?_cons_zero]; rfl)
  case ocaseP000108q => exact fun _ _ _ h => h
  case ocaseP000108y => exact Or.inr ⟨by first | kernel_rfl | rfl, rfl⟩
  try simp only [Act.put, List.setIfInBounds_toArray, List.set_cons_zero, List.set_cons_succ]
  refine wpAnyH_take (i := 8) (oi := ?ocaseP000109o) (v := undef) ?ocaseP000109h (by kernel_rfl) (by kernel_rfl) (by kernel_rfl) ?ocaseP000109q ?ocaseP000109y hHeld ?ocaseP000109r
  case ocaseP000109h => (simp only [List.getElem?_toArray, List.getElem?_cons_succ, List.getElem?_cons_zero]; rfl)
  case ocaseP000109q => exact fun _ _ _ h => h
  case ocaseP000109y => exact Or.inr ⟨by first | kernel_rfl | rfl, rfl⟩
  try simp only [Act.put, List.setIfInBounds_toArray, List.set_cons_zero, List.set_cons_succ]
  refine wpAnyH_take (i := 9) (oi := ?ocaseP0001010o) (v := undef) ?ocaseP0001010h (by kernel_rfl) (by kernel_rfl) (by kernel_rfl) ?ocaseP0001010q ?ocaseP0001010y hHeld ?ocaseP0001010r
  case ocaseP0001010h => (simp only [List.getElem?_toArray, List.getElem?_cons_succ, List.getElem?_cons_zero]; rfl)
  case ocaseP0001010q => exact fun _ _ _ h => h
  case ocaseP0001010y => exact Or.inr ⟨by first | kernel_rfl | rfl, rfl⟩
  try simp only [Act.put, List.setIfInBounds_toArray, List.set_cons_zero, List.set_cons_succ]
  refine wpAnyH_take (i := 10) (oi := ?ocaseP0001011o) (v := undef) ?ocaseP0001011h (by kernel_rfl) (by kernel_rfl) (by kernel_rfl) ?ocaseP0001011q ?ocaseP0001011y hHeld ?ocaseP0001011r
  case ocaseP0001011h => (simp only [List.getElem?_toArray, List.getElem?_cons_succ, List.getElem?_cons_zero]; rfl)
  case ocaseP0001011q => exact fun _ _ _ h => h
  case ocaseP0001011y => exact Or.inr ⟨by first | kernel_rfl | rfl, rfl⟩
  try simp only [Act.put, List.setIfInBounds_toArray, List.set_cons_zero, List.set_cons_succ]
  refine wpAnyH_take (i := 11) (oi := ?ocaseP0001012o) (v := ?ocaseP0001012v) ?ocaseP0001012h (by kernel_rfl) (by kernel_rfl) (by kernel_rfl) ?ocaseP0001012q ?ocaseP0001012y hHeld ?ocaseP0001012r
  case ocaseP0001012h => (simp only [List.getElem?_toArray, List.getElem?_cons_succ, List.getElem?_cons_zero]; rfl)
  case ocaseP0001012q => exact fun _ _ _ h => h
  case ocaseP0001012y => (refine Or.inl ⟨by first | kernel_rfl | rfl, ?_⟩; intro w hSw; (try dsimp only at hSw); obtain ⟨⟨x0, x1, x2, x3, x4, x5, y0, y1, y2, y3, y4, y5, z0, z1, z2, z3, z4, z5⟩, -⟩ := hSw; go_simp <;> (try with_reducible rfl))
  try simp only [Act.put, List.setIfInBounds_toArray, List.set_cons_zero, List.set_cons_succ]
  refine wpAnyH_take (i := 12) (oi := ?ocaseP0001013o) (v := ?ocaseP0001013v) ?ocaseP0001013h (by kernel_rfl) (by kernel_rfl) (by kernel_rfl) ?ocaseP0001013q ?ocaseP0001013y hHeld ?ocaseP0001013r
  case ocaseP0001013h => (simp only [List.getElem?_toArray, List.getElem?_cons_succ, List.getElem?_cons_zero]; rfl)
  case ocaseP0001013q => exact fun _ _ _ h => h
  case ocaseP0001013y => (refine Or.inl ⟨by first | kernel_rfl | rfl, ?_⟩; intro w hSw; (try dsimp only at hSw); obtain ⟨⟨x0, x1, x2, x3, x4, x5, y0, y1, y2, y3, y4, y5, z0, z1, z2, z3, z4, z5⟩, -⟩ := hSw; go_simp <;> (try with_reducible rfl))
  try simp only [Act.put, List.setIfInBounds_toArray, List.set_cons_zero, List.set_cons_succ]
  refine wpAnyH_take (i := 13) (oi := ?ocaseP0001014o) (v := undef) ?ocaseP0001014h (by kernel_rfl) (by kernel_rfl) (by kernel_rfl) ?ocaseP0001014q ?ocaseP0001014y hHeld ?ocaseP0001014r
  case ocaseP0001014h => (simp only [List.getElem?_toArray, List.getElem?_cons_succ, List.getElem?_cons_zero]; rfl)
  case ocaseP0001014q => exact fun _ _ _ h => h
  case ocaseP0001014y => exact Or.inr ⟨by first | kernel_rfl | rfl, rfl⟩
  try simp only [Act.put, List.setIfInBounds_toArray, List.set_cons_zero, List.set_cons_succ]
  refine wpAnyH_take (i := 14) (oi := ?ocaseP0001015o) (v := undef) ?ocaseP0001015h (by kernel_rfl) (by kernel_rfl) (by kernel_rfl) ?ocaseP0001015q ?ocaseP0001015y hHeld ?ocaseP0001015r
  case ocaseP0001015h => (simp only [List.getElem?_toArray, List.getElem?_cons_succ, List.getElem?_cons_zero]; rfl)
  case ocaseP0001015q => exact fun _ _ _ h => h
  case ocaseP0001015y => exact Or.inr ⟨by first | kernel_rfl | rfl, rfl⟩
  try simp only [Act.put, List.setIfInBounds_toArray, List.set_cons_zero, List.set_cons_succ]
  refine wpAnyH_take (i := 15) (oi := ?ocaseP0001016o) (v := undef) ?ocaseP0001016h (by kernel_rfl) (by kernel_rfl) (by kernel_rfl) ?ocaseP0001016q ?ocaseP0001016y hHeld ?ocaseP0001016r
  case ocaseP0001016h => (simp only [List.getElem?_toArray, List.getElem?_cons_succ, List.getElem?_cons_zero]; rfl)
  case ocaseP0001016q => exact fun _ _ _ h => h
  case ocaseP0001016y => exact Or.inr ⟨by first | kernel_rfl | rfl, rfl⟩
  try simp only [Act.put, List.setIfInBounds_toArray, List.set_cons_zero, List.set_cons_succ]
  refine wpAnyH_take (i := 16) (oi := ?ocaseP0001017o) (v := undef) ?ocaseP0001017h (by kernel_rfl) (by kernel_rfl) (by kernel_rfl) ?ocaseP0001017q ?ocaseP0001017y hHeld ?ocaseP0001017r
  case ocaseP0001017h => (simp only [List.getElem?_toArray, List.getElem?_cons_succ, List.getElem?_cons_zero]; rfl)
  case ocaseP0001017q => exact fun _ _ _ h => h
  case ocaseP0001017y => exact Or.inr ⟨by first | kernel_rfl | rfl, rfl⟩
  try simp only [Act.put, List.setIfInBounds_toArray, List.set_cons_zero, List.set_cons_succ]
  refine wpAnyH_take (i := 17) (oi := ?ocaseP0001018o) (v := undef) ?ocaseP0001018h (by kernel_rfl) (by kernel_rfl) (by kernel_rfl) ?ocaseP0001018q ?ocaseP0001018y hHeld ?ocaseP0001018r
  case ocaseP0001018h => (simp only [List.getElem?_toArray, List.getElem?_cons_succ, List.getElem?_cons_zero]; rfl)
  case ocaseP0001018q => exact fun _ _ _ h => h
  case ocaseP0001018y => exact Or.inr ⟨by first | kernel_rfl | rfl, rfl⟩
  try simp only [Act.put, List.setIfInBounds_toArray, List.set_cons_zero, List.set_cons_succ]
  refine wpAnyH_take (i := 18) (oi := ?ocaseP0001019o) (v := undef) ?ocaseP0001019h (by kernel_rfl) (by kernel_rfl) (by kernel_rfl) ?ocaseP0001019q ?ocaseP0001019y hHeld ?ocaseP0001019r
  case ocaseP0001019h => (simp only [List.getElem?_toArray, List.getElem?_cons_succ, List.getElem?_cons_zero]; rfl)
  case ocaseP0001019q => exact fun _ _ _ h => h
  case ocaseP0001019y => exact Or.inr ⟨by first | kernel_rfl | rfl, rfl⟩
  try simp only [Act.put, List.setIfInBounds_toArray, List.set_cons_zero, List.set_cons_succ]
  refine wpAnyH_take (i := 19) (oi := ?ocaseP0001020o) (v := undef) ?ocaseP0001020h (by kernel_rfl) (by kernel_rfl) (by kernel_rfl) ?ocaseP0001020q ?ocaseP0001020y hHeld ?ocaseP0001020r
  case ocaseP0001020h => (simp only [List.getElem?_toArray, List.getElem?_cons_succ, List.getElem?_cons_zero]; rfl)
  case ocaseP0001020q => exact fun _ _ _ h => h
  case ocaseP0001020y => exact Or.inr ⟨by first | kernel_rfl | rfl, rfl⟩
  try simp only [Act.put, List.setIfInBounds_toArray, List.set_cons_zero, List.set_cons_succ]
  refine wpAnyH_take (i := 20) (oi := ?ocaseP0001021o) (v := ?ocaseP0001021v) ?ocaseP0001021h (by kernel_rfl) (by kernel_rfl) (by kernel_rfl) ?ocaseP0001021q ?ocaseP0001021y hHeld ?ocaseP0001021r
  case ocaseP0001021h => (simp only [List.getElem?_toArray, List.getElem?_cons_succ, List.getElem?_cons_zero]; rfl)
  case ocaseP0001021q => exact fun _ _ _ h => h
  case ocaseP0001021y => (refine Or.inl ⟨by first | kernel_rfl | rfl, ?_⟩; intro w hSw; (try dsimp only at hSw); obtain ⟨⟨x0, x1, x2, x3, x4, x5, y0, y1, y2, y3, y4, y5, z0, z1, z2, z3, z4, z5⟩, -⟩ := hSw; go_simp <;> (try with_reducible rfl))
  try simp only [Act.put, List.setIfInBounds_toArray, List.set_cons_zero, List.set_cons_succ]
  refine wpAnyH_take (i := 21) (oi := ?ocaseP0001022o) (v := ?ocaseP0001022v) ?ocaseP0001022h (by kernel_rfl) (by kernel_rfl) (by kernel_rfl) ?ocaseP0001022q ?ocaseP0001022y hHeld ?ocaseP0001022r
  case ocaseP0001022h => (simp only [List.getElem?_toArray, List.getElem?_cons_succ, List.getElem?_cons_zero]; rfl)
  case ocaseP0001022q => exact fun _ _ _ h => h
  case ocaseP0001022y => (refine Or.inl ⟨by first | kernel_rfl | rfl, ?_⟩; intro w hSw; (try dsimp only at hSw); obtain ⟨⟨x0, x1, x2, x3, x4, x5, y0, y1, y2, y3, y4, y5, z0, z1, z2, z3, z4, z5⟩, -⟩ := hSw; go_simp <;> (try with_reducible rfl))
  try simp only [Act.put, List.setIfInBounds_toArray, List.set_cons_zero, List.set_cons_succ]
  refine wpAnyH_done (by kernel_rfl) ?_ _
  go_wp2_with fail
  refine wp_region_held_drew (S := (OHeld w g a b c)) (by kernel_rfl) hHeld.drew (fun hHeld => ?_)
  refine wpAnyH_take (i := 0) (oi := ?ocaseP000111o) (v := ?ocaseP000111v) ?ocaseP000111h (by kernel_rfl) (by kernel_rfl) (by kernel_rfl) ?ocaseP000111q ?ocaseP000111y hHeld ?ocaseP000111r
  case ocaseP000111h => (simp only [List.getElem?_toArray, List.getElem?_cons_zero]; rfl)
  case ocaseP000111q => exact fun _ _ _ h => h
  case ocaseP000111y => (refine Or.inl ⟨by first | kernel_rfl | rfl, ?_⟩; intro w hSw; (try dsimp only at hSw); obtain ⟨⟨x0, x1, x2, x3, x4, x5, y0, y1, y2, y3, y4, y5, z0, z1, z2, z3, z4, z5⟩, -⟩ := hSw; go_simp <;> (try with_reducible rfl))
  try simp only [Act.put, List.setIfInBounds_toArray, List.set_cons_zero, List.set_cons_succ]
  refine wpAnyH_take (i := 1) (oi := ?ocaseP000112o) (v := ?ocaseP000112v) ?ocaseP000112h (by kernel_rfl) (by kernel_rfl) (by kernel_rfl) ?ocaseP000112q ?ocaseP000112y hHeld ?ocaseP000112r
  case ocaseP000112h => (simp only [List.getElem?_toArray, List.getElem?_cons_succ, List.getElem?_cons_zero]; rfl)
  case ocaseP000112q => exact fun _ _ _ h => h
  case ocaseP000112y => (refine Or.inl ⟨by first | kernel_rfl | rfl, ?_⟩; intro w hSw; (try dsimp only at hSw); obtain ⟨⟨x0, x1, x2, x3, x4, x5, y0, y1, y2, y3, y4, y5, z0, z1, z2, z3, z4, z5⟩, -⟩ := hSw; go_simp <;> (try with_reducible rfl))
  try simp only [Act.put, List.setIfInBounds_toArray, List.set_cons_zero, List.set_cons_succ]
  refine wpAnyH_take (i := 2) (oi := ?ocaseP000113o) (v := ?ocaseP000113v) ?ocaseP000113h (by kernel_rfl) (by kernel_rfl) (by kernel_rfl) ?ocaseP000113q ?ocaseP000113y hHeld ?ocaseP000113r
  case ocaseP000113h => (simp only [List.getElem?_toArray, List.getElem?_cons_succ, List.getElem?_cons_zero]; rfl)
  case ocaseP000113q => exact fun _ _ _ h => h
  case ocaseP000113y => (refine Or.inl ⟨by first | kernel_rfl | rfl, ?_⟩; intro w hSw; (try dsimp only at hSw); obtain ⟨⟨x0, x1, x2, x3, x4, x5, y0, y1, y2, y3, y4, y5, z0, z1, z2, z3, z4, z5⟩, -⟩ := hSw; go_simp <;> (try with_reducible rfl))
  try simp only [Act.put, List.setIfInBounds_toArray, List.set_cons_zero, List.set_cons_succ]
  refine wpAnyH_take (i := 3) (oi := ?ocaseP000114o) (v := undef) ?ocaseP000114h (by kernel_rfl) (by kernel_rfl) (by kernel_rfl) ?ocaseP000114q ?ocaseP000114y hHeld ?ocaseP000114r
  case ocaseP000114h => (simp only [List.getElem?_toArray, List.getElem?_cons_succ, List.getElem?_cons_zero]; rfl)
  case ocaseP000114q => exact fun _ _ _ h => h
  case ocaseP000114y => exact Or.inr ⟨by first | kernel_rfl | rfl, rfl⟩
  try simp only [Act.put, List.setIfInBounds_toArray, List.set_cons_zero, List.set_cons_succ]
  refine wpAnyH_take (i := 4) (oi := ?ocaseP000115o) (v := undef) ?ocaseP000115h (by kernel_rfl) (by kernel_rfl) (by kernel_rfl) ?ocaseP000115q ?ocaseP000115y hHeld ?ocaseP000115r
  case ocaseP000115h => (simp only [List.getElem?_toArray, List.getElem?_cons_succ, List.getElem?_cons_zero]; rfl)
  case ocaseP000115q => exact fun _ _ _ h => h
  case ocaseP000115y => exact Or.inr ⟨by first | kernel_rfl | rfl, rfl⟩
  try simp only [Act.put, List.setIfInBounds_toArray, List.set_cons_zero, List.set_cons_succ]
  refine wpAnyH_take (i := 5) (oi := ?ocaseP000116o) (v := undef) ?ocaseP000116h (by kernel_rfl) (by kernel_rfl) (by kernel_rfl) ?ocaseP000116q ?ocaseP000116y hHeld ?ocaseP000116r
  case ocaseP000116h => (simp only [List.getElem?_toArray, List.getElem?_cons_succ, List.getElem?_cons_zero]; rfl)
  case ocaseP000116q => exact fun _ _ _ h => h
  case ocaseP000116y => exact Or.inr ⟨by first | kernel_rfl | rfl, rfl⟩
  try simp only [Act.put, List.setIfInBounds_toArray, List.set_cons_zero, List.set_cons_succ]
  refine wpAnyH_take (i := 6) (oi := ?ocaseP000117o) (v := undef) ?ocaseP000117h (by kernel_rfl) (by kernel_rfl) (by kernel_rfl) ?ocaseP000117q ?ocaseP000117y hHeld ?ocaseP000117r
  case ocaseP000117h => (simp only [List.getElem?_toArray, List.getElem?_cons_succ, List.getElem?_cons_zero]; rfl)
  case ocaseP000117q => exact fun _ _ _ h => h
  case ocaseP000117y => exact Or.inr ⟨by first | kernel_rfl | rfl, rfl⟩
  try simp only [Act.put, List.setIfInBounds_toArray, List.set_cons_zero, List.set_cons_succ]
  refine wpAnyH_take (i := 7) (oi := ?ocaseP000118o) (v := undef) ?ocaseP000118h (by kernel_rfl) (by kernel_rfl) (by kernel_rfl) ?ocaseP000118q ?ocaseP000118y hHeld ?ocaseP000118r
  case ocaseP000118h => (simp only [List.getElem?_toArray, List.getElem?_cons_succ, List.getElem?_cons_zero]; rfl)
  case ocaseP000118q => exact fun _ _ _ h => h
  case ocaseP000118y => exact Or.inr ⟨by first | kernel_rfl | rfl, rfl⟩
  try simp only [Act.put, List.setIfInBounds_toArray, List.set_cons_zero, List.set_cons_succ]
  refine wpAnyH_take (i := 8) (oi := ?ocaseP000119o) (v := undef) ?ocaseP000119h (by kernel_rfl) (by kernel_rfl) (by kernel_rfl) ?ocaseP000119q ?ocaseP000119y hHeld ?ocaseP000119r
  case ocaseP000119h => (simp only [List.getElem?_toArray, List.getElem?_cons_succ, List.getElem?_cons_zero]; rfl)
  case ocaseP000119q => exact fun _ _ _ h => h
  case ocaseP000119y => exact Or.inr ⟨by first | kernel_rfl | rfl, rfl⟩
  try simp only [Act.put, List.setIfInBounds_toArray, List.set_cons_zero, List.set_cons_succ]
  refine wpAnyH_take (i := 9) (oi := ?ocaseP0001110o) (v := undef) ?ocaseP0001110h (by kernel_rfl) (by kernel_rfl) (by kernel_rfl) ?ocaseP0001110q ?ocaseP0001110y hHeld ?ocaseP0001110r
  case ocaseP0001110h => (simp only [List.getElem?_toArray, List.getElem?_cons_succ, List.getElem?_cons_zero]; rfl)
  case ocaseP0001110q => exact fun _ _ _ h => h
  case ocaseP0001110y => exact Or.inr ⟨by first | kernel_rfl | rfl, rfl⟩
  try simp only [Act.put, List.setIfInBounds_toArray, List.set_cons_zero, List.set_cons_succ]
  refine wpAnyH_take (i := 10) (oi := ?ocaseP0001111o) (v := undef) ?ocaseP0001111h (by kernel_rfl) (by kernel_rfl) (by kernel_rfl) ?ocaseP0001111q ?ocaseP0001111y hHeld ?ocaseP0001111r
  case ocaseP0001111h => (simp only [List.getElem?_toArray, List.getElem?_cons_succ, List.getElem?_cons_zero]; rfl)
  case ocaseP0001111q => exact fun _ _ _ h => h
  case ocaseP0001111y => exact Or.inr ⟨by first | kernel_rfl | rfl, rfl⟩
  try simp only [Act.put, List.setIfInBounds_toArray, List.set_cons_zero, List.set_cons_succ]
  refine wpAnyH_take (i := 11) (oi := ?ocaseP0001112o) (v := ?ocaseP0001112v) ?ocaseP0001112h (by kernel_rfl) (by kernel_rfl) (by kernel_rfl) ?ocaseP0001112q ?ocaseP0001112y hHeld ?ocaseP0001112r
  case ocaseP0001112h => (simp only [List.getElem?_toArray, List.getElem?_cons_succ, List.getElem?_cons_zero]; rfl)
  case ocaseP0001112q => exact fun _ _ _ h => h
  case ocaseP0001112y => (refine Or.inl ⟨by first | kernel_rfl | rfl, ?_⟩; intro w hSw; (try dsimp only at hSw); obtain ⟨⟨x0, x1, x2, x3, x4, x5, y0, y1, y2, y3, y4, y5, z0, z1, z2, z3, z4, z5⟩, -⟩ := hSw; go_simp <;> (try with_reducible rfl))
  try simp only [Act.put, List.setIfInBounds_toArray, List.set_cons_zero, List.set_cons_succ]
  refine wpAnyH_take (i := 12) (oi := ?ocaseP0001113o) (v := ?ocaseP0001113v) ?ocaseP0001113h (by kernel_rfl) (by kernel_rfl) (by kernel_rfl) ?ocaseP0001113q ?ocaseP0001113y hHeld ?ocaseP0001113r
  case ocaseP0001113h => (simp only [List.getElem?_toArray, List.getElem?_cons_succ, List.getElem?_cons_zero]; rfl)
  case ocaseP0001113q => exact fun _ _ _ h => h
  case ocaseP0001113y => (refine Or.inl ⟨by first | kernel_rfl | rfl, ?_⟩; intro w hSw; (try dsimp only at hSw); obtain ⟨⟨x0, x1, x2, x3, x4, x5, y0, y1, y2, y3, y4, y5, z0, z1, z2, z3, z4, z5⟩, -⟩ := hSw; go_simp <;> (try with_reducible rfl))
  try simp only [Act.put, List.setIfInBounds_toArray, List.set_cons_zero, List.set_cons_succ]
  refine wpAnyH_take (i := 13) (oi := ?ocaseP0001114o) (v := undef) ?ocaseP0001114h (by kernel_rfl) (by kernel_rfl) (by kernel_rfl) ?ocaseP0001114q ?ocaseP0001114y hHeld ?ocaseP0001114r
  case ocaseP0001114h => (simp only [List.getElem?_toArray, List.getElem?_cons_succ, List.getElem?_cons_zero]; rfl)
  case ocaseP0001114q => exact fun _ _ _ h => h
  case ocaseP0001114y => exact Or.inr ⟨by first | kernel_rfl | rfl, rfl⟩
  try simp only [Act.put, List.setIfInBounds_toArray, List.set_cons_zero, List.set_cons_succ]
  refine wpAnyH_take (i := 14) (oi := ?ocaseP0001115o) (v := undef) ?ocaseP0001115h (by kernel_rfl) (by kernel_rfl) (by kernel_rfl) ?ocaseP0001115q ?ocaseP0001115y hHeld ?ocaseP0001115r
  case ocaseP0001115h => (simp only [List.getElem?_toArray, List.getElem?_cons_succ, List.getElem?_cons_zero]; rfl)
  case ocaseP0001115q => exact fun _ _ _ h => h
  case ocaseP0001115y => exact Or.inr ⟨by first | kernel_rfl | rfl, rfl⟩
  try simp only [Act.put, List.setIfInBounds_toArray, List.set_cons_zero, List.set_cons_succ]
  refine wpAnyH_take (i := 15) (oi := ?ocaseP0001116o) (v := undef) ?ocaseP0001116h (by kernel_rfl) (by kernel_rfl) (by kernel_rfl) ?ocaseP0001116q ?ocaseP0001116y hHeld ?ocaseP0001116r
  case ocaseP0001116h => (simp only [List.getElem?_toArray, List.getElem?_cons_succ, List.getElem?_cons_zero]; rfl)
  case ocaseP0001116q => exact fun _ _ _ h => h
  case ocaseP0001116y => exact Or.inr ⟨by first | kernel_rfl | rfl, rfl⟩
  try simp only [Act.put, List.setIfInBounds_toArray, List.set_cons_zero, List.set_cons_succ]
  refine wpAnyH_take (i := 16) (oi := ?ocaseP0001117o) (v := undef) ?ocaseP0001117h (by kernel_rfl) (by kernel_rfl) (by kernel_rfl) ?ocaseP0001117q ?ocaseP0001117y hHeld ?ocaseP0001117r
  case ocaseP0001117h => (simp only [List.getElem?_toArray, List.getElem?_cons_succ, List.getElem?_cons_zero]; rfl)
  case ocaseP0001117q => exact fun _ _ _ h => h
  case ocaseP0001117y => exact Or.inr ⟨by first | kernel_rfl | rfl, rfl⟩
  try simp only [Act.put, List.setIfInBounds_toArray, List.set_cons_zero, List.set_cons_succ]
  refine wpAnyH_take (i := 17) (oi := ?ocaseP0001118o) (v := undef) ?ocaseP0001118h (by kernel_rfl) (by kernel_rfl) (by kernel_rfl) ?ocaseP0001118q ?ocaseP0001118y hHeld ?ocaseP0001118r
  case ocaseP0001118h => (simp only [List.getElem?_toArray, List.getElem?_cons_succ, List.getElem?_cons_zero]; rfl)
  case ocaseP0001118q => exact fun _ _ _ h => h
  case ocaseP0001118y => exact Or.inr ⟨by first | kernel_rfl | rfl, rfl⟩
  try simp only [Act.put, List.setIfInBounds_toArray, List.set_cons_zero, List.set_cons_succ]
  refine wpAnyH_take (i := 18) (oi := ?ocaseP0001119o) (v := undef) ?ocaseP0001119h (by kernel_rfl) (by kernel_rfl) (by kernel_rfl) ?ocaseP0001119q ?ocaseP0001119y hHeld ?ocaseP0001119r
  case ocaseP0001119h => (simp only [List.getElem?_toArray, List.getElem?_cons_succ, List.getElem?_cons_zero]; rfl)
  case ocaseP0001119q => exact fun _ _ _ h => h
  case ocaseP0001119y => exact Or.inr ⟨by first | kernel_rfl | rfl, rfl⟩
  try simp only [Act.put, List.setIfInBounds_toArray, List.set_cons_zero, List.set_cons_succ]
  refine wpAnyH_take (i := 19) (oi := ?ocaseP0001120o) (v := undef) ?ocaseP0001120h (by kernel_rfl) (by kernel_rfl) (by kernel_rfl) ?ocaseP0001120q ?ocaseP0001120y hHeld ?ocaseP0001120r
  case ocaseP0001120h => (simp only [List.getElem?_toArray, List.getElem?_cons_succ, List.getElem?_cons_zero]; rfl)
  case ocaseP0001120q => exact fun _ _ _ h => h
  case ocaseP0001120y => exact Or.inr ⟨by first | kernel_rfl | rfl, rfl⟩
  try simp only [Act.put, List.setIfInBounds_toArray, List.set_cons_zero, List.set_cons_succ]
  refine wpAnyH_take (i := 20) (oi := ?ocaseP0001121o) (v := ?ocaseP0001121v) ?ocaseP0001121h (by kernel_rfl) (by kernel_rfl) (by kernel_rfl) ?ocaseP0001121q ?ocaseP0001121y hHeld ?ocaseP0001121r
  case ocaseP0001121h => (simp only [List.getElem?_toArray, List.getElem?_cons_succ, List.getElem?_cons_zero]; rfl)
  case ocaseP0001121q => exact fun _ _ _ h => h
  case ocaseP0001121y => (refine Or.inl ⟨by first | kernel_rfl | rfl, ?_⟩; intro w hSw; (try dsimp only at hSw); obtain ⟨⟨x0, x1, x2, x3, x4, x5, y0, y1, y2, y3, y4, y5, z0, z1, z2, z3, z4, z5⟩, -⟩ := hSw; go_simp <;> (try with_reducible rfl))
  try simp only [Act.put, List.setIfInBounds_toArray, List.set_cons_zero, List.set_cons_succ]
  refine wpAnyH_take (i := 21) (oi := ?ocaseP0001122o) (v := ?ocaseP0001122v) ?ocaseP0001122h (by kernel_rfl) (by kernel_rfl) (by kernel_rfl) ?ocaseP0001122q ?ocaseP0001122y hHeld ?ocaseP0001122r
  case ocaseP0001122h => (simp only [List.getElem?_toArray, List.getElem?_cons_succ, List.getElem?_cons_zero]; rfl)
  case ocaseP0001122q => exact fun _ _ _ h => h
  case ocaseP0001122y => (refine Or.inl ⟨by first | kernel_rfl | rfl, ?_⟩; intro w hSw; (try dsimp only at hSw); obtain ⟨⟨x0, x1, x2, x3, x4, x5, y0, y1, y2, y3, y4, y5, z0, z1, z2, z3, z4, z5⟩, -⟩ := hSw; go_simp <;> (try with_reducible rfl))
  try simp only [Act.put, List.setIfInBounds_toArray, List.set_cons_zero, List.set_cons_succ]
  refine wpAnyH_done (by kernel_rfl) ?_ _
  have hbel := hHeld.bel
  go_wp2
  go_ret
  exact ⟨rfl, hbel⟩
end Go.Proofs.Ytjckphmkhikpaaa.sampleOrder
