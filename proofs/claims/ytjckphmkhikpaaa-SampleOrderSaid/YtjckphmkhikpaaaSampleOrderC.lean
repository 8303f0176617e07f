/- Ways of law SampleOrder. -/
import Derived.Test.YtjckphmkhikpaaaSampleOrderMath
set_option maxRecDepth 20000
namespace Go.Proofs.Ytjckphmkhikpaaa.sampleOrder
open Go.RowKit Go.Proofs.Ytjckphmkhikpaaa Go.Proofs.Ytjckphmkhikpaaa.Vi Go.Proofs.Ytjckphmkhikpaaa.Mk

set_option maxHeartbeats 8000000 in
theorem caseP101 (a b c : Pt) (h1 : a.s = b.s) (h2 : a.t = b.t) (h : b.st.lt a.st = true) (k : b.newer c = true) : Rest a b c := by
  intro a0 b0 c0 w hfew
  have hs := seq_eq h1
  have ht : (a.t == b.t) = true := by simpa using h2
  have kab := fun w => before_is a b false w (Lib.hid (by rw [before_s h1]; exact decide_eq_false (by omega)))
  have kba := fun w => before_is b a false w (Lib.hid (by rw [before_s h1.symm]; exact decide_eq_false (by omega)))
  have jab := fun w => newer_is a b true w (Lib.hid (by rw [newer_same h1 h2]; exact h))
  have jba := fun w => newer_is b a false w (Lib.hid (by rw [newer_same h1.symm h2.symm]; exact St.lt_not h))
  have jbc := fun w => newer_is b c true w (Lib.hid k)
  have jac := fun w => newer_is a c true w (Lib.hid (newer_trans (by rw [newer_same h1 h2]; exact h) k))
  have hne : ¬ a.st = b.st := fun e => by rw [e, St.lt_self] at h; cases h
  have qn : ∀ w, (binOp .neq 23 (.agg #[.int .i64 a.st.c, .int .i64 a.st.s, .int .i64 a.st.q]) (.agg #[.int .i64 b.st.c, .int .i64 b.st.s, .int .i64 b.st.q])).run Try.prog w = .ok (.bool true) w := fun w => by rw [neq_run]; simp [hne]
  unfold ptV at kab kba jab jba jbc jac
  clear h h1 h2 k hne
  have H0a := (PHeld.new w a0).keep (bel_new ((Below.refl _ _).alloc (Nat.le_refl _) (.cells #[.string b0.s, .int .i64 b0.t, .int .i64 b0.v, .int .i64 b0.st.c, .int .i64 b0.st.s, .int .i64 b0.st.q] 34)) (.cells #[.string c0.s, .int .i64 c0.t, .int .i64 c0.v, .int .i64 c0.st.c, .int .i64 c0.st.s, .int .i64 c0.st.q] 34))
  have H0b := (PHeld.new (w.alloc (.cells #[.string a0.s, .int .i64 a0.t, .int .i64 a0.v, .int .i64 a0.st.c, .int .i64 a0.st.s, .int .i64 a0.st.q] 34)) b0).keep ((Below.refl _ _).alloc (Nat.le_refl _) (.cells #[.string c0.s, .int .i64 c0.t, .int .i64 c0.v, .int .i64 c0.st.c, .int .i64 c0.st.s, .int .i64 c0.st.q] 34))
  have H0c := PHeld.new ((w.alloc (.cells #[.string a0.s, .int .i64 a0.t, .int .i64 a0.v, .int .i64 a0.st.c, .int .i64 a0.st.s, .int .i64 a0.st.q] 34)).alloc (.cells #[.string b0.s, .int .i64 b0.t, .int .i64 b0.v, .int .i64 b0.st.c, .int .i64 b0.st.s, .int .i64 b0.st.q] 34)) c0
  simp only [World.size_alloc] at H0b H0c
  have HF := Lib.hid hfew
  unfold ptV
  clear hfew
  go_enter Try.func7, Try.ntmps7
  go_wp2_with (first
    | (go_at_call 9; (with_reducible refine (awake_any _).mono ?_); rintro e w1 ⟨rfl, hb⟩; have Ha := H0a.keep hb; have Hb := H0b.keep hb; have Hc := H0c.keep hb; obtain ⟨⟨x0, x1, x2, x3, x4, x5⟩, -⟩ := Ha; obtain ⟨⟨y0, y1, y2, y3, y4, y5⟩, -⟩ := Hb; obtain ⟨⟨z0, z1, z2, z3, z4, z5⟩, -⟩ := Hc; have HB := H0a.bel.trans (hb.mono (by simp; omega)))
    | (go_at_call 26; (with_reducible refine (few3 a0 b0 c0 _).mono ?_); rintro e w2 ⟨v, rfl, hR, hb2⟩; rw [HF.out] at hR; obtain ⟨g, cap, rfl, hT⟩ := tri_of hR; have HH : OHeld w g a b c w2 := ⟨hT, bel_next (bel_new HB _) hb2⟩))
  clear H0a H0b H0c HB hb2 hb hT hR HF x0 x1 x2 x3 x4 x5 y0 y1 y2 y3 y4 y5 z0 z1 z2 z3 z4 z5
  go_wp2_with fail
  refine wp_region_held_drew (S := (OHeld w g a b c)) (by kernel_rfl) HH.drew (fun hHeld => ?_)
  refine wpAnyH_take (i := 0) (oi := ?ocaseP10131o) (v := ?ocaseP10131v) ?ocaseP10131h (by kernel_rfl) (by kernel_rfl) (by kernel_rfl) ?ocaseP10131q ?ocaseP10131y hHeld ?ocaseP10131r
  case ocaseP10131h => (simp only [List.getElem?_toArray, List.getElem?_cons_zero]; rfl)
  case ocaseP10131q => exact fun _ _ _ h => h
  case ocaseP10131y => (refine Or.inl ⟨by first | kernel_rfl | rfl, ?_⟩; intro w hSw; (try dsimp only at hSw); obtain ⟨⟨x0, x1, x2, x3, x4, x5, y0, y1, y2, y3, y4, y5, z0, z1, z2, z3, z4, z5⟩, -⟩ := hSw; go_simp <;> (try with_reducible rfl))
  try simp only [Act.put, List.setIfInBounds_toArray, List.set_cons_zero, List.set_cons_succ]
  refine wpAnyH_take (i := 1) (oi := ?ocaseP10132o) (v := ?ocaseP10132v) ?ocaseP10132h (by kernel_rfl) (by kernel_rfl) (by kernel_rfl) ?ocaseP10132q ?ocaseP10132y hHeld ?ocaseP10132r
  case ocaseP10132h => (simp only [List.getElem?_toArray, List.getElem?_cons_succ, List.getElem?_cons_zero]; rfl)
  case ocaseP10132q => exact fun _ _ _ h => h
  case ocaseP10132y => (refine Or.inl ⟨by first | kernel_rfl | rfl, ?_⟩; intro w hSw; (try dsimp only at hSw); obtain ⟨⟨x0, x1, x2, x3, x4, x5, y0, y1, y2, y3, y4, y5, z0, z1, z2, z3, z4, z5⟩, -⟩ := hSw; go_simp <;> (try with_reducible rfl))
  try simp only [Act.put, List.setIfInBounds_toArray, List.set_cons_zero, List.set_cons_succ]
  refine wpAnyH_take (i := 2) (oi := ?ocaseP10133o) (v := ?ocaseP10133v) ?ocaseP10133h (by kernel_rfl) (by kernel_rfl) (by kernel_rfl) ?ocaseP10133q ?ocaseP10133y hHeld ?ocaseP10133r
  case ocaseP10133h => (simp only [List.getElem?_toArray, List.getElem?_cons_succ, List.getElem?_cons_zero]; rfl)
  case ocaseP10133q => exact fun _ _ _ h => h
  case ocaseP10133y => (refine Or.inl ⟨by first | kernel_rfl | rfl, ?_⟩; intro w hSw; (try dsimp only at hSw); obtain ⟨⟨x0, x1, x2, x3, x4, x5, y0, y1, y2, y3, y4, y5, z0, z1, z2, z3, z4, z5⟩, -⟩ := hSw; go_simp <;> (try with_reducible rfl))
  try simp only [Act.put, List.setIfInBounds_toArray, List.set_cons_zero, List.set_cons_succ]
  refine wpAnyH_take (i := 3) (oi := ?ocaseP10134o) (v := ?ocaseP10134v) ?ocaseP10134h (by kernel_rfl) (by kernel_rfl) (by kernel_rfl) ?ocaseP10134q ?ocaseP10134y hHeld ?ocaseP10134r
  case ocaseP10134h => (simp only [List.getElem?_toArray, List.getElem?_cons_succ, List.getElem?_cons_zero]; rfl)
  case ocaseP10134q => exact fun _ _ _ h => h
  case ocaseP10134y => (refine Or.inl ⟨by first | kernel_rfl | rfl, ?_⟩; intro w hSw; (try dsimp only at hSw); obtain ⟨⟨x0, x1, x2, x3, x4, x5, y0, y1, y2, y3, y4, y5, z0, z1, z2, z3, z4, z5⟩, -⟩ := hSw; go_simp <;> (try with_reducible rfl))
  try simp only [Act.put, List.setIfInBounds_toArray, List.set_cons_zero, List.set_cons_succ]
  refine wpAnyH_take (i := 4) (oi := ?ocaseP10135o) (v := ?ocaseP10135v) ?ocaseP10135h (by kernel_rfl) (by kernel_rfl) (by kernel_rfl) ?ocaseP10135q ?ocaseP10135y hHeld ?ocaseP10135r
  case ocaseP10135h => (simp only [List.getElem?_toArray, List.getElem?_cons_succ, List.getElem?_cons_zero]; rfl)
  case ocaseP10135q => exact fun _ _ _ h => h
  case ocaseP10135y => (refine Or.inl ⟨by first | kernel_rfl | rfl, ?_⟩; intro w hSw; (try dsimp only at hSw); obtain ⟨⟨x0, x1, x2, x3, x4, x5, y0, y1, y2, y3, y4, y5, z0, z1, z2, z3, z4, z5⟩, -⟩ := hSw; go_simp <;> (try with_reducible rfl))
  try simp only [Act.put, List.setIfInBounds_toArray, List.set_cons_zero, List.set_cons_succ]
  refine wpAnyH_take (i := 5) (oi := ?ocaseP10136o) (v := ?ocaseP10136v) ?ocaseP10136h (by kernel_rfl) (by kernel_rfl) (by kernel_rfl) ?ocaseP10136q ?ocaseP10136y hHeld ?ocaseP10136r
  case ocaseP10136h => (simp only [List.getElem?_toArray, List.getElem?_cons_succ, List.getElem?_cons_zero]; rfl)
  case ocaseP10136q => exact fun _ _ _ h => h
  case ocaseP10136y => (refine Or.inl ⟨by first | kernel_rfl | rfl, ?_⟩; intro w hSw; (try dsimp only at hSw); obtain ⟨⟨x0, x1, x2, x3, x4, x5, y0, y1, y2, y3, y4, y5, z0, z1, z2, z3, z4, z5⟩, -⟩ := hSw; go_simp <;> (try with_reducible rfl))
  try simp only [Act.put, List.setIfInBounds_toArray, List.set_cons_zero, List.set_cons_succ]
  refine wpAnyH_ready (rs := [6]) (by kernel_rfl) (by simp) ?_
  refine (AllReadyH.cons rfl (fun K hK => ?_) AllReadyH.nil)
  go_simp
  ((with_reducible refine (kab _).mono ?_); rintro e w' ⟨rfl, hb'⟩)
  refine hK.out _ _ (hHeld.keep hb') (fun hHeld => ?_)
  clear hK K
  try simp only [Act.put, List.setIfInBounds_toArray, List.set_cons_zero, List.set_cons_succ]
  refine wpAnyH_take (i := 7) (oi := ?ocaseP10137o) (v := ?ocaseP10137v) ?ocaseP10137h (by kernel_rfl) (by kernel_rfl) (by kernel_rfl) ?ocaseP10137q ?ocaseP10137y hHeld ?ocaseP10137r
  case ocaseP10137h => (simp only [List.getElem?_toArray, List.getElem?_cons_succ, List.getElem?_cons_zero]; rfl)
  case ocaseP10137q => exact fun _ _ _ h => h
  case ocaseP10137y => (refine Or.inl ⟨by first | kernel_rfl | rfl, ?_⟩; intro w hSw; (try dsimp only at hSw); obtain ⟨⟨x0, x1, x2, x3, x4, x5, y0, y1, y2, y3, y4, y5, z0, z1, z2, z3, z4, z5⟩, -⟩ := hSw; go_simp <;> (try with_reducible rfl))
  try simp only [Act.put, List.setIfInBounds_toArray, List.set_cons_zero, List.set_cons_succ]
  refine wpAnyH_done (by kernel_rfl) ?_ _
  go_wp2_with fail
  refine wp_region_held_drew (S := (OHeld w g a b c)) (by kernel_rfl) hHeld.drew (fun hHeld => ?_)
  refine wpAnyH_take (i := 0) (oi := ?ocaseP10141o) (v := ?ocaseP10141v) ?ocaseP10141h (by kernel_rfl) (by kernel_rfl) (by kernel_rfl) ?ocaseP10141q ?ocaseP10141y hHeld ?ocaseP10141r
  case ocaseP10141h => (simp only [List.getElem?_toArray, List.getElem?_cons_zero]; rfl)
  case ocaseP10141q => exact fun _ _ _ h => h
  case ocaseP10141y => (refine Or.inl ⟨by first | kernel_rfl | rfl, ?_⟩; intro w hSw; (try dsimp only at hSw); obtain ⟨⟨x0, x1, x2, x3, x4, x5, y0, y1, y2, y3, y4, y5, z0, z1, z2, z3, z4, z5⟩, -⟩ := hSw; go_simp <;> (try with_reducible rfl))
  try simp only [Act.put, List.setIfInBounds_toArray, List.set_cons_zero, List.set_cons_succ]
  refine wpAnyH_take (i := 1) (oi := ?ocaseP10142o) (v := ?ocaseP10142v) ?ocaseP10142h (by kernel_rfl) (by kernel_rfl) (by kernel_rfl) ?ocaseP10142q ?ocaseP10142y hHeld ?ocaseP10142r
  case ocaseP10142h => (simp only [List.getElem?_toArray, List.getElem?_cons_succ, List.getElem?_cons_zero]; rfl)
  case ocaseP10142q => exact fun _ _ _ h => h
  case ocaseP10142y => (refine Or.inl ⟨by first | kernel_rfl | rfl, ?_⟩; intro w hSw; (try dsimp only at hSw); obtain ⟨⟨x0, x1, x2, x3, x4, x5, y0, y1, y2, y3, y4, y5, z0, z1, z2, z3, z4, z5⟩, -⟩ := hSw; go_simp <;> (try with_reducible rfl))
  try simp only [Act.put, List.setIfInBounds_toArray, List.set_cons_zero, List.set_cons_succ]
  refine wpAnyH_take (i := 2) (oi := ?ocaseP10143o) (v := ?ocaseP10143v) ?ocaseP10143h (by kernel_rfl) (by kernel_rfl) (by kernel_rfl) ?ocaseP10143q ?ocaseP10143y hHeld ?ocaseP10143r
  case ocaseP10143h => (simp only [List.getElem?_toArray, List.getElem?_cons_succ, List.getElem?_cons_zero]; rfl)
  case ocaseP10143q => exact fun _ _ _ h => h
  case ocaseP10143y => (refine Or.inl ⟨by first | kernel_rfl | rfl, ?_⟩; intro w hSw; (try dsimp only at hSw); obtain ⟨⟨x0, x1, x2, x3, x4, x5, y0, y1, y2, y3, y4, y5, z0, z1, z2, z3, z4, z5⟩, -⟩ := hSw; go_simp <;> (try with_reducible rfl))
  try simp only [Act.put, List.setIfInBounds_toArray, List.set_cons_zero, List.set_cons_succ]
  refine wpAnyH_take (i := 3) (oi := ?ocaseP10144o) (v := ?ocaseP10144v) ?ocaseP10144h (by kernel_rfl) (by kernel_rfl) (by kernel_rfl) ?ocaseP10144q ?ocaseP10144y hHeld ?ocaseP10144r
  case ocaseP10144h => (simp only [List.getElem?_toArray, List.getElem?_cons_succ, List.getElem?_cons_zero]; rfl)
  case ocaseP10144q => exact fun _ _ _ h => h
  case ocaseP10144y => (refine Or.inl ⟨by first | kernel_rfl | rfl, ?_⟩; intro w hSw; (try dsimp only at hSw); obtain ⟨⟨x0, x1, x2, x3, x4, x5, y0, y1, y2, y3, y4, y5, z0, z1, z2, z3, z4, z5⟩, -⟩ := hSw; go_simp <;> (try with_reducible rfl))
  try simp only [Act.put, List.setIfInBounds_toArray, List.set_cons_zero, List.set_cons_succ]
  refine wpAnyH_take (i := 4) (oi := ?ocaseP10145o) (v := ?ocaseP10145v) ?ocaseP10145h (by kernel_rfl) (by kernel_rfl) (by kernel_rfl) ?ocaseP10145q ?ocaseP10145y hHeld ?ocaseP10145r
  case ocaseP10145h => (simp only [List.getElem?_toArray, List.getElem?_cons_succ, List.getElem?_cons_zero]; rfl)
  case ocaseP10145q => exact fun _ _ _ h => h
  case ocaseP10145y => (refine Or.inl ⟨by first | kernel_rfl | rfl, ?_⟩; intro w hSw; (try dsimp only at hSw); obtain ⟨⟨x0, x1, x2, x3, x4, x5, y0, y1, y2, y3, y4, y5, z0, z1, z2, z3, z4, z5⟩, -⟩ := hSw; go_simp <;> (try with_reducible rfl))
  try simp only [Act.put, List.setIfInBounds_toArray, List.set_cons_zero, List.set_cons_succ]
  refine wpAnyH_take (i := 5) (oi := ?ocaseP10146o) (v := ?ocaseP10146v) ?ocaseP10146h (by kernel_rfl) (by kernel_rfl) (by kernel_rfl) ?ocaseP10146q ?ocaseP10146y hHeld ?ocaseP10146r
  case ocaseP10146h => (simp only [List.getElem?_toArray, List.getElem?_cons_succ, List.getElem?_cons_zero]; rfl)
  case ocaseP10146q => exact fun _ _ _ h => h
  case ocaseP10146y => (refine Or.inl ⟨by first | kernel_rfl | rfl, ?_⟩; intro w hSw; (try dsimp only at hSw); obtain ⟨⟨x0, x1, x2, x3, x4, x5, y0, y1, y2, y3, y4, y5, z0, z1, z2, z3, z4, z5⟩, -⟩ := hSw; go_simp <;> (try with_reducible rfl))
  try simp only [Act.put, List.setIfInBounds_toArray, List.set_cons_zero, List.set_cons_succ]
  refine wpAnyH_ready (rs := [6]) (by kernel_rfl) (by simp) ?_
  refine (AllReadyH.cons rfl (fun K hK => ?_) AllReadyH.nil)
  go_simp
  ((with_reducible refine (kba _).mono ?_); rintro e w' ⟨rfl, hb'⟩)
  refine hK.out _ _ (hHeld.keep hb') (fun hHeld => ?_)
  clear hK K
  try simp only [Act.put, List.setIfInBounds_toArray, List.set_cons_zero, List.set_cons_succ]
  refine wpAnyH_take (i := 7) (oi := ?ocaseP10147o) (v := ?ocaseP10147v) ?ocaseP10147h (by kernel_rfl) (by kernel_rfl) (by kernel_rfl) ?ocaseP10147q ?ocaseP10147y hHeld ?ocaseP10147r
  case ocaseP10147h => (simp only [List.getElem?_toArray, List.getElem?_cons_succ, List.getElem?_cons_zero]; rfl)
  case ocaseP10147q => exact fun _ _ _ h => h
  case ocaseP10147y => (refine Or.inl ⟨by first | kernel_rfl | rfl, ?_⟩; intro w hSw; (try dsimp only at hSw); obtain ⟨⟨x0, x1, x2, x3, x4, x5, y0, y1, y2, y3, y4, y5, z0, z1, z2, z3, z4, z5⟩, -⟩ := hSw; go_simp <;> (try with_reducible rfl))
  try simp only [Act.put, List.setIfInBounds_toArray, List.set_cons_zero, List.set_cons_succ]
  refine wpAnyH_done (by kernel_rfl) ?_ _
  have H4 := hHeld
  have G := hHeld
  obtain ⟨⟨x0, x1, x2, x3, x4, x5, y0, y1, y2, y3, y4, y5, z0, z1, z2, z3, z4, z5⟩, -⟩ := G
  clear hHeld
  go_wp2_with fail
  go_quiet (fail)
  have HP := H4.drewN (n := nq)
  skip
  go_wp2_with fail
  refine wp_region_held_drew (S := (OHeld w g a b c)) (by kernel_rfl) HP.drew (fun hHeld => ?_)
  refine wpAnyH_take (i := 0) (oi := ?ocaseP10161o) (v := ?ocaseP10161v) ?ocaseP10161h (by kernel_rfl) (by kernel_rfl) (by kernel_rfl) ?ocaseP10161q ?ocaseP10161y hHeld ?ocaseP10161r
  case ocaseP10161h => (simp only [List.getElem?_toArray, List.getElem?_cons_zero]; rfl)
  case ocaseP10161q => exact fun _ _ _ h => h
  case ocaseP10161y => (refine Or.inl ⟨by first | kernel_rfl | rfl, ?_⟩; intro w hSw; (try dsimp only at hSw); obtain ⟨⟨x0, x1, x2, x3, x4, x5, y0, y1, y2, y3, y4, y5, z0, z1, z2, z3, z4, z5⟩, -⟩ := hSw; go_simp <;> (try with_reducible rfl))
  try simp only [Act.put, List.setIfInBounds_toArray, List.set_cons_zero, List.set_cons_succ]
  refine wpAnyH_take (i := 1) (oi := ?ocaseP10162o) (v := ?ocaseP10162v) ?ocaseP10162h (by kernel_rfl) (by kernel_rfl) (by kernel_rfl) ?ocaseP10162q ?ocaseP10162y hHeld ?ocaseP10162r
  case ocaseP10162h => (simp only [List.getElem?_toArray, List.getElem?_cons_succ, List.getElem?_cons_zero]; rfl)
  case ocaseP10162q => exact fun _ _ _ h => h
  case ocaseP10162y => (refine Or.inl ⟨by first | kernel_rfl | rfl, ?_⟩; intro w hSw; (try dsimp only at hSw); obtain ⟨⟨x0, x1, x2, x3, x4, x5, y0, y1, y2, y3, y4, y5, z0, z1, z2, z3, z4, z5⟩, -⟩ := hSw; go_simp <;> (try with_reducible rfl))
  try simp only [Act.put, List.setIfInBounds_toArray, List.set_cons_zero, List.set_cons_succ]
  refine wpAnyH_take (i := 2) (oi := ?ocaseP10163o) (v := ?ocaseP10163v) ?ocaseP10163h (by kernel_rfl) (by kernel_rfl) (by kernel_rfl) ?ocaseP10163q ?ocaseP10163y hHeld ?ocaseP10163r
  case ocaseP10163h => (simp only [List.getElem?_toArray, List.getElem?_cons_succ, List.getElem?_cons_zero]; rfl)
  case ocaseP10163q => exact fun _ _ _ h => h
  case ocaseP10163y => (refine Or.inl ⟨by first | kernel_rfl | rfl, ?_⟩; intro w hSw; (try dsimp only at hSw); obtain ⟨⟨x0, x1, x2, x3, x4, x5, y0, y1, y2, y3, y4, y5, z0, z1, z2, z3, z4, z5⟩, -⟩ := hSw; go_simp <;> (try with_reducible rfl))
  try simp only [Act.put, List.setIfInBounds_toArray, List.set_cons_zero, List.set_cons_succ]
  refine wpAnyH_take (i := 3) (oi := ?ocaseP10164o) (v := ?ocaseP10164v) ?ocaseP10164h (by kernel_rfl) (by kernel_rfl) (by kernel_rfl) ?ocaseP10164q ?ocaseP10164y hHeld ?ocaseP10164r
  case ocaseP10164h => (simp only [List.getElem?_toArray, List.getElem?_cons_succ, List.getElem?_cons_zero]; rfl)
  case ocaseP10164q => exact fun _ _ _ h => h
  case ocaseP10164y => (refine Or.inl ⟨by first | kernel_rfl | rfl, ?_⟩; intro w hSw; (try dsimp only at hSw); obtain ⟨⟨x0, x1, x2, x3, x4, x5, y0, y1, y2, y3, y4, y5, z0, z1, z2, z3, z4, z5⟩, -⟩ := hSw; go_simp <;> (try with_reducible rfl))
  try simp only [Act.put, List.setIfInBounds_toArray, List.set_cons_zero, List.set_cons_succ]
  refine wpAnyH_take (i := 4) (oi := ?ocaseP10165o) (v := ?ocaseP10165v) ?ocaseP10165h (by kernel_rfl) (by kernel_rfl) (by kernel_rfl) ?ocaseP10165q ?ocaseP10165y hHeld ?ocaseP10165r
  case ocaseP10165h => (simp only [List.getElem?_toArray, List.getElem?_cons_succ, List.getElem?_cons_zero]; rfl)
  case ocaseP10165q => exact fun _ _ _ h => h
  case ocaseP10165y => (refine Or.inl ⟨by first | kernel_rfl | rfl, ?_⟩; intro w hSw; (try dsimp only at hSw); obtain ⟨⟨x0, x1, x2, x3, x4, x5, y0, y1, y2, y3, y4, y5, z0, z1, z2, z3, z4, z5⟩, -⟩ := hSw; go_simp <;> (try with_reducible rfl))
  try simp only [Act.put, List.setIfInBounds_toArray, List.set_cons_zero, List.set_cons_succ]
  refine wpAnyH_take (i := 5) (oi := ?ocaseP10166o) (v := ?ocaseP10166v) ?ocaseP10166h (by kernel_rfl) (by kernel_rfl) (by kernel_rfl) ?ocaseP10166q ?ocaseP10166y hHeld ?ocaseP10166r
  case ocaseP10166h => (simp only [List.getElem?_toArray, List.getElem?_cons_succ, List.getElem?_cons_zero]; rfl)
  case ocaseP10166q => exact fun _ _ _ h => h
  case ocaseP10166y => (refine Or.inl ⟨by first | kernel_rfl | rfl, ?_⟩; intro w hSw; (try dsimp only at hSw); obtain ⟨⟨x0, x1, x2, x3, x4, x5, y0, y1, y2, y3, y4, y5, z0, z1, z2, z3, z4, z5⟩, -⟩ := hSw; go_simp <;> (try with_reducible rfl))
  try simp only [Act.put, List.setIfInBounds_toArray, List.set_cons_zero, List.set_cons_succ]
  refine wpAnyH_ready (rs := [6]) (by kernel_rfl) (by simp) ?_
  refine (AllReadyH.cons rfl (fun K hK => ?_) AllReadyH.nil)
  go_simp
  ((with_reducible refine (jab _).mono ?_); rintro e w' ⟨rfl, hb'⟩)
  refine hK.out _ _ (hHeld.keep hb') (fun hHeld => ?_)
  clear hK K
  try simp only [Act.put, List.setIfInBounds_toArray, List.set_cons_zero, List.set_cons_succ]
  refine wpAnyH_take (i := 7) (oi := ?ocaseP10167o) (v := ?ocaseP10167v) ?ocaseP10167h (by kernel_rfl) (by kernel_rfl) (by kernel_rfl) ?ocaseP10167q ?ocaseP10167y hHeld ?ocaseP10167r
  case ocaseP10167h => (simp only [List.getElem?_toArray, List.getElem?_cons_succ, List.getElem?_cons_zero]; rfl)
  case ocaseP10167q => exact fun _ _ _ h => h
  case ocaseP10167y => (refine Or.inl ⟨by first | kernel_rfl | rfl, ?_⟩; intro w hSw; (try dsimp only at hSw); obtain ⟨⟨x0, x1, x2, x3, x4, x5, y0, y1, y2, y3, y4, y5, z0, z1, z2, z3, z4, z5⟩, -⟩ := hSw; go_simp <;> (try with_reducible rfl))
  try simp only [Act.put, List.setIfInBounds_toArray, List.set_cons_zero, List.set_cons_succ]
  refine wpAnyH_done (by kernel_rfl) ?_ _
  go_wp2_with fail
  refine wp_region_held_drew (S := (OHeld w g a b c)) (by kernel_rfl) hHeld.drew (fun hHeld => ?_)
  refine wpAnyH_take (i := 0) (oi := ?ocaseP10171o) (v := ?ocaseP10171v) ?ocaseP10171h (by kernel_rfl) (by kernel_rfl) (by kernel_rfl) ?ocaseP10171q ?ocaseP10171y hHeld ?ocaseP10171r
  case ocaseP10171h => (simp only [List.getElem?_toArray, List.getElem?_cons_zero]; rfl)
  case ocaseP10171q => exact fun _ _ _ h => h
  case ocaseP10171y => (refine Or.inl ⟨by first | kernel_rfl | rfl, ?_⟩; intro w hSw; (try dsimp only at hSw); obtain ⟨⟨x0, x1, x2, x3, x4, x5, y0, y1, y2, y3, y4, y5, z0, z1, z2, z3, z4, z5⟩, -⟩ := hSw; go_simp <;> (try with_reducible rfl))
  try simp only [Act.put, List.setIfInBounds_toArray, List.set_cons_zero, List.set_cons_succ]
  refine wpAnyH_take (i := 1) (oi := ?ocaseP10172o) (v := ?ocaseP10172v) ?ocaseP10172h (by kernel_rfl) (by kernel_rfl) (by kernel_rfl) ?ocaseP10172q ?ocaseP10172y hHeld ?ocaseP10172r
  case ocaseP10172h => (simp only [List.getElem?_toArray, List.getElem?_cons_succ, List.getElem?_cons_zero]; rfl)
  case ocaseP10172q => exact fun _ _ _ h => h
  case ocaseP10172y => (refine Or.inl ⟨by first | kernel_rfl | rfl, ?_⟩; intro w hSw; (try dsimp only at hSw); obtain ⟨⟨x0, x1, x2, x3, x4, x5, y0, y1, y2, y3, y4, y5, z0, z1, z2, z3, z4, z5⟩, -⟩ := hSw; go_simp <;> (try with_reducible rfl))
  try simp only [Act.put, List.setIfInBounds_toArray, List.set_cons_zero, List.set_cons_succ]
  refine wpAnyH_take (i := 2) (oi := ?ocaseP10173o) (v := ?ocaseP10173v) ?ocaseP10173h (by kernel_rfl) (by kernel_rfl) (by kernel_rfl) ?ocaseP10173q ?ocaseP10173y hHeld ?ocaseP10173r
  case ocaseP10173h => (simp only [List.getElem?_toArray, List.getElem?_cons_succ, List.getElem?_cons_zero]; rfl)
  case ocaseP10173q => exact fun _ _ _ h => h
  case ocaseP10173y => (refine Or.inl ⟨by first | kernel_rfl | rfl, ?_⟩; intro w hSw; (try dsimp only at hSw); obtain ⟨⟨x0, x1, x2, x3, x4, x5, y0, y1, y2, y3, y4, y5, z0, z1, z2, z3, z4, z5⟩, -⟩ := hSw; go_simp <;> (try with_reducible rfl))
  try simp only [Act.put, List.setIfInBounds_toArray, List.set_cons_zero, List.set_cons_succ]
  refine wpAnyH_take (i := 3) (oi := ?ocaseP10174o) (v := ?ocaseP10174v) ?ocaseP10174h (by kernel_rfl) (by kernel_rfl) (by kernel_rfl) ?ocaseP10174q ?ocaseP10174y hHeld ?ocaseP10174r
  case ocaseP10174h => (simp only [List.getElem?_toArray, List.getElem?_cons_succ, List.getElem?_cons_zero]; rfl)
  case ocaseP10174q => exact fun _ _ _ h => h
  case ocaseP10174y => (refine Or.inl ⟨by first | kernel_rfl | rfl, ?_⟩; intro w hSw; (try dsimp only at hSw); obtain ⟨⟨x0, x1, x2, x3, x4, x5, y0, y1, y2, y3, y4, y5, z0, z1, z2, z3, z4, z5⟩, -⟩ := hSw; go_simp <;> (try with_reducible rfl))
  try simp only [Act.put, List.setIfInBounds_toArray, List.set_cons_zero, List.set_cons_succ]
  refine wpAnyH_take (i := 4) (oi := ?ocaseP10175o) (v := ?ocaseP10175v) ?ocaseP10175h (by kernel_rfl) (by kernel_rfl) (by kernel_rfl) ?ocaseP10175q ?ocaseP10175y hHeld ?ocaseP10175r
  case ocaseP10175h => (simp only [List.getElem?_toArray, List.getElem?_cons_succ, List.getElem?_cons_zero]; rfl)
  case ocaseP10175q => exact fun _ _ _ h => h
  case ocaseP10175y => (refine Or.inl ⟨by first | kernel_rfl | rfl, ?_⟩; intro w hSw; (try dsimp only at hSw); obtain ⟨⟨x0, x1, x2, x3, x4, x5, y0, y1, y2, y3, y4, y5, z0, z1, z2, z3, z4, z5⟩, -⟩ := hSw; go_simp <;> (try with_reducible rfl))
  try simp only [Act.put, List.setIfInBounds_toArray, List.set_cons_zero, List.set_cons_succ]
  refine wpAnyH_take (i := 5) (oi := ?ocaseP10176o) (v := ?ocaseP10176v) ?ocaseP10176h (by kernel_rfl) (by kernel_rfl) (by kernel_rfl) ?ocaseP10176q ?ocaseP10176y hHeld ?ocaseP10176r
  case ocaseP10176h => (simp only [List.getElem?_toArray, List.getElem?_cons_succ, List.getElem?_cons_zero]; rfl)
  case ocaseP10176q => exact fun _ _ _ h => h
  case ocaseP10176y => (refine Or.inl ⟨by first | kernel_rfl | rfl, ?_⟩; intro w hSw; (try dsimp only at hSw); obtain ⟨⟨x0, x1, x2, x3, x4, x5, y0, y1, y2, y3, y4, y5, z0, z1, z2, z3, z4, z5⟩, -⟩ := hSw; go_simp <;> (try with_reducible rfl))
  try simp only [Act.put, List.setIfInBounds_toArray, List.set_cons_zero, List.set_cons_succ]
  refine wpAnyH_ready (rs := [6]) (by kernel_rfl) (by simp) ?_
  refine (AllReadyH.cons rfl (fun K hK => ?_) AllReadyH.nil)
  go_simp
  ((with_reducible refine (jba _).mono ?_); rintro e w' ⟨rfl, hb'⟩)
  refine hK.out _ _ (hHeld.keep hb') (fun hHeld => ?_)
  clear hK K
  try simp only [Act.put, List.setIfInBounds_toArray, List.set_cons_zero, List.set_cons_succ]
  refine wpAnyH_take (i := 7) (oi := ?ocaseP10177o) (v := ?ocaseP10177v) ?ocaseP10177h (by kernel_rfl) (by kernel_rfl) (by kernel_rfl) ?ocaseP10177q ?ocaseP10177y hHeld ?ocaseP10177r
  case ocaseP10177h => (simp only [List.getElem?_toArray, List.getElem?_cons_succ, List.getElem?_cons_zero]; rfl)
  case ocaseP10177q => exact fun _ _ _ h => h
  case ocaseP10177y => (refine Or.inl ⟨by first | kernel_rfl | rfl, ?_⟩; intro w hSw; (try dsimp only at hSw); obtain ⟨⟨x0, x1, x2, x3, x4, x5, y0, y1, y2, y3, y4, y5, z0, z1, z2, z3, z4, z5⟩, -⟩ := hSw; go_simp <;> (try with_reducible rfl))
  try simp only [Act.put, List.setIfInBounds_toArray, List.set_cons_zero, List.set_cons_succ]
  refine wpAnyH_done (by kernel_rfl) ?_ _
  have H7 := hHeld
  have G := hHeld
  obtain ⟨⟨x0, x1, x2, x3, x4, x5, y0, y1, y2, y3, y4, y5, z0, z1, z2, z3, z4, z5⟩, -⟩ := G
  clear hHeld
  go_wp2_with fail
  go_quiet (fail)
  have HQ := H7.drewN (n := nq)
  skip
  go_wp2_with fail
  refine wp_region_held_drew (S := (OHeld w g a b c)) (by kernel_rfl) HQ.drew (fun hHeld => ?_)
  refine wpAnyH_take (i := 0) (oi := ?ocaseP101101o) (v := ?ocaseP101101v) ?ocaseP101101h (by kernel_rfl) (by kernel_rfl) (by kernel_rfl) ?ocaseP101101q ?ocaseP101101y hHeld ?ocaseP101101r
  case ocaseP101101h => (simp only [List.getElem?_toArray, List.getElem?_cons_zero]; rfl)
  case ocaseP101101q => exact fun _ _ _ h => h
  case ocaseP101101y => (refine Or.inl ⟨by first | kernel_rfl | rfl, ?_⟩; intro w hSw; (try dsimp only at hSw); obtain ⟨⟨x0, x1, x2, x3, x4, x5, y0, y1, y2, y3, y4, y5, z0, z1, z2, z3, z4, z5⟩, -⟩ := hSw; go_simp <;> (try with_reducible rfl))
  try simp only [Act.put, List.setIfInBounds_toArray, List.set_cons_zero, List.set_cons_succ]
  refine wpAnyH_take (i := 1) (oi := ?ocaseP101102o) (v := ?ocaseP101102v) ?ocaseP101102h (by kernel_rfl) (by kernel_rfl) (by kernel_rfl) ?ocaseP101102q ?ocaseP101102y hHeld ?ocaseP101102r
  case ocaseP101102h => (simp only [List.getElem?_toArray, List.getElem?_cons_succ, List.getElem?_cons_zero]; rfl)
  case ocaseP101102q => exact fun _ _ _ h => h
  case ocaseP101102y => (refine Or.inl ⟨by first | kernel_rfl | rfl, ?_⟩; intro w hSw; (try dsimp only at hSw); obtain ⟨⟨x0, x1, x2, x3, x4, x5, y0, y1, y2, y3, y4, y5, z0, z1, z2, z3, z4, z5⟩, -⟩ := hSw; go_simp <;> (try with_reducible rfl))
  try simp only [Act.put, List.setIfInBounds_toArray, List.set_cons_zero, List.set_cons_succ]
  refine wpAnyH_take (i := 2) (oi := ?ocaseP101103o) (v := ?ocaseP101103v) ?ocaseP101103h (by kernel_rfl) (by kernel_rfl) (by kernel_rfl) ?ocaseP101103q ?ocaseP101103y hHeld ?ocaseP101103r
  case ocaseP101103h => (simp only [List.getElem?_toArray, List.getElem?_cons_succ, List.getElem?_cons_zero]; rfl)
  case ocaseP101103q => exact fun _ _ _ h => h
  case ocaseP101103y => (refine Or.inl ⟨by first | kernel_rfl | rfl, ?_⟩; intro w hSw; (try dsimp only at hSw); obtain ⟨⟨x0, x1, x2, x3, x4, x5, y0, y1, y2, y3, y4, y5, z0, z1, z2, z3, z4, z5⟩, -⟩ := hSw; go_simp <;> (try with_reducible rfl))
  try simp only [Act.put, List.setIfInBounds_toArray, List.set_cons_zero, List.set_cons_succ]
  refine wpAnyH_take (i := 3) (oi := ?ocaseP101104o) (v := undef) ?ocaseP101104h (by kernel_rfl) (by kernel_rfl) (by kernel_rfl) ?ocaseP101104q ?ocaseP101104y hHeld ?ocaseP101104r
  case ocaseP101104h => (simp only [List.getElem?_toArray, List.getElem?_cons_succ, List.getElem?_cons_zero]; rfl)
  case ocaseP101104q => exact fun _ _ _ h => h
  case ocaseP101104y => exact Or.inr ⟨by first | kernel_rfl | rfl, rfl⟩
  try simp only [Act.put, List.setIfInBounds_toArray, List.set_cons_zero, List.set_cons_succ]
  refine wpAnyH_take (i := 4) (oi := ?ocaseP101105o) (v := undef) ?ocaseP101105h (by kernel_rfl) (by kernel_rfl) (by kernel_rfl) ?ocaseP101105q ?ocaseP101105y hHeld ?ocaseP101105r
  case ocaseP101105h => (simp only [List.getElem?_toArray, List.getElem?_cons_succ, List.getElem?_cons_zero]; rfl)
  case ocaseP101105q => exact fun _ _ _ h => h
  case ocaseP101105y => exact Or.inr ⟨by first | kernel_rfl | rfl, rfl⟩
  try simp only [Act.put, List.setIfInBounds_toArray, List.set_cons_zero, List.set_cons_succ]
  refine wpAnyH_take (i := 5) (oi := ?ocaseP101106o) (v := undef) ?ocaseP101106h (by kernel_rfl) (by kernel_rfl) (by kernel_rfl) ?ocaseP101106q ?ocaseP101106y hHeld ?ocaseP101106r
  case ocaseP101106h => (simp only [List.getElem?_toArray, List.getElem?_cons_succ, List.getElem?_cons_zero]; rfl)
  case ocaseP101106q => exact fun _ _ _ h => h
  case ocaseP101106y => exact Or.inr ⟨by first | kernel_rfl | rfl, rfl⟩
  try simp only [Act.put, List.setIfInBounds_toArray, List.set_cons_zero, List.set_cons_succ]
  refine wpAnyH_take (i := 6) (oi := ?ocaseP101107o) (v := undef) ?ocaseP101107h (by kernel_rfl) (by kernel_rfl) (by kernel_rfl) ?ocaseP101107q ?ocaseP101107y hHeld ?ocaseP101107r
  case ocaseP101107h => (simp only [List.getElem?_toArray, List.getElem?_cons_succ, List.getElem?_cons_zero]; rfl)
  case ocaseP101107q => exact fun _ _ _ h => h
  case ocaseP101107y => exact Or.inr ⟨by first | kernel_rfl | rfl, rfl⟩
  try simp only [Act.put, List.setIfInBounds_toArray, List.set_cons_zero, List.set_cons_succ]
  refine wpAnyH_take (i := 7) (oi := ?ocaseP101108o) (v := undef) ?ocaseP101108h (by kernel_rfl) (by kernel_rfl) (by kernel_rfl) ?ocaseP101108q ?ocaseP101108y hHeld ?ocaseP101108r
  case ocaseP101108h => (simp only [List.getElem?_toArray, List.getElem?_cons_succ, List.getElem?_cons_zero]; rfl)
  case ocaseP101108q => exact fun _ _ _ h => h
  case ocaseP101108y => exact Or.inr ⟨by first | kernel_rfl | rfl, rfl⟩
  try simp only [Act.put, List.setIfInBounds_toArray, List.set_cons_zero, List.set_cons_succ]
  refine wpAnyH_take (i := 8) (oi := ?ocaseP101109o) (v := undef) ?ocaseP101109h (by kernel_rfl) (by kernel_rfl) (by kernel_rfl) ?ocaseP101109q ?ocaseP101109y hHeld ?ocaseP101109r
  case ocaseP101109h => (simp only [List.getElem?_toArray, List.getElem?_cons_succ, List.getElem?_cons_zero]; rfl)
  case ocaseP101109q => exact fun _ _ _ h => h
  case ocaseP101109y => exact Or.inr ⟨by first | kernel_rfl | rfl, rfl⟩
  try simp only [Act.put, List.setIfInBounds_toArray, List.set_cons_zero, List.set_cons_succ]
  refine wpAnyH_take (i := 9) (oi := ?ocaseP1011010o) (v := undef) ?ocaseP1011010h (by kernel_rfl) (by kernel_rfl) (by kernel_rfl) ?ocaseP1011010q ?ocaseP1011010y hHeld ?ocaseP1011010r
  case ocaseP1011010h => (simp only [List.getElem?_toArray, List.getElem?_cons_succ, List.getElem?_cons_zero]; rfl)
  case ocaseP1011010q => exact fun _ _ _ h => h
  case ocaseP1011010y => exact Or.inr ⟨by first | kernel_rfl | rfl, rfl⟩
  try simp only [Act.put, List.setIfInBounds_toArray, List.set_cons_zero, List.set_cons_succ]
  refine wpAnyH_take (i := 10) (oi := ?ocaseP1011011o) (v := undef) ?ocaseP1011011h (by kernel_rfl) (by kernel_rfl) (by kernel_rfl) ?ocaseP1011011q ?ocaseP1011011y hHeld ?ocaseP1011011r
  case ocaseP1011011h => (simp only [List.getElem?_toArray, List.getElem?_cons_succ, List.getElem?_cons_zero]; rfl)
  case ocaseP1011011q => exact fun _ _ _ h => h
  case ocaseP1011011y => exact Or.inr ⟨by first | kernel_rfl | rfl, rfl⟩
  try simp only [Act.put, List.setIfInBounds_toArray, List.set_cons_zero, List.set_cons_succ]
  refine wpAnyH_take (i := 11) (oi := ?ocaseP1011012o) (v := ?ocaseP1011012v) ?ocaseP1011012h (by kernel_rfl) (by kernel_rfl) (by kernel_rfl) ?ocaseP1011012q ?ocaseP1011012y hHeld ?ocaseP1011012r
  case ocaseP1011012h => (simp only [List.getElem?_toArray, List.getElem?_cons_succ, List.getElem?_cons_zero]; rfl)
  case ocaseP1011012q => exact fun _ _ _ h => h
  case ocaseP1011012y => (refine Or.inl ⟨by first | kernel_rfl | rfl, ?_⟩; intro w hSw; (try dsimp only at hSw); obtain ⟨⟨x0, x1, x2, x3, x4, x5, y0, y1, y2, y3, y4, y5, z0, z1, z2, z3, z4, z5⟩, -⟩ := hSw; go_simp <;> (try with_reducible rfl))
  try simp only [Act.put, List.setIfInBounds_toArray, List.set_cons_zero, List.set_cons_succ]
  refine wpAnyH_take (i := 12) (oi := ?ocaseP1011013o) (v := ?ocaseP1011013v) ?ocaseP1011013h (by kernel_rfl) (by kernel_rfl) (by kernel_rfl) ?ocaseP1011013q ?ocaseP1011013y hHeld ?ocaseP1011013r
  case ocaseP1011013h => (simp only [List.getElem?_toArray, List.getElem?_cons_succ, List.getElem?_cons_zero]; rfl)
  case ocaseP1011013q => exact fun _ _ _ h => h
  case ocaseP1011013y => (refine Or.inl ⟨by first | kernel_rfl | rfl, ?_⟩; intro w hSw; (try dsimp only at hSw); obtain ⟨⟨x0, x1, x2, x3, x4, x5, y0, y1, y2, y3, y4, y5, z0, z1, z2, z3, z4, z5⟩, -⟩ := hSw; go_simp <;> (try with_reducible rfl))
  try simp only [Act.put, List.setIfInBounds_toArray, List.set_cons_zero, List.set_cons_succ]
  refine wpAnyH_take (i := 13) (oi := ?ocaseP1011014o) (v := undef) ?ocaseP1011014h (by kernel_rfl) (by kernel_rfl) (by kernel_rfl) ?ocaseP1011014q ?ocaseP1011014y hHeld ?ocaseP1011014r
  case ocaseP1011014h => (simp only [List.getElem?_toArray, List.getElem?_cons_succ, List.getElem?_cons_zero]; rfl)
  case ocaseP1011014q => exact fun _ _ _ h => h
  case ocaseP1011014y => exact Or.inr ⟨by first | kernel_rfl | rfl, rfl⟩
  try simp only [Act.put, List.setIfInBounds_toArray, List.set_cons_zero, List.set_cons_succ]
  refine wpAnyH_take (i := 14) (oi := ?ocaseP1011015o) (v := undef) ?ocaseP1011015h (by kernel_rfl) (by kernel_rfl) (by kernel_rfl) ?ocaseP1011015q ?ocaseP1011015y hHeld ?ocaseP1011015r
  case ocaseP1011015h => (simp only [List.getElem?_toArray, List.getElem?_cons_succ, List.getElem?_cons_zero]; rfl)
  case ocaseP1011015q => exact fun _ _ _ h => h
  case ocaseP1011015y => exact Or.inr ⟨by first | kernel_rfl | rfl, rfl⟩
  try simp only [Act.put, List.setIfInBounds_toArray, List.set_cons_zero, List.set_cons_succ]
  refine wpAnyH_take (i := 15) (oi := ?ocaseP1011016o) (v := undef) ?ocaseP1011016h (by kernel_rfl) (by kernel_rfl) (by kernel_rfl) ?ocaseP1011016q ?ocaseP1011016y hHeld ?ocaseP1011016r
  case ocaseP1011016h => (simp only [List.getElem?_toArray, List.getElem?_cons_succ, List.getElem?_cons_zero]; rfl)
  case ocaseP1011016q => exact fun _ _ _ h => h
  case ocaseP1011016y => exact Or.inr ⟨by first | kernel_rfl | rfl, rfl⟩
  try simp only [Act.put, List.setIfInBounds_toArray, List.set_cons_zero, List.set_cons_succ]
  refine wpAnyH_take (i := 16) (oi := ?ocaseP1011017o) (v := undef) ?ocaseP1011017h (by kernel_rfl) (by kernel_rfl) (by kernel_rfl) ?ocaseP1011017q ?ocaseP1011017y hHeld ?ocaseP1011017r
  case ocaseP1011017h => (simp only [List.getElem?_toArray, List.getElem?_cons_succ, List.getElem?_cons_zero]; rfl)
  case ocaseP1011017q => exact fun _ _ _ h => h
  case ocaseP1011017y => exact Or.inr ⟨by first | kernel_rfl | rfl, rfl⟩
  try simp only [Act.put, List.setIfInBounds_toArray, List.set_cons_zero, List.set_cons_succ]
  refine wpAnyH_take (i := 17) (oi := ?ocaseP1011018o) (v := undef) ?ocaseP1011018h (by kernel_rfl) (by kernel_rfl) (by kernel_rfl) ?ocaseP1011018q ?ocaseP1011018y hHeld ?ocaseP1011018r
  case ocaseP1011018h => (simp only [List.getElem?_toArray, List.getElem?_cons_succ, List.getElem?_cons_zero]; rfl)
  case ocaseP1011018q => exact fun _ _ _ h => h
  case ocaseP1011018y => exact Or.inr ⟨by first | kernel_rfl | rfl, rfl⟩
  try simp only [Act.put, List.setIfInBounds_toArray, List.set_cons_zero, List.set_cons_succ]
  refine wpAnyH_take (i := 18) (oi := ?ocaseP1011019o) (v := undef) ?ocaseP1011019h (by kernel_rfl) (by kernel_rfl) (by kernel_rfl) ?ocaseP1011019q ?ocaseP1011019y hHeld ?ocaseP1011019r
  case ocaseP1011019h => (simp only [List.getElem?_toArray, List.getElem?_cons_succ, List.getElem?_cons_zero]; rfl)
  case ocaseP1011019q => exact fun _ _ _ h => h
  case ocaseP1011019y => exact Or.inr ⟨by first | kernel_rfl | rfl, rfl⟩
  try simp only [Act.put, List.setIfInBounds_toArray, List.set_cons_zero, List.set_cons_succ]
  refine wpAnyH_take (i := 19) (oi := ?ocaseP1011020o) (v := undef) ?ocaseP1011020h (by kernel_rfl) (by kernel_rfl) (by kernel_rfl) ?ocaseP1011020q ?ocaseP1011020y hHeld ?ocaseP1011020r
  case ocaseP1011020h => (simp only [List.getElem?_toArray, List.getElem?_cons_succ, List.getElem?_cons_zero]; rfl)
  case ocaseP1011020q => exact fun _ _ _ h => h
  case ocaseP1011020y => exact Or.inr ⟨by first | kernel_rfl | rfl, rfl⟩
  try simp only [Act.put, List.setIfInBounds_toArray, List.set_cons_zero, List.set_cons_succ]
  refine wpAnyH_take (i := 20) (oi := ?ocaseP1011021o) (v := ?ocaseP1011021v) ?ocaseP1011021h (by kernel_rfl) (by kernel_rfl) (by kernel_rfl) ?ocaseP1011021q ?ocaseP1011021y hHeld ?ocaseP1011021r
  case ocaseP1011021h => (simp only [List.getElem?_toArray, List.getElem?_cons_succ, List.getElem?_cons_zero]; rfl)
  case ocaseP1011021q => exact fun _ _ _ h => h
  case ocaseP1011021y => (refine Or.inl ⟨by first | kernel_rfl | rfl, ?_⟩; intro w hSw; (try dsimp only at hSw); obtain ⟨⟨x0, x1, x2, x3, x4, x5, y0, y1, y2, y3, y4, y5, z0, z1, z2, z3, z4, z5⟩, -⟩ := hSw; go_simp <;> (try with_reducible rfl))
  try simp only [Act.put, List.setIfInBounds_toArray, List.set_cons_zero, List.set_cons_succ]
  refine wpAnyH_take (i := 21) (oi := ?ocaseP1011022o) (v := ?ocaseP1011022v) ?ocaseP1011022h (by kernel_rfl) (by kernel_rfl) (by kernel_rfl) ?ocaseP1011022q ?ocaseP1011022y hHeld ?ocaseP1011022r
  case ocaseP1011022h => (simp only [List.getElem?_toArray, List.getElem?_cons_succ, List.getElem?_cons_zero]; rfl)
  case ocaseP1011022q => exact fun _ _ _ h => h
  case ocaseP1011022y => (refine Or.inl ⟨by first | kernel_rfl | rfl, ?_⟩; intro w hSw; (try dsimp only at hSw); obtain ⟨⟨x0, x1, x2, x3, x4, x5, y0, y1, y2, y3, y4, y5, z0, z1, z2, z3, z4, z5⟩, -⟩ := hSw; go_simp <;> (try with_reducible rfl))
  try simp only [Act.put, List.setIfInBounds_toArray, List.set_cons_zero, List.set_cons_succ]
  refine wpAnyH_done (by kernel_rfl) ?_ _
  go_wp2_with fail
  refine wp_region_held_drew (S := (OHeld w g a b c)) (by kernel_rfl) hHeld.drew (fun hHeld => ?_)
  refine wpAnyH_take (i := 0) (oi := ?ocaseP101111o) (v := ?ocaseP101111v) ?ocaseP101111h (by kernel_rfl) (by kernel_rfl) (by kernel_rfl) ?ocaseP101111q ?ocaseP101111y hHeld ?ocaseP101111r
  case ocaseP101111h => (simp only [List.getElem?_toArray, List.getElem?_cons_zero]; rfl)
  case ocaseP101111q => exact fun _ _ _ h => h
  case ocaseP101111y => (refine Or.inl ⟨by first | kernel_rfl | rfl, ?_⟩; intro w hSw; (try dsimp only at hSw); obtain ⟨⟨x0, x1, x2, x3, x4, x5, y0, y1, y2, y3, y4, y5, z0, z1, z2, z3, z4, z5⟩, -⟩ := hSw; go_simp <;> (try with_reducible rfl))
  try simp only [Act.put, List.setIfInBounds_toArray, List.set_cons_zero, List.set_cons_succ]
  refine wpAnyH_take (i := 1) (oi := ?ocaseP101112o) (v := ?ocaseP101112v) ?ocaseP101112h (by kernel_rfl) (by kernel_rfl) (by kernel_rfl) ?ocaseP101112q ?ocaseP101112y hHeld ?ocaseP101112r
  case ocaseP101112h => (simp only [List.getElem?_toArray, List.getElem?_cons_succ, List.getElem?_cons_zero]; rfl)
  case ocaseP101112q => exact fun _ _ _ h => h
  case ocaseP101112y => (refine Or.inl ⟨by first | kernel_rfl | rfl, ?_⟩; intro w hSw; (try dsimp only at hSw); obtain ⟨⟨x0, x1, x2, x3, x4, x5, y0, y1, y2, y3, y4, y5, z0, z1, z2, z3, z4, z5⟩, -⟩ := hSw; go_simp <;> (try with_reducible rfl))
  try simp only [Act.put, List.setIfInBounds_toArray, List.set_cons_zero, List.set_cons_succ]
  refine wpAnyH_take (i := 2) (oi := ?ocaseP101113o) (v := ?ocaseP101113v) ?ocaseP101113h (by kernel_rfl) (by kernel_rfl) (by kernel_rfl) ?ocaseP101113q ?ocaseP101113y hHeld ?ocaseP101113r
  case ocaseP101113h => (simp only [List.getElem?_toArray, List.getElem?_cons_succ, List.getElem?_cons_zero]; rfl)
  case ocaseP101113q => exact fun _ _ _ h => h
  case ocaseP101113y => (refine Or.inl ⟨by first | kernel_rfl | rfl, ?_⟩; intro w hSw; (try dsimp only at hSw); obtain ⟨⟨x0, x1, x2, x3, x4, x5, y0, y1, y2, y3, y4, y5, z0, z1, z2, z3, z4, z5⟩, -⟩ := hSw; go_simp <;> (try with_reducible rfl))
  try simp only [Act.put, List.setIfInBounds_toArray, List.set_cons_zero, List.set_cons_succ]
  refine wpAnyH_take (i := 3) (oi := ?ocaseP101114o) (v := ?ocaseP101114v) ?ocaseP101114h (by kernel_rfl) (by kernel_rfl) (by kernel_rfl) ?ocaseP101114q ?ocaseP101114y hHeld ?ocaseP101114r
  case ocaseP101114h => (simp only [List.getElem?_toArray, List.getElem?_cons_succ, List.getElem?_cons_zero]; rfl)
  case ocaseP101114q => exact fun _ _ _ h => h
  case ocaseP101114y => (refine Or.inl ⟨by first | kernel_rfl | rfl, ?_⟩; intro w hSw; (try dsimp only at hSw); obtain ⟨⟨x0, x1, x2, x3, x4, x5, y0, y1, y2, y3, y4, y5, z0, z1, z2, z3, z4, z5⟩, -⟩ := hSw; go_simp <;> (try with_reducible rfl))
  try simp only [Act.put, List.setIfInBounds_toArray, List.set_cons_zero, List.set_cons_succ]
  refine wpAnyH_take (i := 4) (oi := ?ocaseP101115o) (v := ?ocaseP101115v) ?ocaseP101115h (by kernel_rfl) (by kernel_rfl) (by kernel_rfl) ?ocaseP101115q ?ocaseP101115y hHeld ?ocaseP101115r
  case ocaseP101115h => (simp only [List.getElem?_toArray, List.getElem?_cons_succ, List.getElem?_cons_zero]; rfl)
  case ocaseP101115q => exact fun _ _ _ h => h
  case ocaseP101115y => (refine Or.inl ⟨by first | kernel_rfl | rfl, ?_⟩; intro w hSw; (try dsimp only at hSw); obtain ⟨⟨x0, x1, x2, x3, x4, x5, y0, y1, y2, y3, y4, y5, z0, z1, z2, z3, z4, z5⟩, -⟩ := hSw; go_simp <;> (try with_reducible rfl))
  try simp only [Act.put, List.setIfInBounds_toArray, List.set_cons_zero, List.set_cons_succ]
  refine wpAnyH_take (i := 5) (oi := ?ocaseP101116o) (v := ?ocaseP101116v) ?ocaseP101116h (by kernel_rfl) (by kernel_rfl) (by kernel_rfl) ?ocaseP101116q ?ocaseP101116y hHeld ?ocaseP101116r
  case ocaseP101116h => (simp only [List.getElem?_toArray, List.getElem?_cons_succ, List.getElem?_cons_zero]; rfl)
  case ocaseP101116q => exact fun _ _ _ h => h
  case ocaseP101116y => (refine Or.inl ⟨by first | kernel_rfl | rfl, ?_⟩; intro w hSw; (try dsimp only at hSw); obtain ⟨⟨x0, x1, x2, x3, x4, x5, y0, y1, y2, y3, y4, y5, z0, z1, z2, z3, z4, z5⟩, -⟩ := hSw; go_simp <;> (try with_reducible rfl))
  try simp only [Act.put, List.setIfInBounds_toArray, List.set_cons_zero, List.set_cons_succ]
  refine wpAnyH_take (i := 6) (oi := ?ocaseP101117o) (v := ?ocaseP101117v) ?ocaseP101117h (by kernel_rfl) (by kernel_rfl) (by kernel_rfl) ?ocaseP101117q ?ocaseP101117y hHeld ?ocaseP101117r
  case ocaseP101117h => (simp only [List.getElem?_toArray, List.getElem?_cons_succ, List.getElem?_cons_zero]; rfl)
  case ocaseP101117q => exact fun _ _ _ h => h
  case ocaseP101117y => (refine Or.inl ⟨by first | kernel_rfl | rfl, ?_⟩; intro w hSw; (try dsimp only at hSw); obtain ⟨⟨x0, x1, x2, x3, x4, x5, y0, y1, y2, y3, y4, y5, z0, z1, z2, z3, z4, z5⟩, -⟩ := hSw; go_simp <;> (try with_reducible rfl))
  try simp only [Act.put, List.setIfInBounds_toArray, List.set_cons_zero, List.set_cons_succ]
  refine wpAnyH_take (i := 7) (oi := ?ocaseP101118o) (v := ?ocaseP101118v) ?ocaseP101118h (by kernel_rfl) (by kernel_rfl) (by kernel_rfl) ?ocaseP101118q ?ocaseP101118y hHeld ?ocaseP101118r
  case ocaseP101118h => (simp only [List.getElem?_toArray, List.getElem?_cons_succ, List.getElem?_cons_zero]; rfl)
  case ocaseP101118q => exact fun _ _ _ h => h
  case ocaseP101118y => (refine Or.inl ⟨by first | kernel_rfl | rfl, ?_⟩; intro w hSw; (try dsimp only at hSw); obtain ⟨⟨x0, x1, x2, x3, x4, x5, y0, y1, y2, y3, y4, y5, z0, z1, z2, z3, z4, z5⟩, -⟩ := hSw; go_simp <;> (try with_reducible rfl))
  try simp only [Act.put, List.setIfInBounds_toArray, List.set_cons_zero, List.set_cons_succ]
  refine wpAnyH_take (i := 8) (oi := ?ocaseP101119o) (v := ?ocaseP101119v) ?ocaseP101119h (by kernel_rfl) (by kernel_rfl) (by kernel_rfl) ?ocaseP101119q ?ocaseP101119y hHeld ?ocaseP101119r
  case ocaseP101119h => (simp only [List.getElem?_toArray, List.getElem?_cons_succ, List.getElem?_cons_zero]; rfl)
  case ocaseP101119q => exact fun _ _ _ h => h
  case ocaseP101119y => (refine Or.inl ⟨by first | kernel_rfl | rfl, ?_⟩; intro w hSw; (try dsimp only at hSw); obtain ⟨⟨x0, x1, x2, x3, x4, x5, y0, y1, y2, y3, y4, y5, z0, z1, z2, z3, z4, z5⟩, -⟩ := hSw; go_simp <;> (try with_reducible rfl))
  try simp only [Act.put, List.setIfInBounds_toArray, List.set_cons_zero, List.set_cons_succ]
  refine wpAnyH_ready (rs := [9]) (by kernel_rfl) (by simp) ?_
  refine (AllReadyH.cons rfl (fun K hK => ?_) AllReadyH.nil)
  go_simp
  ((with_reducible refine (jbc _).mono ?_); rintro e w' ⟨rfl, hb'⟩)
  refine hK.out _ _ (hHeld.keep hb') (fun hHeld => ?_)
  clear hK K
  try simp only [Act.put, List.setIfInBounds_toArray, List.set_cons_zero, List.set_cons_succ]
  refine wpAnyH_take (i := 10) (oi := ?ocaseP1011110o) (v := ?ocaseP1011110v) ?ocaseP1011110h (by kernel_rfl) (by kernel_rfl) (by kernel_rfl) ?ocaseP1011110q ?ocaseP1011110y hHeld ?ocaseP1011110r
  case ocaseP1011110h => (simp only [List.getElem?_toArray, List.getElem?_cons_succ, List.getElem?_cons_zero]; rfl)
  case ocaseP1011110q => exact fun _ _ _ h => h
  case ocaseP1011110y => (refine Or.inl ⟨by first | kernel_rfl | rfl, ?_⟩; intro w hSw; (try dsimp only at hSw); obtain ⟨⟨x0, x1, x2, x3, x4, x5, y0, y1, y2, y3, y4, y5, z0, z1, z2, z3, z4, z5⟩, -⟩ := hSw; go_simp <;> (try with_reducible rfl))
  try simp only [Act.put, List.setIfInBounds_toArray, List.set_cons_zero, List.set_cons_succ]
  refine wpAnyH_take (i := 11) (oi := ?ocaseP1011111o) (v := ?ocaseP1011111v) ?ocaseP1011111h (by kernel_rfl) (by kernel_rfl) (by kernel_rfl) ?ocaseP1011111q ?ocaseP1011111y hHeld ?ocaseP1011111r
  case ocaseP1011111h => (simp only [List.getElem?_toArray, List.getElem?_cons_succ, List.getElem?_cons_zero]; rfl)
  case ocaseP1011111q => exact fun _ _ _ h => h
  case ocaseP1011111y => (refine Or.inl ⟨by first | kernel_rfl | rfl, ?_⟩; intro w hSw; (try dsimp only at hSw); obtain ⟨⟨x0, x1, x2, x3, x4, x5, y0, y1, y2, y3, y4, y5, z0, z1, z2, z3, z4, z5⟩, -⟩ := hSw; go_simp <;> (try with_reducible rfl))
  try simp only [Act.put, List.setIfInBounds_toArray, List.set_cons_zero, List.set_cons_succ]
  refine wpAnyH_take (i := 12) (oi := ?ocaseP1011112o) (v := ?ocaseP1011112v) ?ocaseP1011112h (by kernel_rfl) (by kernel_rfl) (by kernel_rfl) ?ocaseP1011112q ?ocaseP1011112y hHeld ?ocaseP1011112r
  case ocaseP1011112h => (simp only [List.getElem?_toArray, List.getElem?_cons_succ, List.getElem?_cons_zero]; rfl)
  case ocaseP1011112q => exact fun _ _ _ h => h
  case ocaseP1011112y => (refine Or.inl ⟨by first | kernel_rfl | rfl, ?_⟩; intro w hSw; (try dsimp only at hSw); obtain ⟨⟨x0, x1, x2, x3, x4, x5, y0, y1, y2, y3, y4, y5, z0, z1, z2, z3, z4, z5⟩, -⟩ := hSw; go_simp <;> (try with_reducible rfl))
  try simp only [Act.put, List.setIfInBounds_toArray, List.set_cons_zero, List.set_cons_succ]
  refine wpAnyH_take (i := 13) (oi := ?ocaseP1011113o) (v := ?ocaseP1011113v) ?ocaseP1011113h (by kernel_rfl) (by kernel_rfl) (by kernel_rfl) ?ocaseP1011113q ?ocaseP1011113y hHeld ?ocaseP1011113r
  case ocaseP1011113h => (simp only [List.getElem?_toArray, List.getElem?_cons_succ, List.getElem?_cons_zero]; rfl)
  case ocaseP1011113q => exact fun _ _ _ h => h
  case ocaseP1011113y => (refine Or.inl ⟨by first | kernel_rfl | rfl, ?_⟩; intro w hSw; (try dsimp only at hSw); obtain ⟨⟨x0, x1, x2, x3, x4, x5, y0, y1, y2, y3, y4, y5, z0, z1, z2, z3, z4, z5⟩, -⟩ := hSw; go_simp <;> (try with_reducible rfl))
  try simp only [Act.put, List.setIfInBounds_toArray, List.set_cons_zero, List.set_cons_succ]
  refine wpAnyH_take (i := 14) (oi := ?ocaseP1011114o) (v := ?ocaseP1011114v) ?ocaseP1011114h (by kernel_rfl) (by kernel_rfl) (by kernel_rfl) ?ocaseP1011114q ?ocaseP1011114y hHeld ?ocaseP1011114r
  case ocaseP1011114h => (simp only [List.getElem?_toArray, List.getElem?_cons_succ, List.getElem?_cons_zero]; rfl)
  case ocaseP1011114q => exact fun _ _ _ h => h
  case ocaseP1011114y => (refine Or.inl ⟨by first | kernel_rfl | rfl, ?_⟩; intro w hSw; (try dsimp only at hSw); obtain ⟨⟨x0, x1, x2, x3, x4, x5, y0, y1, y2, y3, y4, y5, z0, z1, z2, z3, z4, z5⟩, -⟩ := hSw; go_simp <;> (try with_reducible rfl))
  try simp only [Act.put, List.setIfInBounds_toArray, List.set_cons_zero, List.set_cons_succ]
  refine wpAnyH_take (i := 15) (oi := ?ocaseP1011115o) (v := ?ocaseP1011115v) ?ocaseP1011115h (by kernel_rfl) (by kernel_rfl) (by kernel_rfl) ?ocaseP1011115q ?ocaseP1011115y hHeld ?ocaseP1011115r
  case ocaseP1011115h => (simp only [List.getElem?_toArray, List.getElem?_cons_succ, List.getElem?_cons_zero]; rfl)
  case ocaseP1011115q => exact fun _ _ _ h => h
  case ocaseP1011115y => (refine Or.inl ⟨by first | kernel_rfl | rfl, ?_⟩; intro w hSw; (try dsimp only at hSw); obtain ⟨⟨x0, x1, x2, x3, x4, x5, y0, y1, y2, y3, y4, y5, z0, z1, z2, z3, z4, z5⟩, -⟩ := hSw; go_simp <;> (try with_reducible rfl))
  try simp only [Act.put, List.setIfInBounds_toArray, List.set_cons_zero, List.set_cons_succ]
  refine wpAnyH_take (i := 16) (oi := ?ocaseP1011116o) (v := ?ocaseP1011116v) ?ocaseP1011116h (by kernel_rfl) (by kernel_rfl) (by kernel_rfl) ?ocaseP1011116q ?ocaseP1011116y hHeld ?ocaseP1011116r
  case ocaseP1011116h => (simp only [List.getElem?_toArray, List.getElem?_cons_succ, List.getElem?_cons_zero]; rfl)
  case ocaseP1011116q => exact fun _ _ _ h => h
  case ocaseP1011116y => (refine Or.inl ⟨by first | kernel_rfl | rfl, ?_⟩; intro w hSw; (try dsimp only at hSw); obtain ⟨⟨x0, x1, x2, x3, x4, x5, y0, y1, y2, y3, y4, y5, z0, z1, z2, z3, z4, z5⟩, -⟩ := hSw; go_simp <;> (try with_reducible rfl))
  try simp only [Act.put, List.setIfInBounds_toArray, List.set_cons_zero, List.set_cons_succ]
  refine wpAnyH_take (i := 17) (oi := ?ocaseP1011117o) (v := ?ocaseP1011117v) ?ocaseP1011117h (by kernel_rfl) (by kernel_rfl) (by kernel_rfl) ?ocaseP1011117q ?ocaseP1011117y hHeld ?ocaseP1011117r
  case ocaseP1011117h => (simp only [List.getElem?_toArray, List.getElem?_cons_succ, List.getElem?_cons_zero]; rfl)
  case ocaseP1011117q => exact fun _ _ _ h => h
  case ocaseP1011117y => (refine Or.inl ⟨by first | kernel_rfl | rfl, ?_⟩; intro w hSw; (try dsimp only at hSw); obtain ⟨⟨x0, x1, x2, x3, x4, x5, y0, y1, y2, y3, y4, y5, z0, z1, z2, z3, z4, z5⟩, -⟩ := hSw; go_simp <;> (try with_reducible rfl))
  try simp only [Act.put, List.setIfInBounds_toArray, List.set_cons_zero, List.set_cons_succ]
  refine wpAnyH_take (i := 18) (oi := ?ocaseP1011118o) (v := ?ocaseP1011118v) ?ocaseP1011118h (by kernel_rfl) (by kernel_rfl) (by kernel_rfl) ?ocaseP1011118q ?ocaseP1011118y hHeld ?ocaseP1011118r
  case ocaseP1011118h => (simp only [List.getElem?_toArray, List.getElem?_cons_succ, List.getElem?_cons_zero]; rfl)
  case ocaseP1011118q => exact fun _ _ _ h => h
  case ocaseP1011118y => (refine Or.inl ⟨by first | kernel_rfl | rfl, ?_⟩; intro w hSw; (try dsimp only at hSw); obtain ⟨⟨x0, x1, x2, x3, x4, x5, y0, y1, y2, y3, y4, y5, z0, z1, z2, z3, z4, z5⟩, -⟩ := hSw; go_simp <;> (try with_reducible rfl))
  try simp only [Act.put, List.setIfInBounds_toArray, List.set_cons_zero, List.set_cons_succ]
  refine wpAnyH_ready (rs := [19]) (by kernel_rfl) (by simp) ?_
  refine (AllReadyH.cons rfl (fun K hK => ?_) AllReadyH.nil)
  go_simp
  ((with_reducible refine (jac _).mono ?_); rintro e w' ⟨rfl, hb'⟩)
  refine hK.out _ _ (hHeld.keep hb') (fun hHeld => ?_)
  clear hK K
  try simp only [Act.put, List.setIfInBounds_toArray, List.set_cons_zero, List.set_cons_succ]
  refine wpAnyH_take (i := 20) (oi := ?ocaseP1011119o) (v := ?ocaseP1011119v) ?ocaseP1011119h (by kernel_rfl) (by kernel_rfl) (by kernel_rfl) ?ocaseP1011119q ?ocaseP1011119y hHeld ?ocaseP1011119r
  case ocaseP1011119h => (simp only [List.getElem?_toArray, List.getElem?_cons_succ, List.getElem?_cons_zero]; rfl)
  case ocaseP1011119q => exact fun _ _ _ h => h
  case ocaseP1011119y => (refine Or.inl ⟨by first | kernel_rfl | rfl, ?_⟩; intro w hSw; (try dsimp only at hSw); obtain ⟨⟨x0, x1, x2, x3, x4, x5, y0, y1, y2, y3, y4, y5, z0, z1, z2, z3, z4, z5⟩, -⟩ := hSw; go_simp <;> (try with_reducible rfl))
  try simp only [Act.put, List.setIfInBounds_toArray, List.set_cons_zero, List.set_cons_succ]
  refine wpAnyH_take (i := 21) (oi := ?ocaseP1011120o) (v := ?ocaseP1011120v) ?ocaseP1011120h (by kernel_rfl) (by kernel_rfl) (by kernel_rfl) ?ocaseP1011120q ?ocaseP1011120y hHeld ?ocaseP1011120r
  case ocaseP1011120h => (simp only [List.getElem?_toArray, List.getElem?_cons_succ, List.getElem?_cons_zero]; rfl)
  case ocaseP1011120q => exact fun _ _ _ h => h
  case ocaseP1011120y => (refine Or.inl ⟨by first | kernel_rfl | rfl, ?_⟩; intro w hSw; (try dsimp only at hSw); obtain ⟨⟨x0, x1, x2, x3, x4, x5, y0, y1, y2, y3, y4, y5, z0, z1, z2, z3, z4, z5⟩, -⟩ := hSw; go_simp <;> (try with_reducible rfl))
  try simp only [Act.put, List.setIfInBounds_toArray, List.set_cons_zero, List.set_cons_succ]
  refine wpAnyH_done (by kernel_rfl) ?_ _
  have hbel := hHeld.bel
  go_wp2
  go_ret
  exact ⟨rfl, hbel⟩

set_option maxHeartbeats 8000000 in
theorem caseP100 (a b c : Pt) (h1 : a.s = b.s) (h2 : a.t = b.t) (h : b.st.lt a.st = true) (k : b.newer c = false) : Rest a b c := by
  intro a0 b0 c0 w hfew
  have hs := seq_eq h1
  have ht : (a.t == b.t) = true := by simpa using h2
  have kab := fun w => before_is a b false w (Lib.hid (by rw [before_s h1]; exact decide_eq_false (by omega)))
  have kba := fun w => before_is b a false w (Lib.hid (by rw [before_s h1.symm]; exact decide_eq_false (by omega)))
  have jab := fun w => newer_is a b true w (Lib.hid (by rw [newer_same h1 h2]; exact h))
  have jba := fun w => newer_is b a false w (Lib.hid (by rw [newer_same h1.symm h2.symm]; exact St.lt_not h))
  have jbc := fun w => newer_is b c false w (Lib.hid k)
  have hne : ¬ a.st = b.st := fun e => by rw [e, St.lt_self] at h; cases h
  have qn : ∀ w, (binOp .neq 23 (.agg #[.int .i64 a.st.c, .int .i64 a.st.s, .int .i64 a.st.q]) (.agg #[.int .i64 b.st.c, .int .i64 b.st.s, .int .i64 b.st.q])).run Try.prog w = .ok (.bool true) w := fun w => by rw [neq_run]; simp [hne]
  unfold ptV at kab kba jab jba jbc 
  clear h h1 h2 k hne
  have H0a := (PHeld.new w a0).keep (bel_new ((Below.refl _ _).alloc (Nat.le_refl _) (.cells #[.string b0.s, .int .i64 b0.t, .int .i64 b0.v, .int .i64 b0.st.c, .int .i64 b0.st.s, .int .i64 b0.st.q] 34)) (.cells #[.string c0.s, .int .i64 c0.t, .int .i64 c0.v, .int .i64 c0.st.c, .int .i64 c0.st.s, .int .i64 c0.st.q] 34))
  have H0b := (PHeld.new (w.alloc (.cells #[.string a0.s, .int .i64 a0.t, .int .i64 a0.v, .int .i64 a0.st.c, .int .i64 a0.st.s, .int .i64 a0.st.q] 34)) b0).keep ((Below.refl _ _).alloc (Nat.le_refl _) (.cells #[.string c0.s, .int .i64 c0.t, .int .i64 c0.v, .int .i64 c0.st.c, .int .i64 c0.st.s, .int .i64 c0.st.q] 34))
  have H0c := PHeld.new ((w.alloc (.cells #[.string a0.s, .int .i64 a0.t, .int .i64 a0.v, .int .i64 a0.st.c, .int .i64 a0.st.s, .int .i64 a0.st.q] 34)).alloc (.cells #[.string b0.s, .int .i64 b0.t, .int .i64 b0.v, .int .i64 b0.st.c, .int .i64 b0.st.s, .int .i64 b0.st.q] 34)) c0
  simp only [World.size_alloc] at H0b H0c
  have HF := Lib.hid hfew
  unfold ptV
  clear hfew
  go_enter Try.func7, Try.ntmps7
  go_wp2_with (first
    | (go_at_call 9; (with_reducible refine (awake_any _).mono ?_); rintro e w1 ⟨rfl, hb⟩; have Ha := H0a.keep hb; have Hb := H0b.keep hb; have Hc := H0c.keep hb; obtain ⟨⟨x0, x1, x2, x3, x4, x5⟩, -⟩ := Ha; obtain ⟨⟨y0, y1, y2, y3, y4, y5⟩, -⟩ := Hb; obtain ⟨⟨z0, z1, z2, z3, z4, z5⟩, -⟩ := Hc; have HB := H0a.bel.trans (hb.mono (by simp; omega)))
    | (go_at_call 26; (with_reducible refine (few3 a0 b0 c0 _).mono ?_); rintro e w2 ⟨v, rfl, hR, hb2⟩; rw [HF.out] at hR; obtain ⟨g, cap, rfl, hT⟩ := tri_of hR; have HH : OHeld w g a b c w2 := ⟨hT, bel_next (bel_new HB _) hb2⟩))
  clear H0a H0b H0c HB hb2 hb hT hR HF x0 x1 x2 x3 x4 x5 y0 y1 y2 y3 y4 y5 z0 z1 z2 z3 z4 z5
  go_wp2_with fail
  refine wp_region_held_drew (S := (OHeld w g a b c)) (by kernel_rfl) HH.drew (fun hHeld => ?_)
  refine wpAnyH_take (i := 0) (oi := ?ocaseP10031o) (v := ?ocaseP10031v) ?ocaseP10031h (by kernel_rfl) (by kernel_rfl) (by kernel_rfl) ?ocaseP10031q ?ocaseP10031y hHeld ?ocaseP10031r
  case ocaseP10031h => (simp only [List.getElem?_toArray, List.getElem?_cons_zero]; rfl)
  case ocaseP10031q => exact fun _ _ _ h => h
  case ocaseP10031y => (refine Or.inl ⟨by first | kernel_rfl | rfl, ?_⟩; intro w hSw; (try dsimp only at hSw); obtain ⟨⟨x0, x1, x2, x3, x4, x5, y0, y1, y2, y3, y4, y5, z0, z1, z2, z3, z4, z5⟩, -⟩ := hSw; go_simp <;> (try with_reducible rfl))
  try simp only [Act.put, List.setIfInBounds_toArray, List.set_cons_zero, List.set_cons_succ]
  refine wpAnyH_take (i := 1) (oi := ?ocaseP10032o) (v := ?ocaseP10032v) ?ocaseP10032h (by kernel_rfl) (by kernel_rfl) (by kernel_rfl) ?ocaseP10032q ?ocaseP10032y hHeld ?ocaseP10032r
  case ocaseP10032h => (simp only [List.getElem?_toArray, List.getElem?_cons_succ, List.getElem?_cons_zero]; rfl)
  case ocaseP10032q => exact fun _ _ _ h => h
  case ocaseP10032y => (refine Or.inl ⟨by first | kernel_rfl | rfl, ?_⟩; intro w hSw; (try dsimp only at hSw); obtain ⟨⟨x0, x1, x2, x3, x4, x5, y0, y1, y2, y3, y4, y5, z0, z1, z2, z3, z4, z5⟩, -⟩ := hSw; go_simp <;> (try with_reducible rfl))
  try simp only [Act.put, List.setIfInBounds_toArray, List.set_cons_zero, List.set_cons_succ]
  refine wpAnyH_take (i := 2) (oi := ?ocaseP10033o) (v := ?ocaseP10033v) ?ocaseP10033h (by kernel_rfl) (by kernel_rfl) (by kernel_rfl) ?ocaseP10033q ?ocaseP10033y hHeld ?ocaseP10033r
  case ocaseP10033h => (simp only [List.getElem?_toArray, List.getElem?_cons_succ, List.getElem?_cons_zero]; rfl)
  case ocaseP10033q => exact fun _ _ _ h => h
  case ocaseP10033y => (refine Or.inl ⟨by first | kernel_rfl | rfl, ?_⟩; intro w hSw; (try dsimp only at hSw); obtain ⟨⟨x0, x1, x2, x3, x4, x5, y0, y1, y2, y3, y4, y5, z0, z1, z2, z3, z4, z5⟩, -⟩ := hSw; go_simp <;> (try with_reducible rfl))
  try simp only [Act.put, List.setIfInBounds_toArray, List.set_cons_zero, List.set_cons_succ]
  refine wpAnyH_take (i := 3) (oi := ?ocaseP10034o) (v := ?ocaseP10034v) ?ocaseP10034h (by kernel_rfl) (by kernel_rfl) (by kernel_rfl) ?ocaseP10034q ?ocaseP10034y hHeld ?ocaseP10034r
  case ocaseP10034h => (simp only [List.getElem?_toArray, List.getElem?_cons_succ, List.getElem?_cons_zero]; rfl)
  case ocaseP10034q => exact fun _ _ _ h => h
  case ocaseP10034y => (refine Or.inl ⟨by first | kernel_rfl | rfl, ?_⟩; intro w hSw; (try dsimp only at hSw); obtain ⟨⟨x0, x1, x2, x3, x4, x5, y0, y1, y2, y3, y4, y5, z0, z1, z2, z3, z4, z5⟩, -⟩ := hSw; go_simp <;> (try with_reducible rfl))
  try simp only [Act.put, List.setIfInBounds_toArray, List.set_cons_zero, List.set_cons_succ]
  refine wpAnyH_take (i := 4) (oi := ?ocaseP10035o) (v := ?ocaseP10035v) ?ocaseP10035h (by kernel_rfl) (by kernel_rfl) (by kernel_rfl) ?ocaseP10035q ?ocaseP10035y hHeld ?ocaseP10035r
  case ocaseP10035h => (simp only [List.getElem?_toArray, List.getElem?_cons_succ, List.getElem?_cons_zero]; rfl)
  case ocaseP10035q => exact fun _ _ _ h => h
  case ocaseP10035y => (refine Or.inl ⟨by first | kernel_rfl | rfl, ?_⟩; intro w hSw; (try dsimp only at hSw); obtain ⟨⟨x0, x1, x2, x3, x4, x5, y0, y1, y2, y3, y4, y5, z0, z1, z2, z3, z4, z5⟩, -⟩ := hSw; go_simp <;> (try with_reducible rfl))
  try simp only [Act.put, List.setIfInBounds_toArray, List.set_cons_zero, List.set_cons_succ]
  refine wpAnyH_take (i := 5) (oi := ?ocaseP10036o) (v := ?ocaseP10036v) ?ocaseP10036h (by kernel_rfl) (by kernel_rfl) (by kernel_rfl) ?ocaseP10036q ?ocaseP10036y hHeld ?ocaseP10036r
  case ocaseP10036h => (simp only [List.getElem?_toArray, List.getElem?_cons_succ, List.getElem?_cons_zero]; rfl)
  case ocaseP10036q => exact fun _ _ _ h => h
  case ocaseP10036y => (refine Or.inl ⟨by first | kernel_rfl | rfl, ?_⟩; intro w hSw; (try dsimp only at hSw); obtain ⟨⟨x0, x1, x2, x3, x4, x5, y0, y1, y2, y3, y4, y5, z0, z1, z2, z3, z4, z5⟩, -⟩ := hSw; go_simp <;> (try with_reducible rfl))
  try simp only [Act.put, List.setIfInBounds_toArray, List.set_cons_zero, List.set_cons_succ]
  refine wpAnyH_ready (rs := [6]) (by kernel_rfl) (by simp) ?_
  refine (AllReadyH.cons rfl (fun K hK => ?_) AllReadyH.nil)
  go_simp
  ((with_reducible refine (kab _).mono ?_); rintro e w' ⟨rfl, hb'⟩)
  refine hK.out _ _ (hHeld.keep hb') (fun hHeld => ?_)
  clear hK K
  try simp only [Act.put, List.setIfInBounds_toArray, List.set_cons_zero, List.set_cons_succ]
  refine wpAnyH_take (i := 7) (oi := ?ocaseP10037o) (v := ?ocaseP10037v) ?ocaseP10037h (by kernel_rfl) (by kernel_rfl) (by kernel_rfl) ?ocaseP10037q ?ocaseP10037y hHeld ?ocaseP10037r
  case ocaseP10037h => (simp only [List.getElem?_toArray, List.getElem?_cons_succ, List.getElem?_cons_zero]; rfl)
  case ocaseP10037q => exact fun _ _ _ h => h
  case ocaseP10037y => (refine Or.inl ⟨by first | kernel_rfl | rfl, ?_⟩; intro w hSw; (try dsimp only at hSw); obtain ⟨⟨x0, x1, x2, x3, x4, x5, y0, y1, y2, y3, y4, y5, z0, z1, z2, z3, z4, z5⟩, -⟩ := hSw; go_simp <;> (try with_reducible rfl))
  try simp only [Act.put, List.setIfInBounds_toArray, List.set_cons_zero, List.set_cons_succ]
  refine wpAnyH_done (by kernel_rfl) ?_ _
  go_wp2_with fail
  refine wp_region_held_drew (S := (OHeld w g a b c)) (by kernel_rfl) hHeld.drew (fun hHeld => ?_)
  refine wpAnyH_take (i := 0) (oi := ?ocaseP10041o) (v := ?ocaseP10041v) ?ocaseP10041h (by kernel_rfl) (by kernel_rfl) (by kernel_rfl) ?ocaseP10041q ?ocaseP10041y hHeld ?ocaseP10041r
  case ocaseP10041h => (simp only [List.getElem?_toArray, List.getElem?_cons_zero]; rfl)
  case ocaseP10041q => exact fun _ _ _ h => h
  case ocaseP10041y => (refine Or.inl ⟨by first | kernel_rfl | rfl, ?_⟩; intro w hSw; (try dsimp only at hSw); obtain ⟨⟨x0, x1, x2, x3, x4, x5, y0, y1, y2, y3, y4, y5, z0, z1, z2, z3, z4, z5⟩, -⟩ := hSw; go_simp <;> (try with_reducible rfl))
  try simp only [Act.put, List.setIfInBounds_toArray, List.set_cons_zero, List.set_cons_succ]
  refine wpAnyH_take (i := 1) (oi := ?ocaseP10042o) (v := ?ocaseP10042v) ?ocaseP10042h (by kernel_rfl) (by kernel_rfl) (by kernel_rfl) ?ocaseP10042q ?ocaseP10042y hHeld ?ocaseP10042r
  case ocaseP10042h => (simp only [List.getElem?_toArray, List.getElem?_cons_succ, List.getElem?_cons_zero]; rfl)
  case ocaseP10042q => exact fun _ _ _ h => h
  case ocaseP10042y => (refine Or.inl ⟨by first | kernel_rfl | rfl, ?_⟩; intro w hSw; (try dsimp only at hSw); obtain ⟨⟨x0, x1, x2, x3, x4, x5, y0, y1, y2, y3, y4, y5, z0, z1, z2, z3, z4, z5⟩, -⟩ := hSw; go_simp <;> (try with_reducible rfl))
  try simp only [Act.put, List.setIfInBounds_toArray, List.set_cons_zero, List.set_cons_succ]
  refine wpAnyH_take (i := 2) (oi := ?ocaseP10043o) (v := ?ocaseP10043v) ?ocaseP10043h (by kernel_rfl) (by kernel_rfl) (by kernel_rfl) ?ocaseP10043q ?ocaseP10043y hHeld ?ocaseP10043r
  case ocaseP10043h => (simp only [List.getElem?_toArray, List.getElem?_cons_succ, List.getElem?_cons_zero]; rfl)
  case ocaseP10043q => exact fun _ _ _ h => h
  case ocaseP10043y => (refine Or.inl ⟨by first | kernel_rfl | rfl, ?_⟩; intro w hSw; (try dsimp only at hSw); obtain ⟨⟨x0, x1, x2, x3, x4, x5, y0, y1, y2, y3, y4, y5, z0, z1, z2, z3, z4, z5⟩, -⟩ := hSw; go_simp <;> (try with_reducible rfl))
  try simp only [Act.put, List.setIfInBounds_toArray, List.set_cons_zero, List.set_cons_succ]
  refine wpAnyH_take (i := 3) (oi := ?ocaseP10044o) (v := ?ocaseP10044v) ?ocaseP10044h (by kernel_rfl) (by kernel_rfl) (by kernel_rfl) ?ocaseP10044q ?ocaseP10044y hHeld ?ocaseP10044r
  case ocaseP10044h => (simp only [List.getElem?_toArray, List.getElem?_cons_succ, List.getElem?_cons_zero]; rfl)
  case ocaseP10044q => exact fun _ _ _ h => h
  case ocaseP10044y => (refine Or.inl ⟨by first | kernel_rfl | rfl, ?_⟩; intro w hSw; (try dsimp only at hSw); obtain ⟨⟨x0, x1, x2, x3, x4, x5, y0, y1, y2, y3, y4, y5, z0, z1, z2, z3, z4, z5⟩, -⟩ := hSw; go_simp <;> (try with_reducible rfl))
  try simp only [Act.put, List.setIfInBounds_toArray, List.set_cons_zero, List.set_cons_succ]
  refine wpAnyH_take (i := 4) (oi := ?ocaseP10045o) (v := ?ocaseP10045v) ?ocaseP10045h (by kernel_rfl) (by kernel_rfl) (by kernel_rfl) ?ocaseP10045q ?ocaseP10045y hHeld ?ocaseP10045r
  case ocaseP10045h => (simp only [List.getElem?_toArray, List.getElem?_cons_succ, List.getElem?_cons_zero]; rfl)
  case ocaseP10045q => exact fun _ _ _ h => h
  case ocaseP10045y => (refine Or.inl ⟨by first | kernel_rfl | rfl, ?_⟩; intro w hSw; (try dsimp only at hSw); obtain ⟨⟨x0, x1, x2, x3, x4, x5, y0, y1, y2, y3, y4, y5, z0, z1, z2, z3, z4, z5⟩, -⟩ := hSw; go_simp <;> (try with_reducible rfl))
  try simp only [Act.put, List.setIfInBounds_toArray, List.set_cons_zero, List.set_cons_succ]
  refine wpAnyH_take (i := 5) (oi := ?ocaseP10046o) (v := ?ocaseP10046v) ?ocaseP10046h (by kernel_rfl) (by kernel_rfl) (by kernel_rfl) ?ocaseP10046q ?ocaseP10046y hHeld ?ocaseP10046r
  case ocaseP10046h => (simp only [List.getElem?_toArray, List.getElem?_cons_succ, List.getElem?_cons_zero]; rfl)
  case ocaseP10046q => exact fun _ _ _ h => h
  case ocaseP10046y => (refine Or.inl ⟨by first | kernel_rfl | rfl, ?_⟩; intro w hSw; (try dsimp only at hSw); obtain ⟨⟨x0, x1, x2, x3, x4, x5, y0, y1, y2, y3, y4, y5, z0, z1, z2, z3, z4, z5⟩, -⟩ := hSw; go_simp <;> (try with_reducible rfl))
  try simp only [Act.put, List.setIfInBounds_toArray, List.set_cons_zero, List.set_cons_succ]
  refine wpAnyH_ready (rs := [6]) (by kernel_rfl) (by simp) ?_
  refine (AllReadyH.cons rfl (fun K hK => ?_) AllReadyH.nil)
  go_simp
  ((with_reducible refine (kba _).mono ?_); rintro e w' ⟨rfl, hb'⟩)
  refine hK.out _ _ (hHeld.keep hb') (fun hHeld => ?_)
  clear hK K
  try simp only [Act.put, List.setIfInBounds_toArray, List.set_cons_zero, List.set_cons_succ]
  refine wpAnyH_take (i := 7) (oi := ?ocaseP10047o) (v := ?ocaseP10047v) ?ocaseP10047h (by kernel_rfl) (by kernel_rfl) (by kernel_rfl) ?ocaseP10047q ?ocaseP10047y hHeld ?ocaseP10047r
  case ocaseP10047h => (simp only [List.getElem?_toArray, List.getElem?_cons_succ, List.getElem?_cons_zero]; rfl)
  case ocaseP10047q => exact fun _ _ _ h => h
  case ocaseP10047y => (refine Or.inl ⟨by first | kernel_rfl | rfl, ?_⟩; intro w hSw; (try dsimp only at hSw); obtain ⟨⟨x0, x1, x2, x3, x4, x5, y0, y1, y2, y3, y4, y5, z0, z1, z2, z3, z4, z5⟩, -⟩ := hSw; go_simp <;> (try with_reducible rfl))
  try simp only [Act.put, List.setIfInBounds_toArray, List.set_cons_zero, List.set_cons_succ]
  refine wpAnyH_done (by kernel_rfl) ?_ _
  have H4 := hHeld
  have G := hHeld
  obtain ⟨⟨x0, x1, x2, x3, x4, x5, y0, y1, y2, y3, y4, y5, z0, z1, z2, z3, z4, z5⟩, -⟩ := G
  clear hHeld
  go_wp2_with fail
  go_quiet (fail)
  have HP := H4.drewN (n := nq)
  skip
  go_wp2_with fail
  refine wp_region_held_drew (S := (OHeld w g a b c)) (by kernel_rfl) HP.drew (fun hHeld => ?_)
  refine wpAnyH_take (i := 0) (oi := ?ocaseP10061o) (v := ?ocaseP10061v) ?ocaseP10061h (by kernel_rfl) (by kernel_rfl) (by kernel_rfl) ?ocaseP10061q ?ocaseP10061y hHeld ?ocaseP10061r
  case ocaseP10061h => (simp only [List.getElem?_toArray, List.getElem?_cons_zero]; rfl)
  case ocaseP10061q => exact fun _ _ _ h => h
  case ocaseP10061y => (refine Or.inl ⟨by first | kernel_rfl | rfl, ?_⟩; intro w hSw; (try dsimp only at hSw); obtain ⟨⟨x0, x1, x2, x3, x4, x5, y0, y1, y2, y3, y4, y5, z0, z1, z2, z3, z4, z5⟩, -⟩ := hSw; go_simp <;> (try with_reducible rfl))
  try simp only [Act.put, List.setIfInBounds_toArray, List.set_cons_zero, List.set_cons_succ]
  refine wpAnyH_take (i := 1) (oi := ?ocaseP10062o) (v := ?ocaseP10062v) ?ocaseP10062h (by kernel_rfl) (by kernel_rfl) (by kernel_rfl) ?ocaseP10062q ?ocaseP10062y hHeld ?ocaseP10062r
  case ocaseP10062h => (simp only [List.getElem?_toArray, List.getElem?_cons_succ, List.getElem?_cons_zero]; rfl)
  case ocaseP10062q => exact fun _ _ _ h => h
  case ocaseP10062y => (refine Or.inl ⟨by first | kernel_rfl | rfl, ?_⟩; intro w hSw; (try dsimp only at hSw); obtain ⟨⟨x0, x1, x2, x3, x4, x5, y0, y1, y2, y3, y4, y5, z0, z1, z2, z3, z4, z5⟩, -⟩ := hSw; go_simp <;> (try with_reducible rfl))
  try simp only [Act.put, List.setIfInBounds_toArray, List.set_cons_zero, List.set_cons_succ]
  refine wpAnyH_take (i := 2) (oi := ?ocaseP10063o) (v := ?ocaseP10063v) ?ocaseP10063h (by kernel_rfl) (by kernel_rfl) (by kernel_rfl) ?ocaseP10063q ?ocaseP10063y hHeld ?ocaseP10063r
  case ocaseP10063h => (simp only [List.getElem?_toArray, List.getElem?_cons_succ, List.getElem?_cons_zero]; rfl)
  case ocaseP10063q => exact fun _ _ _ h => h
  case ocaseP10063y => (refine Or.inl ⟨by first | kernel_rfl | rfl, ?_⟩; intro w hSw; (try dsimp only at hSw); obtain ⟨⟨x0, x1, x2, x3, x4, x5, y0, y1, y2, y3, y4, y5, z0, z1, z2, z3, z4, z5⟩, -⟩ := hSw; go_simp <;> (try with_reducible rfl))
  try simp only [Act.put, List.setIfInBounds_toArray, List.set_cons_zero, List.set_cons_succ]
  refine wpAnyH_take (i := 3) (oi := ?ocaseP10064o) (v := ?ocaseP10064v) ?ocaseP10064h (by kernel_rfl) (by kernel_rfl) (by kernel_rfl) ?ocaseP10064q ?ocaseP10064y hHeld ?ocaseP10064r
  case ocaseP10064h => (simp only [List.getElem?_toArray, List.getElem?_cons_succ, List.getElem?_cons_zero]; rfl)
  case ocaseP10064q => exact fun _ _ _ h => h
  case ocaseP10064y => (refine Or.inl ⟨by first | kernel_rfl | rfl, ?_⟩; intro w hSw; (try dsimp only at hSw); obtain ⟨⟨x0, x1, x2, x3, x4, x5, y0, y1, y2, y3, y4, y5, z0, z1, z2, z3, z4, z5⟩, -⟩ := hSw; go_simp <;> (try with_reducible rfl))
  try simp only [Act.put, List.setIfInBounds_toArray, List.set_cons_zero, List.set_cons_succ]
  refine wpAnyH_take (i := 4) (oi := ?ocaseP10065o) (v := ?ocaseP10065v) ?ocaseP10065h (by kernel_rfl) (by kernel_rfl) (by kernel_rfl) ?ocaseP10065q ?ocaseP10065y hHeld ?ocaseP10065r
  case ocaseP10065h => (simp only [List.getElem?_toArray, List.getElem?_cons_succ, List.getElem?_cons_zero]; rfl)
  case ocaseP10065q => exact fun _ _ _ h => h
  case ocaseP10065y => (refine Or.inl ⟨by first | kernel_rfl | rfl, ?_⟩; intro w hSw; (try dsimp only at hSw); obtain ⟨⟨x0, x1, x2, x3, x4, x5, y0, y1, y2, y3, y4, y5, z0, z1, z2, z3, z4, z5⟩, -⟩ := hSw; go_simp <;> (try with_reducible rfl))
  try simp only [Act.put, List.setIfInBounds_toArray, List.set_cons_zero, List.set_cons_succ]
  refine wpAnyH_take (i := 5) (oi := ?ocaseP10066o) (v := ?ocaseP10066v) ?ocaseP10066h (by kernel_rfl) (by kernel_rfl) (by kernel_rfl) ?ocaseP10066q ?ocaseP10066y hHeld ?ocaseP10066r
  case ocaseP10066h => (simp only [List.getElem?_toArray, List.getElem?_cons_succ, List.getElem?_cons_zero]; rfl)
  case ocaseP10066q => exact fun _ _ _ h => h
  case ocaseP10066y => (refine Or.inl ⟨by first | kernel_rfl | rfl, ?_⟩; intro w hSw; (try dsimp only at hSw); obtain ⟨⟨x0, x1, x2, x3, x4, x5, y0, y1, y2, y3, y4, y5, z0, z1, z2, z3, z4, z5⟩, -⟩ := hSw; go_simp <;> (try with_reducible rfl))
  try simp only [Act.put, List.setIfInBounds_toArray, List.set_cons_zero, List.set_cons_succ]
  refine wpAnyH_ready (rs := [6]) (by kernel_rfl) (by simp) ?_
  refine (AllReadyH.cons rfl (fun K hK => ?_) AllReadyH.nil)
  go_simp
  ((with_reducible refine (jab _).mono ?_); rintro e w' ⟨rfl, hb'⟩)
  refine hK.out _ _ (hHeld.keep hb') (fun hHeld => ?_)
  clear hK K
  try simp only [Act.put, List.setIfInBounds_toArray, List.set_cons_zero, List.set_cons_succ]
  refine wpAnyH_take (i := 7) (oi := ?ocaseP10067o) (v := ?ocaseP10067v) ?ocaseP10067h (by kernel_rfl) (by kernel_rfl) (by kernel_rfl) ?ocaseP10067q ?ocaseP10067y hHeld ?ocaseP10067r
  case ocaseP10067h => (simp only [List.getElem?_toArray, List.getElem?_cons_succ, List.getElem?_cons_zero]; rfl)
  case ocaseP10067q => exact fun _ _ _ h => h
  case ocaseP10067y => (refine Or.inl ⟨by first | kernel_rfl | rfl, ?_⟩; intro w hSw; (try dsimp only at hSw); obtain ⟨⟨x0, x1, x2, x3, x4, x5, y0, y1, y2, y3, y4, y5, z0, z1, z2, z3, z4, z5⟩, -⟩ := hSw; go_simp <;> (try with_reducible rfl))
  try simp only [Act.put, List.setIfInBounds_toArray, List.set_cons_zero, List.set_cons_succ]
  refine wpAnyH_done (by kernel_rfl) ?_ _
  go_wp2_with fail
  refine wp_region_held_drew (S := (OHeld w g a b c)) (by kernel_rfl) hHeld.drew (fun hHeld => ?_)
  refine wpAnyH_take (i := 0) (oi := ?ocaseP10071o) (v := ?ocaseP10071v) ?ocaseP10071h (by kernel_rfl) (by kernel_rfl) (by kernel_rfl) ?ocaseP10071q ?ocaseP10071y hHeld ?ocaseP10071r
  case ocaseP10071h => (simp only [List.getElem?_toArray, List.getElem?_cons_zero]; rfl)
  case ocaseP10071q => exact fun _ _ _ h => h
  case ocaseP10071y => (refine Or.inl ⟨by first | kernel_rfl | rfl, ?_⟩; intro w hSw; (try dsimp only at hSw); obtain ⟨⟨x0, x1, x2, x3, x4, x5, y0, y1, y2, y3, y4, y5, z0, z1, z2, z3, z4, z5⟩, -⟩ := hSw; go_simp <;> (try with_reducible rfl))
  try simp only [Act.put, List.setIfInBounds_toArray, List.set_cons_zero, List.set_cons_succ]
  refine wpAnyH_take (i := 1) (oi := ?ocaseP10072o) (v := ?ocaseP10072v) ?ocaseP10072h (by kernel_rfl) (by kernel_rfl) (by kernel_rfl) ?ocaseP10072q ?ocaseP10072y hHeld ?ocaseP10072r
  case ocaseP10072h => (simp only [List.getElem?_toArray, List.getElem?_cons_succ, List.getElem?_cons_zero]; rfl)
  case ocaseP10072q => exact fun _ _ _ h => h
  case ocaseP10072y => (refine Or.inl ⟨by first | kernel_rfl | rfl, ?_⟩; intro w hSw; (try dsimp only at hSw); obtain ⟨⟨x0, x1, x2, x3, x4, x5, y0, y1, y2, y3, y4, y5, z0, z1, z2, z3, z4, z5⟩, -⟩ := hSw; go_simp <;> (try with_reducible rfl))
  try simp only [Act.put, List.setIfInBounds_toArray, List.set_cons_zero, List.set_cons_succ]
  refine wpAnyH_take (i := 2) (oi := ?ocaseP10073o) (v := ?ocaseP10073v) ?ocaseP10073h (by kernel_rfl) (by kernel_rfl) (by kernel_rfl) ?ocaseP10073q ?ocaseP10073y hHeld ?ocaseP10073r
  case ocaseP10073h => (simp only [List.getElem?_toArray, List.getElem?_cons_succ, List.getElem?_cons_zero]; rfl)
  case ocaseP10073q => exact fun _ _ _ h => h
  case ocaseP10073y => (refine Or.inl ⟨by first | kernel_rfl | rfl, ?_⟩; intro w hSw; (try dsimp only at hSw); obtain ⟨⟨x0, x1, x2, x3, x4, x5, y0, y1, y2, y3, y4, y5, z0, z1, z2, z3, z4, z5⟩, -⟩ := hSw; go_simp <;> (try with_reducible rfl))
  try simp only [Act.put, List.setIfInBounds_toArray, List.set_cons_zero, List.set_cons_succ]
  refine wpAnyH_take (i := 3) (oi := ?ocaseP10074o) (v := ?ocaseP10074v) ?ocaseP10074h (by kernel_rfl) (by kernel_rfl) (by kernel_rfl) ?ocaseP10074q ?ocaseP10074y hHeld ?ocaseP10074r
  case ocaseP10074h => (simp only [List.getElem?_toArray, List.getElem?_cons_succ, List.getElem?_cons_zero]; rfl)
  case ocaseP10074q => exact fun _ _ _ h => h
  case ocaseP10074y => (refine Or.inl ⟨by first | kernel_rfl | rfl, ?_⟩; intro w hSw; (try dsimp only at hSw); obtain ⟨⟨x0, x1, x2, x3, x4, x5, y0, y1, y2, y3, y4, y5, z0, z1, z2, z3, z4, z5⟩, -⟩ := hSw; go_simp <;> (try with_reducible rfl))
  try simp only [Act.put, List.setIfInBounds_toArray, List.set_cons_zero, List.set_cons_succ]
  refine wpAnyH_take (i := 4) (oi := ?ocaseP10075o) (v := ?ocaseP10075v) ?ocaseP10075h (by kernel_rfl) (by kernel_rfl) (by kernel_rfl) ?ocaseP10075q ?ocaseP10075y hHeld ?ocaseP10075r
  case ocaseP10075h => (simp only [List.getElem?_toArray, List.getElem?_cons_succ, List.getElem?_cons_zero]; rfl)
  case ocaseP10075q => exact fun _ _ _ h => h
  case ocaseP10075y => (refine Or.inl ⟨by first | kernel_rfl | rfl, ?_⟩; intro w hSw; (try dsimp only at hSw); obtain ⟨⟨x0, x1, x2, x3, x4, x5, y0, y1, y2, y3, y4, y5, z0, z1, z2, z3, z4, z5⟩, -⟩ := hSw; go_simp <;> (try with_reducible rfl))
  try simp only [Act.put, List.setIfInBounds_toArray, List.set_cons_zero, List.set_cons_succ]
  refine wpAnyH_take (i := 5) (oi := ?ocaseP10076o) (v := ?ocaseP10076v) ?ocaseP10076h (by kernel_rfl) (by kernel_rfl) (by kernel_rfl) ?ocaseP10076q ?ocaseP10076y hHeld ?ocaseP10076r
  case ocaseP10076h => (simp only [List.getElem?_toArray, List.getElem?_cons_succ, List.getElem?_cons_zero]; rfl)
  case ocaseP10076q => exact fun _ _ _ h => h
  case ocaseP10076y => (refine Or.inl ⟨by first | kernel_rfl | rfl, ?_⟩; intro w hSw; (try dsimp only at hSw); obtain ⟨⟨x0, x1, x2, x3, x4, x5, y0, y1, y2, y3, y4, y5, z0, z1, z2, z3, z4, z5⟩, -⟩ := hSw; go_simp <;> (try with_reducible rfl))
  try simp only [Act.put, List.setIfInBounds_toArray, List.set_cons_zero, List.set_cons_succ]
  refine wpAnyH_ready (rs := [6]) (by kernel_rfl) (by simp) ?_
  refine (AllReadyH.cons rfl (fun K hK => ?_) AllReadyH.nil)
  go_simp
  ((with_reducible refine (jba _).mono ?_); rintro e w' ⟨rfl, hb'⟩)
  refine hK.out _ _ (hHeld.keep hb') (fun hHeld => ?_)
  clear hK K
  try simp only [Act.put, List.setIfInBounds_toArray, List.set_cons_zero, List.set_cons_succ]
  refine wpAnyH_take (i := 7) (oi := ?ocaseP10077o) (v := ?ocaseP10077v) ?ocaseP10077h (by kernel_rfl) (by kernel_rfl) (by kernel_rfl) ?ocaseP10077q ?ocaseP10077y hHeld ?ocaseP10077r
  case ocaseP10077h => (simp only [List.getElem?_toArray, List.getElem?_cons_succ, List.getElem?_cons_zero]; rfl)
  case ocaseP10077q => exact fun _ _ _ h => h
  case ocaseP10077y => (refine Or.inl ⟨by first | kernel_rfl | rfl, ?_⟩; intro w hSw; (try dsimp only at hSw); obtain ⟨⟨x0, x1, x2, x3, x4, x5, y0, y1, y2, y3, y4, y5, z0, z1, z2, z3, z4, z5⟩, -⟩ := hSw; go_simp <;> (try with_reducible rfl))
  try simp only [Act.put, List.setIfInBounds_toArray, List.set_cons_zero, List.set_cons_succ]
  refine wpAnyH_done (by kernel_rfl) ?_ _
  have H7 := hHeld
  have G := hHeld
  obtain ⟨⟨x0, x1, x2, x3, x4, x5, y0, y1, y2, y3, y4, y5, z0, z1, z2, z3, z4, z5⟩, -⟩ := G
  clear hHeld
  go_wp2_with fail
  go_quiet (fail)
  have HQ := H7.drewN (n := nq)
  skip
  go_wp2_with fail
  refine wp_region_held_drew (S := (OHeld w g a b c)) (by kernel_rfl) HQ.drew (fun hHeld => ?_)
  refine wpAnyH_take (i := 0) (oi := ?ocaseP100101o) (v := ?ocaseP100101v) ?ocaseP100101h (by kernel_rfl) (by kernel_rfl) (by kernel_rfl) ?ocaseP100101q ?ocaseP100101y hHeld ?ocaseP100101r
  case ocaseP100101h => (simp only [List.getElem?_toArray, List.getElem?_cons_zero]; rfl)
  case ocaseP100101q => exact fun _ _ _ h => h
  case ocaseP100101y => (refine Or.inl ⟨by first | kernel_rfl | rfl, ?_⟩; intro w hSw; (try dsimp only at hSw); obtain ⟨⟨x0, x1, x2, x3, x4, x5, y0, y1, y2, y3, y4, y5, z0, z1, z2, z3, z4, z5⟩, -⟩ := hSw; go_simp <;> (try with_reducible rfl))
  try simp only [Act.put, List.setIfInBounds_toArray, List.set_cons_zero, List.set_cons_succ]
  refine wpAnyH_take (i := 1) (oi := ?ocaseP100102o) (v := ?ocaseP100102v) ?ocaseP100102h (by kernel_rfl) (by kernel_rfl) (by kernel_rfl) ?ocaseP100102q ?ocaseP100102y hHeld ?ocaseP100102r
  case ocaseP100102h => (simp only [List.getElem?_toArray, List.getElem?_cons_succ, List.getElem?_cons_zero]; rfl)
  case ocaseP100102q => exact fun _ _ _ h => h
  case ocaseP100102y => (refine Or.inl ⟨by first | kernel_rfl | rfl, ?_⟩; intro w hSw; (try dsimp only at hSw); obtain ⟨⟨x0, x1, x2, x3, x4, x5, y0, y1, y2, y3, y4, y5, z0, z1, z2, z3, z4, z5⟩, -⟩ := hSw; go_simp <;> (try with_reducible rfl))
  try simp only [Act.put, List.setIfInBounds_toArray, List.set_cons_zero, List.set_cons_succ]
  refine wpAnyH_take (i := 2) (oi := ?ocaseP100103o) (v := ?ocaseP100103v) ?ocaseP100103h (by kernel_rfl) (by kernel_rfl) (by kernel_rfl) ?ocaseP100103q ?ocaseP100103y hHeld ?ocaseP100103r
  case ocaseP100103h => (simp only [List.getElem?_toArray, List.getElem?_cons_succ, List.getElem?_cons_zero]; rfl)
  case ocaseP100103q => exact fun _ _ _ h => h
  case ocaseP100103y => (refine Or.inl ⟨by first | kernel_rfl | rfl, ?_⟩; intro w hSw; (try dsimp only at hSw); obtain ⟨⟨x0, x1, x2, x3, x4, x5, y0, y1, y2, y3, y4, y5, z0, z1, z2, z3, z4, z5⟩, -⟩ := hSw; go_simp <;> (try with_reducible rfl))
  try simp only [Act.put, List.setIfInBounds_toArray, List.set_cons_zero, List.set_cons_succ]
  refine wpAnyH_take (i := 3) (oi := ?ocaseP100104o) (v := undef) ?ocaseP100104h (by kernel_rfl) (by kernel_rfl) (by kernel_rfl) ?ocaseP100104q ?ocaseP100104y hHeld ?ocaseP100104r
  case ocaseP100104h => (simp only [List.getElem?_toArray, List.getElem?_cons_succ, List.getElem?_cons_zero]; rfl)
  case ocaseP100104q => exact fun _ _ _ h => h
  case ocaseP100104y => exact Or.inr ⟨by first | kernel_rfl | rfl, rfl⟩
  try simp only [Act.put, List.setIfInBounds_toArray, List.set_cons_zero, List.set_cons_succ]
  refine wpAnyH_take (i := 4) (oi := ?ocaseP100105o) (v := undef) ?ocaseP100105h (by kernel_rfl) (by kernel_rfl) (by kernel_rfl) ?ocaseP100105q ?ocaseP100105y hHeld ?ocaseP100105r
  case ocaseP100105h => (simp only [List.getElem?_toArray, List.getElem?_cons_succ, List.getElem?_cons_zero]; rfl)
  case ocaseP100105q => exact fun _ _ _ h => h
  case ocaseP100105y => exact Or.inr ⟨by first | kernel_rfl | rfl, rfl⟩
  try simp only [Act.put, List.setIfInBounds_toArray, List.set_cons_zero, List.set_cons_succ]
  refine wpAnyH_take (i := 5) (oi := ?ocaseP100106o) (v := undef) ?ocaseP100106h (by kernel_rfl) (by kernel_rfl) (by kernel_rfl) ?ocaseP100106q ?ocaseP100106y hHeld ?ocaseP100106r
  case ocaseP100106h => (simp only [List.getElem?_toArray, List.getElem?_cons_succ, List.getElem?_cons_zero]; rfl)
  case ocaseP100106q => exact fun _ _ _ h => h
  case ocaseP100106y => exact Or.inr ⟨by first | kernel_rfl | rfl, rfl⟩
  try simp only [Act.put, List.setIfInBounds_toArray, List.set_cons_zero, List.set_cons_succ]
  refine wpAnyH_take (i := 6) (oi := ?ocaseP100107o) (v := undef) ?ocaseP100107h (by kernel_rfl) (by kernel_rfl) (by kernel_rfl) ?ocaseP100107q ?ocaseP100107y hHeld ?ocaseP100107r
  case ocaseP100107h => (simp only [List.getElem?_toArray, List.getElem?_cons_succ, List.getElem?_cons_zero]; rfl)
  case ocaseP100107q => exact fun _ _ _ h => h
  case ocaseP100107y => exact Or.inr ⟨by first | kernel_rfl | rfl, rfl⟩
  try simp only [Act.put, List.setIfInBounds_toArray, List.set_cons_zero, List.set_cons_succ]
  refine wpAnyH_take (i := 7) (oi := ?ocaseP100108o) (v := undef) ?ocaseP100108h (by kernel_rfl) (by kernel_rfl) (by kernel_rfl) ?ocaseP100108q ?ocaseP100108y hHeld ?ocaseP100108r
  case ocaseP100108h => (simp only [List.getElem?_toArray, List.getElem?_cons_succ, List.getElem?_cons_zero]; rfl)
  case ocaseP100108q => exact fun _ _ _ h => h
  case ocaseP100108y => exact Or.inr ⟨by first | kernel_rfl | rfl, rfl⟩
  try simp only [Act.put, List.setIfInBounds_toArray, List.set_cons_zero, List.set_cons_succ]
  refine wpAnyH_take (i := 8) (oi := ?ocaseP100109o) (v := undef) ?ocaseP100109h (by kernel_rfl) (by kernel_rfl) (by kernel_rfl) ?ocaseP100109q ?ocaseP100109y hHeld ?ocaseP100109r
  case ocaseP100109h => (simp only [List.getElem?_toArray, List.getElem?_cons_succ, List.getElem?_cons_zero]; rfl)
  case ocaseP100109q => exact fun _ _ _ h => h
  case ocaseP100109y => exact Or.inr ⟨by first | kernel_rfl | rfl, rfl⟩
  try simp only [Act.put, List.setIfInBounds_toArray, List.set_cons_zero, List.set_cons_succ]
  refine wpAnyH_take (i := 9) (oi := ?ocaseP1001010o) (v := undef) ?ocaseP1001010h (by kernel_rfl) (by kernel_rfl) (by kernel_rfl) ?ocaseP1001010q ?ocaseP1001010y hHeld ?ocaseP1001010r
  case ocaseP1001010h => (simp only [List.getElem?_toArray, List.getElem?_cons_succ, List.getElem?_cons_zero]; rfl)
  case ocaseP1001010q => exact fun _ _ _ h => h
  case ocaseP1001010y => exact Or.inr ⟨by first | kernel_rfl | rfl, rfl⟩
  try simp only [Act.put, List.setIfInBounds_toArray, List.set_cons_zero, List.set_cons_succ]
  refine wpAnyH_take (i := 10) (oi := ?ocaseP1001011o) (v := undef) ?ocaseP1001011h (by kernel_rfl) (by kernel_rfl) (by kernel_rfl) ?ocaseP1001011q ?ocaseP1001011y hHeld ?ocaseP1001011r
  case ocaseP1001011h => (simp only [List.getElem?_toArray, List.getElem?_cons_succ, List.getElem?_cons_zero]; rfl)
  case ocaseP1001011q => exact fun _ _ _ h => h
  case ocaseP1001011y => exact Or.inr ⟨by first | kernel_rfl | rfl, rfl⟩
  try simp only [Act.put, List.setIfInBounds_toArray, List.set_cons_zero, List.set_cons_succ]
  refine wpAnyH_take (i := 11) (oi := ?ocaseP1001012o) (v := ?ocaseP1001012v) ?ocaseP1001012h (by kernel_rfl) (by kernel_rfl) (by kernel_rfl) ?ocaseP1001012q ?ocaseP1001012y hHeld ?ocaseP1001012r
  case ocaseP1001012h => (simp only [List.getElem?_toArray, List.getElem?_cons_succ, List.getElem?_cons_zero]; rfl)
  case ocaseP1001012q => exact fun _ _ _ h => h
  case ocaseP1001012y => (refine Or.inl ⟨by first | kernel_rfl | rfl, ?_⟩; intro w hSw; (try dsimp only at hSw); obtain ⟨⟨x0, x1, x2, x3, x4, x5, y0, y1, y2, y3, y4, y5, z0, z1, z2, z3, z4, z5⟩, -⟩ := hSw; go_simp <;> (try with_reducible rfl))
  try simp only [Act.put, List.setIfInBounds_toArray, List.set_cons_zero, List.set_cons_succ]
  refine wpAnyH_take (i := 12) (oi := ?ocaseP1001013o) (v := ?ocaseP1001013v) ?ocaseP1001013h (by kernel_rfl) (by kernel_rfl) (by kernel_rfl) ?ocaseP1001013q ?ocaseP1001013y hHeld ?ocaseP1001013r
  case ocaseP1001013h => (simp only [List.getElem?_toArray, List.getElem?_cons_succ, List.getElem?_cons_zero]; rfl)
  case ocaseP1001013q => exact fun _ _ _ h => h
  case ocaseP1001013y => (refine Or.inl ⟨by first | kernel_rfl | rfl, ?_⟩; intro w hSw; (try dsimp only at hSw); obtain ⟨⟨x0, x1, x2, x3, x4, x5, y0, y1, y2, y3, y4, y5, z0, z1, z2, z3, z4, z5⟩, -⟩ := hSw; go_simp <;> (try with_reducible rfl))
  try simp only [Act.put, List.setIfInBounds_toArray, List.set_cons_zero, List.set_cons_succ]
  refine wpAnyH_take (i := 13) (oi := ?ocaseP1001014o) (v := undef) ?ocaseP1001014h (by kernel_rfl) (by kernel_rfl) (by kernel_rfl) ?ocaseP1001014q ?ocaseP1001014y hHeld ?ocaseP1001014r
  case ocaseP1001014h => (simp only [List.getElem?_toArray, List.getElem?_cons_succ, List.getElem?_cons_zero]; rfl)
  case ocaseP1001014q => exact fun _ _ _ h => h
  case ocaseP1001014y => exact Or.inr ⟨by first | kernel_rfl | rfl, rfl⟩
  try simp only [Act.put, List.setIfInBounds_toArray, List.set_cons_zero, List.set_cons_succ]
  refine wpAnyH_take (i := 14) (oi := ?ocaseP1001015o) (v := undef) ?ocaseP1001015h (by kernel_rfl) (by kernel_rfl) (by kernel_rfl) ?ocaseP1001015q ?ocaseP1001015y hHeld ?ocaseP1001015r
  case ocaseP1001015h => (simp only [List.getElem?_toArray, List.getElem?_cons_succ, List.getElem?_cons_zero]; rfl)
  case ocaseP1001015q => exact fun _ _ _ h => h
  case ocaseP1001015y => exact Or.inr ⟨by first | kernel_rfl | rfl, rfl⟩
  try simp only [Act.put, List.setIfInBounds_toArray, List.set_cons_zero, List.set_cons_succ]
  refine wpAnyH_take (i := 15) (oi := ?ocaseP1001016o) (v := undef) ?ocaseP1001016h (by kernel_rfl) (by kernel_rfl) (by kernel_rfl) ?ocaseP1001016q ?ocaseP1001016y hHeld ?ocaseP1001016r
  case ocaseP1001016h => (simp only [List.getElem?_toArray, List.getElem?_cons_succ, List.getElem?_cons_zero]; rfl)
  case ocaseP1001016q => exact fun _ _ _ h => h
  case ocaseP1001016y => exact Or.inr ⟨by first | kernel_rfl | rfl, rfl⟩
  try simp only [Act.put, List.setIfInBounds_toArray, List.set_cons_zero, List.set_cons_succ]
  refine wpAnyH_take (i := 16) (oi := ?ocaseP1001017o) (v := undef) ?ocaseP1001017h (by kernel_rfl) (by kernel_rfl) (by kernel_rfl) ?ocaseP1001017q ?ocaseP1001017y hHeld ?ocaseP1001017r
  case ocaseP1001017h => (simp only [List.getElem?_toArray, List.getElem?_cons_succ, List.getElem?_cons_zero]; rfl)
  case ocaseP1001017q => exact fun _ _ _ h => h
  case ocaseP1001017y => exact Or.inr ⟨by first | kernel_rfl | rfl, rfl⟩
  try simp only [Act.put, List.setIfInBounds_toArray, List.set_cons_zero, List.set_cons_succ]
  refine wpAnyH_take (i := 17) (oi := ?ocaseP1001018o) (v := undef) ?ocaseP1001018h (by kernel_rfl) (by kernel_rfl) (by kernel_rfl) ?ocaseP1001018q ?ocaseP1001018y hHeld ?ocaseP1001018r
  case ocaseP1001018h => (simp only [List.getElem?_toArray, List.getElem?_cons_succ, List.getElem?_cons_zero]; rfl)
  case ocaseP1001018q => exact fun _ _ _ h => h
  case ocaseP1001018y => exact Or.inr ⟨by first | kernel_rfl | rfl, rfl⟩
  try simp only [Act.put, List.setIfInBounds_toArray, List.set_cons_zero, List.set_cons_succ]
  refine wpAnyH_take (i := 18) (oi := ?ocaseP1001019o) (v := undef) ?ocaseP1001019h (by kernel_rfl) (by kernel_rfl) (by kernel_rfl) ?ocaseP1001019q ?ocaseP1001019y hHeld ?ocaseP1001019r
  case ocaseP1001019h => (simp only [List.getElem?_toArray, List.getElem?_cons_succ, List.getElem?_cons_zero]; rfl)
  case ocaseP1001019q => exact fun _ _ _ h => h
  case ocaseP1001019y => exact Or.inr ⟨by first | kernel_rfl | rfl, rfl⟩
  try simp only [Act.put, List.setIfInBounds_toArray, List.set_cons_zero, List.set_cons_succ]
  refine wpAnyH_take (i := 19) (oi := ?ocaseP1001020o) (v := undef) ?ocaseP1001020h (by kernel_rfl) (by kernel_rfl) (by kernel_rfl) ?ocaseP1001020q ?ocaseP1001020y hHeld ?ocaseP1001020r
  case ocaseP1001020h => (simp only [List.getElem?_toArray, List.getElem?_cons_succ, List.getElem?_cons_zero]; rfl)
  case ocaseP1001020q => exact fun _ _ _ h => h
  case ocaseP1001020y => exact Or.inr ⟨by first | kernel_rfl | rfl, rfl⟩
  try simp only [Act.put, List.setIfInBounds_toArray, List.set_cons_zero, List.set_cons_succ]
  refine wpAnyH_take (i := 20) (oi := ?ocaseP1001021o) (v := ?ocaseP1001021v) ?ocaseP1001021h (by kernel_rfl) (by kernel_rfl) (by kernel_rfl) ?ocaseP1001021q ?ocaseP1001021y hHeld ?ocaseP1001021r
  case ocaseP1001021h => (simp only [List.getElem?_toArray, List.getElem?_cons_succ, List.getElem?_cons_zero]; rfl)
  case ocaseP1001021q => exact fun _ _ _ h => h
  case ocaseP1001021y => (refine Or.inl ⟨by first | kernel_rfl | rfl, ?_⟩; intro w hSw; (try dsimp only at hSw); obtain ⟨⟨x0, x1, x2, x3, x4, x5, y0, y1, y2, y3, y4, y5, z0, z1, z2, z3, z4, z5⟩, -⟩ := hSw; go_simp <;> (try with_reducible rfl))
  try simp only [Act.put, List.setIfInBounds_toArray, List.set_cons_zero, List.set_cons_succ]
  refine wpAnyH_take (i := 21) (oi := ?ocaseP1001022o) (v := ?ocaseP1001022v) ?ocaseP1001022h (by kernel_rfl) (by kernel_rfl) (by kernel_rfl) ?ocaseP1001022q ?ocaseP1001022y hHeld ?ocaseP1001022r
  case ocaseP1001022h => (simp only [List.getElem?_toArray, List.getElem?_cons_succ, List.getElem?_cons_zero]; rfl)
  case ocaseP1001022q => exact fun _ _ _ h => h
  case ocaseP1001022y => (refine Or.inl ⟨by first | kernel_rfl | rfl, ?_⟩; intro w hSw; (try dsimp only at hSw); obtain ⟨⟨x0, x1, x2, x3, x4, x5, y0, y1, y2, y3, y4, y5, z0, z1, z2, z3, z4, z5⟩, -⟩ := hSw; go_simp <;> (try with_reducible rfl))
  try simp only [Act.put, List.setIfInBounds_toArray, List.set_cons_zero, List.set_cons_succ]
  refine wpAnyH_done (by kernel_rfl) ?_ _
  go_wp2_with fail
  refine wp_region_held_drew (S := (OHeld w g a b c)) (by kernel_rfl) hHeld.drew (fun hHeld => ?_)
  refine wpAnyH_take (i := 0) (oi := ?ocaseP100111o) (v := ?ocaseP100111v) ?ocaseP100111h (by kernel_rfl) (by kernel_rfl) (by kernel_rfl) ?ocaseP100111q ?ocaseP100111y hHeld ?ocaseP100111r
  case ocaseP100111h => (simp only [List.getElem?_toArray, List.getElem?_cons_zero]; rfl)
  case ocaseP100111q => exact fun _ _ _ h => h
  case ocaseP100111y => (refine Or.inl ⟨by first | kernel_rfl | rfl, ?_⟩; intro w hSw; (try dsimp only at hSw); obtain ⟨⟨x0, x1, x2, x3, x4, x5, y0, y1, y2, y3, y4, y5, z0, z1, z2, z3, z4, z5⟩, -⟩ := hSw; go_simp <;> (try with_reducible rfl))
  try simp only [Act.put, List.setIfInBounds_toArray, List.set_cons_zero, List.set_cons_succ]
  refine wpAnyH_take (i := 1) (oi := ?ocaseP100112o) (v := ?ocaseP100112v) ?ocaseP100112h (by kernel_rfl) (by kernel_rfl) (by kernel_rfl) ?ocaseP100112q ?ocaseP100112y hHeld ?ocaseP100112r
  case ocaseP100112h => (simp only [List.getElem?_toArray, List.getElem?_cons_succ, List.getElem?_cons_zero]; rfl)
  case ocaseP100112q => exact fun _ _ _ h => h
  case ocaseP100112y => (refine Or.inl ⟨by first | kernel_rfl | rfl, ?_⟩; intro w hSw; (try dsimp only at hSw); obtain ⟨⟨x0, x1, x2, x3, x4, x5, y0, y1, y2, y3, y4, y5, z0, z1, z2, z3, z4, z5⟩, -⟩ := hSw; go_simp <;> (try with_reducible rfl))
  try simp only [Act.put, List.setIfInBounds_toArray, List.set_cons_zero, List.set_cons_succ]
  refine wpAnyH_take (i := 2) (oi := ?ocaseP100113o) (v := ?ocaseP100113v) ?ocaseP100113h (by kernel_rfl) (by kernel_rfl) (by kernel_rfl) ?ocaseP100113q ?ocaseP100113y hHeld ?ocaseP100113r
  case ocaseP100113h => (simp only [List.getElem?_toArray, List.getElem?_cons_succ, List.getElem?_cons_zero]; rfl)
  case ocaseP100113q => exact fun _ _ _ h => h
  case ocaseP100113y => (refine Or.inl ⟨by first | kernel_rfl | rfl, ?_⟩; intro w hSw; (try dsimp only at hSw); obtain ⟨⟨x0, x1, x2, x3, x4, x5, y0, y1, y2, y3, y4, y5, z0, z1, z2, z3, z4, z5⟩, -⟩ := hSw; go_simp <;> (try with_reducible rfl))
  try simp only [Act.put, List.setIfInBounds_toArray, List.set_cons_zero, List.set_cons_succ]
  refine wpAnyH_take (i := 3) (oi := ?ocaseP100114o) (v := ?ocaseP100114v) ?ocaseP100114h (by kernel_rfl) (by kernel_rfl) (by kernel_rfl) ?ocaseP100114q ?ocaseP100114y hHeld ?ocaseP100114r
  case ocaseP100114h => (simp only [List.getElem?_toArray, List.getElem?_cons_succ, List.getElem?_cons_zero]; rfl)
  case ocaseP100114q => exact fun _ _ _ h => h
  case ocaseP100114y => (refine Or.inl ⟨by first | kernel_rfl | rfl, ?_⟩; intro w hSw; (try dsimp only at hSw); obtain ⟨⟨x0, x1, x2, x3, x4, x5, y0, y1, y2, y3, y4, y5, z0, z1, z2, z3, z4, z5⟩, -⟩ := hSw; go_simp <;> (try with_reducible rfl))
  try simp only [Act.put, List.setIfInBounds_toArray, List.set_cons_zero, List.set_cons_succ]
  refine wpAnyH_take (i := 4) (oi := ?ocaseP100115o) (v := ?ocaseP100115v) ?ocaseP100115h (by kernel_rfl) (by kernel_rfl) (by kernel_rfl) ?ocaseP100115q ?ocaseP100115y hHeld ?ocaseP100115r
  case ocaseP100115h => (simp only [List.getElem?_toArray, List.getElem?_cons_succ, List.getElem?_cons_zero]; rfl)
  case ocaseP100115q => exact fun _ _ _ h => h
  case ocaseP100115y => (refine Or.inl ⟨by first | kernel_rfl | rfl, ?_⟩; intro w hSw; (try dsimp only at hSw); obtain ⟨⟨x0, x1, x2, x3, x4, x5, y0, y1, y2, y3, y4, y5, z0, z1, z2, z3, z4, z5⟩, -⟩ := hSw; go_simp <;> (try with_reducible rfl))
  try simp only [Act.put, List.setIfInBounds_toArray, List.set_cons_zero, List.set_cons_succ]
  refine wpAnyH_take (i := 5) (oi := ?ocaseP100116o) (v := ?ocaseP100116v) ?ocaseP100116h (by kernel_rfl) (by kernel_rfl) (by kernel_rfl) ?ocaseP100116q ?ocaseP100116y hHeld ?ocaseP100116r
  case ocaseP100116h => (simp only [List.getElem?_toArray, List.getElem?_cons_succ, List.getElem?_cons_zero]; rfl)
  case ocaseP100116q => exact fun _ _ _ h => h
  case ocaseP100116y => (refine Or.inl ⟨by first | kernel_rfl | rfl, ?_⟩; intro w hSw; (try dsimp only at hSw); obtain ⟨⟨x0, x1, x2, x3, x4, x5, y0, y1, y2, y3, y4, y5, z0, z1, z2, z3, z4, z5⟩, -⟩ := hSw; go_simp <;> (try with_reducible rfl))
  try simp only [Act.put, List.setIfInBounds_toArray, List.set_cons_zero, List.set_cons_succ]
  refine wpAnyH_take (i := 6) (oi := ?ocaseP100117o) (v := ?ocaseP100117v) ?ocaseP100117h (by kernel_rfl) (by kernel_rfl) (by kernel_rfl) ?ocaseP100117q ?ocaseP100117y hHeld ?ocaseP100117r
  case ocaseP100117h => (simp only [List.getElem?_toArray, List.getElem?_cons_succ, List.getElem?_cons_zero]; rfl)
  case ocaseP100117q => exact fun _ _ _ h => h
  case ocaseP100117y => (refine Or.inl ⟨by first | kernel_rfl | rfl, ?_⟩; intro w hSw; (try dsimp only at hSw); obtain ⟨⟨x0, x1, x2, x3, x4, x5, y0, y1, y2, y3, y4, y5, z0, z1, z2, z3, z4, z5⟩, -⟩ := hSw; go_simp <;> (try with_reducible rfl))
  try simp only [Act.put, List.setIfInBounds_toArray, List.set_cons_zero, List.set_cons_succ]
  refine wpAnyH_take (i := 7) (oi := ?ocaseP100118o) (v := ?ocaseP100118v) ?ocaseP100118h (by kernel_rfl) (by kernel_rfl) (by kernel_rfl) ?ocaseP100118q ?ocaseP100118y hHeld ?ocaseP100118r
  case ocaseP100118h => (simp only [List.getElem?_toArray, List.getElem?_cons_succ, List.getElem?_cons_zero]; rfl)
  case ocaseP100118q => exact fun _ _ _ h => h
  case ocaseP100118y => (refine Or.inl ⟨by first | kernel_rfl | rfl, ?_⟩; intro w hSw; (try dsimp only at hSw); obtain ⟨⟨x0, x1, x2, x3, x4, x5, y0, y1, y2, y3, y4, y5, z0, z1, z2, z3, z4, z5⟩, -⟩ := hSw; go_simp <;> (try with_reducible rfl))
  try simp only [Act.put, List.setIfInBounds_toArray, List.set_cons_zero, List.set_cons_succ]
  refine wpAnyH_take (i := 8) (oi := ?ocaseP100119o) (v := ?ocaseP100119v) ?ocaseP100119h (by kernel_rfl) (by kernel_rfl) (by kernel_rfl) ?ocaseP100119q ?ocaseP100119y hHeld ?ocaseP100119r
  case ocaseP100119h => (simp only [List.getElem?_toArray, List.getElem?_cons_succ, List.getElem?_cons_zero]; rfl)
  case ocaseP100119q => exact fun _ _ _ h => h
  case ocaseP100119y => (refine Or.inl ⟨by first | kernel_rfl | rfl, ?_⟩; intro w hSw; (try dsimp only at hSw); obtain ⟨⟨x0, x1, x2, x3, x4, x5, y0, y1, y2, y3, y4, y5, z0, z1, z2, z3, z4, z5⟩, -⟩ := hSw; go_simp <;> (try with_reducible rfl))
  try simp only [Act.put, List.setIfInBounds_toArray, List.set_cons_zero, List.set_cons_succ]
  refine wpAnyH_ready (rs := [9]) (by kernel_rfl) (by simp) ?_
  refine (AllReadyH.cons rfl (fun K hK => ?_) AllReadyH.nil)
  go_simp
  ((with_reducible refine (jbc _).mono ?_); rintro e w' ⟨rfl, hb'⟩)
  refine hK.out _ _ (hHeld.keep hb') (fun hHeld => ?_)
  clear hK K
  try simp only [Act.put, List.setIfInBounds_toArray, List.set_cons_zero, List.set_cons_succ]
  refine wpAnyH_take (i := 10) (oi := ?ocaseP1001110o) (v := ?ocaseP1001110v) ?ocaseP1001110h (by kernel_rfl) (by kernel_rfl) (by kernel_rfl) ?ocaseP1001110q ?ocaseP1001110y hHeld ?ocaseP1001110r
  case ocaseP1001110h => (simp only [List.getElem?_toArray, List.getElem?_cons_succ, List.getElem?_cons_zero]; rfl)
  case ocaseP1001110q => exact fun _ _ _ h => h
  case ocaseP1001110y => (refine Or.inl ⟨by first | kernel_rfl | rfl, ?_⟩; intro w hSw; (try dsimp only at hSw); obtain ⟨⟨x0, x1, x2, x3, x4, x5, y0, y1, y2, y3, y4, y5, z0, z1, z2, z3, z4, z5⟩, -⟩ := hSw; go_simp <;> (try with_reducible rfl))
  try simp only [Act.put, List.setIfInBounds_toArray, List.set_cons_zero, List.set_cons_succ]
  refine wpAnyH_take (i := 11) (oi := ?ocaseP1001111o) (v := ?ocaseP1001111v) ?ocaseP1001111h (by kernel_rfl) (by kernel_rfl) (by kernel_rfl) ?ocaseP1001111q ?ocaseP1001111y hHeld ?ocaseP1001111r
  case ocaseP1001111h => (simp only [List.getElem?_toArray, List.getElem?_cons_succ, List.getElem?_cons_zero]; rfl)
  case ocaseP1001111q => exact fun _ _ _ h => h
  case ocaseP1001111y => (refine Or.inl ⟨by first | kernel_rfl | rfl, ?_⟩; intro w hSw; (try dsimp only at hSw); obtain ⟨⟨x0, x1, x2, x3, x4, x5, y0, y1, y2, y3, y4, y5, z0, z1, z2, z3, z4, z5⟩, -⟩ := hSw; go_simp <;> (try with_reducible rfl))
  try simp only [Act.put, List.setIfInBounds_toArray, List.set_cons_zero, List.set_cons_succ]
  refine wpAnyH_take (i := 12) (oi := ?ocaseP1001112o) (v := ?ocaseP1001112v) ?ocaseP1001112h (by kernel_rfl) (by kernel_rfl) (by kernel_rfl) ?ocaseP1001112q ?ocaseP1001112y hHeld ?ocaseP1001112r
  case ocaseP1001112h => (simp only [List.getElem?_toArray, List.getElem?_cons_succ, List.getElem?_cons_zero]; rfl)
  case ocaseP1001112q => exact fun _ _ _ h => h
  case ocaseP1001112y => (refine Or.inl ⟨by first | kernel_rfl | rfl, ?_⟩; intro w hSw; (try dsimp only at hSw); obtain ⟨⟨x0, x1, x2, x3, x4, x5, y0, y1, y2, y3, y4, y5, z0, z1, z2, z3, z4, z5⟩, -⟩ := hSw; go_simp <;> (try with_reducible rfl))
  try simp only [Act.put, List.setIfInBounds_toArray, List.set_cons_zero, List.set_cons_succ]
  refine wpAnyH_take (i := 13) (oi := ?ocaseP1001113o) (v := undef) ?ocaseP1001113h (by kernel_rfl) (by kernel_rfl) (by kernel_rfl) ?ocaseP1001113q ?ocaseP1001113y hHeld ?ocaseP1001113r
  case ocaseP1001113h => (simp only [List.getElem?_toArray, List.getElem?_cons_succ, List.getElem?_cons_zero]; rfl)
  case ocaseP1001113q => exact fun _ _ _ h => h
  case ocaseP1001113y => exact Or.inr ⟨by first | kernel_rfl | rfl, rfl⟩
  try simp only [Act.put, List.setIfInBounds_toArray, List.set_cons_zero, List.set_cons_succ]
  refine wpAnyH_take (i := 14) (oi := ?ocaseP1001114o) (v := undef) ?ocaseP1001114h (by kernel_rfl) (by kernel_rfl) (by kernel_rfl) ?ocaseP1001114q ?ocaseP1001114y hHeld ?ocaseP1001114r
  case ocaseP1001114h => (simp only [List.getElem?_toArray, List.getElem?_cons_succ, List.getElem?_cons_zero]; rfl)
  case ocaseP1001114q => exact fun _ _ _ h => h
  case ocaseP1001114y => exact Or.inr ⟨by first | kernel_rfl | rfl, rfl⟩
  try simp only [Act.put, List.setIfInBounds_toArray, List.set_cons_zero, List.set_cons_succ]
  refine wpAnyH_take (i := 15) (oi := ?ocaseP1001115o) (v := undef) ?ocaseP1001115h (by kernel_rfl) (by kernel_rfl) (by kernel_rfl) ?ocaseP1001115q ?ocaseP1001115y hHeld ?ocaseP1001115r
  case ocaseP1001115h => (simp only [List.getElem?_toArray, List.getElem?_cons_succ, List.getElem?_cons_zero]; rfl)
  case ocaseP1001115q => exact fun _ _ _ h => h
  case ocaseP1001115y => exact Or.inr ⟨by first | kernel_rfl | rfl, rfl⟩
  try simp only [Act.put, List.setIfInBounds_toArray, List.set_cons_zero, List.set_cons_succ]
  refine wpAnyH_take (i := 16) (oi := ?ocaseP1001116o) (v := undef) ?ocaseP1001116h (by kernel_rfl) (by kernel_rfl) (by kernel_rfl) ?ocaseP1001116q ?ocaseP1001116y hHeld ?ocaseP1001116r
  case ocaseP1001116h => (simp only [List.getElem?_toArray, List.getElem?_cons_succ, List.getElem?_cons_zero]; rfl)
  case ocaseP1001116q => exact fun _ _ _ h => h
  case ocaseP1001116y => exact Or.inr ⟨by first | kernel_rfl | rfl, rfl⟩
  try simp only [Act.put, List.setIfInBounds_toArray, List.set_cons_zero, List.set_cons_succ]
  refine wpAnyH_take (i := 17) (oi := ?ocaseP1001117o) (v := undef) ?ocaseP1001117h (by kernel_rfl) (by kernel_rfl) (by kernel_rfl) ?ocaseP1001117q ?ocaseP1001117y hHeld ?ocaseP1001117r
  case ocaseP1001117h => (simp only [List.getElem?_toArray, List.getElem?_cons_succ, List.getElem?_cons_zero]; rfl)
  case ocaseP1001117q => exact fun _ _ _ h => h
  case ocaseP1001117y => exact Or.inr ⟨by first | kernel_rfl | rfl, rfl⟩
  try simp only [Act.put, List.setIfInBounds_toArray, List.set_cons_zero, List.set_cons_succ]
  refine wpAnyH_take (i := 18) (oi := ?ocaseP1001118o) (v := undef) ?ocaseP1001118h (by kernel_rfl) (by kernel_rfl) (by kernel_rfl) ?ocaseP1001118q ?ocaseP1001118y hHeld ?ocaseP1001118r
  case ocaseP1001118h => (simp only [List.getElem?_toArray, List.getElem?_cons_succ, List.getElem?_cons_zero]; rfl)
  case ocaseP1001118q => exact fun _ _ _ h => h
  case ocaseP1001118y => exact Or.inr ⟨by first | kernel_rfl | rfl, rfl⟩
  try simp only [Act.put, List.setIfInBounds_toArray, List.set_cons_zero, List.set_cons_succ]
  refine wpAnyH_take (i := 19) (oi := ?ocaseP1001119o) (v := undef) ?ocaseP1001119h (by kernel_rfl) (by kernel_rfl) (by kernel_rfl) ?ocaseP1001119q ?ocaseP1001119y hHeld ?ocaseP1001119r
  case ocaseP1001119h => (simp only [List.getElem?_toArray, List.getElem?_cons_succ, List.getElem?_cons_zero]; rfl)
  case ocaseP1001119q => exact fun _ _ _ h => h
  case ocaseP1001119y => exact Or.inr ⟨by first | kernel_rfl | rfl, rfl⟩
  try simp only [Act.put, List.setIfInBounds_toArray, List.set_cons_zero, List.set_cons_succ]
  refine wpAnyH_take (i := 20) (oi := ?ocaseP1001120o) (v := ?ocaseP1001120v) ?ocaseP1001120h (by kernel_rfl) (by kernel_rfl) (by kernel_rfl) ?ocaseP1001120q ?ocaseP1001120y hHeld ?ocaseP1001120r
  case ocaseP1001120h => (simp only [List.getElem?_toArray, List.getElem?_cons_succ, List.getElem?_cons_zero]; rfl)
  case ocaseP1001120q => exact fun _ _ _ h => h
  case ocaseP1001120y => (refine Or.inl ⟨by first | kernel_rfl | rfl, ?_⟩; intro w hSw; (try dsimp only at hSw); obtain ⟨⟨x0, x1, x2, x3, x4, x5, y0, y1, y2, y3, y4, y5, z0, z1, z2, z3, z4, z5⟩, -⟩ := hSw; go_simp <;> (try with_reducible rfl))
  try simp only [Act.put, List.setIfInBounds_toArray, List.set_cons_zero, List.set_cons_succ]
  refine wpAnyH_take (i := 21) (oi := ?ocaseP1001121o) (v := ?ocaseP1001121v) ?ocaseP1001121h (by kernel_rfl) (by kernel_rfl) (by kernel_rfl) ?ocaseP1001121q ?ocaseP1001121y hHeld ?ocaseP1001121r
  case ocaseP1001121h => (simp only [List.getElem?_toArray, List.getElem?_cons_succ, List.getElem?_cons_zero]; rfl)
  case ocaseP1001121q => exact fun _ _ _ h => h
  case ocaseP1001121y => (refine Or.inl ⟨by first | kernel_rfl | rfl, ?_⟩; intro w hSw; (try dsimp only at hSw); obtain ⟨⟨x0, x1, x2, x3, x4, x5, y0, y1, y2, y3, y4, y5, z0, z1, z2, z3, z4, z5⟩, -⟩ := hSw; go_simp <;> (try with_reducible rfl))
  try simp only [Act.put, List.setIfInBounds_toArray, List.set_cons_zero, List.set_cons_succ]
  refine wpAnyH_done (by kernel_rfl) ?_ _
  have hbel := hHeld.bel
  go_wp2
  go_ret
  exact ⟨rfl, hbel⟩
end Go.Proofs.Ytjckphmkhikpaaa.sampleOrder
