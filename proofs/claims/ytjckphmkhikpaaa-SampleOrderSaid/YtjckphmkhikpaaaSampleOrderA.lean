/- Ways of law SampleOrder. -/
import Derived.Test.YtjckphmkhikpaaaSampleOrderMath
set_option maxRecDepth 20000
namespace Go.Proofs.Ytjckphmkhikpaaa.sampleOrder
open Go.RowKit Go.Proofs.Ytjckphmkhikpaaa Go.Proofs.Ytjckphmkhikpaaa.Vi Go.Proofs.Ytjckphmkhikpaaa.Mk

set_option maxHeartbeats 8000000 in
theorem caseT01 (a b c : Pt) (h1 : ¬ a.s = b.s) (h : a.before b = true) (k : b.before c = true) : Rest a b c := by
  intro a0 b0 c0 w hfew
  have hy : b.before a = false := by rw [before_ne h1] at h; rw [before_ne (fun e => h1 e.symm)]; exact lessB_not h
  have hp : ¬ (a.s = b.s ∧ a.t = b.t) := fun e => h1 e.1
  have hs := seq_ne h1
  have kab := fun w => before_is a b true w (Lib.hid h)
  have kba := fun w => before_is b a false w (Lib.hid hy)
  have kbc := fun w => before_is b c true w (Lib.hid k)
  have kac := fun w => before_is a c true w (Lib.hid (before_trans h k))
  have jab := fun w => newer_is a b false w (Lib.hid (newer_no hp))
  have jba := fun w => newer_is b a false w (Lib.hid (newer_no fun e => hp ⟨e.1.symm, e.2.symm⟩))
  unfold ptV at kab kba kbc kac jab jba
  clear h k hy hp h1
  have H0a := (PHeld.new w a0).keep (bel_new ((Below.refl _ _).alloc (Nat.le_refl _) (.cells #[.string b0.s, .int .i64 b0.t, .int .i64 b0.v, .int .i64 b0.st.c, .int .i64 b0.st.s, .int .i64 b0.st.q] 34)) (.cells #[.string c0.s, .int .i64 c0.t, .int .i64 c0.v, .int .i64 c0.st.c, .int .i64 c0.st.s, .int .i64 c0.st.q] 34))
  have H0b := (PHeld.new (w.alloc (.cells #[.string a0.s, .int .i64 a0.t, .int .i64 a0.v, .int .i64 a0.st.c, .int .i64 a0.st.s, .int .i64 a0.st.q] 34)) b0).keep ((Below.refl _ _).alloc (Nat.le_refl _) (.cells #[.string c0.s, .int .i64 c0.t, .int .i64 c0.v, .int .i64 c0.st.c, .int .i64 c0.st.s, .int .i64 c0.st.q] 34))
  have H0c := PHeld.new ((w.alloc (.cells #[.string a0.s, .int .i64 a0.t, .int .i64 a0.v, .int .i64 a0.st.c, .int .i64 a0.st.s, .int .i64 a0.st.q] 34)).alloc (.cells #[.string b0.s, .int .i64 b0.t, .int .i64 b0.v, .int .i64 b0.st.c, .int .i64 b0.st.s, .int .i64 b0.st.q] 34)) c0
  simp only [World.size_alloc] at H0b H0c
  have HF := Lib.hid hfew
  unfold ptV
  clear hfew
  go_enter Try.func7, Try.ntmps7
  go_wp2_with (first
    | (go_at_call 9; (with_reducible refine (awake_any _).mono ?_); rintro e w1 ⟨rfl, hb⟩; have Ha := H0a.keep hb; have Hb := H0b.keep hb; have Hc := H0c.keep hb; obtain ⟨⟨x0, x1, x2, x3, x4, x5⟩, -⟩ := Ha; obtain ⟨⟨y0, y1, y2, y3, y4, y5⟩, -⟩ := Hb; obtain ⟨⟨z0, z1, z2, z3, z4, z5⟩, -⟩ := Hc; have HB := H0a.bel.trans (hb.mono (by simp; omega)))
    | (go_at_call 26; (with_reducible refine (few3 a0 b0 c0 _).mono ?_); rintro e w2 ⟨v, rfl, hR, hb2⟩; rw [HF.out] at hR; obtain ⟨g, cap, rfl, hT⟩ := tri_of hR; have HH : OHeld w g a b c w2 := ⟨hT, bel_next (bel_new HB _) hb2⟩))
  clear H0a H0b H0c HB hb2 hb hT hR HF x0 x1 x2 x3 x4 x5 y0 y1 y2 y3 y4 y5 z0 z1 z2 z3 z4 z5
  go_wp2_with fail
  refine wp_region_held_drew (S := (OHeld w g a b c)) (by kernel_rfl) HH.drew (fun hHeld => ?_)
  refine wpAnyH_take (i := 0) (oi := ?ocaseT0131o) (v := ?ocaseT0131v) ?ocaseT0131h (by kernel_rfl) (by kernel_rfl) (by kernel_rfl) ?ocaseT0131q ?ocaseT0131y hHeld ?ocaseT0131r
  case ocaseT0131h => (simp only [List.getElem?_toArray, List.getElem?_cons_zero]; rfl)
  case ocaseT0131q => exact fun _ _ _ h => h
  case ocaseT0131y => (refine Or.inl ⟨by first | kernel_rfl | rfl, ?_⟩; intro w hSw; (try dsimp only at hSw); obtain ⟨⟨x0, x1, x2, x3, x4, x5, y0, y1, y2, y3, y4, y5, z0, z1, z2, z3, z4, z5⟩, -⟩ := hSw; go_simp <;> (try with_reducible rfl))
  try simp only [Act.put, List.setIfInBounds_toArray, List.set_cons_zero, List.set_cons_succ]
  refine wpAnyH_take (i := 1) (oi := ?ocaseT0132o) (v := ?ocaseT0132v) ?ocaseT0132h (by kernel_rfl) (by kernel_rfl) (by kernel_rfl) ?ocaseT0132q ?ocaseT0132y hHeld ?ocaseT0132r
  case ocaseT0132h => (simp only [List.getElem?_toArray, List.getElem?_cons_succ, List.getElem?_cons_zero]; rfl)
  case ocaseT0132q => exact fun _ _ _ h => h
  case ocaseT0132y => (refine Or.inl ⟨by first | kernel_rfl | rfl, ?_⟩; intro w hSw; (try dsimp only at hSw); obtain ⟨⟨x0, x1, x2, x3, x4, x5, y0, y1, y2, y3, y4, y5, z0, z1, z2, z3, z4, z5⟩, -⟩ := hSw; go_simp <;> (try with_reducible rfl))
  try simp only [Act.put, List.setIfInBounds_toArray, List.set_cons_zero, List.set_cons_succ]
  refine wpAnyH_take (i := 2) (oi := ?ocaseT0133o) (v := ?ocaseT0133v) ?ocaseT0133h (by kernel_rfl) (by kernel_rfl) (by kernel_rfl) ?ocaseT0133q ?ocaseT0133y hHeld ?ocaseT0133r
  case ocaseT0133h => (simp only [List.getElem?_toArray, List.getElem?_cons_succ, List.getElem?_cons_zero]; rfl)
  case ocaseT0133q => exact fun _ _ _ h => h
  case ocaseT0133y => (refine Or.inl ⟨by first | kernel_rfl | rfl, ?_⟩; intro w hSw; (try dsimp only at hSw); obtain ⟨⟨x0, x1, x2, x3, x4, x5, y0, y1, y2, y3, y4, y5, z0, z1, z2, z3, z4, z5⟩, -⟩ := hSw; go_simp <;> (try with_reducible rfl))
  try simp only [Act.put, List.setIfInBounds_toArray, List.set_cons_zero, List.set_cons_succ]
  refine wpAnyH_take (i := 3) (oi := ?ocaseT0134o) (v := ?ocaseT0134v) ?ocaseT0134h (by kernel_rfl) (by kernel_rfl) (by kernel_rfl) ?ocaseT0134q ?ocaseT0134y hHeld ?ocaseT0134r
  case ocaseT0134h => (simp only [List.getElem?_toArray, List.getElem?_cons_succ, List.getElem?_cons_zero]; rfl)
  case ocaseT0134q => exact fun _ _ _ h => h
  case ocaseT0134y => (refine Or.inl ⟨by first | kernel_rfl | rfl, ?_⟩; intro w hSw; (try dsimp only at hSw); obtain ⟨⟨x0, x1, x2, x3, x4, x5, y0, y1, y2, y3, y4, y5, z0, z1, z2, z3, z4, z5⟩, -⟩ := hSw; go_simp <;> (try with_reducible rfl))
  try simp only [Act.put, List.setIfInBounds_toArray, List.set_cons_zero, List.set_cons_succ]
  refine wpAnyH_take (i := 4) (oi := ?ocaseT0135o) (v := ?ocaseT0135v) ?ocaseT0135h (by kernel_rfl) (by kernel_rfl) (by kernel_rfl) ?ocaseT0135q ?ocaseT0135y hHeld ?ocaseT0135r
  case ocaseT0135h => (simp only [List.getElem?_toArray, List.getElem?_cons_succ, List.getElem?_cons_zero]; rfl)
  case ocaseT0135q => exact fun _ _ _ h => h
  case ocaseT0135y => (refine Or.inl ⟨by first | kernel_rfl | rfl, ?_⟩; intro w hSw; (try dsimp only at hSw); obtain ⟨⟨x0, x1, x2, x3, x4, x5, y0, y1, y2, y3, y4, y5, z0, z1, z2, z3, z4, z5⟩, -⟩ := hSw; go_simp <;> (try with_reducible rfl))
  try simp only [Act.put, List.setIfInBounds_toArray, List.set_cons_zero, List.set_cons_succ]
  refine wpAnyH_take (i := 5) (oi := ?ocaseT0136o) (v := ?ocaseT0136v) ?ocaseT0136h (by kernel_rfl) (by kernel_rfl) (by kernel_rfl) ?ocaseT0136q ?ocaseT0136y hHeld ?ocaseT0136r
  case ocaseT0136h => (simp only [List.getElem?_toArray, List.getElem?_cons_succ, List.getElem?_cons_zero]; rfl)
  case ocaseT0136q => exact fun _ _ _ h => h
  case ocaseT0136y => (refine Or.inl ⟨by first | kernel_rfl | rfl, ?_⟩; intro w hSw; (try dsimp only at hSw); obtain ⟨⟨x0, x1, x2, x3, x4, x5, y0, y1, y2, y3, y4, y5, z0, z1, z2, z3, z4, z5⟩, -⟩ := hSw; go_simp <;> (try with_reducible rfl))
  try simp only [Act.put, List.setIfInBounds_toArray, List.set_cons_zero, List.set_cons_succ]
  refine wpAnyH_ready (rs := [6]) (by kernel_rfl) (by simp) ?_
  refine (AllReadyH.cons rfl (fun K hK => ?_) AllReadyH.nil)
  go_simp
  ((with_reducible refine (kab _).mono ?_); rintro e w' ⟨rfl, hb'⟩)
  refine hK.out _ _ (hHeld.keep hb') (fun hHeld => ?_)
  clear hK K
  try simp only [Act.put, List.setIfInBounds_toArray, List.set_cons_zero, List.set_cons_succ]
  refine wpAnyH_take (i := 7) (oi := ?ocaseT0137o) (v := ?ocaseT0137v) ?ocaseT0137h (by kernel_rfl) (by kernel_rfl) (by kernel_rfl) ?ocaseT0137q ?ocaseT0137y hHeld ?ocaseT0137r
  case ocaseT0137h => (simp only [List.getElem?_toArray, List.getElem?_cons_succ, List.getElem?_cons_zero]; rfl)
  case ocaseT0137q => exact fun _ _ _ h => h
  case ocaseT0137y => (refine Or.inl ⟨by first | kernel_rfl | rfl, ?_⟩; intro w hSw; (try dsimp only at hSw); obtain ⟨⟨x0, x1, x2, x3, x4, x5, y0, y1, y2, y3, y4, y5, z0, z1, z2, z3, z4, z5⟩, -⟩ := hSw; go_simp <;> (try with_reducible rfl))
  try simp only [Act.put, List.setIfInBounds_toArray, List.set_cons_zero, List.set_cons_succ]
  refine wpAnyH_done (by kernel_rfl) ?_ _
  go_wp2_with fail
  refine wp_region_held_drew (S := (OHeld w g a b c)) (by kernel_rfl) hHeld.drew (fun hHeld => ?_)
  refine wpAnyH_take (i := 0) (oi := ?ocaseT0141o) (v := ?ocaseT0141v) ?ocaseT0141h (by kernel_rfl) (by kernel_rfl) (by kernel_rfl) ?ocaseT0141q ?ocaseT0141y hHeld ?ocaseT0141r
  case ocaseT0141h => (simp only [List.getElem?_toArray, List.getElem?_cons_zero]; rfl)
  case ocaseT0141q => exact fun _ _ _ h => h
  case ocaseT0141y => (refine Or.inl ⟨by first | kernel_rfl | rfl, ?_⟩; intro w hSw; (try dsimp only at hSw); obtain ⟨⟨x0, x1, x2, x3, x4, x5, y0, y1, y2, y3, y4, y5, z0, z1, z2, z3, z4, z5⟩, -⟩ := hSw; go_simp <;> (try with_reducible rfl))
  try simp only [Act.put, List.setIfInBounds_toArray, List.set_cons_zero, List.set_cons_succ]
  refine wpAnyH_take (i := 1) (oi := ?ocaseT0142o) (v := ?ocaseT0142v) ?ocaseT0142h (by kernel_rfl) (by kernel_rfl) (by kernel_rfl) ?ocaseT0142q ?ocaseT0142y hHeld ?ocaseT0142r
  case ocaseT0142h => (simp only [List.getElem?_toArray, List.getElem?_cons_succ, List.getElem?_cons_zero]; rfl)
  case ocaseT0142q => exact fun _ _ _ h => h
  case ocaseT0142y => (refine Or.inl ⟨by first | kernel_rfl | rfl, ?_⟩; intro w hSw; (try dsimp only at hSw); obtain ⟨⟨x0, x1, x2, x3, x4, x5, y0, y1, y2, y3, y4, y5, z0, z1, z2, z3, z4, z5⟩, -⟩ := hSw; go_simp <;> (try with_reducible rfl))
  try simp only [Act.put, List.setIfInBounds_toArray, List.set_cons_zero, List.set_cons_succ]
  refine wpAnyH_take (i := 2) (oi := ?ocaseT0143o) (v := ?ocaseT0143v) ?ocaseT0143h (by kernel_rfl) (by kernel_rfl) (by kernel_rfl) ?ocaseT0143q ?ocaseT0143y hHeld ?ocaseT0143r
  case ocaseT0143h => (simp only [List.getElem?_toArray, List.getElem?_cons_succ, List.getElem?_cons_zero]; rfl)
  case ocaseT0143q => exact fun _ _ _ h => h
  case ocaseT0143y => (refine Or.inl ⟨by first | kernel_rfl | rfl, ?_⟩; intro w hSw; (try dsimp only at hSw); obtain ⟨⟨x0, x1, x2, x3, x4, x5, y0, y1, y2, y3, y4, y5, z0, z1, z2, z3, z4, z5⟩, -⟩ := hSw; go_simp <;> (try with_reducible rfl))
  try simp only [Act.put, List.setIfInBounds_toArray, List.set_cons_zero, List.set_cons_succ]
  refine wpAnyH_take (i := 3) (oi := ?ocaseT0144o) (v := ?ocaseT0144v) ?ocaseT0144h (by kernel_rfl) (by kernel_rfl) (by kernel_rfl) ?ocaseT0144q ?ocaseT0144y hHeld ?ocaseT0144r
  case ocaseT0144h => (simp only [List.getElem?_toArray, List.getElem?_cons_succ, List.getElem?_cons_zero]; rfl)
  case ocaseT0144q => exact fun _ _ _ h => h
  case ocaseT0144y => (refine Or.inl ⟨by first | kernel_rfl | rfl, ?_⟩; intro w hSw; (try dsimp only at hSw); obtain ⟨⟨x0, x1, x2, x3, x4, x5, y0, y1, y2, y3, y4, y5, z0, z1, z2, z3, z4, z5⟩, -⟩ := hSw; go_simp <;> (try with_reducible rfl))
  try simp only [Act.put, List.setIfInBounds_toArray, List.set_cons_zero, List.set_cons_succ]
  refine wpAnyH_take (i := 4) (oi := ?ocaseT0145o) (v := ?ocaseT0145v) ?ocaseT0145h (by kernel_rfl) (by kernel_rfl) (by kernel_rfl) ?ocaseT0145q ?ocaseT0145y hHeld ?ocaseT0145r
  case ocaseT0145h => (simp only [List.getElem?_toArray, List.getElem?_cons_succ, List.getElem?_cons_zero]; rfl)
  case ocaseT0145q => exact fun _ _ _ h => h
  case ocaseT0145y => (refine Or.inl ⟨by first | kernel_rfl | rfl, ?_⟩; intro w hSw; (try dsimp only at hSw); obtain ⟨⟨x0, x1, x2, x3, x4, x5, y0, y1, y2, y3, y4, y5, z0, z1, z2, z3, z4, z5⟩, -⟩ := hSw; go_simp <;> (try with_reducible rfl))
  try simp only [Act.put, List.setIfInBounds_toArray, List.set_cons_zero, List.set_cons_succ]
  refine wpAnyH_take (i := 5) (oi := ?ocaseT0146o) (v := ?ocaseT0146v) ?ocaseT0146h (by kernel_rfl) (by kernel_rfl) (by kernel_rfl) ?ocaseT0146q ?ocaseT0146y hHeld ?ocaseT0146r
  case ocaseT0146h => (simp only [List.getElem?_toArray, List.getElem?_cons_succ, List.getElem?_cons_zero]; rfl)
  case ocaseT0146q => exact fun _ _ _ h => h
  case ocaseT0146y => (refine Or.inl ⟨by first | kernel_rfl | rfl, ?_⟩; intro w hSw; (try dsimp only at hSw); obtain ⟨⟨x0, x1, x2, x3, x4, x5, y0, y1, y2, y3, y4, y5, z0, z1, z2, z3, z4, z5⟩, -⟩ := hSw; go_simp <;> (try with_reducible rfl))
  try simp only [Act.put, List.setIfInBounds_toArray, List.set_cons_zero, List.set_cons_succ]
  refine wpAnyH_ready (rs := [6]) (by kernel_rfl) (by simp) ?_
  refine (AllReadyH.cons rfl (fun K hK => ?_) AllReadyH.nil)
  go_simp
  ((with_reducible refine (kba _).mono ?_); rintro e w' ⟨rfl, hb'⟩)
  refine hK.out _ _ (hHeld.keep hb') (fun hHeld => ?_)
  clear hK K
  try simp only [Act.put, List.setIfInBounds_toArray, List.set_cons_zero, List.set_cons_succ]
  refine wpAnyH_take (i := 7) (oi := ?ocaseT0147o) (v := ?ocaseT0147v) ?ocaseT0147h (by kernel_rfl) (by kernel_rfl) (by kernel_rfl) ?ocaseT0147q ?ocaseT0147y hHeld ?ocaseT0147r
  case ocaseT0147h => (simp only [List.getElem?_toArray, List.getElem?_cons_succ, List.getElem?_cons_zero]; rfl)
  case ocaseT0147q => exact fun _ _ _ h => h
  case ocaseT0147y => (refine Or.inl ⟨by first | kernel_rfl | rfl, ?_⟩; intro w hSw; (try dsimp only at hSw); obtain ⟨⟨x0, x1, x2, x3, x4, x5, y0, y1, y2, y3, y4, y5, z0, z1, z2, z3, z4, z5⟩, -⟩ := hSw; go_simp <;> (try with_reducible rfl))
  try simp only [Act.put, List.setIfInBounds_toArray, List.set_cons_zero, List.set_cons_succ]
  refine wpAnyH_done (by kernel_rfl) ?_ _
  have H4 := hHeld
  have G := hHeld
  obtain ⟨⟨x0, x1, x2, x3, x4, x5, y0, y1, y2, y3, y4, y5, z0, z1, z2, z3, z4, z5⟩, -⟩ := G
  clear hHeld
  go_wp2_with fail
  go_quiet (fail)
  have HP := H4.drewN (n := nq)
  skip
  go_wp2_with fail
  refine wp_region_held_drew (S := (OHeld w g a b c)) (by kernel_rfl) HP.drew (fun hHeld => ?_)
  refine wpAnyH_take (i := 0) (oi := ?ocaseT0161o) (v := ?ocaseT0161v) ?ocaseT0161h (by kernel_rfl) (by kernel_rfl) (by kernel_rfl) ?ocaseT0161q ?ocaseT0161y hHeld ?ocaseT0161r
  case ocaseT0161h => (simp only [List.getElem?_toArray, List.getElem?_cons_zero]; rfl)
  case ocaseT0161q => exact fun _ _ _ h => h
  case ocaseT0161y => (refine Or.inl ⟨by first | kernel_rfl | rfl, ?_⟩; intro w hSw; (try dsimp only at hSw); obtain ⟨⟨x0, x1, x2, x3, x4, x5, y0, y1, y2, y3, y4, y5, z0, z1, z2, z3, z4, z5⟩, -⟩ := hSw; go_simp <;> (try with_reducible rfl))
  try simp only [Act.put, List.setIfInBounds_toArray, List.set_cons_zero, List.set_cons_succ]
  refine wpAnyH_take (i := 1) (oi := ?ocaseT0162o) (v := ?ocaseT0162v) ?ocaseT0162h (by kernel_rfl) (by kernel_rfl) (by kernel_rfl) ?ocaseT0162q ?ocaseT0162y hHeld ?ocaseT0162r
  case ocaseT0162h => (simp only [List.getElem?_toArray, List.getElem?_cons_succ, List.getElem?_cons_zero]; rfl)
  case ocaseT0162q => exact fun _ _ _ h => h
  case ocaseT0162y => (refine Or.inl ⟨by first | kernel_rfl | rfl, ?_⟩; intro w hSw; (try dsimp only at hSw); obtain ⟨⟨x0, x1, x2, x3, x4, x5, y0, y1, y2, y3, y4, y5, z0, z1, z2, z3, z4, z5⟩, -⟩ := hSw; go_simp <;> (try with_reducible rfl))
  try simp only [Act.put, List.setIfInBounds_toArray, List.set_cons_zero, List.set_cons_succ]
  refine wpAnyH_take (i := 2) (oi := ?ocaseT0163o) (v := ?ocaseT0163v) ?ocaseT0163h (by kernel_rfl) (by kernel_rfl) (by kernel_rfl) ?ocaseT0163q ?ocaseT0163y hHeld ?ocaseT0163r
  case ocaseT0163h => (simp only [List.getElem?_toArray, List.getElem?_cons_succ, List.getElem?_cons_zero]; rfl)
  case ocaseT0163q => exact fun _ _ _ h => h
  case ocaseT0163y => (refine Or.inl ⟨by first | kernel_rfl | rfl, ?_⟩; intro w hSw; (try dsimp only at hSw); obtain ⟨⟨x0, x1, x2, x3, x4, x5, y0, y1, y2, y3, y4, y5, z0, z1, z2, z3, z4, z5⟩, -⟩ := hSw; go_simp <;> (try with_reducible rfl))
  try simp only [Act.put, List.setIfInBounds_toArray, List.set_cons_zero, List.set_cons_succ]
  refine wpAnyH_take (i := 3) (oi := ?ocaseT0164o) (v := ?ocaseT0164v) ?ocaseT0164h (by kernel_rfl) (by kernel_rfl) (by kernel_rfl) ?ocaseT0164q ?ocaseT0164y hHeld ?ocaseT0164r
  case ocaseT0164h => (simp only [List.getElem?_toArray, List.getElem?_cons_succ, List.getElem?_cons_zero]; rfl)
  case ocaseT0164q => exact fun _ _ _ h => h
  case ocaseT0164y => (refine Or.inl ⟨by first | kernel_rfl | rfl, ?_⟩; intro w hSw; (try dsimp only at hSw); obtain ⟨⟨x0, x1, x2, x3, x4, x5, y0, y1, y2, y3, y4, y5, z0, z1, z2, z3, z4, z5⟩, -⟩ := hSw; go_simp <;> (try with_reducible rfl))
  try simp only [Act.put, List.setIfInBounds_toArray, List.set_cons_zero, List.set_cons_succ]
  refine wpAnyH_take (i := 4) (oi := ?ocaseT0165o) (v := ?ocaseT0165v) ?ocaseT0165h (by kernel_rfl) (by kernel_rfl) (by kernel_rfl) ?ocaseT0165q ?ocaseT0165y hHeld ?ocaseT0165r
  case ocaseT0165h => (simp only [List.getElem?_toArray, List.getElem?_cons_succ, List.getElem?_cons_zero]; rfl)
  case ocaseT0165q => exact fun _ _ _ h => h
  case ocaseT0165y => (refine Or.inl ⟨by first | kernel_rfl | rfl, ?_⟩; intro w hSw; (try dsimp only at hSw); obtain ⟨⟨x0, x1, x2, x3, x4, x5, y0, y1, y2, y3, y4, y5, z0, z1, z2, z3, z4, z5⟩, -⟩ := hSw; go_simp <;> (try with_reducible rfl))
  try simp only [Act.put, List.setIfInBounds_toArray, List.set_cons_zero, List.set_cons_succ]
  refine wpAnyH_take (i := 5) (oi := ?ocaseT0166o) (v := ?ocaseT0166v) ?ocaseT0166h (by kernel_rfl) (by kernel_rfl) (by kernel_rfl) ?ocaseT0166q ?ocaseT0166y hHeld ?ocaseT0166r
  case ocaseT0166h => (simp only [List.getElem?_toArray, List.getElem?_cons_succ, List.getElem?_cons_zero]; rfl)
  case ocaseT0166q => exact fun _ _ _ h => h
  case ocaseT0166y => (refine Or.inl ⟨by first | kernel_rfl | rfl, ?_⟩; intro w hSw; (try dsimp only at hSw); obtain ⟨⟨x0, x1, x2, x3, x4, x5, y0, y1, y2, y3, y4, y5, z0, z1, z2, z3, z4, z5⟩, -⟩ := hSw; go_simp <;> (try with_reducible rfl))
  try simp only [Act.put, List.setIfInBounds_toArray, List.set_cons_zero, List.set_cons_succ]
  refine wpAnyH_ready (rs := [6]) (by kernel_rfl) (by simp) ?_
  refine (AllReadyH.cons rfl (fun K hK => ?_) AllReadyH.nil)
  go_simp
  ((with_reducible refine (jab _).mono ?_); rintro e w' ⟨rfl, hb'⟩)
  refine hK.out _ _ (hHeld.keep hb') (fun hHeld => ?_)
  clear hK K
  try simp only [Act.put, List.setIfInBounds_toArray, List.set_cons_zero, List.set_cons_succ]
  refine wpAnyH_take (i := 7) (oi := ?ocaseT0167o) (v := ?ocaseT0167v) ?ocaseT0167h (by kernel_rfl) (by kernel_rfl) (by kernel_rfl) ?ocaseT0167q ?ocaseT0167y hHeld ?ocaseT0167r
  case ocaseT0167h => (simp only [List.getElem?_toArray, List.getElem?_cons_succ, List.getElem?_cons_zero]; rfl)
  case ocaseT0167q => exact fun _ _ _ h => h
  case ocaseT0167y => (refine Or.inl ⟨by first | kernel_rfl | rfl, ?_⟩; intro w hSw; (try dsimp only at hSw); obtain ⟨⟨x0, x1, x2, x3, x4, x5, y0, y1, y2, y3, y4, y5, z0, z1, z2, z3, z4, z5⟩, -⟩ := hSw; go_simp <;> (try with_reducible rfl))
  try simp only [Act.put, List.setIfInBounds_toArray, List.set_cons_zero, List.set_cons_succ]
  refine wpAnyH_done (by kernel_rfl) ?_ _
  go_wp2_with fail
  refine wp_region_held_drew (S := (OHeld w g a b c)) (by kernel_rfl) hHeld.drew (fun hHeld => ?_)
  refine wpAnyH_take (i := 0) (oi := ?ocaseT0171o) (v := ?ocaseT0171v) ?ocaseT0171h (by kernel_rfl) (by kernel_rfl) (by kernel_rfl) ?ocaseT0171q ?ocaseT0171y hHeld ?ocaseT0171r
  case ocaseT0171h => (simp only [List.getElem?_toArray, List.getElem?_cons_zero]; rfl)
  case ocaseT0171q => exact fun _ _ _ h => h
  case ocaseT0171y => (refine Or.inl ⟨by first | kernel_rfl | rfl, ?_⟩; intro w hSw; (try dsimp only at hSw); obtain ⟨⟨x0, x1, x2, x3, x4, x5, y0, y1, y2, y3, y4, y5, z0, z1, z2, z3, z4, z5⟩, -⟩ := hSw; go_simp <;> (try with_reducible rfl))
  try simp only [Act.put, List.setIfInBounds_toArray, List.set_cons_zero, List.set_cons_succ]
  refine wpAnyH_take (i := 1) (oi := ?ocaseT0172o) (v := ?ocaseT0172v) ?ocaseT0172h (by kernel_rfl) (by kernel_rfl) (by kernel_rfl) ?ocaseT0172q ?ocaseT0172y hHeld ?ocaseT0172r
  case ocaseT0172h => (simp only [List.getElem?_toArray, List.getElem?_cons_succ, List.getElem?_cons_zero]; rfl)
  case ocaseT0172q => exact fun _ _ _ h => h
  case ocaseT0172y => (refine Or.inl ⟨by first | kernel_rfl | rfl, ?_⟩; intro w hSw; (try dsimp only at hSw); obtain ⟨⟨x0, x1, x2, x3, x4, x5, y0, y1, y2, y3, y4, y5, z0, z1, z2, z3, z4, z5⟩, -⟩ := hSw; go_simp <;> (try with_reducible rfl))
  try simp only [Act.put, List.setIfInBounds_toArray, List.set_cons_zero, List.set_cons_succ]
  refine wpAnyH_take (i := 2) (oi := ?ocaseT0173o) (v := ?ocaseT0173v) ?ocaseT0173h (by kernel_rfl) (by kernel_rfl) (by kernel_rfl) ?ocaseT0173q ?ocaseT0173y hHeld ?ocaseT0173r
  case ocaseT0173h => (simp only [List.getElem?_toArray, List.getElem?_cons_succ, List.getElem?_cons_zero]; rfl)
  case ocaseT0173q => exact fun _ _ _ h => h
  case ocaseT0173y => (refine Or.inl ⟨by first | kernel_rfl | rfl, ?_⟩; intro w hSw; (try dsimp only at hSw); obtain ⟨⟨x0, x1, x2, x3, x4, x5, y0, y1, y2, y3, y4, y5, z0, z1, z2, z3, z4, z5⟩, -⟩ := hSw; go_simp <;> (try with_reducible rfl))
  try simp only [Act.put, List.setIfInBounds_toArray, List.set_cons_zero, List.set_cons_succ]
  refine wpAnyH_take (i := 3) (oi := ?ocaseT0174o) (v := ?ocaseT0174v) ?ocaseT0174h (by kernel_rfl) (by kernel_rfl) (by kernel_rfl) ?ocaseT0174q ?ocaseT0174y hHeld ?ocaseT0174r
  case ocaseT0174h => (simp only [List.getElem?_toArray, List.getElem?_cons_succ, List.getElem?_cons_zero]; rfl)
  case ocaseT0174q => exact fun _ _ _ h => h
  case ocaseT0174y => (refine Or.inl ⟨by first | kernel_rfl | rfl, ?_⟩; intro w hSw; (try dsimp only at hSw); obtain ⟨⟨x0, x1, x2, x3, x4, x5, y0, y1, y2, y3, y4, y5, z0, z1, z2, z3, z4, z5⟩, -⟩ := hSw; go_simp <;> (try with_reducible rfl))
  try simp only [Act.put, List.setIfInBounds_toArray, List.set_cons_zero, List.set_cons_succ]
  refine wpAnyH_take (i := 4) (oi := ?ocaseT0175o) (v := ?ocaseT0175v) ?ocaseT0175h (by kernel_rfl) (by kernel_rfl) (by kernel_rfl) ?ocaseT0175q ?ocaseT0175y hHeld ?ocaseT0175r
  case ocaseT0175h => (simp only [List.getElem?_toArray, List.getElem?_cons_succ, List.getElem?_cons_zero]; rfl)
  case ocaseT0175q => exact fun _ _ _ h => h
  case ocaseT0175y => (refine Or.inl ⟨by first | kernel_rfl | rfl, ?_⟩; intro w hSw; (try dsimp only at hSw); obtain ⟨⟨x0, x1, x2, x3, x4, x5, y0, y1, y2, y3, y4, y5, z0, z1, z2, z3, z4, z5⟩, -⟩ := hSw; go_simp <;> (try with_reducible rfl))
  try simp only [Act.put, List.setIfInBounds_toArray, List.set_cons_zero, List.set_cons_succ]
  refine wpAnyH_take (i := 5) (oi := ?ocaseT0176o) (v := ?ocaseT0176v) ?ocaseT0176h (by kernel_rfl) (by kernel_rfl) (by kernel_rfl) ?ocaseT0176q ?ocaseT0176y hHeld ?ocaseT0176r
  case ocaseT0176h => (simp only [List.getElem?_toArray, List.getElem?_cons_succ, List.getElem?_cons_zero]; rfl)
  case ocaseT0176q => exact fun _ _ _ h => h
  case ocaseT0176y => (refine Or.inl ⟨by first | kernel_rfl | rfl, ?_⟩; intro w hSw; (try dsimp only at hSw); obtain ⟨⟨x0, x1, x2, x3, x4, x5, y0, y1, y2, y3, y4, y5, z0, z1, z2, z3, z4, z5⟩, -⟩ := hSw; go_simp <;> (try with_reducible rfl))
  try simp only [Act.put, List.setIfInBounds_toArray, List.set_cons_zero, List.set_cons_succ]
  refine wpAnyH_ready (rs := [6]) (by kernel_rfl) (by simp) ?_
  refine (AllReadyH.cons rfl (fun K hK => ?_) AllReadyH.nil)
  go_simp
  ((with_reducible refine (jba _).mono ?_); rintro e w' ⟨rfl, hb'⟩)
  refine hK.out _ _ (hHeld.keep hb') (fun hHeld => ?_)
  clear hK K
  try simp only [Act.put, List.setIfInBounds_toArray, List.set_cons_zero, List.set_cons_succ]
  refine wpAnyH_take (i := 7) (oi := ?ocaseT0177o) (v := ?ocaseT0177v) ?ocaseT0177h (by kernel_rfl) (by kernel_rfl) (by kernel_rfl) ?ocaseT0177q ?ocaseT0177y hHeld ?ocaseT0177r
  case ocaseT0177h => (simp only [List.getElem?_toArray, List.getElem?_cons_succ, List.getElem?_cons_zero]; rfl)
  case ocaseT0177q => exact fun _ _ _ h => h
  case ocaseT0177y => (refine Or.inl ⟨by first | kernel_rfl | rfl, ?_⟩; intro w hSw; (try dsimp only at hSw); obtain ⟨⟨x0, x1, x2, x3, x4, x5, y0, y1, y2, y3, y4, y5, z0, z1, z2, z3, z4, z5⟩, -⟩ := hSw; go_simp <;> (try with_reducible rfl))
  try simp only [Act.put, List.setIfInBounds_toArray, List.set_cons_zero, List.set_cons_succ]
  refine wpAnyH_done (by kernel_rfl) ?_ _
  have H7 := hHeld
  have G := hHeld
  obtain ⟨⟨x0, x1, x2, x3, x4, x5, y0, y1, y2, y3, y4, y5, z0, z1, z2, z3, z4, z5⟩, -⟩ := G
  clear hHeld
  go_wp2_with fail
  go_quiet (fail)
  have HQ := H7.drewN (n := nq)
  skip
  go_wp2_with fail
  refine wp_region_held_drew (S := (OHeld w g a b c)) (by kernel_rfl) HQ.drew (fun hHeld => ?_)
  refine wpAnyH_take (i := 0) (oi := ?ocaseT01101o) (v := ?ocaseT01101v) ?ocaseT01101h (by kernel_rfl) (by kernel_rfl) (by kernel_rfl) ?ocaseT01101q ?ocaseT01101y hHeld ?ocaseT01101r
  case ocaseT01101h => (simp only [List.getElem?_toArray, List.getElem?_cons_zero]; rfl)
  case ocaseT01101q => exact fun _ _ _ h => h
  case ocaseT01101y => (refine Or.inl ⟨by first | kernel_rfl | rfl, ?_⟩; intro w hSw; (try dsimp only at hSw); obtain ⟨⟨x0, x1, x2, x3, x4, x5, y0, y1, y2, y3, y4, y5, z0, z1, z2, z3, z4, z5⟩, -⟩ := hSw; go_simp <;> (try with_reducible rfl))
  try simp only [Act.put, List.setIfInBounds_toArray, List.set_cons_zero, List.set_cons_succ]
  refine wpAnyH_take (i := 1) (oi := ?ocaseT01102o) (v := ?ocaseT01102v) ?ocaseT01102h (by kernel_rfl) (by kernel_rfl) (by kernel_rfl) ?ocaseT01102q ?ocaseT01102y hHeld ?ocaseT01102r
  case ocaseT01102h => (simp only [List.getElem?_toArray, List.getElem?_cons_succ, List.getElem?_cons_zero]; rfl)
  case ocaseT01102q => exact fun _ _ _ h => h
  case ocaseT01102y => (refine Or.inl ⟨by first | kernel_rfl | rfl, ?_⟩; intro w hSw; (try dsimp only at hSw); obtain ⟨⟨x0, x1, x2, x3, x4, x5, y0, y1, y2, y3, y4, y5, z0, z1, z2, z3, z4, z5⟩, -⟩ := hSw; go_simp <;> (try with_reducible rfl))
  try simp only [Act.put, List.setIfInBounds_toArray, List.set_cons_zero, List.set_cons_succ]
  refine wpAnyH_take (i := 2) (oi := ?ocaseT01103o) (v := ?ocaseT01103v) ?ocaseT01103h (by kernel_rfl) (by kernel_rfl) (by kernel_rfl) ?ocaseT01103q ?ocaseT01103y hHeld ?ocaseT01103r
  case ocaseT01103h => (simp only [List.getElem?_toArray, List.getElem?_cons_succ, List.getElem?_cons_zero]; rfl)
  case ocaseT01103q => exact fun _ _ _ h => h
  case ocaseT01103y => (refine Or.inl ⟨by first | kernel_rfl | rfl, ?_⟩; intro w hSw; (try dsimp only at hSw); obtain ⟨⟨x0, x1, x2, x3, x4, x5, y0, y1, y2, y3, y4, y5, z0, z1, z2, z3, z4, z5⟩, -⟩ := hSw; go_simp <;> (try with_reducible rfl))
  try simp only [Act.put, List.setIfInBounds_toArray, List.set_cons_zero, List.set_cons_succ]
  refine wpAnyH_take (i := 3) (oi := ?ocaseT01104o) (v := ?ocaseT01104v) ?ocaseT01104h (by kernel_rfl) (by kernel_rfl) (by kernel_rfl) ?ocaseT01104q ?ocaseT01104y hHeld ?ocaseT01104r
  case ocaseT01104h => (simp only [List.getElem?_toArray, List.getElem?_cons_succ, List.getElem?_cons_zero]; rfl)
  case ocaseT01104q => exact fun _ _ _ h => h
  case ocaseT01104y => (refine Or.inl ⟨by first | kernel_rfl | rfl, ?_⟩; intro w hSw; (try dsimp only at hSw); obtain ⟨⟨x0, x1, x2, x3, x4, x5, y0, y1, y2, y3, y4, y5, z0, z1, z2, z3, z4, z5⟩, -⟩ := hSw; go_simp <;> (try with_reducible rfl))
  try simp only [Act.put, List.setIfInBounds_toArray, List.set_cons_zero, List.set_cons_succ]
  refine wpAnyH_take (i := 4) (oi := ?ocaseT01105o) (v := ?ocaseT01105v) ?ocaseT01105h (by kernel_rfl) (by kernel_rfl) (by kernel_rfl) ?ocaseT01105q ?ocaseT01105y hHeld ?ocaseT01105r
  case ocaseT01105h => (simp only [List.getElem?_toArray, List.getElem?_cons_succ, List.getElem?_cons_zero]; rfl)
  case ocaseT01105q => exact fun _ _ _ h => h
  case ocaseT01105y => (refine Or.inl ⟨by first | kernel_rfl | rfl, ?_⟩; intro w hSw; (try dsimp only at hSw); obtain ⟨⟨x0, x1, x2, x3, x4, x5, y0, y1, y2, y3, y4, y5, z0, z1, z2, z3, z4, z5⟩, -⟩ := hSw; go_simp <;> (try with_reducible rfl))
  try simp only [Act.put, List.setIfInBounds_toArray, List.set_cons_zero, List.set_cons_succ]
  refine wpAnyH_take (i := 5) (oi := ?ocaseT01106o) (v := ?ocaseT01106v) ?ocaseT01106h (by kernel_rfl) (by kernel_rfl) (by kernel_rfl) ?ocaseT01106q ?ocaseT01106y hHeld ?ocaseT01106r
  case ocaseT01106h => (simp only [List.getElem?_toArray, List.getElem?_cons_succ, List.getElem?_cons_zero]; rfl)
  case ocaseT01106q => exact fun _ _ _ h => h
  case ocaseT01106y => (refine Or.inl ⟨by first | kernel_rfl | rfl, ?_⟩; intro w hSw; (try dsimp only at hSw); obtain ⟨⟨x0, x1, x2, x3, x4, x5, y0, y1, y2, y3, y4, y5, z0, z1, z2, z3, z4, z5⟩, -⟩ := hSw; go_simp <;> (try with_reducible rfl))
  try simp only [Act.put, List.setIfInBounds_toArray, List.set_cons_zero, List.set_cons_succ]
  refine wpAnyH_take (i := 6) (oi := ?ocaseT01107o) (v := ?ocaseT01107v) ?ocaseT01107h (by kernel_rfl) (by kernel_rfl) (by kernel_rfl) ?ocaseT01107q ?ocaseT01107y hHeld ?ocaseT01107r
  case ocaseT01107h => (simp only [List.getElem?_toArray, List.getElem?_cons_succ, List.getElem?_cons_zero]; rfl)
  case ocaseT01107q => exact fun _ _ _ h => h
  case ocaseT01107y => (refine Or.inl ⟨by first | kernel_rfl | rfl, ?_⟩; intro w hSw; (try dsimp only at hSw); obtain ⟨⟨x0, x1, x2, x3, x4, x5, y0, y1, y2, y3, y4, y5, z0, z1, z2, z3, z4, z5⟩, -⟩ := hSw; go_simp <;> (try with_reducible rfl))
  try simp only [Act.put, List.setIfInBounds_toArray, List.set_cons_zero, List.set_cons_succ]
  refine wpAnyH_take (i := 7) (oi := ?ocaseT01108o) (v := ?ocaseT01108v) ?ocaseT01108h (by kernel_rfl) (by kernel_rfl) (by kernel_rfl) ?ocaseT01108q ?ocaseT01108y hHeld ?ocaseT01108r
  case ocaseT01108h => (simp only [List.getElem?_toArray, List.getElem?_cons_succ, List.getElem?_cons_zero]; rfl)
  case ocaseT01108q => exact fun _ _ _ h => h
  case ocaseT01108y => (refine Or.inl ⟨by first | kernel_rfl | rfl, ?_⟩; intro w hSw; (try dsimp only at hSw); obtain ⟨⟨x0, x1, x2, x3, x4, x5, y0, y1, y2, y3, y4, y5, z0, z1, z2, z3, z4, z5⟩, -⟩ := hSw; go_simp <;> (try with_reducible rfl))
  try simp only [Act.put, List.setIfInBounds_toArray, List.set_cons_zero, List.set_cons_succ]
  refine wpAnyH_take (i := 8) (oi := ?ocaseT01109o) (v := ?ocaseT01109v) ?ocaseT01109h (by kernel_rfl) (by kernel_rfl) (by kernel_rfl) ?ocaseT01109q ?ocaseT01109y hHeld ?ocaseT01109r
  case ocaseT01109h => (simp only [List.getElem?_toArray, List.getElem?_cons_succ, List.getElem?_cons_zero]; rfl)
  case ocaseT01109q => exact fun _ _ _ h => h
  case ocaseT01109y => (refine Or.inl ⟨by first | kernel_rfl | rfl, ?_⟩; intro w hSw; (try dsimp only at hSw); obtain ⟨⟨x0, x1, x2, x3, x4, x5, y0, y1, y2, y3, y4, y5, z0, z1, z2, z3, z4, z5⟩, -⟩ := hSw; go_simp <;> (try with_reducible rfl))
  try simp only [Act.put, List.setIfInBounds_toArray, List.set_cons_zero, List.set_cons_succ]
  refine wpAnyH_ready (rs := [9]) (by kernel_rfl) (by simp) ?_
  refine (AllReadyH.cons rfl (fun K hK => ?_) AllReadyH.nil)
  go_simp
  ((with_reducible refine (kbc _).mono ?_); rintro e w' ⟨rfl, hb'⟩)
  refine hK.out _ _ (hHeld.keep hb') (fun hHeld => ?_)
  clear hK K
  try simp only [Act.put, List.setIfInBounds_toArray, List.set_cons_zero, List.set_cons_succ]
  refine wpAnyH_take (i := 10) (oi := ?ocaseT011010o) (v := ?ocaseT011010v) ?ocaseT011010h (by kernel_rfl) (by kernel_rfl) (by kernel_rfl) ?ocaseT011010q ?ocaseT011010y hHeld ?ocaseT011010r
  case ocaseT011010h => (simp only [List.getElem?_toArray, List.getElem?_cons_succ, List.getElem?_cons_zero]; rfl)
  case ocaseT011010q => exact fun _ _ _ h => h
  case ocaseT011010y => (refine Or.inl ⟨by first | kernel_rfl | rfl, ?_⟩; intro w hSw; (try dsimp only at hSw); obtain ⟨⟨x0, x1, x2, x3, x4, x5, y0, y1, y2, y3, y4, y5, z0, z1, z2, z3, z4, z5⟩, -⟩ := hSw; go_simp <;> (try with_reducible rfl))
  try simp only [Act.put, List.setIfInBounds_toArray, List.set_cons_zero, List.set_cons_succ]
  refine wpAnyH_take (i := 11) (oi := ?ocaseT011011o) (v := ?ocaseT011011v) ?ocaseT011011h (by kernel_rfl) (by kernel_rfl) (by kernel_rfl) ?ocaseT011011q ?ocaseT011011y hHeld ?ocaseT011011r
  case ocaseT011011h => (simp only [List.getElem?_toArray, List.getElem?_cons_succ, List.getElem?_cons_zero]; rfl)
  case ocaseT011011q => exact fun _ _ _ h => h
  case ocaseT011011y => (refine Or.inl ⟨by first | kernel_rfl | rfl, ?_⟩; intro w hSw; (try dsimp only at hSw); obtain ⟨⟨x0, x1, x2, x3, x4, x5, y0, y1, y2, y3, y4, y5, z0, z1, z2, z3, z4, z5⟩, -⟩ := hSw; go_simp <;> (try with_reducible rfl))
  try simp only [Act.put, List.setIfInBounds_toArray, List.set_cons_zero, List.set_cons_succ]
  refine wpAnyH_take (i := 12) (oi := ?ocaseT011012o) (v := ?ocaseT011012v) ?ocaseT011012h (by kernel_rfl) (by kernel_rfl) (by kernel_rfl) ?ocaseT011012q ?ocaseT011012y hHeld ?ocaseT011012r
  case ocaseT011012h => (simp only [List.getElem?_toArray, List.getElem?_cons_succ, List.getElem?_cons_zero]; rfl)
  case ocaseT011012q => exact fun _ _ _ h => h
  case ocaseT011012y => (refine Or.inl ⟨by first | kernel_rfl | rfl, ?_⟩; intro w hSw; (try dsimp only at hSw); obtain ⟨⟨x0, x1, x2, x3, x4, x5, y0, y1, y2, y3, y4, y5, z0, z1, z2, z3, z4, z5⟩, -⟩ := hSw; go_simp <;> (try with_reducible rfl))
  try simp only [Act.put, List.setIfInBounds_toArray, List.set_cons_zero, List.set_cons_succ]
  refine wpAnyH_take (i := 13) (oi := ?ocaseT011013o) (v := ?ocaseT011013v) ?ocaseT011013h (by kernel_rfl) (by kernel_rfl) (by kernel_rfl) ?ocaseT011013q ?ocaseT011013y hHeld ?ocaseT011013r
  case ocaseT011013h => (simp only [List.getElem?_toArray, List.getElem?_cons_succ, List.getElem?_cons_zero]; rfl)
  case ocaseT011013q => exact fun _ _ _ h => h
  case ocaseT011013y => (refine Or.inl ⟨by first | kernel_rfl | rfl, ?_⟩; intro w hSw; (try dsimp only at hSw); obtain ⟨⟨x0, x1, x2, x3, x4, x5, y0, y1, y2, y3, y4, y5, z0, z1, z2, z3, z4, z5⟩, -⟩ := hSw; go_simp <;> (try with_reducible rfl))
  try simp only [Act.put, List.setIfInBounds_toArray, List.set_cons_zero, List.set_cons_succ]
  refine wpAnyH_take (i := 14) (oi := ?ocaseT011014o) (v := ?ocaseT011014v) ?ocaseT011014h (by kernel_rfl) (by kernel_rfl) (by kernel_rfl) ?ocaseT011014q ?ocaseT011014y hHeld ?ocaseT011014r
  case ocaseT011014h => (simp only [List.getElem?_toArray, List.getElem?_cons_succ, List.getElem?_cons_zero]; rfl)
  case ocaseT011014q => exact fun _ _ _ h => h
  case ocaseT011014y => (refine Or.inl ⟨by first | kernel_rfl | rfl, ?_⟩; intro w hSw; (try dsimp only at hSw); obtain ⟨⟨x0, x1, x2, x3, x4, x5, y0, y1, y2, y3, y4, y5, z0, z1, z2, z3, z4, z5⟩, -⟩ := hSw; go_simp <;> (try with_reducible rfl))
  try simp only [Act.put, List.setIfInBounds_toArray, List.set_cons_zero, List.set_cons_succ]
  refine wpAnyH_take (i := 15) (oi := ?ocaseT011015o) (v := ?ocaseT011015v) ?ocaseT011015h (by kernel_rfl) (by kernel_rfl) (by kernel_rfl) ?ocaseT011015q ?ocaseT011015y hHeld ?ocaseT011015r
  case ocaseT011015h => (simp only [List.getElem?_toArray, List.getElem?_cons_succ, List.getElem?_cons_zero]; rfl)
  case ocaseT011015q => exact fun _ _ _ h => h
  case ocaseT011015y => (refine Or.inl ⟨by first | kernel_rfl | rfl, ?_⟩; intro w hSw; (try dsimp only at hSw); obtain ⟨⟨x0, x1, x2, x3, x4, x5, y0, y1, y2, y3, y4, y5, z0, z1, z2, z3, z4, z5⟩, -⟩ := hSw; go_simp <;> (try with_reducible rfl))
  try simp only [Act.put, List.setIfInBounds_toArray, List.set_cons_zero, List.set_cons_succ]
  refine wpAnyH_take (i := 16) (oi := ?ocaseT011016o) (v := ?ocaseT011016v) ?ocaseT011016h (by kernel_rfl) (by kernel_rfl) (by kernel_rfl) ?ocaseT011016q ?ocaseT011016y hHeld ?ocaseT011016r
  case ocaseT011016h => (simp only [List.getElem?_toArray, List.getElem?_cons_succ, List.getElem?_cons_zero]; rfl)
  case ocaseT011016q => exact fun _ _ _ h => h
  case ocaseT011016y => (refine Or.inl ⟨by first | kernel_rfl | rfl, ?_⟩; intro w hSw; (try dsimp only at hSw); obtain ⟨⟨x0, x1, x2, x3, x4, x5, y0, y1, y2, y3, y4, y5, z0, z1, z2, z3, z4, z5⟩, -⟩ := hSw; go_simp <;> (try with_reducible rfl))
  try simp only [Act.put, List.setIfInBounds_toArray, List.set_cons_zero, List.set_cons_succ]
  refine wpAnyH_take (i := 17) (oi := ?ocaseT011017o) (v := ?ocaseT011017v) ?ocaseT011017h (by kernel_rfl) (by kernel_rfl) (by kernel_rfl) ?ocaseT011017q ?ocaseT011017y hHeld ?ocaseT011017r
  case ocaseT011017h => (simp only [List.getElem?_toArray, List.getElem?_cons_succ, List.getElem?_cons_zero]; rfl)
  case ocaseT011017q => exact fun _ _ _ h => h
  case ocaseT011017y => (refine Or.inl ⟨by first | kernel_rfl | rfl, ?_⟩; intro w hSw; (try dsimp only at hSw); obtain ⟨⟨x0, x1, x2, x3, x4, x5, y0, y1, y2, y3, y4, y5, z0, z1, z2, z3, z4, z5⟩, -⟩ := hSw; go_simp <;> (try with_reducible rfl))
  try simp only [Act.put, List.setIfInBounds_toArray, List.set_cons_zero, List.set_cons_succ]
  refine wpAnyH_take (i := 18) (oi := ?ocaseT011018o) (v := ?ocaseT011018v) ?ocaseT011018h (by kernel_rfl) (by kernel_rfl) (by kernel_rfl) ?ocaseT011018q ?ocaseT011018y hHeld ?ocaseT011018r
  case ocaseT011018h => (simp only [List.getElem?_toArray, List.getElem?_cons_succ, List.getElem?_cons_zero]; rfl)
  case ocaseT011018q => exact fun _ _ _ h => h
  case ocaseT011018y => (refine Or.inl ⟨by first | kernel_rfl | rfl, ?_⟩; intro w hSw; (try dsimp only at hSw); obtain ⟨⟨x0, x1, x2, x3, x4, x5, y0, y1, y2, y3, y4, y5, z0, z1, z2, z3, z4, z5⟩, -⟩ := hSw; go_simp <;> (try with_reducible rfl))
  try simp only [Act.put, List.setIfInBounds_toArray, List.set_cons_zero, List.set_cons_succ]
  refine wpAnyH_ready (rs := [19]) (by kernel_rfl) (by simp) ?_
  refine (AllReadyH.cons rfl (fun K hK => ?_) AllReadyH.nil)
  go_simp
  ((with_reducible refine (kac _).mono ?_); rintro e w' ⟨rfl, hb'⟩)
  refine hK.out _ _ (hHeld.keep hb') (fun hHeld => ?_)
  clear hK K
  try simp only [Act.put, List.setIfInBounds_toArray, List.set_cons_zero, List.set_cons_succ]
  refine wpAnyH_take (i := 20) (oi := ?ocaseT011019o) (v := ?ocaseT011019v) ?ocaseT011019h (by kernel_rfl) (by kernel_rfl) (by kernel_rfl) ?ocaseT011019q ?ocaseT011019y hHeld ?ocaseT011019r
  case ocaseT011019h => (simp only [List.getElem?_toArray, List.getElem?_cons_succ, List.getElem?_cons_zero]; rfl)
  case ocaseT011019q => exact fun _ _ _ h => h
  case ocaseT011019y => (refine Or.inl ⟨by first | kernel_rfl | rfl, ?_⟩; intro w hSw; (try dsimp only at hSw); obtain ⟨⟨x0, x1, x2, x3, x4, x5, y0, y1, y2, y3, y4, y5, z0, z1, z2, z3, z4, z5⟩, -⟩ := hSw; go_simp <;> (try with_reducible rfl))
  try simp only [Act.put, List.setIfInBounds_toArray, List.set_cons_zero, List.set_cons_succ]
  refine wpAnyH_take (i := 21) (oi := ?ocaseT011020o) (v := ?ocaseT011020v) ?ocaseT011020h (by kernel_rfl) (by kernel_rfl) (by kernel_rfl) ?ocaseT011020q ?ocaseT011020y hHeld ?ocaseT011020r
  case ocaseT011020h => (simp only [List.getElem?_toArray, List.getElem?_cons_succ, List.getElem?_cons_zero]; rfl)
  case ocaseT011020q => exact fun _ _ _ h => h
  case ocaseT011020y => (refine Or.inl ⟨by first | kernel_rfl | rfl, ?_⟩; intro w hSw; (try dsimp only at hSw); obtain ⟨⟨x0, x1, x2, x3, x4, x5, y0, y1, y2, y3, y4, y5, z0, z1, z2, z3, z4, z5⟩, -⟩ := hSw; go_simp <;> (try with_reducible rfl))
  try simp only [Act.put, List.setIfInBounds_toArray, List.set_cons_zero, List.set_cons_succ]
  refine wpAnyH_done (by kernel_rfl) ?_ _
  go_wp2_with fail
  refine wp_region_held_drew (S := (OHeld w g a b c)) (by kernel_rfl) hHeld.drew (fun hHeld => ?_)
  refine wpAnyH_take (i := 0) (oi := ?ocaseT01111o) (v := ?ocaseT01111v) ?ocaseT01111h (by kernel_rfl) (by kernel_rfl) (by kernel_rfl) ?ocaseT01111q ?ocaseT01111y hHeld ?ocaseT01111r
  case ocaseT01111h => (simp only [List.getElem?_toArray, List.getElem?_cons_zero]; rfl)
  case ocaseT01111q => exact fun _ _ _ h => h
  case ocaseT01111y => (refine Or.inl ⟨by first | kernel_rfl | rfl, ?_⟩; intro w hSw; (try dsimp only at hSw); obtain ⟨⟨x0, x1, x2, x3, x4, x5, y0, y1, y2, y3, y4, y5, z0, z1, z2, z3, z4, z5⟩, -⟩ := hSw; go_simp <;> (try with_reducible rfl))
  try simp only [Act.put, List.setIfInBounds_toArray, List.set_cons_zero, List.set_cons_succ]
  refine wpAnyH_take (i := 1) (oi := ?ocaseT01112o) (v := ?ocaseT01112v) ?ocaseT01112h (by kernel_rfl) (by kernel_rfl) (by kernel_rfl) ?ocaseT01112q ?ocaseT01112y hHeld ?ocaseT01112r
  case ocaseT01112h => (simp only [List.getElem?_toArray, List.getElem?_cons_succ, List.getElem?_cons_zero]; rfl)
  case ocaseT01112q => exact fun _ _ _ h => h
  case ocaseT01112y => (refine Or.inl ⟨by first | kernel_rfl | rfl, ?_⟩; intro w hSw; (try dsimp only at hSw); obtain ⟨⟨x0, x1, x2, x3, x4, x5, y0, y1, y2, y3, y4, y5, z0, z1, z2, z3, z4, z5⟩, -⟩ := hSw; go_simp <;> (try with_reducible rfl))
  try simp only [Act.put, List.setIfInBounds_toArray, List.set_cons_zero, List.set_cons_succ]
  refine wpAnyH_take (i := 2) (oi := ?ocaseT01113o) (v := ?ocaseT01113v) ?ocaseT01113h (by kernel_rfl) (by kernel_rfl) (by kernel_rfl) ?ocaseT01113q ?ocaseT01113y hHeld ?ocaseT01113r
  case ocaseT01113h => (simp only [List.getElem?_toArray, List.getElem?_cons_succ, List.getElem?_cons_zero]; rfl)
  case ocaseT01113q => exact fun _ _ _ h => h
  case ocaseT01113y => (refine Or.inl ⟨by first | kernel_rfl | rfl, ?_⟩; intro w hSw; (try dsimp only at hSw); obtain ⟨⟨x0, x1, x2, x3, x4, x5, y0, y1, y2, y3, y4, y5, z0, z1, z2, z3, z4, z5⟩, -⟩ := hSw; go_simp <;> (try with_reducible rfl))
  try simp only [Act.put, List.setIfInBounds_toArray, List.set_cons_zero, List.set_cons_succ]
  refine wpAnyH_take (i := 3) (oi := ?ocaseT01114o) (v := undef) ?ocaseT01114h (by kernel_rfl) (by kernel_rfl) (by kernel_rfl) ?ocaseT01114q ?ocaseT01114y hHeld ?ocaseT01114r
  case ocaseT01114h => (simp only [List.getElem?_toArray, List.getElem?_cons_succ, List.getElem?_cons_zero]; rfl)
  case ocaseT01114q => exact fun _ _ _ h => h
  case ocaseT01114y => exact Or.inr ⟨by first | kernel_rfl | rfl, rfl⟩
  try simp only [Act.put, List.setIfInBounds_toArray, List.set_cons_zero, List.set_cons_succ]
  refine wpAnyH_take (i := 4) (oi := ?ocaseT01115o) (v := undef) ?ocaseT01115h (by kernel_rfl) (by kernel_rfl) (by kernel_rfl) ?ocaseT01115q ?ocaseT01115y hHeld ?ocaseT01115r
  case ocaseT01115h => (simp only [List.getElem?_toArray, List.getElem?_cons_succ, List.getElem?_cons_zero]; rfl)
  case ocaseT01115q => exact fun _ _ _ h => h
  case ocaseT01115y => exact Or.inr ⟨by first | kernel_rfl | rfl, rfl⟩
  try simp only [Act.put, List.setIfInBounds_toArray, List.set_cons_zero, List.set_cons_succ]
  refine wpAnyH_take (i := 5) (oi := ?ocaseT01116o) (v := undef) ?ocaseT01116h (by kernel_rfl) (by kernel_rfl) (by kernel_rfl) ?ocaseT01116q ?ocaseT01116y hHeld ?ocaseT01116r
  case ocaseT01116h => (simp only [List.getElem?_toArray, List.getElem?_cons_succ, List.getElem?_cons_zero]; rfl)
  case ocaseT01116q => exact fun _ _ _ h => h
  case ocaseT01116y => exact Or.inr ⟨by first | kernel_rfl | rfl, rfl⟩
  try simp only [Act.put, List.setIfInBounds_toArray, List.set_cons_zero, List.set_cons_succ]
  refine wpAnyH_take (i := 6) (oi := ?ocaseT01117o) (v := undef) ?ocaseT01117h (by kernel_rfl) (by kernel_rfl) (by kernel_rfl) ?ocaseT01117q ?ocaseT01117y hHeld ?ocaseT01117r
  case ocaseT01117h => (simp only [List.getElem?_toArray, List.getElem?_cons_succ, List.getElem?_cons_zero]; rfl)
  case ocaseT01117q => exact fun _ _ _ h => h
  case ocaseT01117y => exact Or.inr ⟨by first | kernel_rfl | rfl, rfl⟩
  try simp only [Act.put, List.setIfInBounds_toArray, List.set_cons_zero, List.set_cons_succ]
  refine wpAnyH_take (i := 7) (oi := ?ocaseT01118o) (v := undef) ?ocaseT01118h (by kernel_rfl) (by kernel_rfl) (by kernel_rfl) ?ocaseT01118q ?ocaseT01118y hHeld ?ocaseT01118r
  case ocaseT01118h => (simp only [List.getElem?_toArray, List.getElem?_cons_succ, List.getElem?_cons_zero]; rfl)
  case ocaseT01118q => exact fun _ _ _ h => h
  case ocaseT01118y => exact Or.inr ⟨by first | kernel_rfl | rfl, rfl⟩
  try simp only [Act.put, List.setIfInBounds_toArray, List.set_cons_zero, List.set_cons_succ]
  refine wpAnyH_take (i := 8) (oi := ?ocaseT01119o) (v := undef) ?ocaseT01119h (by kernel_rfl) (by kernel_rfl) (by kernel_rfl) ?ocaseT01119q ?ocaseT01119y hHeld ?ocaseT01119r
  case ocaseT01119h => (simp only [List.getElem?_toArray, List.getElem?_cons_succ, List.getElem?_cons_zero]; rfl)
  case ocaseT01119q => exact fun _ _ _ h => h
  case ocaseT01119y => exact Or.inr ⟨by first | kernel_rfl | rfl, rfl⟩
  try simp only [Act.put, List.setIfInBounds_toArray, List.set_cons_zero, List.set_cons_succ]
  refine wpAnyH_take (i := 9) (oi := ?ocaseT011110o) (v := undef) ?ocaseT011110h (by kernel_rfl) (by kernel_rfl) (by kernel_rfl) ?ocaseT011110q ?ocaseT011110y hHeld ?ocaseT011110r
  case ocaseT011110h => (simp only [List.getElem?_toArray, List.getElem?_cons_succ, List.getElem?_cons_zero]; rfl)
  case ocaseT011110q => exact fun _ _ _ h => h
  case ocaseT011110y => exact Or.inr ⟨by first | kernel_rfl | rfl, rfl⟩
  try simp only [Act.put, List.setIfInBounds_toArray, List.set_cons_zero, List.set_cons_succ]
  refine wpAnyH_take (i := 10) (oi := ?ocaseT011111o) (v := undef) ?ocaseT011111h (by kernel_rfl) (by kernel_rfl) (by kernel_rfl) ?ocaseT011111q ?ocaseT011111y hHeld ?ocaseT011111r
  case ocaseT011111h => (simp only [List.getElem?_toArray, List.getElem?_cons_succ, List.getElem?_cons_zero]; rfl)
  case ocaseT011111q => exact fun _ _ _ h => h
  case ocaseT011111y => exact Or.inr ⟨by first | kernel_rfl | rfl, rfl⟩
  try simp only [Act.put, List.setIfInBounds_toArray, List.set_cons_zero, List.set_cons_succ]
  refine wpAnyH_take (i := 11) (oi := ?ocaseT011112o) (v := ?ocaseT011112v) ?ocaseT011112h (by kernel_rfl) (by kernel_rfl) (by kernel_rfl) ?ocaseT011112q ?ocaseT011112y hHeld ?ocaseT011112r
  case ocaseT011112h => (simp only [List.getElem?_toArray, List.getElem?_cons_succ, List.getElem?_cons_zero]; rfl)
  case ocaseT011112q => exact fun _ _ _ h => h
  case ocaseT011112y => (refine Or.inl ⟨by first | kernel_rfl | rfl, ?_⟩; intro w hSw; (try dsimp only at hSw); obtain ⟨⟨x0, x1, x2, x3, x4, x5, y0, y1, y2, y3, y4, y5, z0, z1, z2, z3, z4, z5⟩, -⟩ := hSw; go_simp <;> (try with_reducible rfl))
  try simp only [Act.put, List.setIfInBounds_toArray, List.set_cons_zero, List.set_cons_succ]
  refine wpAnyH_take (i := 12) (oi := ?ocaseT011113o) (v := ?ocaseT011113v) ?ocaseT011113h (by kernel_rfl) (by kernel_rfl) (by kernel_rfl) ?ocaseT011113q ?ocaseT011113y hHeld ?ocaseT011113r
  case ocaseT011113h => (simp only [List.getElem?_toArray, List.getElem?_cons_succ, List.getElem?_cons_zero]; rfl)
  case ocaseT011113q => exact fun _ _ _ h => h
  case ocaseT011113y => (refine Or.inl ⟨by first | kernel_rfl | rfl, ?_⟩; intro w hSw; (try dsimp only at hSw); obtain ⟨⟨x0, x1, x2, x3, x4, x5, y0, y1, y2, y3, y4, y5, z0, z1, z2, z3, z4, z5⟩, -⟩ := hSw; go_simp <;> (try with_reducible rfl))
  try simp only [Act.put, List.setIfInBounds_toArray, List.set_cons_zero, List.set_cons_succ]
  refine wpAnyH_take (i := 13) (oi := ?ocaseT011114o) (v := undef) ?ocaseT011114h (by kernel_rfl) (by kernel_rfl) (by kernel_rfl) ?ocaseT011114q ?ocaseT011114y hHeld ?ocaseT011114r
  case ocaseT011114h => (simp only [List.getElem?_toArray, List.getElem?_cons_succ, List.getElem?_cons_zero]; rfl)
  case ocaseT011114q => exact fun _ _ _ h => h
  case ocaseT011114y => exact Or.inr ⟨by first | kernel_rfl | rfl, rfl⟩
  try simp only [Act.put, List.setIfInBounds_toArray, List.set_cons_zero, List.set_cons_succ]
  refine wpAnyH_take (i := 14) (oi := ?ocaseT011115o) (v := undef) ?ocaseT011115h (by kernel_rfl) (by kernel_rfl) (by kernel_rfl) ?ocaseT011115q ?ocaseT011115y hHeld ?ocaseT011115r
  case ocaseT011115h => (simp only [List.getElem?_toArray, List.getElem?_cons_succ, List.getElem?_cons_zero]; rfl)
  case ocaseT011115q => exact fun _ _ _ h => h
  case ocaseT011115y => exact Or.inr ⟨by first | kernel_rfl | rfl, rfl⟩
  try simp only [Act.put, List.setIfInBounds_toArray, List.set_cons_zero, List.set_cons_succ]
  refine wpAnyH_take (i := 15) (oi := ?ocaseT011116o) (v := undef) ?ocaseT011116h (by kernel_rfl) (by kernel_rfl) (by kernel_rfl) ?ocaseT011116q ?ocaseT011116y hHeld ?ocaseT011116r
  case ocaseT011116h => (simp only [List.getElem?_toArray, List.getElem?_cons_succ, List.getElem?_cons_zero]; rfl)
  case ocaseT011116q => exact fun _ _ _ h => h
  case ocaseT011116y => exact Or.inr ⟨by first | kernel_rfl | rfl, rfl⟩
  try simp only [Act.put, List.setIfInBounds_toArray, List.set_cons_zero, List.set_cons_succ]
  refine wpAnyH_take (i := 16) (oi := ?ocaseT011117o) (v := undef) ?ocaseT011117h (by kernel_rfl) (by kernel_rfl) (by kernel_rfl) ?ocaseT011117q ?ocaseT011117y hHeld ?ocaseT011117r
  case ocaseT011117h => (simp only [List.getElem?_toArray, List.getElem?_cons_succ, List.getElem?_cons_zero]; rfl)
  case ocaseT011117q => exact fun _ _ _ h => h
  case ocaseT011117y => exact Or.inr ⟨by first | kernel_rfl | rfl, rfl⟩
  try simp only [Act.put, List.setIfInBounds_toArray, List.set_cons_zero, List.set_cons_succ]
  refine wpAnyH_take (i := 17) (oi := ?ocaseT011118o) (v := undef) ?ocaseT011118h (by kernel_rfl) (by kernel_rfl) (by kernel_rfl) ?ocaseT011118q ?ocaseT011118y hHeld ?ocaseT011118r
  case ocaseT011118h => (simp only [List.getElem?_toArray, List.getElem?_cons_succ, List.getElem?_cons_zero]; rfl)
  case ocaseT011118q => exact fun _ _ _ h => h
  case ocaseT011118y => exact Or.inr ⟨by first | kernel_rfl | rfl, rfl⟩
  try simp only [Act.put, List.setIfInBounds_toArray, List.set_cons_zero, List.set_cons_succ]
  refine wpAnyH_take (i := 18) (oi := ?ocaseT011119o) (v := undef) ?ocaseT011119h (by kernel_rfl) (by kernel_rfl) (by kernel_rfl) ?ocaseT011119q ?ocaseT011119y hHeld ?ocaseT011119r
  case ocaseT011119h => (simp only [List.getElem?_toArray, List.getElem?_cons_succ, List.getElem?_cons_zero]; rfl)
  case ocaseT011119q => exact fun _ _ _ h => h
  case ocaseT011119y => exact Or.inr ⟨by first | kernel_rfl | rfl, rfl⟩
  try simp only [Act.put, List.setIfInBounds_toArray, List.set_cons_zero, List.set_cons_succ]
  refine wpAnyH_take (i := 19) (oi := ?ocaseT011120o) (v := undef) ?ocaseT011120h (by kernel_rfl) (by kernel_rfl) (by kernel_rfl) ?ocaseT011120q ?ocaseT011120y hHeld ?ocaseT011120r
  case ocaseT011120h => (simp only [List.getElem?_toArray, List.getElem?_cons_succ, List.getElem?_cons_zero]; rfl)
  case ocaseT011120q => exact fun _ _ _ h => h
  case ocaseT011120y => exact Or.inr ⟨by first | kernel_rfl | rfl, rfl⟩
  try simp only [Act.put, List.setIfInBounds_toArray, List.set_cons_zero, List.set_cons_succ]
  refine wpAnyH_take (i := 20) (oi := ?ocaseT011121o) (v := ?ocaseT011121v) ?ocaseT011121h (by kernel_rfl) (by kernel_rfl) (by kernel_rfl) ?ocaseT011121q ?ocaseT011121y hHeld ?ocaseT011121r
  case ocaseT011121h => (simp only [List.getElem?_toArray, List.getElem?_cons_succ, List.getElem?_cons_zero]; rfl)
  case ocaseT011121q => exact fun _ _ _ h => h
  case ocaseT011121y => (refine Or.inl ⟨by first | kernel_rfl | rfl, ?_⟩; intro w hSw; (try dsimp only at hSw); obtain ⟨⟨x0, x1, x2, x3, x4, x5, y0, y1, y2, y3, y4, y5, z0, z1, z2, z3, z4, z5⟩, -⟩ := hSw; go_simp <;> (try with_reducible rfl))
  try simp only [Act.put, List.setIfInBounds_toArray, List.set_cons_zero, List.set_cons_succ]
  refine wpAnyH_take (i := 21) (oi := ?ocaseT011122o) (v := ?ocaseT011122v) ?ocaseT011122h (by kernel_rfl) (by kernel_rfl) (by kernel_rfl) ?ocaseT011122q ?ocaseT011122y hHeld ?ocaseT011122r
  case ocaseT011122h => (simp only [List.getElem?_toArray, List.getElem?_cons_succ, List.getElem?_cons_zero]; rfl)
  case ocaseT011122q => exact fun _ _ _ h => h
  case ocaseT011122y => (refine Or.inl ⟨by first | kernel_rfl | rfl, ?_⟩; intro w hSw; (try dsimp only at hSw); obtain ⟨⟨x0, x1, x2, x3, x4, x5, y0, y1, y2, y3, y4, y5, z0, z1, z2, z3, z4, z5⟩, -⟩ := hSw; go_simp <;> (try with_reducible rfl))
  try simp only [Act.put, List.setIfInBounds_toArray, List.set_cons_zero, List.set_cons_succ]
  refine wpAnyH_done (by kernel_rfl) ?_ _
  have hbel := hHeld.bel
  go_wp2
  go_ret
  exact ⟨rfl, hbel⟩

set_option maxHeartbeats 8000000 in
theorem caseT11 (a b c : Pt) (h1 : a.s = b.s) (h : a.before b = true) (k : b.before c = true) : Rest a b c := by
  intro a0 b0 c0 w hfew
  have hy : b.before a = false := by rw [before_s h1] at h; rw [before_s h1.symm]; have h := of_decide_eq_true h; exact decide_eq_false (by omega)
  have hp : ¬ (a.s = b.s ∧ a.t = b.t) := fun e => by rw [before_s h1] at h; have h := of_decide_eq_true h; omega
  have hs := seq_eq h1
  have ht : (a.t == b.t) = false := by rw [before_s h1] at h; have h := of_decide_eq_true h; simp; omega
  have kab := fun w => before_is a b true w (Lib.hid h)
  have kba := fun w => before_is b a false w (Lib.hid hy)
  have kbc := fun w => before_is b c true w (Lib.hid k)
  have kac := fun w => before_is a c true w (Lib.hid (before_trans h k))
  have jab := fun w => newer_is a b false w (Lib.hid (newer_no hp))
  have jba := fun w => newer_is b a false w (Lib.hid (newer_no fun e => hp ⟨e.1.symm, e.2.symm⟩))
  unfold ptV at kab kba kbc kac jab jba
  clear h k hy hp h1
  have H0a := (PHeld.new w a0).keep (bel_new ((Below.refl _ _).alloc (Nat.le_refl _) (.cells #[.string b0.s, .int .i64 b0.t, .int .i64 b0.v, .int .i64 b0.st.c, .int .i64 b0.st.s, .int .i64 b0.st.q] 34)) (.cells #[.string c0.s, .int .i64 c0.t, .int .i64 c0.v, .int .i64 c0.st.c, .int .i64 c0.st.s, .int .i64 c0.st.q] 34))
  have H0b := (PHeld.new (w.alloc (.cells #[.string a0.s, .int .i64 a0.t, .int .i64 a0.v, .int .i64 a0.st.c, .int .i64 a0.st.s, .int .i64 a0.st.q] 34)) b0).keep ((Below.refl _ _).alloc (Nat.le_refl _) (.cells #[.string c0.s, .int .i64 c0.t, .int .i64 c0.v, .int .i64 c0.st.c, .int .i64 c0.st.s, .int .i64 c0.st.q] 34))
  have H0c := PHeld.new ((w.alloc (.cells #[.string a0.s, .int .i64 a0.t, .int .i64 a0.v, .int .i64 a0.st.c, .int .i64 a0.st.s, .int .i64 a0.st.q] 34)).alloc (.cells #[.string b0.s, .int .i64 b0.t, .int .i64 b0.v, .int .i64 b0.st.c, .int .i64 b0.st.s, .int .i64 b0.st.q] 34)) c0
  simp only [World.size_alloc] at H0b H0c
  have HF := Lib.hid hfew
  unfold ptV
  clear hfew
  go_enter Try.func7, Try.ntmps7
  go_wp2_with (first
    | (go_at_call 9; (with_reducible refine (awake_any _).mono ?_); rintro e w1 ⟨rfl, hb⟩; have Ha := H0a.keep hb; have Hb := H0b.keep hb; have Hc := H0c.keep hb; obtain ⟨⟨x0, x1, x2, x3, x4, x5⟩, -⟩ := Ha; obtain ⟨⟨y0, y1, y2, y3, y4, y5⟩, -⟩ := Hb; obtain ⟨⟨z0, z1, z2, z3, z4, z5⟩, -⟩ := Hc; have HB := H0a.bel.trans (hb.mono (by simp; omega)))
    | (go_at_call 26; (with_reducible refine (few3 a0 b0 c0 _).mono ?_); rintro e w2 ⟨v, rfl, hR, hb2⟩; rw [HF.out] at hR; obtain ⟨g, cap, rfl, hT⟩ := tri_of hR; have HH : OHeld w g a b c w2 := ⟨hT, bel_next (bel_new HB _) hb2⟩))
  clear H0a H0b H0c HB hb2 hb hT hR HF x0 x1 x2 x3 x4 x5 y0 y1 y2 y3 y4 y5 z0 z1 z2 z3 z4 z5
  go_wp2_with fail
  refine wp_region_held_drew (S := (OHeld w g a b c)) (by kernel_rfl) HH.drew (fun hHeld => ?_)
  refine wpAnyH_take (i := 0) (oi := ?ocaseT1131o) (v := ?ocaseT1131v) ?ocaseT1131h (by kernel_rfl) (by kernel_rfl) (by kernel_rfl) ?ocaseT1131q ?ocaseT1131y hHeld ?ocaseT1131r
  case ocaseT1131h => (simp only [List.getElem?_toArray, List.getElem?_cons_zero]; rfl)
  case ocaseT1131q => exact fun _ _ _ h => h
  case ocaseT1131y => (refine Or.inl ⟨by first | kernel_rfl | rfl, ?_⟩; intro w hSw; (try dsimp only at hSw); obtain ⟨⟨x0, x1, x2, x3, x4, x5, y0, y1, y2, y3, y4, y5, z0, z1, z2, z3, z4, z5⟩, -⟩ := hSw; go_simp <;> (try with_reducible rfl))
  try simp only [Act.put, List.setIfInBounds_toArray, List.set_cons_zero, List.set_cons_succ]
  refine wpAnyH_take (i := 1) (oi := ?ocaseT1132o) (v := ?ocaseT1132v) ?ocaseT1132h (by kernel_rfl) (by kernel_rfl) (by kernel_rfl) ?ocaseT1132q ?ocaseT1132y hHeld ?ocaseT1132r
  case ocaseT1132h => (simp only [List.getElem?_toArray, List.getElem?_cons_succ, List.getElem?_cons_zero]; rfl)
  case ocaseT1132q => exact fun _ _ _ h => h
  case ocaseT1132y => (refine Or.inl ⟨by first | kernel_rfl | rfl, ?_⟩; intro w hSw; (try dsimp only at hSw); obtain ⟨⟨x0, x1, x2, x3, x4, x5, y0, y1, y2, y3, y4, y5, z0, z1, z2, z3, z4, z5⟩, -⟩ := hSw; go_simp <;> (try with_reducible rfl))
  try simp only [Act.put, List.setIfInBounds_toArray, List.set_cons_zero, List.set_cons_succ]
  refine wpAnyH_take (i := 2) (oi := ?ocaseT1133o) (v := ?ocaseT1133v) ?ocaseT1133h (by kernel_rfl) (by kernel_rfl) (by kernel_rfl) ?ocaseT1133q ?ocaseT1133y hHeld ?ocaseT1133r
  case ocaseT1133h => (simp only [List.getElem?_toArray, List.getElem?_cons_succ, List.getElem?_cons_zero]; rfl)
  case ocaseT1133q => exact fun _ _ _ h => h
  case ocaseT1133y => (refine Or.inl ⟨by first | kernel_rfl | rfl, ?_⟩; intro w hSw; (try dsimp only at hSw); obtain ⟨⟨x0, x1, x2, x3, x4, x5, y0, y1, y2, y3, y4, y5, z0, z1, z2, z3, z4, z5⟩, -⟩ := hSw; go_simp <;> (try with_reducible rfl))
  try simp only [Act.put, List.setIfInBounds_toArray, List.set_cons_zero, List.set_cons_succ]
  refine wpAnyH_take (i := 3) (oi := ?ocaseT1134o) (v := ?ocaseT1134v) ?ocaseT1134h (by kernel_rfl) (by kernel_rfl) (by kernel_rfl) ?ocaseT1134q ?ocaseT1134y hHeld ?ocaseT1134r
  case ocaseT1134h => (simp only [List.getElem?_toArray, List.getElem?_cons_succ, List.getElem?_cons_zero]; rfl)
  case ocaseT1134q => exact fun _ _ _ h => h
  case ocaseT1134y => (refine Or.inl ⟨by first | kernel_rfl | rfl, ?_⟩; intro w hSw; (try dsimp only at hSw); obtain ⟨⟨x0, x1, x2, x3, x4, x5, y0, y1, y2, y3, y4, y5, z0, z1, z2, z3, z4, z5⟩, -⟩ := hSw; go_simp <;> (try with_reducible rfl))
  try simp only [Act.put, List.setIfInBounds_toArray, List.set_cons_zero, List.set_cons_succ]
  refine wpAnyH_take (i := 4) (oi := ?ocaseT1135o) (v := ?ocaseT1135v) ?ocaseT1135h (by kernel_rfl) (by kernel_rfl) (by kernel_rfl) ?ocaseT1135q ?ocaseT1135y hHeld ?ocaseT1135r
  case ocaseT1135h => (simp only [List.getElem?_toArray, List.getElem?_cons_succ, List.getElem?_cons_zero]; rfl)
  case ocaseT1135q => exact fun _ _ _ h => h
  case ocaseT1135y => (refine Or.inl ⟨by first | kernel_rfl | rfl, ?_⟩; intro w hSw; (try dsimp only at hSw); obtain ⟨⟨x0, x1, x2, x3, x4, x5, y0, y1, y2, y3, y4, y5, z0, z1, z2, z3, z4, z5⟩, -⟩ := hSw; go_simp <;> (try with_reducible rfl))
  try simp only [Act.put, List.setIfInBounds_toArray, List.set_cons_zero, List.set_cons_succ]
  refine wpAnyH_take (i := 5) (oi := ?ocaseT1136o) (v := ?ocaseT1136v) ?ocaseT1136h (by kernel_rfl) (by kernel_rfl) (by kernel_rfl) ?ocaseT1136q ?ocaseT1136y hHeld ?ocaseT1136r
  case ocaseT1136h => (simp only [List.getElem?_toArray, List.getElem?_cons_succ, List.getElem?_cons_zero]; rfl)
  case ocaseT1136q => exact fun _ _ _ h => h
  case ocaseT1136y => (refine Or.inl ⟨by first | kernel_rfl | rfl, ?_⟩; intro w hSw; (try dsimp only at hSw); obtain ⟨⟨x0, x1, x2, x3, x4, x5, y0, y1, y2, y3, y4, y5, z0, z1, z2, z3, z4, z5⟩, -⟩ := hSw; go_simp <;> (try with_reducible rfl))
  try simp only [Act.put, List.setIfInBounds_toArray, List.set_cons_zero, List.set_cons_succ]
  refine wpAnyH_ready (rs := [6]) (by kernel_rfl) (by simp) ?_
  refine (AllReadyH.cons rfl (fun K hK => ?_) AllReadyH.nil)
  go_simp
  ((with_reducible refine (kab _).mono ?_); rintro e w' ⟨rfl, hb'⟩)
  refine hK.out _ _ (hHeld.keep hb') (fun hHeld => ?_)
  clear hK K
  try simp only [Act.put, List.setIfInBounds_toArray, List.set_cons_zero, List.set_cons_succ]
  refine wpAnyH_take (i := 7) (oi := ?ocaseT1137o) (v := ?ocaseT1137v) ?ocaseT1137h (by kernel_rfl) (by kernel_rfl) (by kernel_rfl) ?ocaseT1137q ?ocaseT1137y hHeld ?ocaseT1137r
  case ocaseT1137h => (simp only [List.getElem?_toArray, List.getElem?_cons_succ, List.getElem?_cons_zero]; rfl)
  case ocaseT1137q => exact fun _ _ _ h => h
  case ocaseT1137y => (refine Or.inl ⟨by first | kernel_rfl | rfl, ?_⟩; intro w hSw; (try dsimp only at hSw); obtain ⟨⟨x0, x1, x2, x3, x4, x5, y0, y1, y2, y3, y4, y5, z0, z1, z2, z3, z4, z5⟩, -⟩ := hSw; go_simp <;> (try with_reducible rfl))
  try simp only [Act.put, List.setIfInBounds_toArray, List.set_cons_zero, List.set_cons_succ]
  refine wpAnyH_done (by kernel_rfl) ?_ _
  go_wp2_with fail
  refine wp_region_held_drew (S := (OHeld w g a b c)) (by kernel_rfl) hHeld.drew (fun hHeld => ?_)
  refine wpAnyH_take (i := 0) (oi := ?ocaseT1141o) (v := ?ocaseT1141v) ?ocaseT1141h (by kernel_rfl) (by kernel_rfl) (by kernel_rfl) ?ocaseT1141q ?ocaseT1141y hHeld ?ocaseT1141r
  case ocaseT1141h => (simp only [List.getElem?_toArray, List.getElem?_cons_zero]; rfl)
  case ocaseT1141q => exact fun _ _ _ h => h
  case ocaseT1141y => (refine Or.inl ⟨by first | kernel_rfl | rfl, ?_⟩; intro w hSw; (try dsimp only at hSw); obtain ⟨⟨x0, x1, x2, x3, x4, x5, y0, y1, y2, y3, y4, y5, z0, z1, z2, z3, z4, z5⟩, -⟩ := hSw; go_simp <;> (try with_reducible rfl))
  try simp only [Act.put, List.setIfInBounds_toArray, List.set_cons_zero, List.set_cons_succ]
  refine wpAnyH_take (i := 1) (oi := ?ocaseT1142o) (v := ?ocaseT1142v) ?ocaseT1142h (by kernel_rfl) (by kernel_rfl) (by kernel_rfl) ?ocaseT1142q ?ocaseT1142y hHeld ?ocaseT1142r
  case ocaseT1142h => (simp only [List.getElem?_toArray, List.getElem?_cons_succ, List.getElem?_cons_zero]; rfl)
  case ocaseT1142q => exact fun _ _ _ h => h
  case ocaseT1142y => (refine Or.inl ⟨by first | kernel_rfl | rfl, ?_⟩; intro w hSw; (try dsimp only at hSw); obtain ⟨⟨x0, x1, x2, x3, x4, x5, y0, y1, y2, y3, y4, y5, z0, z1, z2, z3, z4, z5⟩, -⟩ := hSw; go_simp <;> (try with_reducible rfl))
  try simp only [Act.put, List.setIfInBounds_toArray, List.set_cons_zero, List.set_cons_succ]
  refine wpAnyH_take (i := 2) (oi := ?ocaseT1143o) (v := ?ocaseT1143v) ?ocaseT1143h (by kernel_rfl) (by kernel_rfl) (by kernel_rfl) ?ocaseT1143q ?ocaseT1143y hHeld ?ocaseT1143r
  case ocaseT1143h => (simp only [List.getElem?_toArray, List.getElem?_cons_succ, List.getElem?_cons_zero]; rfl)
  case ocaseT1143q => exact fun _ _ _ h => h
  case ocaseT1143y => (refine Or.inl ⟨by first | kernel_rfl | rfl, ?_⟩; intro w hSw; (try dsimp only at hSw); obtain ⟨⟨x0, x1, x2, x3, x4, x5, y0, y1, y2, y3, y4, y5, z0, z1, z2, z3, z4, z5⟩, -⟩ := hSw; go_simp <;> (try with_reducible rfl))
  try simp only [Act.put, List.setIfInBounds_toArray, List.set_cons_zero, List.set_cons_succ]
  refine wpAnyH_take (i := 3) (oi := ?ocaseT1144o) (v := ?ocaseT1144v) ?ocaseT1144h (by kernel_rfl) (by kernel_rfl) (by kernel_rfl) ?ocaseT1144q ?ocaseT1144y hHeld ?ocaseT1144r
  case ocaseT1144h => (simp only [List.getElem?_toArray, List.getElem?_cons_succ, List.getElem?_cons_zero]; rfl)
  case ocaseT1144q => exact fun _ _ _ h => h
  case ocaseT1144y => (refine Or.inl ⟨by first | kernel_rfl | rfl, ?_⟩; intro w hSw; (try dsimp only at hSw); obtain ⟨⟨x0, x1, x2, x3, x4, x5, y0, y1, y2, y3, y4, y5, z0, z1, z2, z3, z4, z5⟩, -⟩ := hSw; go_simp <;> (try with_reducible rfl))
  try simp only [Act.put, List.setIfInBounds_toArray, List.set_cons_zero, List.set_cons_succ]
  refine wpAnyH_take (i := 4) (oi := ?ocaseT1145o) (v := ?ocaseT1145v) ?ocaseT1145h (by kernel_rfl) (by kernel_rfl) (by kernel_rfl) ?ocaseT1145q ?ocaseT1145y hHeld ?ocaseT1145r
  case ocaseT1145h => (simp only [List.getElem?_toArray, List.getElem?_cons_succ, List.getElem?_cons_zero]; rfl)
  case ocaseT1145q => exact fun _ _ _ h => h
  case ocaseT1145y => (refine Or.inl ⟨by first | kernel_rfl | rfl, ?_⟩; intro w hSw; (try dsimp only at hSw); obtain ⟨⟨x0, x1, x2, x3, x4, x5, y0, y1, y2, y3, y4, y5, z0, z1, z2, z3, z4, z5⟩, -⟩ := hSw; go_simp <;> (try with_reducible rfl))
  try simp only [Act.put, List.setIfInBounds_toArray, List.set_cons_zero, List.set_cons_succ]
  refine wpAnyH_take (i := 5) (oi := ?ocaseT1146o) (v := ?ocaseT1146v) ?ocaseT1146h (by kernel_rfl) (by kernel_rfl) (by kernel_rfl) ?ocaseT1146q ?ocaseT1146y hHeld ?ocaseT1146r
  case ocaseT1146h => (simp only [List.getElem?_toArray, List.getElem?_cons_succ, List.getElem?_cons_zero]; rfl)
  case ocaseT1146q => exact fun _ _ _ h => h
  case ocaseT1146y => (refine Or.inl ⟨by first | kernel_rfl | rfl, ?_⟩; intro w hSw; (try dsimp only at hSw); obtain ⟨⟨x0, x1, x2, x3, x4, x5, y0, y1, y2, y3, y4, y5, z0, z1, z2, z3, z4, z5⟩, -⟩ := hSw; go_simp <;> (try with_reducible rfl))
  try simp only [Act.put, List.setIfInBounds_toArray, List.set_cons_zero, List.set_cons_succ]
  refine wpAnyH_ready (rs := [6]) (by kernel_rfl) (by simp) ?_
  refine (AllReadyH.cons rfl (fun K hK => ?_) AllReadyH.nil)
  go_simp
  ((with_reducible refine (kba _).mono ?_); rintro e w' ⟨rfl, hb'⟩)
  refine hK.out _ _ (hHeld.keep hb') (fun hHeld => ?_)
  clear hK K
  try simp only [Act.put, List.setIfInBounds_toArray, List.set_cons_zero, List.set_cons_succ]
  refine wpAnyH_take (i := 7) (oi := ?ocaseT1147o) (v := ?ocaseT1147v) ?ocaseT1147h (by kernel_rfl) (by kernel_rfl) (by kernel_rfl) ?ocaseT1147q ?ocaseT1147y hHeld ?ocaseT1147r
  case ocaseT1147h => (simp only [List.getElem?_toArray, List.getElem?_cons_succ, List.getElem?_cons_zero]; rfl)
  case ocaseT1147q => exact fun _ _ _ h => h
  case ocaseT1147y => (refine Or.inl ⟨by first | kernel_rfl | rfl, ?_⟩; intro w hSw; (try dsimp only at hSw); obtain ⟨⟨x0, x1, x2, x3, x4, x5, y0, y1, y2, y3, y4, y5, z0, z1, z2, z3, z4, z5⟩, -⟩ := hSw; go_simp <;> (try with_reducible rfl))
  try simp only [Act.put, List.setIfInBounds_toArray, List.set_cons_zero, List.set_cons_succ]
  refine wpAnyH_done (by kernel_rfl) ?_ _
  have H4 := hHeld
  have G := hHeld
  obtain ⟨⟨x0, x1, x2, x3, x4, x5, y0, y1, y2, y3, y4, y5, z0, z1, z2, z3, z4, z5⟩, -⟩ := G
  clear hHeld
  go_wp2_with fail
  go_quiet (fail)
  have HP := H4.drewN (n := nq)
  skip
  go_wp2_with fail
  refine wp_region_held_drew (S := (OHeld w g a b c)) (by kernel_rfl) HP.drew (fun hHeld => ?_)
  refine wpAnyH_take (i := 0) (oi := ?ocaseT1161o) (v := ?ocaseT1161v) ?ocaseT1161h (by kernel_rfl) (by kernel_rfl) (by kernel_rfl) ?ocaseT1161q ?ocaseT1161y hHeld ?ocaseT1161r
  case ocaseT1161h => (simp only [List.getElem?_toArray, List.getElem?_cons_zero]; rfl)
  case ocaseT1161q => exact fun _ _ _ h => h
  case ocaseT1161y => (refine Or.inl ⟨by first | kernel_rfl | rfl, ?_⟩; intro w hSw; (try dsimp only at hSw); obtain ⟨⟨x0, x1, x2, x3, x4, x5, y0, y1, y2, y3, y4, y5, z0, z1, z2, z3, z4, z5⟩, -⟩ := hSw; go_simp <;> (try with_reducible rfl))
  try simp only [Act.put, List.setIfInBounds_toArray, List.set_cons_zero, List.set_cons_succ]
  refine wpAnyH_take (i := 1) (oi := ?ocaseT1162o) (v := ?ocaseT1162v) ?ocaseT1162h (by kernel_rfl) (by kernel_rfl) (by kernel_rfl) ?ocaseT1162q ?ocaseT1162y hHeld ?ocaseT1162r
  case ocaseT1162h => (simp only [List.getElem?_toArray, List.getElem?_cons_succ, List.getElem?_cons_zero]; rfl)
  case ocaseT1162q => exact fun _ _ _ h => h
  case ocaseT1162y => (refine Or.inl ⟨by first | kernel_rfl | rfl, ?_⟩; intro w hSw; (try dsimp only at hSw); obtain ⟨⟨x0, x1, x2, x3, x4, x5, y0, y1, y2, y3, y4, y5, z0, z1, z2, z3, z4, z5⟩, -⟩ := hSw; go_simp <;> (try with_reducible rfl))
  try simp only [Act.put, List.setIfInBounds_toArray, List.set_cons_zero, List.set_cons_succ]
  refine wpAnyH_take (i := 2) (oi := ?ocaseT1163o) (v := ?ocaseT1163v) ?ocaseT1163h (by kernel_rfl) (by kernel_rfl) (by kernel_rfl) ?ocaseT1163q ?ocaseT1163y hHeld ?ocaseT1163r
  case ocaseT1163h => (simp only [List.getElem?_toArray, List.getElem?_cons_succ, List.getElem?_cons_zero]; rfl)
  case ocaseT1163q => exact fun _ _ _ h => h
  case ocaseT1163y => (refine Or.inl ⟨by first | kernel_rfl | rfl, ?_⟩; intro w hSw; (try dsimp only at hSw); obtain ⟨⟨x0, x1, x2, x3, x4, x5, y0, y1, y2, y3, y4, y5, z0, z1, z2, z3, z4, z5⟩, -⟩ := hSw; go_simp <;> (try with_reducible rfl))
  try simp only [Act.put, List.setIfInBounds_toArray, List.set_cons_zero, List.set_cons_succ]
  refine wpAnyH_take (i := 3) (oi := ?ocaseT1164o) (v := ?ocaseT1164v) ?ocaseT1164h (by kernel_rfl) (by kernel_rfl) (by kernel_rfl) ?ocaseT1164q ?ocaseT1164y hHeld ?ocaseT1164r
  case ocaseT1164h => (simp only [List.getElem?_toArray, List.getElem?_cons_succ, List.getElem?_cons_zero]; rfl)
  case ocaseT1164q => exact fun _ _ _ h => h
  case ocaseT1164y => (refine Or.inl ⟨by first | kernel_rfl | rfl, ?_⟩; intro w hSw; (try dsimp only at hSw); obtain ⟨⟨x0, x1, x2, x3, x4, x5, y0, y1, y2, y3, y4, y5, z0, z1, z2, z3, z4, z5⟩, -⟩ := hSw; go_simp <;> (try with_reducible rfl))
  try simp only [Act.put, List.setIfInBounds_toArray, List.set_cons_zero, List.set_cons_succ]
  refine wpAnyH_take (i := 4) (oi := ?ocaseT1165o) (v := ?ocaseT1165v) ?ocaseT1165h (by kernel_rfl) (by kernel_rfl) (by kernel_rfl) ?ocaseT1165q ?ocaseT1165y hHeld ?ocaseT1165r
  case ocaseT1165h => (simp only [List.getElem?_toArray, List.getElem?_cons_succ, List.getElem?_cons_zero]; rfl)
  case ocaseT1165q => exact fun _ _ _ h => h
  case ocaseT1165y => (refine Or.inl ⟨by first | kernel_rfl | rfl, ?_⟩; intro w hSw; (try dsimp only at hSw); obtain ⟨⟨x0, x1, x2, x3, x4, x5, y0, y1, y2, y3, y4, y5, z0, z1, z2, z3, z4, z5⟩, -⟩ := hSw; go_simp <;> (try with_reducible rfl))
  try simp only [Act.put, List.setIfInBounds_toArray, List.set_cons_zero, List.set_cons_succ]
  refine wpAnyH_take (i := 5) (oi := ?ocaseT1166o) (v := ?ocaseT1166v) ?ocaseT1166h (by kernel_rfl) (by kernel_rfl) (by kernel_rfl) ?ocaseT1166q ?ocaseT1166y hHeld ?ocaseT1166r
  case ocaseT1166h => (simp only [List.getElem?_toArray, List.getElem?_cons_succ, List.getElem?_cons_zero]; rfl)
  case ocaseT1166q => exact fun _ _ _ h => h
  case ocaseT1166y => (refine Or.inl ⟨by first | kernel_rfl | rfl, ?_⟩; intro w hSw; (try dsimp only at hSw); obtain ⟨⟨x0, x1, x2, x3, x4, x5, y0, y1, y2, y3, y4, y5, z0, z1, z2, z3, z4, z5⟩, -⟩ := hSw; go_simp <;> (try with_reducible rfl))
  try simp only [Act.put, List.setIfInBounds_toArray, List.set_cons_zero, List.set_cons_succ]
  refine wpAnyH_ready (rs := [6]) (by kernel_rfl) (by simp) ?_
  refine (AllReadyH.cons rfl (fun K hK => ?_) AllReadyH.nil)
  go_simp
  ((with_reducible refine (jab _).mono ?_); rintro e w' ⟨rfl, hb'⟩)
  refine hK.out _ _ (hHeld.keep hb') (fun hHeld => ?_)
  clear hK K
  try simp only [Act.put, List.setIfInBounds_toArray, List.set_cons_zero, List.set_cons_succ]
  refine wpAnyH_take (i := 7) (oi := ?ocaseT1167o) (v := ?ocaseT1167v) ?ocaseT1167h (by kernel_rfl) (by kernel_rfl) (by kernel_rfl) ?ocaseT1167q ?ocaseT1167y hHeld ?ocaseT1167r
  case ocaseT1167h => (simp only [List.getElem?_toArray, List.getElem?_cons_succ, List.getElem?_cons_zero]; rfl)
  case ocaseT1167q => exact fun _ _ _ h => h
  case ocaseT1167y => (refine Or.inl ⟨by first | kernel_rfl | rfl, ?_⟩; intro w hSw; (try dsimp only at hSw); obtain ⟨⟨x0, x1, x2, x3, x4, x5, y0, y1, y2, y3, y4, y5, z0, z1, z2, z3, z4, z5⟩, -⟩ := hSw; go_simp <;> (try with_reducible rfl))
  try simp only [Act.put, List.setIfInBounds_toArray, List.set_cons_zero, List.set_cons_succ]
  refine wpAnyH_done (by kernel_rfl) ?_ _
  go_wp2_with fail
  refine wp_region_held_drew (S := (OHeld w g a b c)) (by kernel_rfl) hHeld.drew (fun hHeld => ?_)
  refine wpAnyH_take (i := 0) (oi := ?ocaseT1171o) (v := ?ocaseT1171v) ?ocaseT1171h (by kernel_rfl) (by kernel_rfl) (by kernel_rfl) ?ocaseT1171q ?ocaseT1171y hHeld ?ocaseT1171r
  case ocaseT1171h => (simp only [List.getElem?_toArray, List.getElem?_cons_zero]; rfl)
  case ocaseT1171q => exact fun _ _ _ h => h
  case ocaseT1171y => (refine Or.inl ⟨by first | kernel_rfl | rfl, ?_⟩; intro w hSw; (try dsimp only at hSw); obtain ⟨⟨x0, x1, x2, x3, x4, x5, y0, y1, y2, y3, y4, y5, z0, z1, z2, z3, z4, z5⟩, -⟩ := hSw; go_simp <;> (try with_reducible rfl))
  try simp only [Act.put, List.setIfInBounds_toArray, List.set_cons_zero, List.set_cons_succ]
  refine wpAnyH_take (i := 1) (oi := ?ocaseT1172o) (v := ?ocaseT1172v) ?ocaseT1172h (by kernel_rfl) (by kernel_rfl) (by kernel_rfl) ?ocaseT1172q ?ocaseT1172y hHeld ?ocaseT1172r
  case ocaseT1172h => (simp only [List.getElem?_toArray, List.getElem?_cons_succ, List.getElem?_cons_zero]; rfl)
  case ocaseT1172q => exact fun _ _ _ h => h
  case ocaseT1172y => (refine Or.inl ⟨by first | kernel_rfl | rfl, ?_⟩; intro w hSw; (try dsimp only at hSw); obtain ⟨⟨x0, x1, x2, x3, x4, x5, y0, y1, y2, y3, y4, y5, z0, z1, z2, z3, z4, z5⟩, -⟩ := hSw; go_simp <;> (try with_reducible rfl))
  try simp only [Act.put, List.setIfInBounds_toArray, List.set_cons_zero, List.set_cons_succ]
  refine wpAnyH_take (i := 2) (oi := ?ocaseT1173o) (v := ?ocaseT1173v) ?ocaseT1173h (by kernel_rfl) (by kernel_rfl) (by kernel_rfl) ?ocaseT1173q ?ocaseT1173y hHeld ?ocaseT1173r
  case ocaseT1173h => (simp only [List.getElem?_toArray, List.getElem?_cons_succ, List.getElem?_cons_zero]; rfl)
  case ocaseT1173q => exact fun _ _ _ h => h
  case ocaseT1173y => (refine Or.inl ⟨by first | kernel_rfl | rfl, ?_⟩; intro w hSw; (try dsimp only at hSw); obtain ⟨⟨x0, x1, x2, x3, x4, x5, y0, y1, y2, y3, y4, y5, z0, z1, z2, z3, z4, z5⟩, -⟩ := hSw; go_simp <;> (try with_reducible rfl))
  try simp only [Act.put, List.setIfInBounds_toArray, List.set_cons_zero, List.set_cons_succ]
  refine wpAnyH_take (i := 3) (oi := ?ocaseT1174o) (v := ?ocaseT1174v) ?ocaseT1174h (by kernel_rfl) (by kernel_rfl) (by kernel_rfl) ?ocaseT1174q ?ocaseT1174y hHeld ?ocaseT1174r
  case ocaseT1174h => (simp only [List.getElem?_toArray, List.getElem?_cons_succ, List.getElem?_cons_zero]; rfl)
  case ocaseT1174q => exact fun _ _ _ h => h
  case ocaseT1174y => (refine Or.inl ⟨by first | kernel_rfl | rfl, ?_⟩; intro w hSw; (try dsimp only at hSw); obtain ⟨⟨x0, x1, x2, x3, x4, x5, y0, y1, y2, y3, y4, y5, z0, z1, z2, z3, z4, z5⟩, -⟩ := hSw; go_simp <;> (try with_reducible rfl))
  try simp only [Act.put, List.setIfInBounds_toArray, List.set_cons_zero, List.set_cons_succ]
  refine wpAnyH_take (i := 4) (oi := ?ocaseT1175o) (v := ?ocaseT1175v) ?ocaseT1175h (by kernel_rfl) (by kernel_rfl) (by kernel_rfl) ?ocaseT1175q ?ocaseT1175y hHeld ?ocaseT1175r
  case ocaseT1175h => (simp only [List.getElem?_toArray, List.getElem?_cons_succ, List.getElem?_cons_zero]; rfl)
  case ocaseT1175q => exact fun _ _ _ h => h
  case ocaseT1175y => (refine Or.inl ⟨by first | kernel_rfl | rfl, ?_⟩; intro w hSw; (try dsimp only at hSw); obtain ⟨⟨x0, x1, x2, x3, x4, x5, y0, y1, y2, y3, y4, y5, z0, z1, z2, z3, z4, z5⟩, -⟩ := hSw; go_simp <;> (try with_reducible rfl))
  try simp only [Act.put, List.setIfInBounds_toArray, List.set_cons_zero, List.set_cons_succ]
  refine wpAnyH_take (i := 5) (oi := ?ocaseT1176o) (v := ?ocaseT1176v) ?ocaseT1176h (by kernel_rfl) (by kernel_rfl) (by kernel_rfl) ?ocaseT1176q ?ocaseT1176y hHeld ?ocaseT1176r
  case ocaseT1176h => (simp only [List.getElem?_toArray, List.getElem?_cons_succ, List.getElem?_cons_zero]; rfl)
  case ocaseT1176q => exact fun _ _ _ h => h
  case ocaseT1176y => (refine Or.inl ⟨by first | kernel_rfl | rfl, ?_⟩; intro w hSw; (try dsimp only at hSw); obtain ⟨⟨x0, x1, x2, x3, x4, x5, y0, y1, y2, y3, y4, y5, z0, z1, z2, z3, z4, z5⟩, -⟩ := hSw; go_simp <;> (try with_reducible rfl))
  try simp only [Act.put, List.setIfInBounds_toArray, List.set_cons_zero, List.set_cons_succ]
  refine wpAnyH_ready (rs := [6]) (by kernel_rfl) (by simp) ?_
  refine (AllReadyH.cons rfl (fun K hK => ?_) AllReadyH.nil)
  go_simp
  ((with_reducible refine (jba _).mono ?_); rintro e w' ⟨rfl, hb'⟩)
  refine hK.out _ _ (hHeld.keep hb') (fun hHeld => ?_)
  clear hK K
  try simp only [Act.put, List.setIfInBounds_toArray, List.set_cons_zero, List.set_cons_succ]
  refine wpAnyH_take (i := 7) (oi := ?ocaseT1177o) (v := ?ocaseT1177v) ?ocaseT1177h (by kernel_rfl) (by kernel_rfl) (by kernel_rfl) ?ocaseT1177q ?ocaseT1177y hHeld ?ocaseT1177r
  case ocaseT1177h => (simp only [List.getElem?_toArray, List.getElem?_cons_succ, List.getElem?_cons_zero]; rfl)
  case ocaseT1177q => exact fun _ _ _ h => h
  case ocaseT1177y => (refine Or.inl ⟨by first | kernel_rfl | rfl, ?_⟩; intro w hSw; (try dsimp only at hSw); obtain ⟨⟨x0, x1, x2, x3, x4, x5, y0, y1, y2, y3, y4, y5, z0, z1, z2, z3, z4, z5⟩, -⟩ := hSw; go_simp <;> (try with_reducible rfl))
  try simp only [Act.put, List.setIfInBounds_toArray, List.set_cons_zero, List.set_cons_succ]
  refine wpAnyH_done (by kernel_rfl) ?_ _
  have H7 := hHeld
  have G := hHeld
  obtain ⟨⟨x0, x1, x2, x3, x4, x5, y0, y1, y2, y3, y4, y5, z0, z1, z2, z3, z4, z5⟩, -⟩ := G
  clear hHeld
  go_wp2_with fail
  go_quiet (fail)
  have HQ := H7.drewN (n := nq)
  skip
  go_wp2_with fail
  refine wp_region_held_drew (S := (OHeld w g a b c)) (by kernel_rfl) HQ.drew (fun hHeld => ?_)
  refine wpAnyH_take (i := 0) (oi := ?ocaseT11101o) (v := ?ocaseT11101v) ?ocaseT11101h (by kernel_rfl) (by kernel_rfl) (by kernel_rfl) ?ocaseT11101q ?ocaseT11101y hHeld ?ocaseT11101r
  case ocaseT11101h => (simp only [List.getElem?_toArray, List.getElem?_cons_zero]; rfl)
  case ocaseT11101q => exact fun _ _ _ h => h
  case ocaseT11101y => (refine Or.inl ⟨by first | kernel_rfl | rfl, ?_⟩; intro w hSw; (try dsimp only at hSw); obtain ⟨⟨x0, x1, x2, x3, x4, x5, y0, y1, y2, y3, y4, y5, z0, z1, z2, z3, z4, z5⟩, -⟩ := hSw; go_simp <;> (try with_reducible rfl))
  try simp only [Act.put, List.setIfInBounds_toArray, List.set_cons_zero, List.set_cons_succ]
  refine wpAnyH_take (i := 1) (oi := ?ocaseT11102o) (v := ?ocaseT11102v) ?ocaseT11102h (by kernel_rfl) (by kernel_rfl) (by kernel_rfl) ?ocaseT11102q ?ocaseT11102y hHeld ?ocaseT11102r
  case ocaseT11102h => (simp only [List.getElem?_toArray, List.getElem?_cons_succ, List.getElem?_cons_zero]; rfl)
  case ocaseT11102q => exact fun _ _ _ h => h
  case ocaseT11102y => (refine Or.inl ⟨by first | kernel_rfl | rfl, ?_⟩; intro w hSw; (try dsimp only at hSw); obtain ⟨⟨x0, x1, x2, x3, x4, x5, y0, y1, y2, y3, y4, y5, z0, z1, z2, z3, z4, z5⟩, -⟩ := hSw; go_simp <;> (try with_reducible rfl))
  try simp only [Act.put, List.setIfInBounds_toArray, List.set_cons_zero, List.set_cons_succ]
  refine wpAnyH_take (i := 2) (oi := ?ocaseT11103o) (v := ?ocaseT11103v) ?ocaseT11103h (by kernel_rfl) (by kernel_rfl) (by kernel_rfl) ?ocaseT11103q ?ocaseT11103y hHeld ?ocaseT11103r
  case ocaseT11103h => (simp only [List.getElem?_toArray, List.getElem?_cons_succ, List.getElem?_cons_zero]; rfl)
  case ocaseT11103q => exact fun _ _ _ h => h
  case ocaseT11103y => (refine Or.inl ⟨by first | kernel_rfl | rfl, ?_⟩; intro w hSw; (try dsimp only at hSw); obtain ⟨⟨x0, x1, x2, x3, x4, x5, y0, y1, y2, y3, y4, y5, z0, z1, z2, z3, z4, z5⟩, -⟩ := hSw; go_simp <;> (try with_reducible rfl))
  try simp only [Act.put, List.setIfInBounds_toArray, List.set_cons_zero, List.set_cons_succ]
  refine wpAnyH_take (i := 3) (oi := ?ocaseT11104o) (v := ?ocaseT11104v) ?ocaseT11104h (by kernel_rfl) (by kernel_rfl) (by kernel_rfl) ?ocaseT11104q ?ocaseT11104y hHeld ?ocaseT11104r
  case ocaseT11104h => (simp only [List.getElem?_toArray, List.getElem?_cons_succ, List.getElem?_cons_zero]; rfl)
  case ocaseT11104q => exact fun _ _ _ h => h
  case ocaseT11104y => (refine Or.inl ⟨by first | kernel_rfl | rfl, ?_⟩; intro w hSw; (try dsimp only at hSw); obtain ⟨⟨x0, x1, x2, x3, x4, x5, y0, y1, y2, y3, y4, y5, z0, z1, z2, z3, z4, z5⟩, -⟩ := hSw; go_simp <;> (try with_reducible rfl))
  try simp only [Act.put, List.setIfInBounds_toArray, List.set_cons_zero, List.set_cons_succ]
  refine wpAnyH_take (i := 4) (oi := ?ocaseT11105o) (v := ?ocaseT11105v) ?ocaseT11105h (by kernel_rfl) (by kernel_rfl) (by kernel_rfl) ?ocaseT11105q ?ocaseT11105y hHeld ?ocaseT11105r
  case ocaseT11105h => (simp only [List.getElem?_toArray, List.getElem?_cons_succ, List.getElem?_cons_zero]; rfl)
  case ocaseT11105q => exact fun _ _ _ h => h
  case ocaseT11105y => (refine Or.inl ⟨by first | kernel_rfl | rfl, ?_⟩; intro w hSw; (try dsimp only at hSw); obtain ⟨⟨x0, x1, x2, x3, x4, x5, y0, y1, y2, y3, y4, y5, z0, z1, z2, z3, z4, z5⟩, -⟩ := hSw; go_simp <;> (try with_reducible rfl))
  try simp only [Act.put, List.setIfInBounds_toArray, List.set_cons_zero, List.set_cons_succ]
  refine wpAnyH_take (i := 5) (oi := ?ocaseT11106o) (v := ?ocaseT11106v) ?ocaseT11106h (by kernel_rfl) (by kernel_rfl) (by kernel_rfl) ?ocaseT11106q ?ocaseT11106y hHeld ?ocaseT11106r
  case ocaseT11106h => (simp only [List.getElem?_toArray, List.getElem?_cons_succ, List.getElem?_cons_zero]; rfl)
  case ocaseT11106q => exact fun _ _ _ h => h
  case ocaseT11106y => (refine Or.inl ⟨by first | kernel_rfl | rfl, ?_⟩; intro w hSw; (try dsimp only at hSw); obtain ⟨⟨x0, x1, x2, x3, x4, x5, y0, y1, y2, y3, y4, y5, z0, z1, z2, z3, z4, z5⟩, -⟩ := hSw; go_simp <;> (try with_reducible rfl))
  try simp only [Act.put, List.setIfInBounds_toArray, List.set_cons_zero, List.set_cons_succ]
  refine wpAnyH_take (i := 6) (oi := ?ocaseT11107o) (v := ?ocaseT11107v) ?ocaseT11107h (by kernel_rfl) (by kernel_rfl) (by kernel_rfl) ?ocaseT11107q ?ocaseT11107y hHeld ?ocaseT11107r
  case ocaseT11107h => (simp only [List.getElem?_toArray, List.getElem?_cons_succ, List.getElem?_cons_zero]; rfl)
  case ocaseT11107q => exact fun _ _ _ h => h
  case ocaseT11107y => (refine Or.inl ⟨by first | kernel_rfl | rfl, ?_⟩; intro w hSw; (try dsimp only at hSw); obtain ⟨⟨x0, x1, x2, x3, x4, x5, y0, y1, y2, y3, y4, y5, z0, z1, z2, z3, z4, z5⟩, -⟩ := hSw; go_simp <;> (try with_reducible rfl))
  try simp only [Act.put, List.setIfInBounds_toArray, List.set_cons_zero, List.set_cons_succ]
  refine wpAnyH_take (i := 7) (oi := ?ocaseT11108o) (v := ?ocaseT11108v) ?ocaseT11108h (by kernel_rfl) (by kernel_rfl) (by kernel_rfl) ?ocaseT11108q ?ocaseT11108y hHeld ?ocaseT11108r
  case ocaseT11108h => (simp only [List.getElem?_toArray, List.getElem?_cons_succ, List.getElem?_cons_zero]; rfl)
  case ocaseT11108q => exact fun _ _ _ h => h
  case ocaseT11108y => (refine Or.inl ⟨by first | kernel_rfl | rfl, ?_⟩; intro w hSw; (try dsimp only at hSw); obtain ⟨⟨x0, x1, x2, x3, x4, x5, y0, y1, y2, y3, y4, y5, z0, z1, z2, z3, z4, z5⟩, -⟩ := hSw; go_simp <;> (try with_reducible rfl))
  try simp only [Act.put, List.setIfInBounds_toArray, List.set_cons_zero, List.set_cons_succ]
  refine wpAnyH_take (i := 8) (oi := ?ocaseT11109o) (v := ?ocaseT11109v) ?ocaseT11109h (by kernel_rfl) (by kernel_rfl) (by kernel_rfl) ?ocaseT11109q ?ocaseT11109y hHeld ?ocaseT11109r
  case ocaseT11109h => (simp only [List.getElem?_toArray, List.getElem?_cons_succ, List.getElem?_cons_zero]; rfl)
  case ocaseT11109q => exact fun _ _ _ h => h
  case ocaseT11109y => (refine Or.inl ⟨by first | kernel_rfl | rfl, ?_⟩; intro w hSw; (try dsimp only at hSw); obtain ⟨⟨x0, x1, x2, x3, x4, x5, y0, y1, y2, y3, y4, y5, z0, z1, z2, z3, z4, z5⟩, -⟩ := hSw; go_simp <;> (try with_reducible rfl))
  try simp only [Act.put, List.setIfInBounds_toArray, List.set_cons_zero, List.set_cons_succ]
  refine wpAnyH_ready (rs := [9]) (by kernel_rfl) (by simp) ?_
  refine (AllReadyH.cons rfl (fun K hK => ?_) AllReadyH.nil)
  go_simp
  ((with_reducible refine (kbc _).mono ?_); rintro e w' ⟨rfl, hb'⟩)
  refine hK.out _ _ (hHeld.keep hb') (fun hHeld => ?_)
  clear hK K
  try simp only [Act.put, List.setIfInBounds_toArray, List.set_cons_zero, List.set_cons_succ]
  refine wpAnyH_take (i := 10) (oi := ?ocaseT111010o) (v := ?ocaseT111010v) ?ocaseT111010h (by kernel_rfl) (by kernel_rfl) (by kernel_rfl) ?ocaseT111010q ?ocaseT111010y hHeld ?ocaseT111010r
  case ocaseT111010h => (simp only [List.getElem?_toArray, List.getElem?_cons_succ, List.getElem?_cons_zero]; rfl)
  case ocaseT111010q => exact fun _ _ _ h => h
  case ocaseT111010y => (refine Or.inl ⟨by first | kernel_rfl | rfl, ?_⟩; intro w hSw; (try dsimp only at hSw); obtain ⟨⟨x0, x1, x2, x3, x4, x5, y0, y1, y2, y3, y4, y5, z0, z1, z2, z3, z4, z5⟩, -⟩ := hSw; go_simp <;> (try with_reducible rfl))
  try simp only [Act.put, List.setIfInBounds_toArray, List.set_cons_zero, List.set_cons_succ]
  refine wpAnyH_take (i := 11) (oi := ?ocaseT111011o) (v := ?ocaseT111011v) ?ocaseT111011h (by kernel_rfl) (by kernel_rfl) (by kernel_rfl) ?ocaseT111011q ?ocaseT111011y hHeld ?ocaseT111011r
  case ocaseT111011h => (simp only [List.getElem?_toArray, List.getElem?_cons_succ, List.getElem?_cons_zero]; rfl)
  case ocaseT111011q => exact fun _ _ _ h => h
  case ocaseT111011y => (refine Or.inl ⟨by first | kernel_rfl | rfl, ?_⟩; intro w hSw; (try dsimp only at hSw); obtain ⟨⟨x0, x1, x2, x3, x4, x5, y0, y1, y2, y3, y4, y5, z0, z1, z2, z3, z4, z5⟩, -⟩ := hSw; go_simp <;> (try with_reducible rfl))
  try simp only [Act.put, List.setIfInBounds_toArray, List.set_cons_zero, List.set_cons_succ]
  refine wpAnyH_take (i := 12) (oi := ?ocaseT111012o) (v := ?ocaseT111012v) ?ocaseT111012h (by kernel_rfl) (by kernel_rfl) (by kernel_rfl) ?ocaseT111012q ?ocaseT111012y hHeld ?ocaseT111012r
  case ocaseT111012h => (simp only [List.getElem?_toArray, List.getElem?_cons_succ, List.getElem?_cons_zero]; rfl)
  case ocaseT111012q => exact fun _ _ _ h => h
  case ocaseT111012y => (refine Or.inl ⟨by first | kernel_rfl | rfl, ?_⟩; intro w hSw; (try dsimp only at hSw); obtain ⟨⟨x0, x1, x2, x3, x4, x5, y0, y1, y2, y3, y4, y5, z0, z1, z2, z3, z4, z5⟩, -⟩ := hSw; go_simp <;> (try with_reducible rfl))
  try simp only [Act.put, List.setIfInBounds_toArray, List.set_cons_zero, List.set_cons_succ]
  refine wpAnyH_take (i := 13) (oi := ?ocaseT111013o) (v := ?ocaseT111013v) ?ocaseT111013h (by kernel_rfl) (by kernel_rfl) (by kernel_rfl) ?ocaseT111013q ?ocaseT111013y hHeld ?ocaseT111013r
  case ocaseT111013h => (simp only [List.getElem?_toArray, List.getElem?_cons_succ, List.getElem?_cons_zero]; rfl)
  case ocaseT111013q => exact fun _ _ _ h => h
  case ocaseT111013y => (refine Or.inl ⟨by first | kernel_rfl | rfl, ?_⟩; intro w hSw; (try dsimp only at hSw); obtain ⟨⟨x0, x1, x2, x3, x4, x5, y0, y1, y2, y3, y4, y5, z0, z1, z2, z3, z4, z5⟩, -⟩ := hSw; go_simp <;> (try with_reducible rfl))
  try simp only [Act.put, List.setIfInBounds_toArray, List.set_cons_zero, List.set_cons_succ]
  refine wpAnyH_take (i := 14) (oi := ?ocaseT111014o) (v := ?ocaseT111014v) ?ocaseT111014h (by kernel_rfl) (by kernel_rfl) (by kernel_rfl) ?ocaseT111014q ?ocaseT111014y hHeld ?ocaseT111014r
  case ocaseT111014h => (simp only [List.getElem?_toArray, List.getElem?_cons_succ, List.getElem?_cons_zero]; rfl)
  case ocaseT111014q => exact fun _ _ _ h => h
  case ocaseT111014y => (refine Or.inl ⟨by first | kernel_rfl | rfl, ?_⟩; intro w hSw; (try dsimp only at hSw); obtain ⟨⟨x0, x1, x2, x3, x4, x5, y0, y1, y2, y3, y4, y5, z0, z1, z2, z3, z4, z5⟩, -⟩ := hSw; go_simp <;> (try with_reducible rfl))
  try simp only [Act.put, List.setIfInBounds_toArray, List.set_cons_zero, List.set_cons_succ]
  refine wpAnyH_take (i := 15) (oi := ?ocaseT111015o) (v := ?ocaseT111015v) ?ocaseT111015h (by kernel_rfl) (by kernel_rfl) (by kernel_rfl) ?ocaseT111015q ?ocaseT111015y hHeld ?ocaseT111015r
  case ocaseT111015h => (simp only [List.getElem?_toArray, List.getElem?_cons_succ, List.getElem?_cons_zero]; rfl)
  case ocaseT111015q => exact fun _ _ _ h => h
  case ocaseT111015y => (refine Or.inl ⟨by first | kernel_rfl | rfl, ?_⟩; intro w hSw; (try dsimp only at hSw); obtain ⟨⟨x0, x1, x2, x3, x4, x5, y0, y1, y2, y3, y4, y5, z0, z1, z2, z3, z4, z5⟩, -⟩ := hSw; go_simp <;> (try with_reducible rfl))
  try simp only [Act.put, List.setIfInBounds_toArray, List.set_cons_zero, List.set_cons_succ]
  refine wpAnyH_take (i := 16) (oi := ?ocaseT111016o) (v := ?ocaseT111016v) ?ocaseT111016h (by kernel_rfl) (by kernel_rfl) (by kernel_rfl) ?ocaseT111016q ?ocaseT111016y hHeld ?ocaseT111016r
  case ocaseT111016h => (simp only [List.getElem?_toArray, List.getElem?_cons_succ, List.getElem?_cons_zero]; rfl)
  case ocaseT111016q => exact fun _ _ _ h => h
  case ocaseT111016y => (refine Or.inl ⟨by first | kernel_rfl | rfl, ?_⟩; intro w hSw; (try dsimp only at hSw); obtain ⟨⟨x0, x1, x2, x3, x4, x5, y0, y1, y2, y3, y4, y5, z0, z1, z2, z3, z4, z5⟩, -⟩ := hSw; go_simp <;> (try with_reducible rfl))
  try simp only [Act.put, List.setIfInBounds_toArray, List.set_cons_zero, List.set_cons_succ]
  refine wpAnyH_take (i := 17) (oi := ?ocaseT111017o) (v := ?ocaseT111017v) ?ocaseT111017h (by kernel_rfl) (by kernel_rfl) (by kernel_rfl) ?ocaseT111017q ?ocaseT111017y hHeld ?ocaseT111017r
  case ocaseT111017h => (simp only [List.getElem?_toArray, List.getElem?_cons_succ, List.getElem?_cons_zero]; rfl)
  case ocaseT111017q => exact fun _ _ _ h => h
  case ocaseT111017y => (refine Or.inl ⟨by first | kernel_rfl | rfl, ?_⟩; intro w hSw; (try dsimp only at hSw); obtain ⟨⟨x0, x1, x2, x3, x4, x5, y0, y1, y2, y3, y4, y5, z0, z1, z2, z3, z4, z5⟩, -⟩ := hSw; go_simp <;> (try with_reducible rfl))
  try simp only [Act.put, List.setIfInBounds_toArray, List.set_cons_zero, List.set_cons_succ]
  refine wpAnyH_take (i := 18) (oi := ?ocaseT111018o) (v := ?ocaseT111018v) ?ocaseT111018h (by kernel_rfl) (by kernel_rfl) (by kernel_rfl) ?ocaseT111018q ?ocaseT111018y hHeld ?ocaseT111018r
  case ocaseT111018h => (simp only [List.getElem?_toArray, List.getElem?_cons_succ, List.getElem?_cons_zero]; rfl)
  case ocaseT111018q => exact fun _ _ _ h => h
  case ocaseT111018y => (refine Or.inl ⟨by first | kernel_rfl | rfl, ?_⟩; intro w hSw; (try dsimp only at hSw); obtain ⟨⟨x0, x1, x2, x3, x4, x5, y0, y1, y2, y3, y4, y5, z0, z1, z2, z3, z4, z5⟩, -⟩ := hSw; go_simp <;> (try with_reducible rfl))
  try simp only [Act.put, List.setIfInBounds_toArray, List.set_cons_zero, List.set_cons_succ]
  refine wpAnyH_ready (rs := [19]) (by kernel_rfl) (by simp) ?_
  refine (AllReadyH.cons rfl (fun K hK => ?_) AllReadyH.nil)
  go_simp
  ((with_reducible refine (kac _).mono ?_); rintro e w' ⟨rfl, hb'⟩)
  refine hK.out _ _ (hHeld.keep hb') (fun hHeld => ?_)
  clear hK K
  try simp only [Act.put, List.setIfInBounds_toArray, List.set_cons_zero, List.set_cons_succ]
  refine wpAnyH_take (i := 20) (oi := ?ocaseT111019o) (v := ?ocaseT111019v) ?ocaseT111019h (by kernel_rfl) (by kernel_rfl) (by kernel_rfl) ?ocaseT111019q ?ocaseT111019y hHeld ?ocaseT111019r
  case ocaseT111019h => (simp only [List.getElem?_toArray, List.getElem?_cons_succ, List.getElem?_cons_zero]; rfl)
  case ocaseT111019q => exact fun _ _ _ h => h
  case ocaseT111019y => (refine Or.inl ⟨by first | kernel_rfl | rfl, ?_⟩; intro w hSw; (try dsimp only at hSw); obtain ⟨⟨x0, x1, x2, x3, x4, x5, y0, y1, y2, y3, y4, y5, z0, z1, z2, z3, z4, z5⟩, -⟩ := hSw; go_simp <;> (try with_reducible rfl))
  try simp only [Act.put, List.setIfInBounds_toArray, List.set_cons_zero, List.set_cons_succ]
  refine wpAnyH_take (i := 21) (oi := ?ocaseT111020o) (v := ?ocaseT111020v) ?ocaseT111020h (by kernel_rfl) (by kernel_rfl) (by kernel_rfl) ?ocaseT111020q ?ocaseT111020y hHeld ?ocaseT111020r
  case ocaseT111020h => (simp only [List.getElem?_toArray, List.getElem?_cons_succ, List.getElem?_cons_zero]; rfl)
  case ocaseT111020q => exact fun _ _ _ h => h
  case ocaseT111020y => (refine Or.inl ⟨by first | kernel_rfl | rfl, ?_⟩; intro w hSw; (try dsimp only at hSw); obtain ⟨⟨x0, x1, x2, x3, x4, x5, y0, y1, y2, y3, y4, y5, z0, z1, z2, z3, z4, z5⟩, -⟩ := hSw; go_simp <;> (try with_reducible rfl))
  try simp only [Act.put, List.setIfInBounds_toArray, List.set_cons_zero, List.set_cons_succ]
  refine wpAnyH_done (by kernel_rfl) ?_ _
  go_wp2_with fail
  refine wp_region_held_drew (S := (OHeld w g a b c)) (by kernel_rfl) hHeld.drew (fun hHeld => ?_)
  refine wpAnyH_take (i := 0) (oi := ?ocaseT11111o) (v := ?ocaseT11111v) ?ocaseT11111h (by kernel_rfl) (by kernel_rfl) (by kernel_rfl) ?ocaseT11111q ?ocaseT11111y hHeld ?ocaseT11111r
  case ocaseT11111h => (simp only [List.getElem?_toArray, List.getElem?_cons_zero]; rfl)
  case ocaseT11111q => exact fun _ _ _ h => h
  case ocaseT11111y => (refine Or.inl ⟨by first | kernel_rfl | rfl, ?_⟩; intro w hSw; (try dsimp only at hSw); obtain ⟨⟨x0, x1, x2, x3, x4, x5, y0, y1, y2, y3, y4, y5, z0, z1, z2, z3, z4, z5⟩, -⟩ := hSw; go_simp <;> (try with_reducible rfl))
  try simp only [Act.put, List.setIfInBounds_toArray, List.set_cons_zero, List.set_cons_succ]
  refine wpAnyH_take (i := 1) (oi := ?ocaseT11112o) (v := ?ocaseT11112v) ?ocaseT11112h (by kernel_rfl) (by kernel_rfl) (by kernel_rfl) ?ocaseT11112q ?ocaseT11112y hHeld ?ocaseT11112r
  case ocaseT11112h => (simp only [List.getElem?_toArray, List.getElem?_cons_succ, List.getElem?_cons_zero]; rfl)
  case ocaseT11112q => exact fun _ _ _ h => h
  case ocaseT11112y => (refine Or.inl ⟨by first | kernel_rfl | rfl, ?_⟩; intro w hSw; (try dsimp only at hSw); obtain ⟨⟨x0, x1, x2, x3, x4, x5, y0, y1, y2, y3, y4, y5, z0, z1, z2, z3, z4, z5⟩, -⟩ := hSw; go_simp <;> (try with_reducible rfl))
  try simp only [Act.put, List.setIfInBounds_toArray, List.set_cons_zero, List.set_cons_succ]
  refine wpAnyH_take (i := 2) (oi := ?ocaseT11113o) (v := ?ocaseT11113v) ?ocaseT11113h (by kernel_rfl) (by kernel_rfl) (by kernel_rfl) ?ocaseT11113q ?ocaseT11113y hHeld ?ocaseT11113r
  case ocaseT11113h => (simp only [List.getElem?_toArray, List.getElem?_cons_succ, List.getElem?_cons_zero]; rfl)
  case ocaseT11113q => exact fun _ _ _ h => h
  case ocaseT11113y => (refine Or.inl ⟨by first | kernel_rfl | rfl, ?_⟩; intro w hSw; (try dsimp only at hSw); obtain ⟨⟨x0, x1, x2, x3, x4, x5, y0, y1, y2, y3, y4, y5, z0, z1, z2, z3, z4, z5⟩, -⟩ := hSw; go_simp <;> (try with_reducible rfl))
  try simp only [Act.put, List.setIfInBounds_toArray, List.set_cons_zero, List.set_cons_succ]
  refine wpAnyH_take (i := 3) (oi := ?ocaseT11114o) (v := undef) ?ocaseT11114h (by kernel_rfl) (by kernel_rfl) (by kernel_rfl) ?ocaseT11114q ?ocaseT11114y hHeld ?ocaseT11114r
  case ocaseT11114h => (simp only [List.getElem?_toArray, List.getElem?_cons_succ, List.getElem?_cons_zero]; rfl)
  case ocaseT11114q => exact fun _ _ _ h => h
  case ocaseT11114y => exact Or.inr ⟨by first | kernel_rfl | rfl, rfl⟩
  try simp only [Act.put, List.setIfInBounds_toArray, List.set_cons_zero, List.set_cons_succ]
  refine wpAnyH_take (i := 4) (oi := ?ocaseT11115o) (v := undef) ?ocaseT11115h (by kernel_rfl) (by kernel_rfl) (by kernel_rfl) ?ocaseT11115q ?ocaseT11115y hHeld ?ocaseT11115r
  case ocaseT11115h => (simp only [List.getElem?_toArray, List.getElem?_cons_succ, List.getElem?_cons_zero]; rfl)
  case ocaseT11115q => exact fun _ _ _ h => h
  case ocaseT11115y => exact Or.inr ⟨by first | kernel_rfl | rfl, rfl⟩
  try simp only [Act.put, List.setIfInBounds_toArray, List.set_cons_zero, List.set_cons_succ]
  refine wpAnyH_take (i := 5) (oi := ?ocaseT11116o) (v := undef) ?ocaseT11116h (by kernel_rfl) (by kernel_rfl) (by kernel_rfl) ?ocaseT11116q ?ocaseT11116y hHeld ?ocaseT11116r
  case ocaseT11116h => (simp only [List.getElem?_toArray, List.getElem?_cons_succ, List.getElem?_cons_zero]; rfl)
  case ocaseT11116q => exact fun _ _ _ h => h
  case ocaseT11116y => exact Or.inr ⟨by first | kernel_rfl | rfl, rfl⟩
  try simp only [Act.put, List.setIfInBounds_toArray, List.set_cons_zero, List.set_cons_succ]
  refine wpAnyH_take (i := 6) (oi := ?ocaseT11117o) (v := undef) ?ocaseT11117h (by kernel_rfl) (by kernel_rfl) (by kernel_rfl) ?ocaseT11117q ?ocaseT11117y hHeld ?ocaseT11117r
  case ocaseT11117h => (simp only [List.getElem?_toArray, List.getElem?_cons_succ, List.getElem?_cons_zero]; rfl)
  case ocaseT11117q => exact fun _ _ _ h => h
  case ocaseT11117y => exact Or.inr ⟨by first | kernel_rfl | rfl, rfl⟩
  try simp only [Act.put, List.setIfInBounds_toArray, List.set_cons_zero, List.set_cons_succ]
  refine wpAnyH_take (i := 7) (oi := ?ocaseT11118o) (v := undef) ?ocaseT11118h (by kernel_rfl) (by kernel_rfl) (by kernel_rfl) ?ocaseT11118q ?ocaseT11118y hHeld ?ocaseT11118r
  case ocaseT11118h => (simp only [List.getElem?_toArray, List.getElem?_cons_succ, List.getElem?_cons_zero]; rfl)
  case ocaseT11118q => exact fun _ _ _ h => h
  case ocaseT11118y => exact Or.inr ⟨by first | kernel_rfl | rfl, rfl⟩
  try simp only [Act.put, List.setIfInBounds_toArray, List.set_cons_zero, List.set_cons_succ]
  refine wpAnyH_take (i := 8) (oi := ?ocaseT11119o) (v := undef) ?ocaseT11119h (by kernel_rfl) (by kernel_rfl) (by kernel_rfl) ?ocaseT11119q ?ocaseT11119y hHeld ?ocaseT11119r
  case ocaseT11119h => (simp only [List.getElem?_toArray, List.getElem?_cons_succ, List.getElem?_cons_zero]; rfl)
  case ocaseT11119q => exact fun _ _ _ h => h
  case ocaseT11119y => exact Or.inr ⟨by first | kernel_rfl | rfl, rfl⟩
  try simp only [Act.put, List.setIfInBounds_toArray, List.set_cons_zero, List.set_cons_succ]
  refine wpAnyH_take (i := 9) (oi := ?ocaseT111110o) (v := undef) ?ocaseT111110h (by kernel_rfl) (by kernel_rfl) (by kernel_rfl) ?ocaseT111110q ?ocaseT111110y hHeld ?ocaseT111110r
  case ocaseT111110h => (simp only [List.getElem?_toArray, List.getElem?_cons_succ, List.getElem?_cons_zero]; rfl)
  case ocaseT111110q => exact fun _ _ _ h => h
  case ocaseT111110y => exact Or.inr ⟨by first | kernel_rfl | rfl, rfl⟩
  try simp only [Act.put, List.setIfInBounds_toArray, List.set_cons_zero, List.set_cons_succ]
  refine wpAnyH_take (i := 10) (oi := ?ocaseT111111o) (v := undef) ?ocaseT111111h (by kernel_rfl) (by kernel_rfl) (by kernel_rfl) ?ocaseT111111q ?ocaseT111111y hHeld ?ocaseT111111r
  case ocaseT111111h => (simp only [List.getElem?_toArray, List.getElem?_cons_succ, List.getElem?_cons_zero]; rfl)
  case ocaseT111111q => exact fun _ _ _ h => h
  case ocaseT111111y => exact Or.inr ⟨by first | kernel_rfl | rfl, rfl⟩
  try simp only [Act.put, List.setIfInBounds_toArray, List.set_cons_zero, List.set_cons_succ]
  refine wpAnyH_take (i := 11) (oi := ?ocaseT111112o) (v := ?ocaseT111112v) ?ocaseT111112h (by kernel_rfl) (by kernel_rfl) (by kernel_rfl) ?ocaseT111112q ?ocaseT111112y hHeld ?ocaseT111112r
  case ocaseT111112h => (simp only [List.getElem?_toArray, List.getElem?_cons_succ, List.getElem?_cons_zero]; rfl)
  case ocaseT111112q => exact fun _ _ _ h => h
  case ocaseT111112y => (refine Or.inl ⟨by first | kernel_rfl | rfl, ?_⟩; intro w hSw; (try dsimp only at hSw); obtain ⟨⟨x0, x1, x2, x3, x4, x5, y0, y1, y2, y3, y4, y5, z0, z1, z2, z3, z4, z5⟩, -⟩ := hSw; go_simp <;> (try with_reducible rfl))
  try simp only [Act.put, List.setIfInBounds_toArray, List.set_cons_zero, List.set_cons_succ]
  refine wpAnyH_take (i := 12) (oi := ?ocaseT111113o) (v := ?ocaseT111113v) ?ocaseT111113h (by kernel_rfl) (by kernel_rfl) (by kernel_rfl) ?ocaseT111113q ?ocaseT111113y hHeld ?ocaseT111113r
  case ocaseT111113h => (simp only [List.getElem?_toArray, List.getElem?_cons_succ, List.getElem?_cons_zero]; rfl)
  case ocaseT111113q => exact fun _ _ _ h => h
  case ocaseT111113y => (refine Or.inl ⟨by first | kernel_rfl | rfl, ?_⟩; intro w hSw; (try dsimp only at hSw); obtain ⟨⟨x0, x1, x2, x3, x4, x5, y0, y1, y2, y3, y4, y5, z0, z1, z2, z3, z4, z5⟩, -⟩ := hSw; go_simp <;> (try with_reducible rfl))
  try simp only [Act.put, List.setIfInBounds_toArray, List.set_cons_zero, List.set_cons_succ]
  refine wpAnyH_take (i := 13) (oi := ?ocaseT111114o) (v := undef) ?ocaseT111114h (by kernel_rfl) (by kernel_rfl) (by kernel_rfl) ?ocaseT111114q ?ocaseT111114y hHeld ?ocaseT111114r
  case ocaseT111114h => (simp only [List.getElem?_toArray, List.getElem?_cons_succ, List.getElem?_cons_zero]; rfl)
  case ocaseT111114q => exact fun _ _ _ h => h
  case ocaseT111114y => exact Or.inr ⟨by first | kernel_rfl | rfl, rfl⟩
  try simp only [Act.put, List.setIfInBounds_toArray, List.set_cons_zero, List.set_cons_succ]
  refine wpAnyH_take (i := 14) (oi := ?ocaseT111115o) (v := undef) ?ocaseT111115h (by kernel_rfl) (by kernel_rfl) (by kernel_rfl) ?ocaseT111115q ?ocaseT111115y hHeld ?ocaseT111115r
  case ocaseT111115h => (simp only [List.getElem?_toArray, List.getElem?_cons_succ, List.getElem?_cons_zero]; rfl)
  case ocaseT111115q => exact fun _ _ _ h => h
  case ocaseT111115y => exact Or.inr ⟨by first | kernel_rfl | rfl, rfl⟩
  try simp only [Act.put, List.setIfInBounds_toArray, List.set_cons_zero, List.set_cons_succ]
  refine wpAnyH_take (i := 15) (oi := ?ocaseT111116o) (v := undef) ?ocaseT111116h (by kernel_rfl) (by kernel_rfl) (by kernel_rfl) ?ocaseT111116q ?ocaseT111116y hHeld ?ocaseT111116r
  case ocaseT111116h => (simp only [List.getElem?_toArray, List.getElem?_cons_succ, List.getElem?_cons_zero]; rfl)
  case ocaseT111116q => exact fun _ _ _ h => h
  case ocaseT111116y => exact Or.inr ⟨by first | kernel_rfl | rfl, rfl⟩
  try simp only [Act.put, List.setIfInBounds_toArray, List.set_cons_zero, List.set_cons_succ]
  refine wpAnyH_take (i := 16) (oi := ?ocaseT111117o) (v := undef) ?ocaseT111117h (by kernel_rfl) (by kernel_rfl) (by kernel_rfl) ?ocaseT111117q ?ocaseT111117y hHeld ?ocaseT111117r
  case ocaseT111117h => (simp only [List.getElem?_toArray, List.getElem?_cons_succ, List.getElem?_cons_zero]; rfl)
  case ocaseT111117q => exact fun _ _ _ h => h
  case ocaseT111117y => exact Or.inr ⟨by first | kernel_rfl | rfl, rfl⟩
  try simp only [Act.put, List.setIfInBounds_toArray, List.set_cons_zero, List.set_cons_succ]
  refine wpAnyH_take (i := 17) (oi := ?ocaseT111118o) (v := undef) ?ocaseT111118h (by kernel_rfl) (by kernel_rfl) (by kernel_rfl) ?ocaseT111118q ?ocaseT111118y hHeld ?ocaseT111118r
  case ocaseT111118h => (simp only [List.getElem?_toArray, List.getElem?_cons_succ, List.getElem?_cons_zero]; rfl)
  case ocaseT111118q => exact fun _ _ _ h => h
  case ocaseT111118y => exact Or.inr ⟨by first | kernel_rfl | rfl, rfl⟩
  try simp only [Act.put, List.setIfInBounds_toArray, List.set_cons_zero, List.set_cons_succ]
  refine wpAnyH_take (i := 18) (oi := ?ocaseT111119o) (v := undef) ?ocaseT111119h (by kernel_rfl) (by kernel_rfl) (by kernel_rfl) ?ocaseT111119q ?ocaseT111119y hHeld ?ocaseT111119r
  case ocaseT111119h => (simp only [List.getElem?_toArray, List.getElem?_cons_succ, List.getElem?_cons_zero]; rfl)
  case ocaseT111119q => exact fun _ _ _ h => h
  case ocaseT111119y => exact Or.inr ⟨by first | kernel_rfl | rfl, rfl⟩
  try simp only [Act.put, List.setIfInBounds_toArray, List.set_cons_zero, List.set_cons_succ]
  refine wpAnyH_take (i := 19) (oi := ?ocaseT111120o) (v := undef) ?ocaseT111120h (by kernel_rfl) (by kernel_rfl) (by kernel_rfl) ?ocaseT111120q ?ocaseT111120y hHeld ?ocaseT111120r
  case ocaseT111120h => (simp only [List.getElem?_toArray, List.getElem?_cons_succ, List.getElem?_cons_zero]; rfl)
  case ocaseT111120q => exact fun _ _ _ h => h
  case ocaseT111120y => exact Or.inr ⟨by first | kernel_rfl | rfl, rfl⟩
  try simp only [Act.put, List.setIfInBounds_toArray, List.set_cons_zero, List.set_cons_succ]
  refine wpAnyH_take (i := 20) (oi := ?ocaseT111121o) (v := ?ocaseT111121v) ?ocaseT111121h (by kernel_rfl) (by kernel_rfl) (by kernel_rfl) ?ocaseT111121q ?ocaseT111121y hHeld ?ocaseT111121r
  case ocaseT111121h => (simp only [List.getElem?_toArray, List.getElem?_cons_succ, List.getElem?_cons_zero]; rfl)
  case ocaseT111121q => exact fun _ _ _ h => h
  case ocaseT111121y => (refine Or.inl ⟨by first | kernel_rfl | rfl, ?_⟩; intro w hSw; (try dsimp only at hSw); obtain ⟨⟨x0, x1, x2, x3, x4, x5, y0, y1, y2, y3, y4, y5, z0, z1, z2, z3, z4, z5⟩, -⟩ := hSw; go_simp <;> (try with_reducible rfl))
  try simp only [Act.put, List.setIfInBounds_toArray, List.set_cons_zero, List.set_cons_succ]
  refine wpAnyH_take (i := 21) (oi := ?ocaseT111122o) (v := ?ocaseT111122v) ?ocaseT111122h (by kernel_rfl) (by kernel_rfl) (by kernel_rfl) ?ocaseT111122q ?ocaseT111122y hHeld ?ocaseT111122r
  case ocaseT111122h => (simp only [List.getElem?_toArray, List.getElem?_cons_succ, List.getElem?_cons_zero]; rfl)
  case ocaseT111122q => exact fun _ _ _ h => h
  case ocaseT111122y => (refine Or.inl ⟨by first | kernel_rfl | rfl, ?_⟩; intro w hSw; (try dsimp only at hSw); obtain ⟨⟨x0, x1, x2, x3, x4, x5, y0, y1, y2, y3, y4, y5, z0, z1, z2, z3, z4, z5⟩, -⟩ := hSw; go_simp <;> (try with_reducible rfl))
  try simp only [Act.put, List.setIfInBounds_toArray, List.set_cons_zero, List.set_cons_succ]
  refine wpAnyH_done (by kernel_rfl) ?_ _
  have hbel := hHeld.bel
  go_wp2
  go_ret
  exact ⟨rfl, hbel⟩

set_option maxHeartbeats 8000000 in
theorem caseT00 (a b c : Pt) (h1 : ¬ a.s = b.s) (h : a.before b = true) (k : b.before c = false) : Rest a b c := by
  intro a0 b0 c0 w hfew
  have hy : b.before a = false := by rw [before_ne h1] at h; rw [before_ne (fun e => h1 e.symm)]; exact lessB_not h
  have hp : ¬ (a.s = b.s ∧ a.t = b.t) := fun e => h1 e.1
  have hs := seq_ne h1
  have kab := fun w => before_is a b true w (Lib.hid h)
  have kba := fun w => before_is b a false w (Lib.hid hy)
  have kbc := fun w => before_is b c false w (Lib.hid k)
  have jab := fun w => newer_is a b false w (Lib.hid (newer_no hp))
  have jba := fun w => newer_is b a false w (Lib.hid (newer_no fun e => hp ⟨e.1.symm, e.2.symm⟩))
  unfold ptV at kab kba kbc  jab jba
  clear h k hy hp h1
  have H0a := (PHeld.new w a0).keep (bel_new ((Below.refl _ _).alloc (Nat.le_refl _) (.cells #[.string b0.s, .int .i64 b0.t, .int .i64 b0.v, .int .i64 b0.st.c, .int .i64 b0.st.s, .int .i64 b0.st.q] 34)) (.cells #[.string c0.s, .int .i64 c0.t, .int .i64 c0.v, .int .i64 c0.st.c, .int .i64 c0.st.s, .int .i64 c0.st.q] 34))
  have H0b := (PHeld.new (w.alloc (.cells #[.string a0.s, .int .i64 a0.t, .int .i64 a0.v, .int .i64 a0.st.c, .int .i64 a0.st.s, .int .i64 a0.st.q] 34)) b0).keep ((Below.refl _ _).alloc (Nat.le_refl _) (.cells #[.string c0.s, .int .i64 c0.t, .int .i64 c0.v, .int .i64 c0.st.c, .int .i64 c0.st.s, .int .i64 c0.st.q] 34))
  have H0c := PHeld.new ((w.alloc (.cells #[.string a0.s, .int .i64 a0.t, .int .i64 a0.v, .int .i64 a0.st.c, .int .i64 a0.st.s, .int .i64 a0.st.q] 34)).alloc (.cells #[.string b0.s, .int .i64 b0.t, .int .i64 b0.v, .int .i64 b0.st.c, .int .i64 b0.st.s, .int .i64 b0.st.q] 34)) c0
  simp only [World.size_alloc] at H0b H0c
  have HF := Lib.hid hfew
  unfold ptV
  clear hfew
  go_enter Try.func7, Try.ntmps7
  go_wp2_with (first
    | (go_at_call 9; (with_reducible refine (awake_any _).mono ?_); rintro e w1 ⟨rfl, hb⟩; have Ha := H0a.keep hb; have Hb := H0b.keep hb; have Hc := H0c.keep hb; obtain ⟨⟨x0, x1, x2, x3, x4, x5⟩, -⟩ := Ha; obtain ⟨⟨y0, y1, y2, y3, y4, y5⟩, -⟩ := Hb; obtain ⟨⟨z0, z1, z2, z3, z4, z5⟩, -⟩ := Hc; have HB := H0a.bel.trans (hb.mono (by simp; omega)))
    | (go_at_call 26; (with_reducible refine (few3 a0 b0 c0 _).mono ?_); rintro e w2 ⟨v, rfl, hR, hb2⟩; rw [HF.out] at hR; obtain ⟨g, cap, rfl, hT⟩ := tri_of hR; have HH : OHeld w g a b c w2 := ⟨hT, bel_next (bel_new HB _) hb2⟩))
  clear H0a H0b H0c HB hb2 hb hT hR HF x0 x1 x2 x3 x4 x5 y0 y1 y2 y3 y4 y5 z0 z1 z2 z3 z4 z5
  go_wp2_with fail
  refine wp_region_held_drew (S := (OHeld w g a b c)) (by kernel_rfl) HH.drew (fun hHeld => ?_)
  refine wpAnyH_take (i := 0) (oi := ?ocaseT0031o) (v := ?ocaseT0031v) ?ocaseT0031h (by kernel_rfl) (by kernel_rfl) (by kernel_rfl) ?ocaseT0031q ?ocaseT0031y hHeld ?ocaseT0031r
  case ocaseT0031h => (simp only [List.getElem?_toArray, List.getElem?_cons_zero]; rfl)
  case ocaseT0031q => exact fun _ _ _ h => h
  case ocaseT0031y => (refine Or.inl ⟨by first | kernel_rfl | rfl, ?_⟩; intro w hSw; (try dsimp only at hSw); obtain ⟨⟨x0, x1, x2, x3, x4, x5, y0, y1, y2, y3, y4, y5, z0, z1, z2, z3, z4, z5⟩, -⟩ := hSw; go_simp <;> (try with_reducible rfl))
  try simp only [Act.put, List.setIfInBounds_toArray, List.set_cons_zero, List.set_cons_succ]
  refine wpAnyH_take (i := 1) (oi := ?ocaseT0032o) (v := ?ocaseT0032v) ?ocaseT0032h (by kernel_rfl) (by kernel_rfl) (by kernel_rfl) ?ocaseT0032q ?ocaseT0032y hHeld ?ocaseT0032r
  case ocaseT0032h => (simp only [List.getElem?_toArray, List.getElem?_cons_succ, List.getElem?_cons_zero]; rfl)
  case ocaseT0032q => exact fun _ _ _ h => h
  case ocaseT0032y => (refine Or.inl ⟨by first | kernel_rfl | rfl, ?_⟩; intro w hSw; (try dsimp only at hSw); obtain ⟨⟨x0, x1, x2, x3, x4, x5, y0, y1, y2, y3, y4, y5, z0, z1, z2, z3, z4, z5⟩, -⟩ := hSw; go_simp <;> (try with_reducible rfl))
  try simp only [Act.put, List.setIfInBounds_toArray, List.set_cons_zero, List.set_cons_succ]
  refine wpAnyH_take (i := 2) (oi := ?ocaseT0033o) (v := ?ocaseT0033v) ?ocaseT0033h (by kernel_rfl) (by kernel_rfl) (by kernel_rfl) ?ocaseT0033q ?ocaseT0033y hHeld ?ocaseT0033r
  case ocaseT0033h => (simp only [List.getElem?_toArray, List.getElem?_cons_succ, List.getElem?_cons_zero]; rfl)
  case ocaseT0033q => exact fun _ _ _ h => h
  case ocaseT0033y => (refine Or.inl ⟨by first | kernel_rfl | rfl, ?_⟩; intro w hSw; (try dsimp only at hSw); obtain ⟨⟨x0, x1, x2, x3, x4, x5, y0, y1, y2, y3, y4, y5, z0, z1, z2, z3, z4, z5⟩, -⟩ := hSw; go_simp <;> (try with_reducible rfl))
  try simp only [Act.put, List.setIfInBounds_toArray, List.set_cons_zero, List.set_cons_succ]
  refine wpAnyH_take (i := 3) (oi := ?ocaseT0034o) (v := ?ocaseT0034v) ?ocaseT0034h (by kernel_rfl) (by kernel_rfl) (by kernel_rfl) ?ocaseT0034q ?ocaseT0034y hHeld ?ocaseT0034r
  case ocaseT0034h => (simp only [List.getElem?_toArray, List.getElem?_cons_succ, List.getElem?_cons_zero]; rfl)
  case ocaseT0034q => exact fun _ _ _ h => h
  case ocaseT0034y => (refine Or.inl ⟨by first | kernel_rfl | rfl, ?_⟩; intro w hSw; (try dsimp only at hSw); obtain ⟨⟨x0, x1, x2, x3, x4, x5, y0, y1, y2, y3, y4, y5, z0, z1, z2, z3, z4, z5⟩, -⟩ := hSw; go_simp <;> (try with_reducible rfl))
  try simp only [Act.put, List.setIfInBounds_toArray, List.set_cons_zero, List.set_cons_succ]
  refine wpAnyH_take (i := 4) (oi := ?ocaseT0035o) (v := ?ocaseT0035v) ?ocaseT0035h (by kernel_rfl) (by kernel_rfl) (by kernel_rfl) ?ocaseT0035q ?ocaseT0035y hHeld ?ocaseT0035r
  case ocaseT0035h => (simp only [List.getElem?_toArray, List.getElem?_cons_succ, List.getElem?_cons_zero]; rfl)
  case ocaseT0035q => exact fun _ _ _ h => h
  case ocaseT0035y => (refine Or.inl ⟨by first | kernel_rfl | rfl, ?_⟩; intro w hSw; (try dsimp only at hSw); obtain ⟨⟨x0, x1, x2, x3, x4, x5, y0, y1, y2, y3, y4, y5, z0, z1, z2, z3, z4, z5⟩, -⟩ := hSw; go_simp <;> (try with_reducible rfl))
  try simp only [Act.put, List.setIfInBounds_toArray, List.set_cons_zero, List.set_cons_succ]
  refine wpAnyH_take (i := 5) (oi := ?ocaseT0036o) (v := ?ocaseT0036v) ?ocaseT0036h (by kernel_rfl) (by kernel_rfl) (by kernel_rfl) ?ocaseT0036q ?ocaseT0036y hHeld ?ocaseT0036r
  case ocaseT0036h => (simp only [List.getElem?_toArray, List.getElem?_cons_succ, List.getElem?_cons_zero]; rfl)
  case ocaseT0036q => exact fun _ _ _ h => h
  case ocaseT0036y => (refine Or.inl ⟨by first | kernel_rfl | rfl, ?_⟩; intro w hSw; (try dsimp only at hSw); obtain ⟨⟨x0, x1, x2, x3, x4, x5, y0, y1, y2, y3, y4, y5, z0, z1, z2, z3, z4, z5⟩, -⟩ := hSw; go_simp <;> (try with_reducible rfl))
  try simp only [Act.put, List.setIfInBounds_toArray, List.set_cons_zero, List.set_cons_succ]
  refine wpAnyH_ready (rs := [6]) (by kernel_rfl) (by simp) ?_
  refine (AllReadyH.cons rfl (fun K hK => ?_) AllReadyH.nil)
  go_simp
  ((with_reducible refine (kab _).mono ?_); rintro e w' ⟨rfl, hb'⟩)
  refine hK.out _ _ (hHeld.keep hb') (fun hHeld => ?_)
  clear hK K
  try simp only [Act.put, List.setIfInBounds_toArray, List.set_cons_zero, List.set_cons_succ]
  refine wpAnyH_take (i := 7) (oi := ?ocaseT0037o) (v := ?ocaseT0037v) ?ocaseT0037h (by kernel_rfl) (by kernel_rfl) (by kernel_rfl) ?ocaseT0037q ?ocaseT0037y hHeld ?ocaseT0037r
  case ocaseT0037h => (simp only [List.getElem?_toArray, List.getElem?_cons_succ, List.getElem?_cons_zero]; rfl)
  case ocaseT0037q => exact fun _ _ _ h => h
  case ocaseT0037y => (refine Or.inl ⟨by first | kernel_rfl | rfl, ?_⟩; intro w hSw; (try dsimp only at hSw); obtain ⟨⟨x0, x1, x2, x3, x4, x5, y0, y1, y2, y3, y4, y5, z0, z1, z2, z3, z4, z5⟩, -⟩ := hSw; go_simp <;> (try with_reducible rfl))
  try simp only [Act.put, List.setIfInBounds_toArray, List.set_cons_zero, List.set_cons_succ]
  refine wpAnyH_done (by kernel_rfl) ?_ _
  go_wp2_with fail
  refine wp_region_held_drew (S := (OHeld w g a b c)) (by kernel_rfl) hHeld.drew (fun hHeld => ?_)
  refine wpAnyH_take (i := 0) (oi := ?ocaseT0041o) (v := ?ocaseT0041v) ?ocaseT0041h (by kernel_rfl) (by kernel_rfl) (by kernel_rfl) ?ocaseT0041q ?ocaseT0041y hHeld ?ocaseT0041r
  case ocaseT0041h => (simp only [List.getElem?_toArray, List.getElem?_cons_zero]; rfl)
  case ocaseT0041q => exact fun _ _ _ h => h
  case ocaseT0041y => (refine Or.inl ⟨by first | kernel_rfl | rfl, ?_⟩; intro w hSw; (try dsimp only at hSw); obtain ⟨⟨x0, x1, x2, x3, x4, x5, y0, y1, y2, y3, y4, y5, z0, z1, z2, z3, z4, z5⟩, -⟩ := hSw; go_simp <;> (try with_reducible rfl))
  try simp only [Act.put, List.setIfInBounds_toArray, List.set_cons_zero, List.set_cons_succ]
  refine wpAnyH_take (i := 1) (oi := ?ocaseT0042o) (v := ?ocaseT0042v) ?ocaseT0042h (by kernel_rfl) (by kernel_rfl) (by kernel_rfl) ?ocaseT0042q ?ocaseT0042y hHeld ?ocaseT0042r
  case ocaseT0042h => (simp only [List.getElem?_toArray, List.getElem?_cons_succ, List.getElem?_cons_zero]; rfl)
  case ocaseT0042q => exact fun _ _ _ h => h
  case ocaseT0042y => (refine Or.inl ⟨by first | kernel_rfl | rfl, ?_⟩; intro w hSw; (try dsimp only at hSw); obtain ⟨⟨x0, x1, x2, x3, x4, x5, y0, y1, y2, y3, y4, y5, z0, z1, z2, z3, z4, z5⟩, -⟩ := hSw; go_simp <;> (try with_reducible rfl))
  try simp only [Act.put, List.setIfInBounds_toArray, List.set_cons_zero, List.set_cons_succ]
  refine wpAnyH_take (i := 2) (oi := ?ocaseT0043o) (v := ?ocaseT0043v) ?ocaseT0043h (by kernel_rfl) (by kernel_rfl) (by kernel_rfl) ?ocaseT0043q ?ocaseT0043y hHeld ?ocaseT0043r
  case ocaseT0043h => (simp only [List.getElem?_toArray, List.getElem?_cons_succ, List.getElem?_cons_zero]; rfl)
  case ocaseT0043q => exact fun _ _ _ h => h
  case ocaseT0043y => (refine Or.inl ⟨by first | kernel_rfl | rfl, ?_⟩; intro w hSw; (try dsimp only at hSw); obtain ⟨⟨x0, x1, x2, x3, x4, x5, y0, y1, y2, y3, y4, y5, z0, z1, z2, z3, z4, z5⟩, -⟩ := hSw; go_simp <;> (try with_reducible rfl))
  try simp only [Act.put, List.setIfInBounds_toArray, List.set_cons_zero, List.set_cons_succ]
  refine wpAnyH_take (i := 3) (oi := ?ocaseT0044o) (v := ?ocaseT0044v) ?ocaseT0044h (by kernel_rfl) (by kernel_rfl) (by kernel_rfl) ?ocaseT0044q ?ocaseT0044y hHeld ?ocaseT0044r
  case ocaseT0044h => (simp only [List.getElem?_toArray, List.getElem?_cons_succ, List.getElem?_cons_zero]; rfl)
  case ocaseT0044q => exact fun _ _ _ h => h
  case ocaseT0044y => (refine Or.inl ⟨by first | kernel_rfl | rfl, ?_⟩; intro w hSw; (try dsimp only at hSw); obtain ⟨⟨x0, x1, x2, x3, x4, x5, y0, y1, y2, y3, y4, y5, z0, z1, z2, z3, z4, z5⟩, -⟩ := hSw; go_simp <;> (try with_reducible rfl))
  try simp only [Act.put, List.setIfInBounds_toArray, List.set_cons_zero, List.set_cons_succ]
  refine wpAnyH_take (i := 4) (oi := ?ocaseT0045o) (v := ?ocaseT0045v) ?ocaseT0045h (by kernel_rfl) (by kernel_rfl) (by kernel_rfl) ?ocaseT0045q ?ocaseT0045y hHeld ?ocaseT0045r
  case ocaseT0045h => (simp only [List.getElem?_toArray, List.getElem?_cons_succ, List.getElem?_cons_zero]; rfl)
  case ocaseT0045q => exact fun _ _ _ h => h
  case ocaseT0045y => (refine Or.inl ⟨by first | kernel_rfl | rfl, ?_⟩; intro w hSw; (try dsimp only at hSw); obtain ⟨⟨x0, x1, x2, x3, x4, x5, y0, y1, y2, y3, y4, y5, z0, z1, z2, z3, z4, z5⟩, -⟩ := hSw; go_simp <;> (try with_reducible rfl))
  try simp only [Act.put, List.setIfInBounds_toArray, List.set_cons_zero, List.set_cons_succ]
  refine wpAnyH_take (i := 5) (oi := ?ocaseT0046o) (v := ?ocaseT0046v) ?ocaseT0046h (by kernel_rfl) (by kernel_rfl) (by kernel_rfl) ?ocaseT0046q ?ocaseT0046y hHeld ?ocaseT0046r
  case ocaseT0046h => (simp only [List.getElem?_toArray, List.getElem?_cons_succ, List.getElem?_cons_zero]; rfl)
  case ocaseT0046q => exact fun _ _ _ h => h
  case ocaseT0046y => (refine Or.inl ⟨by first | kernel_rfl | rfl, ?_⟩; intro w hSw; (try dsimp only at hSw); obtain ⟨⟨x0, x1, x2, x3, x4, x5, y0, y1, y2, y3, y4, y5, z0, z1, z2, z3, z4, z5⟩, -⟩ := hSw; go_simp <;> (try with_reducible rfl))
  try simp only [Act.put, List.setIfInBounds_toArray, List.set_cons_zero, List.set_cons_succ]
  refine wpAnyH_ready (rs := [6]) (by kernel_rfl) (by simp) ?_
  refine (AllReadyH.cons rfl (fun K hK => ?_) AllReadyH.nil)
  go_simp
  ((with_reducible refine (kba _).mono ?_); rintro e w' ⟨rfl, hb'⟩)
  refine hK.out _ _ (hHeld.keep hb') (fun hHeld => ?_)
  clear hK K
  try simp only [Act.put, List.setIfInBounds_toArray, List.set_cons_zero, List.set_cons_succ]
  refine wpAnyH_take (i := 7) (oi := ?ocaseT0047o) (v := ?ocaseT0047v) ?ocaseT0047h (by kernel_rfl) (by kernel_rfl) (by kernel_rfl) ?ocaseT0047q ?ocaseT0047y hHeld ?ocaseT0047r
  case ocaseT0047h => (simp only [List.getElem?_toArray, List.getElem?_cons_succ, List.getElem?_cons_zero]; rfl)
  case ocaseT0047q => exact fun _ _ _ h => h
  case ocaseT0047y => (refine Or.inl ⟨by first | kernel_rfl | rfl, ?_⟩; intro w hSw; (try dsimp only at hSw); obtain ⟨⟨x0, x1, x2, x3, x4, x5, y0, y1, y2, y3, y4, y5, z0, z1, z2, z3, z4, z5⟩, -⟩ := hSw; go_simp <;> (try with_reducible rfl))
  try simp only [Act.put, List.setIfInBounds_toArray, List.set_cons_zero, List.set_cons_succ]
  refine wpAnyH_done (by kernel_rfl) ?_ _
  have H4 := hHeld
  have G := hHeld
  obtain ⟨⟨x0, x1, x2, x3, x4, x5, y0, y1, y2, y3, y4, y5, z0, z1, z2, z3, z4, z5⟩, -⟩ := G
  clear hHeld
  go_wp2_with fail
  go_quiet (fail)
  have HP := H4.drewN (n := nq)
  skip
  go_wp2_with fail
  refine wp_region_held_drew (S := (OHeld w g a b c)) (by kernel_rfl) HP.drew (fun hHeld => ?_)
  refine wpAnyH_take (i := 0) (oi := ?ocaseT0061o) (v := ?ocaseT0061v) ?ocaseT0061h (by kernel_rfl) (by kernel_rfl) (by kernel_rfl) ?ocaseT0061q ?ocaseT0061y hHeld ?ocaseT0061r
  case ocaseT0061h => (simp only [List.getElem?_toArray, List.getElem?_cons_zero]; rfl)
  case ocaseT0061q => exact fun _ _ _ h => h
  case ocaseT0061y => (refine Or.inl ⟨by first | kernel_rfl | rfl, ?_⟩; intro w hSw; (try dsimp only at hSw); obtain ⟨⟨x0, x1, x2, x3, x4, x5, y0, y1, y2, y3, y4, y5, z0, z1, z2, z3, z4, z5⟩, -⟩ := hSw; go_simp <;> (try with_reducible rfl))
  try simp only [Act.put, List.setIfInBounds_toArray, List.set_cons_zero, List.set_cons_succ]
  refine wpAnyH_take (i := 1) (oi := ?ocaseT0062o) (v := ?ocaseT0062v) ?ocaseT0062h (by kernel_rfl) (by kernel_rfl) (by kernel_rfl) ?ocaseT0062q ?ocaseT0062y hHeld ?ocaseT0062r
  case ocaseT0062h => (simp only [List.getElem?_toArray, List.getElem?_cons_succ, List.getElem?_cons_zero]; rfl)
  case ocaseT0062q => exact fun _ _ _ h => h
  case ocaseT0062y => (refine Or.inl ⟨by first | kernel_rfl | rfl, ?_⟩; intro w hSw; (try dsimp only at hSw); obtain ⟨⟨x0, x1, x2, x3, x4, x5, y0, y1, y2, y3, y4, y5, z0, z1, z2, z3, z4, z5⟩, -⟩ := hSw; go_simp <;> (try with_reducible rfl))
  try simp only [Act.put, List.setIfInBounds_toArray, List.set_cons_zero, List.set_cons_succ]
  refine wpAnyH_take (i := 2) (oi := ?ocaseT0063o) (v := ?ocaseT0063v) ?ocaseT0063h (by kernel_rfl) (by kernel_rfl) (by kernel_rfl) ?ocaseT0063q ?ocaseT0063y hHeld ?ocaseT0063r
  case ocaseT0063h => (simp only [List.getElem?_toArray, List.getElem?_cons_succ, List.getElem?_cons_zero]; rfl)
  case ocaseT0063q => exact fun _ _ _ h => h
  case ocaseT0063y => (refine Or.inl ⟨by first | kernel_rfl | rfl, ?_⟩; intro w hSw; (try dsimp only at hSw); obtain ⟨⟨x0, x1, x2, x3, x4, x5, y0, y1, y2, y3, y4, y5, z0, z1, z2, z3, z4, z5⟩, -⟩ := hSw; go_simp <;> (try with_reducible rfl))
  try simp only [Act.put, List.setIfInBounds_toArray, List.set_cons_zero, List.set_cons_succ]
  refine wpAnyH_take (i := 3) (oi := ?ocaseT0064o) (v := ?ocaseT0064v) ?ocaseT0064h (by kernel_rfl) (by kernel_rfl) (by kernel_rfl) ?ocaseT0064q ?ocaseT0064y hHeld ?ocaseT0064r
  case ocaseT0064h => (simp only [List.getElem?_toArray, List.getElem?_cons_succ, List.getElem?_cons_zero]; rfl)
  case ocaseT0064q => exact fun _ _ _ h => h
  case ocaseT0064y => (refine Or.inl ⟨by first | kernel_rfl | rfl, ?_⟩; intro w hSw; (try dsimp only at hSw); obtain ⟨⟨x0, x1, x2, x3, x4, x5, y0, y1, y2, y3, y4, y5, z0, z1, z2, z3, z4, z5⟩, -⟩ := hSw; go_simp <;> (try with_reducible rfl))
  try simp only [Act.put, List.setIfInBounds_toArray, List.set_cons_zero, List.set_cons_succ]
  refine wpAnyH_take (i := 4) (oi := ?ocaseT0065o) (v := ?ocaseT0065v) ?ocaseT0065h (by kernel_rfl) (by kernel_rfl) (by kernel_rfl) ?ocaseT0065q ?ocaseT0065y hHeld ?ocaseT0065r
  case ocaseT0065h => (simp only [List.getElem?_toArray, List.getElem?_cons_succ, List.getElem?_cons_zero]; rfl)
  case ocaseT0065q => exact fun _ _ _ h => h
  case ocaseT0065y => (refine Or.inl ⟨by first | kernel_rfl | rfl, ?_⟩; intro w hSw; (try dsimp only at hSw); obtain ⟨⟨x0, x1, x2, x3, x4, x5, y0, y1, y2, y3, y4, y5, z0, z1, z2, z3, z4, z5⟩, -⟩ := hSw; go_simp <;> (try with_reducible rfl))
  try simp only [Act.put, List.setIfInBounds_toArray, List.set_cons_zero, List.set_cons_succ]
  refine wpAnyH_take (i := 5) (oi := ?ocaseT0066o) (v := ?ocaseT0066v) ?ocaseT0066h (by kernel_rfl) (by kernel_rfl) (by kernel_rfl) ?ocaseT0066q ?ocaseT0066y hHeld ?ocaseT0066r
  case ocaseT0066h => (simp only [List.getElem?_toArray, List.getElem?_cons_succ, List.getElem?_cons_zero]; rfl)
  case ocaseT0066q => exact fun _ _ _ h => h
  case ocaseT0066y => (refine Or.inl ⟨by first | kernel_rfl | rfl, ?_⟩; intro w hSw; (try dsimp only at hSw); obtain ⟨⟨x0, x1, x2, x3, x4, x5, y0, y1, y2, y3, y4, y5, z0, z1, z2, z3, z4, z5⟩, -⟩ := hSw; go_simp <;> (try with_reducible rfl))
  try simp only [Act.put, List.setIfInBounds_toArray, List.set_cons_zero, List.set_cons_succ]
  refine wpAnyH_ready (rs := [6]) (by kernel_rfl) (by simp) ?_
  refine (AllReadyH.cons rfl (fun K hK => ?_) AllReadyH.nil)
  go_simp
  ((with_reducible refine (jab _).mono ?_); rintro e w' ⟨rfl, hb'⟩)
  refine hK.out _ _ (hHeld.keep hb') (fun hHeld => ?_)
  clear hK K
  try simp only [Act.put, List.setIfInBounds_toArray, List.set_cons_zero, List.set_cons_succ]
  refine wpAnyH_take (i := 7) (oi := ?ocaseT0067o) (v := ?ocaseT0067v) ?ocaseT0067h (by kernel_rfl) (by kernel_rfl) (by kernel_rfl) ?ocaseT0067q ?ocaseT0067y hHeld ?ocaseT0067r
  case ocaseT0067h => (simp only [List.getElem?_toArray, List.getElem?_cons_succ, List.getElem?_cons_zero]; rfl)
  case ocaseT0067q => exact fun _ _ _ h => h
  case ocaseT0067y => (refine Or.inl ⟨by first | kernel_rfl | rfl, ?_⟩; intro w hSw; (try dsimp only at hSw); obtain ⟨⟨x0, x1, x2, x3, x4, x5, y0, y1, y2, y3, y4, y5, z0, z1, z2, z3, z4, z5⟩, -⟩ := hSw; go_simp <;> (try with_reducible rfl))
  try simp only [Act.put, List.setIfInBounds_toArray, List.set_cons_zero, List.set_cons_succ]
  refine wpAnyH_done (by kernel_rfl) ?_ _
  go_wp2_with fail
  refine wp_region_held_drew (S := (OHeld w g a b c)) (by kernel_rfl) hHeld.drew (fun hHeld => ?_)
  refine wpAnyH_take (i := 0) (oi := ?ocaseT0071o) (v := ?ocaseT0071v) ?ocaseT0071h (by kernel_rfl) (by kernel_rfl) (by kernel_rfl) ?ocaseT0071q ?ocaseT0071y hHeld ?ocaseT0071r
  case ocaseT0071h => (simp only [List.getElem?_toArray, List.getElem?_cons_zero]; rfl)
  case ocaseT0071q => exact fun _ _ _ h => h
  case ocaseT0071y => (refine Or.inl ⟨by first | kernel_rfl | rfl, ?_⟩; intro w hSw; (try dsimp only at hSw); obtain ⟨⟨x0, x1, x2, x3, x4, x5, y0, y1, y2, y3, y4, y5, z0, z1, z2, z3, z4, z5⟩, -⟩ := hSw; go_simp <;> (try with_reducible rfl))
  try simp only [Act.put, List.setIfInBounds_toArray, List.set_cons_zero, List.set_cons_succ]
  refine wpAnyH_take (i := 1) (oi := ?ocaseT0072o) (v := ?ocaseT0072v) ?ocaseT0072h (by kernel_rfl) (by kernel_rfl) (by kernel_rfl) ?ocaseT0072q ?ocaseT0072y hHeld ?ocaseT0072r
  case ocaseT0072h => (simp only [List.getElem?_toArray, List.getElem?_cons_succ, List.getElem?_cons_zero]; rfl)
  case ocaseT0072q => exact fun _ _ _ h => h
  case ocaseT0072y => (refine Or.inl ⟨by first | kernel_rfl | rfl, ?_⟩; intro w hSw; (try dsimp only at hSw); obtain ⟨⟨x0, x1, x2, x3, x4, x5, y0, y1, y2, y3, y4, y5, z0, z1, z2, z3, z4, z5⟩, -⟩ := hSw; go_simp <;> (try with_reducible rfl))
  try simp only [Act.put, List.setIfInBounds_toArray, List.set_cons_zero, List.set_cons_succ]
  refine wpAnyH_take (i := 2) (oi := ?ocaseT0073o) (v := ?ocaseT0073v) ?ocaseT0073h (by kernel_rfl) (by kernel_rfl) (by kernel_rfl) ?ocaseT0073q ?ocaseT0073y hHeld ?ocaseT0073r
  case ocaseT0073h => (simp only [List.getElem?_toArray, List.getElem?_cons_succ, List.getElem?_cons_zero]; rfl)
  case ocaseT0073q => exact fun _ _ _ h => h
  case ocaseT0073y => (refine Or.inl ⟨by first | kernel_rfl | rfl, ?_⟩; intro w hSw; (try dsimp only at hSw); obtain ⟨⟨x0, x1, x2, x3, x4, x5, y0, y1, y2, y3, y4, y5, z0, z1, z2, z3, z4, z5⟩, -⟩ := hSw; go_simp <;> (try with_reducible rfl))
  try simp only [Act.put, List.setIfInBounds_toArray, List.set_cons_zero, List.set_cons_succ]
  refine wpAnyH_take (i := 3) (oi := ?ocaseT0074o) (v := ?ocaseT0074v) ?ocaseT0074h (by kernel_rfl) (by kernel_rfl) (by kernel_rfl) ?ocaseT0074q ?ocaseT0074y hHeld ?ocaseT0074r
  case ocaseT0074h => (simp only [List.getElem?_toArray, List.getElem?_cons_succ, List.getElem?_cons_zero]; rfl)
  case ocaseT0074q => exact fun _ _ _ h => h
  case ocaseT0074y => (refine Or.inl ⟨by first | kernel_rfl | rfl, ?_⟩; intro w hSw; (try dsimp only at hSw); obtain ⟨⟨x0, x1, x2, x3, x4, x5, y0, y1, y2, y3, y4, y5, z0, z1, z2, z3, z4, z5⟩, -⟩ := hSw; go_simp <;> (try with_reducible rfl))
  try simp only [Act.put, List.setIfInBounds_toArray, List.set_cons_zero, List.set_cons_succ]
  refine wpAnyH_take (i := 4) (oi := ?ocaseT0075o) (v := ?ocaseT0075v) ?ocaseT0075h (by kernel_rfl) (by kernel_rfl) (by kernel_rfl) ?ocaseT0075q ?ocaseT0075y hHeld ?ocaseT0075r
  case ocaseT0075h => (simp only [List.getElem?_toArray, List.getElem?_cons_succ, List.getElem?_cons_zero]; rfl)
  case ocaseT0075q => exact fun _ _ _ h => h
  case ocaseT0075y => (refine Or.inl ⟨by first | kernel_rfl | rfl, ?_⟩; intro w hSw; (try dsimp only at hSw); obtain ⟨⟨x0, x1, x2, x3, x4, x5, y0, y1, y2, y3, y4, y5, z0, z1, z2, z3, z4, z5⟩, -⟩ := hSw; go_simp <;> (try with_reducible rfl))
  try simp only [Act.put, List.setIfInBounds_toArray, List.set_cons_zero, List.set_cons_succ]
  refine wpAnyH_take (i := 5) (oi := ?ocaseT0076o) (v := ?ocaseT0076v) ?ocaseT0076h (by kernel_rfl) (by kernel_rfl) (by kernel_rfl) ?ocaseT0076q ?ocaseT0076y hHeld ?ocaseT0076r
  case ocaseT0076h => (simp only [List.getElem?_toArray, List.getElem?_cons_succ, List.getElem?_cons_zero]; rfl)
  case ocaseT0076q => exact fun _ _ _ h => h
  case ocaseT0076y => (refine Or.inl ⟨by first | kernel_rfl | rfl, ?_⟩; intro w hSw; (try dsimp only at hSw); obtain ⟨⟨x0, x1, x2, x3, x4, x5, y0, y1, y2, y3, y4, y5, z0, z1, z2, z3, z4, z5⟩, -⟩ := hSw; go_simp <;> (try with_reducible rfl))
  try simp only [Act.put, List.setIfInBounds_toArray, List.set_cons_zero, List.set_cons_succ]
  refine wpAnyH_ready (rs := [6]) (by kernel_rfl) (by simp) ?_
  refine (AllReadyH.cons rfl (fun K hK => ?_) AllReadyH.nil)
  go_simp
  ((with_reducible refine (jba _).mono ?_); rintro e w' ⟨rfl, hb'⟩)
  refine hK.out _ _ (hHeld.keep hb') (fun hHeld => ?_)
  clear hK K
  try simp only [Act.put, List.setIfInBounds_toArray, List.set_cons_zero, List.set_cons_succ]
  refine wpAnyH_take (i := 7) (oi := ?ocaseT0077o) (v := ?ocaseT0077v) ?ocaseT0077h (by kernel_rfl) (by kernel_rfl) (by kernel_rfl) ?ocaseT0077q ?ocaseT0077y hHeld ?ocaseT0077r
  case ocaseT0077h => (simp only [List.getElem?_toArray, List.getElem?_cons_succ, List.getElem?_cons_zero]; rfl)
  case ocaseT0077q => exact fun _ _ _ h => h
  case ocaseT0077y => (refine Or.inl ⟨by first | kernel_rfl | rfl, ?_⟩; intro w hSw; (try dsimp only at hSw); obtain ⟨⟨x0, x1, x2, x3, x4, x5, y0, y1, y2, y3, y4, y5, z0, z1, z2, z3, z4, z5⟩, -⟩ := hSw; go_simp <;> (try with_reducible rfl))
  try simp only [Act.put, List.setIfInBounds_toArray, List.set_cons_zero, List.set_cons_succ]
  refine wpAnyH_done (by kernel_rfl) ?_ _
  have H7 := hHeld
  have G := hHeld
  obtain ⟨⟨x0, x1, x2, x3, x4, x5, y0, y1, y2, y3, y4, y5, z0, z1, z2, z3, z4, z5⟩, -⟩ := G
  clear hHeld
  go_wp2_with fail
  go_quiet (fail)
  have HQ := H7.drewN (n := nq)
  skip
  go_wp2_with fail
  refine wp_region_held_drew (S := (OHeld w g a b c)) (by kernel_rfl) HQ.drew (fun hHeld => ?_)
  refine wpAnyH_take (i := 0) (oi := ?ocaseT00101o) (v := ?ocaseT00101v) ?ocaseT00101h (by kernel_rfl) (by kernel_rfl) (by kernel_rfl) ?ocaseT00101q ?ocaseT00101y hHeld ?ocaseT00101r
  case ocaseT00101h => (simp only [List.getElem?_toArray, List.getElem?_cons_zero]; rfl)
  case ocaseT00101q => exact fun _ _ _ h => h
  case ocaseT00101y => (refine Or.inl ⟨by first | kernel_rfl | rfl, ?_⟩; intro w hSw; (try dsimp only at hSw); obtain ⟨⟨x0, x1, x2, x3, x4, x5, y0, y1, y2, y3, y4, y5, z0, z1, z2, z3, z4, z5⟩, -⟩ := hSw; go_simp <;> (try with_reducible rfl))
  try simp only [Act.put, List.setIfInBounds_toArray, List.set_cons_zero, List.set_cons_succ]
  refine wpAnyH_take (i := 1) (oi := ?ocaseT00102o) (v := ?ocaseT00102v) ?ocaseT00102h (by kernel_rfl) (by kernel_rfl) (by kernel_rfl) ?ocaseT00102q ?ocaseT00102y hHeld ?ocaseT00102r
  case ocaseT00102h => (simp only [List.getElem?_toArray, List.getElem?_cons_succ, List.getElem?_cons_zero]; rfl)
  case ocaseT00102q => exact fun _ _ _ h => h
  case ocaseT00102y => (refine Or.inl ⟨by first | kernel_rfl | rfl, ?_⟩; intro w hSw; (try dsimp only at hSw); obtain ⟨⟨x0, x1, x2, x3, x4, x5, y0, y1, y2, y3, y4, y5, z0, z1, z2, z3, z4, z5⟩, -⟩ := hSw; go_simp <;> (try with_reducible rfl))
  try simp only [Act.put, List.setIfInBounds_toArray, List.set_cons_zero, List.set_cons_succ]
  refine wpAnyH_take (i := 2) (oi := ?ocaseT00103o) (v := ?ocaseT00103v) ?ocaseT00103h (by kernel_rfl) (by kernel_rfl) (by kernel_rfl) ?ocaseT00103q ?ocaseT00103y hHeld ?ocaseT00103r
  case ocaseT00103h => (simp only [List.getElem?_toArray, List.getElem?_cons_succ, List.getElem?_cons_zero]; rfl)
  case ocaseT00103q => exact fun _ _ _ h => h
  case ocaseT00103y => (refine Or.inl ⟨by first | kernel_rfl | rfl, ?_⟩; intro w hSw; (try dsimp only at hSw); obtain ⟨⟨x0, x1, x2, x3, x4, x5, y0, y1, y2, y3, y4, y5, z0, z1, z2, z3, z4, z5⟩, -⟩ := hSw; go_simp <;> (try with_reducible rfl))
  try simp only [Act.put, List.setIfInBounds_toArray, List.set_cons_zero, List.set_cons_succ]
  refine wpAnyH_take (i := 3) (oi := ?ocaseT00104o) (v := ?ocaseT00104v) ?ocaseT00104h (by kernel_rfl) (by kernel_rfl) (by kernel_rfl) ?ocaseT00104q ?ocaseT00104y hHeld ?ocaseT00104r
  case ocaseT00104h => (simp only [List.getElem?_toArray, List.getElem?_cons_succ, List.getElem?_cons_zero]; rfl)
  case ocaseT00104q => exact fun _ _ _ h => h
  case ocaseT00104y => (refine Or.inl ⟨by first | kernel_rfl | rfl, ?_⟩; intro w hSw; (try dsimp only at hSw); obtain ⟨⟨x0, x1, x2, x3, x4, x5, y0, y1, y2, y3, y4, y5, z0, z1, z2, z3, z4, z5⟩, -⟩ := hSw; go_simp <;> (try with_reducible rfl))
  try simp only [Act.put, List.setIfInBounds_toArray, List.set_cons_zero, List.set_cons_succ]
  refine wpAnyH_take (i := 4) (oi := ?ocaseT00105o) (v := ?ocaseT00105v) ?ocaseT00105h (by kernel_rfl) (by kernel_rfl) (by kernel_rfl) ?ocaseT00105q ?ocaseT00105y hHeld ?ocaseT00105r
  case ocaseT00105h => (simp only [List.getElem?_toArray, List.getElem?_cons_succ, List.getElem?_cons_zero]; rfl)
  case ocaseT00105q => exact fun _ _ _ h => h
  case ocaseT00105y => (refine Or.inl ⟨by first | kernel_rfl | rfl, ?_⟩; intro w hSw; (try dsimp only at hSw); obtain ⟨⟨x0, x1, x2, x3, x4, x5, y0, y1, y2, y3, y4, y5, z0, z1, z2, z3, z4, z5⟩, -⟩ := hSw; go_simp <;> (try with_reducible rfl))
  try simp only [Act.put, List.setIfInBounds_toArray, List.set_cons_zero, List.set_cons_succ]
  refine wpAnyH_take (i := 5) (oi := ?ocaseT00106o) (v := ?ocaseT00106v) ?ocaseT00106h (by kernel_rfl) (by kernel_rfl) (by kernel_rfl) ?ocaseT00106q ?ocaseT00106y hHeld ?ocaseT00106r
  case ocaseT00106h => (simp only [List.getElem?_toArray, List.getElem?_cons_succ, List.getElem?_cons_zero]; rfl)
  case ocaseT00106q => exact fun _ _ _ h => h
  case ocaseT00106y => (refine Or.inl ⟨by first | kernel_rfl | rfl, ?_⟩; intro w hSw; (try dsimp only at hSw); obtain ⟨⟨x0, x1, x2, x3, x4, x5, y0, y1, y2, y3, y4, y5, z0, z1, z2, z3, z4, z5⟩, -⟩ := hSw; go_simp <;> (try with_reducible rfl))
  try simp only [Act.put, List.setIfInBounds_toArray, List.set_cons_zero, List.set_cons_succ]
  refine wpAnyH_take (i := 6) (oi := ?ocaseT00107o) (v := ?ocaseT00107v) ?ocaseT00107h (by kernel_rfl) (by kernel_rfl) (by kernel_rfl) ?ocaseT00107q ?ocaseT00107y hHeld ?ocaseT00107r
  case ocaseT00107h => (simp only [List.getElem?_toArray, List.getElem?_cons_succ, List.getElem?_cons_zero]; rfl)
  case ocaseT00107q => exact fun _ _ _ h => h
  case ocaseT00107y => (refine Or.inl ⟨by first | kernel_rfl | rfl, ?_⟩; intro w hSw; (try dsimp only at hSw); obtain ⟨⟨x0, x1, x2, x3, x4, x5, y0, y1, y2, y3, y4, y5, z0, z1, z2, z3, z4, z5⟩, -⟩ := hSw; go_simp <;> (try with_reducible rfl))
  try simp only [Act.put, List.setIfInBounds_toArray, List.set_cons_zero, List.set_cons_succ]
  refine wpAnyH_take (i := 7) (oi := ?ocaseT00108o) (v := ?ocaseT00108v) ?ocaseT00108h (by kernel_rfl) (by kernel_rfl) (by kernel_rfl) ?ocaseT00108q ?ocaseT00108y hHeld ?ocaseT00108r
  case ocaseT00108h => (simp only [List.getElem?_toArray, List.getElem?_cons_succ, List.getElem?_cons_zero]; rfl)
  case ocaseT00108q => exact fun _ _ _ h => h
  case ocaseT00108y => (refine Or.inl ⟨by first | kernel_rfl | rfl, ?_⟩; intro w hSw; (try dsimp only at hSw); obtain ⟨⟨x0, x1, x2, x3, x4, x5, y0, y1, y2, y3, y4, y5, z0, z1, z2, z3, z4, z5⟩, -⟩ := hSw; go_simp <;> (try with_reducible rfl))
  try simp only [Act.put, List.setIfInBounds_toArray, List.set_cons_zero, List.set_cons_succ]
  refine wpAnyH_take (i := 8) (oi := ?ocaseT00109o) (v := ?ocaseT00109v) ?ocaseT00109h (by kernel_rfl) (by kernel_rfl) (by kernel_rfl) ?ocaseT00109q ?ocaseT00109y hHeld ?ocaseT00109r
  case ocaseT00109h => (simp only [List.getElem?_toArray, List.getElem?_cons_succ, List.getElem?_cons_zero]; rfl)
  case ocaseT00109q => exact fun _ _ _ h => h
  case ocaseT00109y => (refine Or.inl ⟨by first | kernel_rfl | rfl, ?_⟩; intro w hSw; (try dsimp only at hSw); obtain ⟨⟨x0, x1, x2, x3, x4, x5, y0, y1, y2, y3, y4, y5, z0, z1, z2, z3, z4, z5⟩, -⟩ := hSw; go_simp <;> (try with_reducible rfl))
  try simp only [Act.put, List.setIfInBounds_toArray, List.set_cons_zero, List.set_cons_succ]
  refine wpAnyH_ready (rs := [9]) (by kernel_rfl) (by simp) ?_
  refine (AllReadyH.cons rfl (fun K hK => ?_) AllReadyH.nil)
  go_simp
  ((with_reducible refine (kbc _).mono ?_); rintro e w' ⟨rfl, hb'⟩)
  refine hK.out _ _ (hHeld.keep hb') (fun hHeld => ?_)
  clear hK K
  try simp only [Act.put, List.setIfInBounds_toArray, List.set_cons_zero, List.set_cons_succ]
  refine wpAnyH_take (i := 10) (oi := ?ocaseT001010o) (v := ?ocaseT001010v) ?ocaseT001010h (by kernel_rfl) (by kernel_rfl) (by kernel_rfl) ?ocaseT001010q ?ocaseT001010y hHeld ?ocaseT001010r
  case ocaseT001010h => (simp only [List.getElem?_toArray, List.getElem?_cons_succ, List.getElem?_cons_zero]; rfl)
  case ocaseT001010q => exact fun _ _ _ h => h
  case ocaseT001010y => (refine Or.inl ⟨by first | kernel_rfl | rfl, ?_⟩; intro w hSw; (try dsimp only at hSw); obtain ⟨⟨x0, x1, x2, x3, x4, x5, y0, y1, y2, y3, y4, y5, z0, z1, z2, z3, z4, z5⟩, -⟩ := hSw; go_simp <;> (try with_reducible rfl))
  try simp only [Act.put, List.setIfInBounds_toArray, List.set_cons_zero, List.set_cons_succ]
  refine wpAnyH_take (i := 11) (oi := ?ocaseT001011o) (v := ?ocaseT001011v) ?ocaseT001011h (by kernel_rfl) (by kernel_rfl) (by kernel_rfl) ?ocaseT001011q ?ocaseT001011y hHeld ?ocaseT001011r
  case ocaseT001011h => (simp only [List.getElem?_toArray, List.getElem?_cons_succ, List.getElem?_cons_zero]; rfl)
  case ocaseT001011q => exact fun _ _ _ h => h
  case ocaseT001011y => (refine Or.inl ⟨by first | kernel_rfl | rfl, ?_⟩; intro w hSw; (try dsimp only at hSw); obtain ⟨⟨x0, x1, x2, x3, x4, x5, y0, y1, y2, y3, y4, y5, z0, z1, z2, z3, z4, z5⟩, -⟩ := hSw; go_simp <;> (try with_reducible rfl))
  try simp only [Act.put, List.setIfInBounds_toArray, List.set_cons_zero, List.set_cons_succ]
  refine wpAnyH_take (i := 12) (oi := ?ocaseT001012o) (v := ?ocaseT001012v) ?ocaseT001012h (by kernel_rfl) (by kernel_rfl) (by kernel_rfl) ?ocaseT001012q ?ocaseT001012y hHeld ?ocaseT001012r
  case ocaseT001012h => (simp only [List.getElem?_toArray, List.getElem?_cons_succ, List.getElem?_cons_zero]; rfl)
  case ocaseT001012q => exact fun _ _ _ h => h
  case ocaseT001012y => (refine Or.inl ⟨by first | kernel_rfl | rfl, ?_⟩; intro w hSw; (try dsimp only at hSw); obtain ⟨⟨x0, x1, x2, x3, x4, x5, y0, y1, y2, y3, y4, y5, z0, z1, z2, z3, z4, z5⟩, -⟩ := hSw; go_simp <;> (try with_reducible rfl))
  try simp only [Act.put, List.setIfInBounds_toArray, List.set_cons_zero, List.set_cons_succ]
  refine wpAnyH_take (i := 13) (oi := ?ocaseT001013o) (v := undef) ?ocaseT001013h (by kernel_rfl) (by kernel_rfl) (by kernel_rfl) ?ocaseT001013q ?ocaseT001013y hHeld ?ocaseT001013r
  case ocaseT001013h => (simp only [List.getElem?_toArray, List.getElem?_cons_succ, List.getElem?_cons_zero]; rfl)
  case ocaseT001013q => exact fun _ _ _ h => h
  case ocaseT001013y => exact Or.inr ⟨by first | kernel_rfl | rfl, rfl⟩
  try simp only [Act.put, List.setIfInBounds_toArray, List.set_cons_zero, List.set_cons_succ]
  refine wpAnyH_take (i := 14) (oi := ?ocaseT001014o) (v := undef) ?ocaseT001014h (by kernel_rfl) (by kernel_rfl) (by kernel_rfl) ?ocaseT001014q ?ocaseT001014y hHeld ?ocaseT001014r
  case ocaseT001014h => (simp only [List.getElem?_toArray, List.getElem?_cons_succ, List.getElem?_cons_zero]; rfl)
  case ocaseT001014q => exact fun _ _ _ h => h
  case ocaseT001014y => exact Or.inr ⟨by first | kernel_rfl | rfl, rfl⟩
  try simp only [Act.put, List.setIfInBounds_toArray, List.set_cons_zero, List.set_cons_succ]
  refine wpAnyH_take (i := 15) (oi := ?ocaseT001015o) (v := undef) ?ocaseT001015h (by kernel_rfl) (by kernel_rfl) (by kernel_rfl) ?ocaseT001015q ?ocaseT001015y hHeld ?ocaseT001015r
  case ocaseT001015h => (simp only [List.getElem?_toArray, List.getElem?_cons_succ, List.getElem?_cons_zero]; rfl)
  case ocaseT001015q => exact fun _ _ _ h => h
  case ocaseT001015y => exact Or.inr ⟨by first | kernel_rfl | rfl, rfl⟩
  try simp only [Act.put, List.setIfInBounds_toArray, List.set_cons_zero, List.set_cons_succ]
  refine wpAnyH_take (i := 16) (oi := ?ocaseT001016o) (v := undef) ?ocaseT001016h (by kernel_rfl) (by kernel_rfl) (by kernel_rfl) ?ocaseT001016q ?ocaseT001016y hHeld ?ocaseT001016r
  case ocaseT001016h => (simp only [List.getElem?_toArray, List.getElem?_cons_succ, List.getElem?_cons_zero]; rfl)
  case ocaseT001016q => exact fun _ _ _ h => h
  case ocaseT001016y => exact Or.inr ⟨by first | kernel_rfl | rfl, rfl⟩
  try simp only [Act.put, List.setIfInBounds_toArray, List.set_cons_zero, List.set_cons_succ]
  refine wpAnyH_take (i := 17) (oi := ?ocaseT001017o) (v := undef) ?ocaseT001017h (by kernel_rfl) (by kernel_rfl) (by kernel_rfl) ?ocaseT001017q ?ocaseT001017y hHeld ?ocaseT001017r
  case ocaseT001017h => (simp only [List.getElem?_toArray, List.getElem?_cons_succ, List.getElem?_cons_zero]; rfl)
  case ocaseT001017q => exact fun _ _ _ h => h
  case ocaseT001017y => exact Or.inr ⟨by first | kernel_rfl | rfl, rfl⟩
  try simp only [Act.put, List.setIfInBounds_toArray, List.set_cons_zero, List.set_cons_succ]
  refine wpAnyH_take (i := 18) (oi := ?ocaseT001018o) (v := undef) ?ocaseT001018h (by kernel_rfl) (by kernel_rfl) (by kernel_rfl) ?ocaseT001018q ?ocaseT001018y hHeld ?ocaseT001018r
  case ocaseT001018h => (simp only [List.getElem?_toArray, List.getElem?_cons_succ, List.getElem?_cons_zero]; rfl)
  case ocaseT001018q => exact fun _ _ _ h => h
  case ocaseT001018y => exact Or.inr ⟨by first | kernel_rfl | rfl, rfl⟩
  try simp only [Act.put, List.setIfInBounds_toArray, List.set_cons_zero, List.set_cons_succ]
  refine wpAnyH_take (i := 19) (oi := ?ocaseT001019o) (v := undef) ?ocaseT001019h (by kernel_rfl) (by kernel_rfl) (by kernel_rfl) ?ocaseT001019q ?ocaseT001019y hHeld ?ocaseT001019r
  case ocaseT001019h => (simp only [List.getElem?_toArray, List.getElem?_cons_succ, List.getElem?_cons_zero]; rfl)
  case ocaseT001019q => exact fun _ _ _ h => h
  case ocaseT001019y => exact Or.inr ⟨by first | kernel_rfl | rfl, rfl⟩
  try simp only [Act.put, List.setIfInBounds_toArray, List.set_cons_zero, List.set_cons_succ]
  refine wpAnyH_take (i := 20) (oi := ?ocaseT001020o) (v := ?ocaseT001020v) ?ocaseT001020h (by kernel_rfl) (by kernel_rfl) (by kernel_rfl) ?ocaseT001020q ?ocaseT001020y hHeld ?ocaseT001020r
  case ocaseT001020h => (simp only [List.getElem?_toArray, List.getElem?_cons_succ, List.getElem?_cons_zero]; rfl)
  case ocaseT001020q => exact fun _ _ _ h => h
  case ocaseT001020y => (refine Or.inl ⟨by first | kernel_rfl | rfl, ?_⟩; intro w hSw; (try dsimp only at hSw); obtain ⟨⟨x0, x1, x2, x3, x4, x5, y0, y1, y2, y3, y4, y5, z0, z1, z2, z3, z4, z5⟩, -⟩ := hSw; go_simp <;> (try with_reducible rfl))
  try simp only [Act.put, List.setIfInBounds_toArray, List.set_cons_zero, List.set_cons_succ]
  refine wpAnyH_take (i := 21) (oi := ?ocaseT001021o) (v := ?ocaseT001021v) ?ocaseT001021h (by kernel_rfl) (by kernel_rfl) (by kernel_rfl) ?ocaseT001021q ?ocaseT001021y hHeld ?ocaseT001021r
  case ocaseT001021h => (simp only [List.getElem?_toArray, List.getElem?_cons_succ, List.getElem?_cons_zero]; rfl)
  case ocaseT001021q => exact fun _ _ _ h => h
  case ocaseT001021y => (refine Or.inl ⟨by first | kernel_rfl | rfl, ?_⟩; intro w hSw; (try dsimp only at hSw); obtain ⟨⟨x0, x1, x2, x3, x4, x5, y0, y1, y2, y3, y4, y5, z0, z1, z2, z3, z4, z5⟩, -⟩ := hSw; go_simp <;> (try with_reducible rfl))
  try simp only [Act.put, List.setIfInBounds_toArray, List.set_cons_zero, List.set_cons_succ]
  refine wpAnyH_done (by kernel_rfl) ?_ _
  go_wp2_with fail
  refine wp_region_held_drew (S := (OHeld w g a b c)) (by kernel_rfl) hHeld.drew (fun hHeld => ?_)
  refine wpAnyH_take (i := 0) (oi := ?ocaseT00111o) (v := ?ocaseT00111v) ?ocaseT00111h (by kernel_rfl) (by kernel_rfl) (by kernel_rfl) ?ocaseT00111q ?ocaseT00111y hHeld ?ocaseT00111r
  case ocaseT00111h => (simp only [List.getElem?_toArray, List.getElem?_cons_zero]; rfl)
  case ocaseT00111q => exact fun _ _ _ h => h
  case ocaseT00111y => (refine Or.inl ⟨by first | kernel_rfl | rfl, ?_⟩; intro w hSw; (try dsimp only at hSw); obtain ⟨⟨x0, x1, x2, x3, x4, x5, y0, y1, y2, y3, y4, y5, z0, z1, z2, z3, z4, z5⟩, -⟩ := hSw; go_simp <;> (try with_reducible rfl))
  try simp only [Act.put, List.setIfInBounds_toArray, List.set_cons_zero, List.set_cons_succ]
  refine wpAnyH_take (i := 1) (oi := ?ocaseT00112o) (v := ?ocaseT00112v) ?ocaseT00112h (by kernel_rfl) (by kernel_rfl) (by kernel_rfl) ?ocaseT00112q ?ocaseT00112y hHeld ?ocaseT00112r
  case ocaseT00112h => (simp only [List.getElem?_toArray, List.getElem?_cons_succ, List.getElem?_cons_zero]; rfl)
  case ocaseT00112q => exact fun _ _ _ h => h
  case ocaseT00112y => (refine Or.inl ⟨by first | kernel_rfl | rfl, ?_⟩; intro w hSw; (try dsimp only at hSw); obtain ⟨⟨x0, x1, x2, x3, x4, x5, y0, y1, y2, y3, y4, y5, z0, z1, z2, z3, z4, z5⟩, -⟩ := hSw; go_simp <;> (try with_reducible rfl))
  try simp only [Act.put, List.setIfInBounds_toArray, List.set_cons_zero, List.set_cons_succ]
  refine wpAnyH_take (i := 2) (oi := ?ocaseT00113o) (v := ?ocaseT00113v) ?ocaseT00113h (by kernel_rfl) (by kernel_rfl) (by kernel_rfl) ?ocaseT00113q ?ocaseT00113y hHeld ?ocaseT00113r
  case ocaseT00113h => (simp only [List.getElem?_toArray, List.getElem?_cons_succ, List.getElem?_cons_zero]; rfl)
  case ocaseT00113q => exact fun _ _ _ h => h
  case ocaseT00113y => (refine Or.inl ⟨by first | kernel_rfl | rfl, ?_⟩; intro w hSw; (try dsimp only at hSw); obtain ⟨⟨x0, x1, x2, x3, x4, x5, y0, y1, y2, y3, y4, y5, z0, z1, z2, z3, z4, z5⟩, -⟩ := hSw; go_simp <;> (try with_reducible rfl))
  try simp only [Act.put, List.setIfInBounds_toArray, List.set_cons_zero, List.set_cons_succ]
  refine wpAnyH_take (i := 3) (oi := ?ocaseT00114o) (v := undef) ?ocaseT00114h (by kernel_rfl) (by kernel_rfl) (by kernel_rfl) ?ocaseT00114q ?ocaseT00114y hHeld ?ocaseT00114r
  case ocaseT00114h => (simp only [List.getElem?_toArray, List.getElem?_cons_succ, List.getElem?_cons_zero]; rfl)
  case ocaseT00114q => exact fun _ _ _ h => h
  case ocaseT00114y => exact Or.inr ⟨by first | kernel_rfl | rfl, rfl⟩
  try simp only [Act.put, List.setIfInBounds_toArray, List.set_cons_zero, List.set_cons_succ]
  refine wpAnyH_take (i := 4) (oi := ?ocaseT00115o) (v := undef) ?ocaseT00115h (by kernel_rfl) (by kernel_rfl) (by kernel_rfl) ?ocaseT00115q ?ocaseT00115y hHeld ?ocaseT00115r
  case ocaseT00115h => (simp only [List.getElem?_toArray, List.getElem?_cons_succ, List.getElem?_cons_zero]; rfl)
  case ocaseT00115q => exact fun _ _ _ h => h
  case ocaseT00115y => exact Or.inr ⟨by first | kernel_rfl | rfl, rfl⟩
  try simp only [Act.put, List.setIfInBounds_toArray, List.set_cons_zero, List.set_cons_succ]
  refine wpAnyH_take (i := 5) (oi := ?ocaseT00116o) (v := undef) ?ocaseT00116h (by kernel_rfl) (by kernel_rfl) (by kernel_rfl) ?ocaseT00116q ?ocaseT00116y hHeld ?ocaseT00116r
  case ocaseT00116h => (simp only [List.getElem?_toArray, List.getElem?_cons_succ, List.getElem?_cons_zero]; rfl)
  case ocaseT00116q => exact fun _ _ _ h => h
  case ocaseT00116y => exact Or.inr ⟨by first | kernel_rfl | rfl, rfl⟩
  try simp only [Act.put, List.setIfInBounds_toArray, List.set_cons_zero, List.set_cons_succ]
  refine wpAnyH_take (i := 6) (oi := ?ocaseT00117o) (v := undef) ?ocaseT00117h (by kernel_rfl) (by kernel_rfl) (by kernel_rfl) ?ocaseT00117q ?ocaseT00117y hHeld ?ocaseT00117r
  case ocaseT00117h => (simp only [List.getElem?_toArray, List.getElem?_cons_succ, List.getElem?_cons_zero]; rfl)
  case ocaseT00117q => exact fun _ _ _ h => h
  case ocaseT00117y => exact Or.inr ⟨by first | kernel_rfl | rfl, rfl⟩
  try simp only [Act.put, List.setIfInBounds_toArray, List.set_cons_zero, List.set_cons_succ]
  refine wpAnyH_take (i := 7) (oi := ?ocaseT00118o) (v := undef) ?ocaseT00118h (by kernel_rfl) (by kernel_rfl) (by kernel_rfl) ?ocaseT00118q ?ocaseT00118y hHeld ?ocaseT00118r
  case ocaseT00118h => (simp only [List.getElem?_toArray, List.getElem?_cons_succ, List.getElem?_cons_zero]; rfl)
  case ocaseT00118q => exact fun _ _ _ h => h
  case ocaseT00118y => exact Or.inr ⟨by first | kernel_rfl | rfl, rfl⟩
  try simp only [Act.put, List.setIfInBounds_toArray, List.set_cons_zero, List.set_cons_succ]
  refine wpAnyH_take (i := 8) (oi := ?ocaseT00119o) (v := undef) ?ocaseT00119h (by kernel_rfl) (by kernel_rfl) (by kernel_rfl) ?ocaseT00119q ?ocaseT00119y hHeld ?ocaseT00119r
  case ocaseT00119h => (simp only [List.getElem?_toArray, List.getElem?_cons_succ, List.getElem?_cons_zero]; rfl)
  case ocaseT00119q => exact fun _ _ _ h => h
  case ocaseT00119y => exact Or.inr ⟨by first | kernel_rfl | rfl, rfl⟩
  try simp only [Act.put, List.setIfInBounds_toArray, List.set_cons_zero, List.set_cons_succ]
  refine wpAnyH_take (i := 9) (oi := ?ocaseT001110o) (v := undef) ?ocaseT001110h (by kernel_rfl) (by kernel_rfl) (by kernel_rfl) ?ocaseT001110q ?ocaseT001110y hHeld ?ocaseT001110r
  case ocaseT001110h => (simp only [List.getElem?_toArray, List.getElem?_cons_succ, List.getElem?_cons_zero]; rfl)
  case ocaseT001110q => exact fun _ _ _ h => h
  case ocaseT001110y => exact Or.inr ⟨by first | kernel_rfl | rfl, rfl⟩
  try simp only [Act.put, List.setIfInBounds_toArray, List.set_cons_zero, List.set_cons_succ]
  refine wpAnyH_take (i := 10) (oi := ?ocaseT001111o) (v := undef) ?ocaseT001111h (by kernel_rfl) (by kernel_rfl) (by kernel_rfl) ?ocaseT001111q ?ocaseT001111y hHeld ?ocaseT001111r
  case ocaseT001111h => (simp only [List.getElem?_toArray, List.getElem?_cons_succ, List.getElem?_cons_zero]; rfl)
  case ocaseT001111q => exact fun _ _ _ h => h
  case ocaseT001111y => exact Or.inr ⟨by first | kernel_rfl | rfl, rfl⟩
  try simp only [Act.put, List.setIfInBounds_toArray, List.set_cons_zero, List.set_cons_succ]
  refine wpAnyH_take (i := 11) (oi := ?ocaseT001112o) (v := ?ocaseT001112v) ?ocaseT001112h (by kernel_rfl) (by kernel_rfl) (by kernel_rfl) ?ocaseT001112q ?ocaseT001112y hHeld ?ocaseT001112r
  case ocaseT001112h => (simp only [List.getElem?_toArray, List.getElem?_cons_succ, List.getElem?_cons_zero]; rfl)
  case ocaseT001112q => exact fun _ _ _ h => h
  case ocaseT001112y => (refine Or.inl ⟨by first | kernel_rfl | rfl, ?_⟩; intro w hSw; (try dsimp only at hSw); obtain ⟨⟨x0, x1, x2, x3, x4, x5, y0, y1, y2, y3, y4, y5, z0, z1, z2, z3, z4, z5⟩, -⟩ := hSw; go_simp <;> (try with_reducible rfl))
  try simp only [Act.put, List.setIfInBounds_toArray, List.set_cons_zero, List.set_cons_succ]
  refine wpAnyH_take (i := 12) (oi := ?ocaseT001113o) (v := ?ocaseT001113v) ?ocaseT001113h (by kernel_rfl) (by kernel_rfl) (by kernel_rfl) ?ocaseT001113q ?ocaseT001113y hHeld ?ocaseT001113r
  case ocaseT001113h => (simp only [List.getElem?_toArray, List.getElem?_cons_succ, List.getElem?_cons_zero]; rfl)
  case ocaseT001113q => exact fun _ _ _ h => h
  case ocaseT001113y => (refine Or.inl ⟨by first | kernel_rfl | rfl, ?_⟩; intro w hSw; (try dsimp only at hSw); obtain ⟨⟨x0, x1, x2, x3, x4, x5, y0, y1, y2, y3, y4, y5, z0, z1, z2, z3, z4, z5⟩, -⟩ := hSw; go_simp <;> (try with_reducible rfl))
  try simp only [Act.put, List.setIfInBounds_toArray, List.set_cons_zero, List.set_cons_succ]
  refine wpAnyH_take (i := 13) (oi := ?ocaseT001114o) (v := undef) ?ocaseT001114h (by kernel_rfl) (by kernel_rfl) (by kernel_rfl) ?ocaseT001114q ?ocaseT001114y hHeld ?ocaseT001114r
  case ocaseT001114h => (simp only [List.getElem?_toArray, List.getElem?_cons_succ, List.getElem?_cons_zero]; rfl)
  case ocaseT001114q => exact fun _ _ _ h => h
  case ocaseT001114y => exact Or.inr ⟨by first | kernel_rfl | rfl, rfl⟩
  try simp only [Act.put, List.setIfInBounds_toArray, List.set_cons_zero, List.set_cons_succ]
  refine wpAnyH_take (i := 14) (oi := ?ocaseT001115o) (v := undef) ?ocaseT001115h (by kernel_rfl) (by kernel_rfl) (by kernel_rfl) ?ocaseT001115q ?ocaseT001115y hHeld ?ocaseT001115r
  case ocaseT001115h => (simp only [List.getElem?_toArray, List.getElem?_cons_succ, List.getElem?_cons_zero]; rfl)
  case ocaseT001115q => exact fun _ _ _ h => h
  case ocaseT001115y => exact Or.inr ⟨by first | kernel_rfl | rfl, rfl⟩
  try simp only [Act.put, List.setIfInBounds_toArray, List.set_cons_zero, List.set_cons_succ]
  refine wpAnyH_take (i := 15) (oi := ?ocaseT001116o) (v := undef) ?ocaseT001116h (by kernel_rfl) (by kernel_rfl) (by kernel_rfl) ?ocaseT001116q ?ocaseT001116y hHeld ?ocaseT001116r
  case ocaseT001116h => (simp only [List.getElem?_toArray, List.getElem?_cons_succ, List.getElem?_cons_zero]; rfl)
  case ocaseT001116q => exact fun _ _ _ h => h
  case ocaseT001116y => exact Or.inr ⟨by first | kernel_rfl | rfl, rfl⟩
  try simp only [Act.put, List.setIfInBounds_toArray, List.set_cons_zero, List.set_cons_succ]
  refine wpAnyH_take (i := 16) (oi := ?ocaseT001117o) (v := undef) ?ocaseT001117h (by kernel_rfl) (by kernel_rfl) (by kernel_rfl) ?ocaseT001117q ?ocaseT001117y hHeld ?ocaseT001117r
  case ocaseT001117h => (simp only [List.getElem?_toArray, List.getElem?_cons_succ, List.getElem?_cons_zero]; rfl)
  case ocaseT001117q => exact fun _ _ _ h => h
  case ocaseT001117y => exact Or.inr ⟨by first | kernel_rfl | rfl, rfl⟩
  try simp only [Act.put, List.setIfInBounds_toArray, List.set_cons_zero, List.set_cons_succ]
  refine wpAnyH_take (i := 17) (oi := ?ocaseT001118o) (v := undef) ?ocaseT001118h (by kernel_rfl) (by kernel_rfl) (by kernel_rfl) ?ocaseT001118q ?ocaseT001118y hHeld ?ocaseT001118r
  case ocaseT001118h => (simp only [List.getElem?_toArray, List.getElem?_cons_succ, List.getElem?_cons_zero]; rfl)
  case ocaseT001118q => exact fun _ _ _ h => h
  case ocaseT001118y => exact Or.inr ⟨by first | kernel_rfl | rfl, rfl⟩
  try simp only [Act.put, List.setIfInBounds_toArray, List.set_cons_zero, List.set_cons_succ]
  refine wpAnyH_take (i := 18) (oi := ?ocaseT001119o) (v := undef) ?ocaseT001119h (by kernel_rfl) (by kernel_rfl) (by kernel_rfl) ?ocaseT001119q ?ocaseT001119y hHeld ?ocaseT001119r
  case ocaseT001119h => (simp only [List.getElem?_toArray, List.getElem?_cons_succ, List.getElem?_cons_zero]; rfl)
  case ocaseT001119q => exact fun _ _ _ h => h
  case ocaseT001119y => exact Or.inr ⟨by first | kernel_rfl | rfl, rfl⟩
  try simp only [Act.put, List.setIfInBounds_toArray, List.set_cons_zero, List.set_cons_succ]
  refine wpAnyH_take (i := 19) (oi := ?ocaseT001120o) (v := undef) ?ocaseT001120h (by kernel_rfl) (by kernel_rfl) (by kernel_rfl) ?ocaseT001120q ?ocaseT001120y hHeld ?ocaseT001120r
  case ocaseT001120h => (simp only [List.getElem?_toArray, List.getElem?_cons_succ, List.getElem?_cons_zero]; rfl)
  case ocaseT001120q => exact fun _ _ _ h => h
  case ocaseT001120y => exact Or.inr ⟨by first | kernel_rfl | rfl, rfl⟩
  try simp only [Act.put, List.setIfInBounds_toArray, List.set_cons_zero, List.set_cons_succ]
  refine wpAnyH_take (i := 20) (oi := ?ocaseT001121o) (v := ?ocaseT001121v) ?ocaseT001121h (by kernel_rfl) (by kernel_rfl) (by kernel_rfl) ?ocaseT001121q ?ocaseT001121y hHeld ?ocaseT001121r
  case ocaseT001121h => (simp only [List.getElem?_toArray, List.getElem?_cons_succ, List.getElem?_cons_zero]; rfl)
  case ocaseT001121q => exact fun _ _ _ h => h
  case ocaseT001121y => (refine Or.inl ⟨by first | kernel_rfl | rfl, ?_⟩; intro w hSw; (try dsimp only at hSw); obtain ⟨⟨x0, x1, x2, x3, x4, x5, y0, y1, y2, y3, y4, y5, z0, z1, z2, z3, z4, z5⟩, -⟩ := hSw; go_simp <;> (try with_reducible rfl))
  try simp only [Act.put, List.setIfInBounds_toArray, List.set_cons_zero, List.set_cons_succ]
  refine wpAnyH_take (i := 21) (oi := ?ocaseT001122o) (v := ?ocaseT001122v) ?ocaseT001122h (by kernel_rfl) (by kernel_rfl) (by kernel_rfl) ?ocaseT001122q ?ocaseT001122y hHeld ?ocaseT001122r
  case ocaseT001122h => (simp only [List.getElem?_toArray, List.getElem?_cons_succ, List.getElem?_cons_zero]; rfl)
  case ocaseT001122q => exact fun _ _ _ h => h
  case ocaseT001122y => (refine Or.inl ⟨by first | kernel_rfl | rfl, ?_⟩; intro w hSw; (try dsimp only at hSw); obtain ⟨⟨x0, x1, x2, x3, x4, x5, y0, y1, y2, y3, y4, y5, z0, z1, z2, z3, z4, z5⟩, -⟩ := hSw; go_simp <;> (try with_reducible rfl))
  try simp only [Act.put, List.setIfInBounds_toArray, List.set_cons_zero, List.set_cons_succ]
  refine wpAnyH_done (by kernel_rfl) ?_ _
  have hbel := hHeld.bel
  go_wp2
  go_ret
  exact ⟨rfl, hbel⟩
end Go.Proofs.Ytjckphmkhikpaaa.sampleOrder
