/- Ways of law SampleOrder. -/
import Derived.Test.YtjckphmkhikpaaaSampleOrderMath
set_option maxRecDepth 20000
namespace Go.Proofs.Ytjckphmkhikpaaa.sampleOrder
open Go.RowKit Go.Proofs.Ytjckphmkhikpaaa Go.Proofs.Ytjckphmkhikpaaa.Vi Go.Proofs.Ytjckphmkhikpaaa.Mk

set_option maxHeartbeats 8000000 in
theorem caseT10 (a b c : Pt) (h1 : a.s = b.s) (h : a.before b = true) (k : b.before c = false) : Rest a b c := by
  intro a0 b0 c0 w hfew
  have hy : b.before a = false := by rw [before_s h1] at h; rw [before_s h1.symm]; have h := of_decide_eq_true h; exact decide_eq_false (by omega)
  have hp : ¬ (a.s = b.s ∧ a.t = b.t) := fun e => by rw [before_s h1] at h; have h := of_decide_eq_true h; omega
  have hs := seq_eq h1
  have ht : (a.t == b.t) = false := by rw [before_s h1] at h; have h := of_decide_eq_true h; simp; omega
  have kab := fun w => before_is a b true w (Lib.hid h)
  have kba := fun w => before_is b a false w (Lib.hid hy)
  have kbc := fun w => before_is b c false w (Lib.hid k)
  have jab := fun w => newer_is a b false w (Lib.hid (newer_no hp))
  have jba := fun w => newer_is b a false w (Lib.hid (newer_no fun e => hp ⟨e.1.symm, e.2.symm⟩))
  unfold ptV at kab kba kbc  jab jba
  clear h k hy hp h1
  have H0a := (PHeld.new w a0).keep (bel_new ((Below.refl _ _).alloc (Nat.le_refl _) (.cells #[.string b0.s, .int .i64 b0.t, .int .i64 b0.v, .int .i64 b0.st.c, .int .i64 b0.st.s, .int .i64 b0.st.q] 34)) (.cells #[.string c0.s, .int .i64 c0.t, .int .i64 c0.v, .int .i64 c0.st.c, .int .i64 c0.st.s, .int .i64 c0.st.q] 34))
  have H0b := (PHeld.new (w.alloc (.cells #[.string a0.s, .int .i64 a0.t, .int .i64 a0.v, .int .i64 a0.st.c, .int .i64 a0.st.s, .int .i64 a0.st.q] 34)) b0).keep ((Below.refl _ _).alloc (Nat.le_refl _) (.cells #[.string c0.s, .int .i64 c0.t, .int .i64 c0.v, .int .i64 c0.st.c, .int .i64 c0.st.s, .int .i64 c0.st.q] 34))
  have H0c := PHeld.new ((w.alloc (.cells #[.string a0.s, .int .i64 a0.t, .int .i64 a0.v, .int .i64 a0.st.c, .int .i64 a0.st.s, .int .i64 a0.st.q] 34)).alloc (.cells #[.string b0.s, .int .i64 b0.t, .int .i64 b0.v, .int .i64 b0.st.c, .int .i64 b0.st.s, .int .i64 b0.st.q] 34)) c0
  simp only [World.size_alloc] at H0b H0c
  have HF := Lib.hid hfew
  unfold ptV
  clear hfew
  go_enter Try.func7, Try.ntmps7
  go_wp2_with (first
    | (go_at_call 9; (with_reducible refine (awake_any _).mono ?_); rintro e w1 ⟨rfl, hb⟩; have Ha := H0a.keep hb; have Hb := H0b.keep hb; have Hc := H0c.keep hb; obtain ⟨⟨x0, x1, x2, x3, x4, x5⟩, -⟩ := Ha; obtain ⟨⟨y0, y1, y2, y3, y4, y5⟩, -⟩ := Hb; obtain ⟨⟨z0, z1, z2, z3, z4, z5⟩, -⟩ := Hc; have HB := H0a.bel.trans (hb.mono (by simp; omega)))
    | (go_at_call 26; (with_reducible refine (few3 a0 b0 c0 _).mono ?_); rintro e w2 ⟨v, rfl, hR, hb2⟩; rw [HF.out] at hR; obtain ⟨g, cap, rfl, hT⟩ := tri_of hR; have HH : OHeld w g a b c w2 := ⟨hT, bel_next (bel_new HB _) hb2⟩))
  clear H0a H0b H0c HB hb2 hb hT hR HF x0 x1 x2 x3 x4 x5 y0 y1 y2 y3 y4 y5 z0 z1 z2 z3 z4 z5
  go_wp2_with fail
  refine wp_region_held_drew (S := (OHeld w g a b c)) (by kernel_rfl) HH.drew (fun hHeld => ?_)
  refine wpAnyH_take (i := 0) (oi := ?ocaseT1031o) (v := ?ocaseT1031v) ?ocaseT1031h (by kernel_rfl) (by kernel_rfl) (by kernel_rfl) ?ocaseT1031q ?ocaseT1031y hHeld ?ocaseT1031r
  case ocaseT1031h => (simp only [List.getElem?_toArray, List.getElem?_cons_zero]; rfl)
  case ocaseT1031q => exact fun _ _ _ h => h
  case ocaseT1031y => (refine Or.inl ⟨by first | kernel_rfl | rfl, ?_⟩; intro w hSw; (try dsimp only at hSw); obtain ⟨⟨x0, x1, x2, x3, x4, x5, y0, y1, y2, y3, y4, y5, z0, z1, z2, z3, z4, z5⟩, -⟩ := hSw; go_simp <;> (try with_reducible rfl))
  try simp only [Act.put, List.setIfInBounds_toArray, List.set_cons_zero, List.set_cons_succ]
  refine wpAnyH_take (i := 1) (oi := ?ocaseT1032o) (v := ?ocaseT1032v) ?ocaseT1032h (by kernel_rfl) (by kernel_rfl) (by kernel_rfl) ?ocaseT1032q ?ocaseT1032y hHeld ?ocaseT1032r
  case ocaseT1032h => (simp only [List.getElem?_toArray, List.getElem?_cons_succ, List.getElem?_cons_zero]; rfl)
  case ocaseT1032q => exact fun _ _ _ h => h
  case ocaseT1032y => (refine Or.inl ⟨by first | kernel_rfl | rfl, ?_⟩; intro w hSw; (try dsimp only at hSw); obtain ⟨⟨x0, x1, x2, x3, x4, x5, y0, y1, y2, y3, y4, y5, z0, z1, z2, z3, z4, z5⟩, -⟩ := hSw; go_simp <;> (try with_reducible rfl))
  try simp only [Act.put, List.setIfInBounds_toArray, List.set_cons_zero, List.set_cons_succ]
  refine wpAnyH_take (i := 2) (oi := ?ocaseT1033o) (v := ?ocaseT1033v) ?ocaseT1033h (by kernel_rfl) (by kernel_rfl) (by kernel_rfl) ?ocaseT1033q ?ocaseT1033y hHeld ?ocaseT1033r
  case ocaseT1033h => (simp only [List.getElem?_toArray, List.getElem?_cons_succ, List.getElem?_cons_zero]; rfl)
  case ocaseT1033q => exact fun _ _ _ h => h
  case ocaseT1033y => (refine Or.inl ⟨by first | kernel_rfl | rfl, ?_⟩; intro w hSw; (try dsimp only at hSw); obtain ⟨⟨x0, x1, x2, x3, x4, x5, y0, y1, y2, y3, y4, y5, z0, z1, z2, z3, z4, z5⟩, -⟩ := hSw; go_simp <;> (try with_reducible rfl))
  try simp only [Act.put, List.setIfInBounds_toArray, List.set_cons_zero, List.set_cons_succ]
  refine wpAnyH_take (i := 3) (oi := ?ocaseT1034o) (v := ?ocaseT1034v) ?ocaseT1034h (by kernel_rfl) (by kernel_rfl) (by kernel_rfl) ?ocaseT1034q ?ocaseT1034y hHeld ?ocaseT1034r
  case ocaseT1034h => (simp only [List.getElem?_toArray, List.getElem?_cons_succ, List.getElem?_cons_zero]; rfl)
  case ocaseT1034q => exact fun _ _ _ h => h
  case ocaseT1034y => (refine Or.inl ⟨by first | kernel_rfl | rfl, ?_⟩; intro w hSw; (try dsimp only at hSw); obtain ⟨⟨x0, x1, x2, x3, x4, x5, y0, y1, y2, y3, y4, y5, z0, z1, z2, z3, z4, z5⟩, -⟩ := hSw; go_simp <;> (try with_reducible rfl))
  try simp only [Act.put, List.setIfInBounds_toArray, List.set_cons_zero, List.set_cons_succ]
  refine wpAnyH_take (i := 4) (oi := ?ocaseT1035o) (v := ?ocaseT1035v) ?ocaseT1035h (by kernel_rfl) (by kernel_rfl) (by kernel_rfl) ?ocaseT1035q ?ocaseT1035y hHeld ?ocaseT1035r
  case ocaseT1035h => (simp only [List.getElem?_toArray, List.getElem?_cons_succ, List.getElem?_cons_zero]; rfl)
  case ocaseT1035q => exact fun _ _ _ h => h
  case ocaseT1035y => (refine Or.inl ⟨by first | kernel_rfl | rfl, ?_⟩; intro w hSw; (try dsimp only at hSw); obtain ⟨⟨x0, x1, x2, x3, x4, x5, y0, y1, y2, y3, y4, y5, z0, z1, z2, z3, z4, z5⟩, -⟩ := hSw; go_simp <;> (try with_reducible rfl))
  try simp only [Act.put, List.setIfInBounds_toArray, List.set_cons_zero, List.set_cons_succ]
  refine wpAnyH_take (i := 5) (oi := ?ocaseT1036o) (v := ?ocaseT1036v) ?ocaseT1036h (by kernel_rfl) (by kernel_rfl) (by kernel_rfl) ?ocaseT1036q ?ocaseT1036y hHeld ?ocaseT1036r
  case ocaseT1036h => (simp only [List.getElem?_toArray, List.getElem?_cons_succ, List.getElem?_cons_zero]; rfl)
  case ocaseT1036q => exact fun _ _ _ h => h
  case ocaseT1036y => (refine Or.inl ⟨by first | kernel_rfl | rfl, ?_⟩; intro w hSw; (try dsimp only at hSw); obtain ⟨⟨x0, x1, x2, x3, x4, x5, y0, y1, y2, y3, y4, y5, z0, z1, z2, z3, z4, z5⟩, -⟩ := hSw; go_simp <;> (try with_reducible rfl))
  try simp only [Act.put, List.setIfInBounds_toArray, List.set_cons_zero, List.set_cons_succ]
  refine wpAnyH_ready (rs := [6]) (by kernel_rfl) (by simp) ?_
  refine (AllReadyH.cons rfl (fun K hK => ?_) AllReadyH.nil)
  go_simp
  ((with_reducible refine (kab _).mono ?_); rintro e w' ⟨rfl, hb'⟩)
  refine hK.out _ _ (hHeld.keep hb') (fun hHeld => ?_)
  clear hK K
  try simp only [Act.put, List.setIfInBounds_toArray, List.set_cons_zero, List.set_cons_succ]
  refine wpAnyH_take (i := 7) (oi := ?ocaseT1037o) (v := ?ocaseT1037v) ?ocaseT1037h (by kernel_rfl) (by kernel_rfl) (by kernel_rfl) ?ocaseT1037q ?ocaseT1037y hHeld ?ocaseT1037r
  case ocaseT1037h => (simp only [List.getElem?_toArray, List.getElem?_cons_succ, List.getElem?_cons_zero]; rfl)
  case ocaseT1037q => exact fun _ _ _ h => h
  case ocaseT1037y => (refine Or.inl ⟨by first | kernel_rfl | rfl, ?_⟩; intro w hSw; (try dsimp only at hSw); obtain ⟨⟨x0, x1, x2, x3, x4, x5, y0, y1, y2, y3, y4, y5, z0, z1, z2, z3, z4, z5⟩, -⟩ := hSw; go_simp <;> (try with_reducible rfl))
  try simp only [Act.put, List.setIfInBounds_toArray, List.set_cons_zero, List.set_cons_succ]
  refine wpAnyH_done (by kernel_rfl) ?_ _
  go_wp2_with fail
  refine wp_region_held_drew (S := (OHeld w g a b c)) (by kernel_rfl) hHeld.drew (fun hHeld => ?_)
  refine wpAnyH_take (i := 0) (oi := ?ocaseT1041o) (v := ?ocaseT1041v) ?ocaseT1041h (by kernel_rfl) (by kernel_rfl) (by kernel_rfl) ?ocaseT1041q ?ocaseT1041y hHeld ?ocaseT1041r
  case ocaseT1041h => (simp only [List.getElem?_toArray, List.getElem?_cons_zero]; rfl)
  case ocaseT1041q => exact fun _ _ _ h => h
  case ocaseT1041y => (refine Or.inl ⟨by first | kernel_rfl | rfl, ?_⟩; intro w hSw; (try dsimp only at hSw); obtain ⟨⟨x0, x1, x2, x3, x4, x5, y0, y1, y2, y3, y4, y5, z0, z1, z2, z3, z4, z5⟩, -⟩ := hSw; go_simp <;> (try with_reducible rfl))
  try simp only [Act.put, List.setIfInBounds_toArray, List.set_cons_zero, List.set_cons_succ]
  refine wpAnyH_take (i := 1) (oi := ?ocaseT1042o) (v := ?ocaseT1042v) ?ocaseT1042h (by kernel_rfl) (by kernel_rfl) (by kernel_rfl) ?ocaseT1042q ?ocaseT1042y hHeld ?ocaseT1042r
  case ocaseT1042h => (simp only [List.getElem?_toArray, List.getElem?_cons_succ, List.getElem?_cons_zero]; rfl)
  case ocaseT1042q => exact fun _ _ _ h => h
  case ocaseT1042y => (refine Or.inl ⟨by first | kernel_rfl | rfl, ?_⟩; intro w hSw; (try dsimp only at hSw); obtain ⟨⟨x0, x1, x2, x3, x4, x5, y0, y1, y2, y3, y4, y5, z0, z1, z2, z3, z4, z5⟩, -⟩ := hSw; go_simp <;> (try with_reducible rfl))
  try simp only [Act.put, List.setIfInBounds_toArray, List.set_cons_zero, List.set_cons_succ]
  refine wpAnyH_take (i := 2) (oi := ?ocaseT1043o) (v := ?ocaseT1043v) ?ocaseT1043h (by kernel_rfl) (by kernel_rfl) (by kernel_rfl) ?ocaseT1043q ?ocaseT1043y hHeld ?ocaseT1043r
  case ocaseT1043h => (simp only [List.getElem?_toArray, List.getElem?_cons_succ, List.getElem?_cons_zero]; rfl)
  case ocaseT1043q => exact fun _ _ _ h => h
  case ocaseT1043y => (refine Or.inl ⟨by first | kernel_rfl | rfl, ?_⟩; intro w hSw; (try dsimp only at hSw); obtain ⟨⟨x0, x1, x2, x3, x4, x5, y0, y1, y2, y3, y4, y5, z0, z1, z2, z3, z4, z5⟩, -⟩ := hSw; go_simp <;> (try with_reducible rfl))
  try simp only [Act.put, List.setIfInBounds_toArray, List.set_cons_zero, List.set_cons_succ]
  refine wpAnyH_take (i := 3) (oi := ?ocaseT1044o) (v := ?ocaseT1044v) ?ocaseT1044h (by kernel_rfl) (by kernel_rfl) (by kernel_rfl) ?ocaseT1044q ?ocaseT1044y hHeld ?ocaseT1044r
  case ocaseT1044h => (simp only [List.getElem?_toArray, List.getElem?_cons_succ, List.getElem?_cons_zero]; rfl)
  case ocaseT1044q => exact fun _ _ _ h => h
  case ocaseT1044y => (refine Or.inl ⟨by first | kernel_rfl | rfl, ?_⟩; intro w hSw; (try dsimp only at hSw); obtain ⟨⟨x0, x1, x2, x3, x4, x5, y0, y1, y2, y3, y4, y5, z0, z1, z2, z3, z4, z5⟩, -⟩ := hSw; go_simp <;> (try with_reducible rfl))
  try simp only [Act.put, List.setIfInBounds_toArray, List.set_cons_zero, List.set_cons_succ]
  refine wpAnyH_take (i := 4) (oi := ?ocaseT1045o) (v := ?ocaseT1045v) ?ocaseT1045h (by kernel_rfl) (by kernel_rfl) (by kernel_rfl) ?ocaseT1045q ?ocaseT1045y hHeld ?ocaseT1045r
  case ocaseT1045h => (simp only [List.getElem?_toArray, List.getElem?_cons_succ, List.getElem?_cons_zero]; rfl)
  case ocaseT1045q => exact fun _ _ _ h => h
  case ocaseT1045y => (refine Or.inl ⟨by first | kernel_rfl | rfl, ?_⟩; intro w hSw; (try dsimp only at hSw); obtain ⟨⟨x0, x1, x2, x3, x4, x5, y0, y1, y2, y3, y4, y5, z0, z1, z2, z3, z4, z5⟩, -⟩ := hSw; go_simp <;> (try with_reducible rfl))
  try simp only [Act.put, List.setIfInBounds_toArray, List.set_cons_zero, List.set_cons_succ]
  refine wpAnyH_take (i := 5) (oi := ?ocaseT1046o) (v := ?ocaseT1046v) ?ocaseT1046h (by kernel_rfl) (by kernel_rfl) (by kernel_rfl) ?ocaseT1046q ?ocaseT1046y hHeld ?ocaseT1046r
  case ocaseT1046h => (simp only [List.getElem?_toArray, List.getElem?_cons_succ, List.getElem?_cons_zero]; rfl)
  case ocaseT1046q => exact fun _ _ _ h => h
  case ocaseT1046y => (refine Or.inl ⟨by first | kernel_rfl | rfl, ?_⟩; intro w hSw; (try dsimp only at hSw); obtain ⟨⟨x0, x1, x2, x3, x4, x5, y0, y1, y2, y3, y4, y5, z0, z1, z2, z3, z4, z5⟩, -⟩ := hSw; go_simp <;> (try with_reducible rfl))
  try simp only [Act.put, List.setIfInBounds_toArray, List.set_cons_zero, List.set_cons_succ]
  refine wpAnyH_ready (rs := [6]) (by kernel_rfl) (by simp) ?_
  refine (AllReadyH.cons rfl (fun K hK => ?_) AllReadyH.nil)
  go_simp
  ((with_reducible refine (kba _).mono ?_); rintro e w' ⟨rfl, hb'⟩)
  refine hK.out _ _ (hHeld.keep hb') (fun hHeld => ?_)
  clear hK K
  try simp only [Act.put, List.setIfInBounds_toArray, List.set_cons_zero, List.set_cons_succ]
  refine wpAnyH_take (i := 7) (oi := ?ocaseT1047o) (v := ?ocaseT1047v) ?ocaseT1047h (by kernel_rfl) (by kernel_rfl) (by kernel_rfl) ?ocaseT1047q ?ocaseT1047y hHeld ?ocaseT1047r
  case ocaseT1047h => (simp only [List.getElem?_toArray, List.getElem?_cons_succ, List.getElem?_cons_zero]; rfl)
  case ocaseT1047q => exact fun _ _ _ h => h
  case ocaseT1047y => (refine Or.inl ⟨by first | kernel_rfl | rfl, ?_⟩; intro w hSw; (try dsimp only at hSw); obtain ⟨⟨x0, x1, x2, x3, x4, x5, y0, y1, y2, y3, y4, y5, z0, z1, z2, z3, z4, z5⟩, -⟩ := hSw; go_simp <;> (try with_reducible rfl))
  try simp only [Act.put, List.setIfInBounds_toArray, List.set_cons_zero, List.set_cons_succ]
  refine wpAnyH_done (by kernel_rfl) ?_ _
  have H4 := hHeld
  have G := hHeld
  obtain ⟨⟨x0, x1, x2, x3, x4, x5, y0, y1, y2, y3, y4, y5, z0, z1, z2, z3, z4, z5⟩, -⟩ := G
  clear hHeld
  go_wp2_with fail
  go_quiet (fail)
  have HP := H4.drewN (n := nq)
  skip
  go_wp2_with fail
  refine wp_region_held_drew (S := (OHeld w g a b c)) (by kernel_rfl) HP.drew (fun hHeld => ?_)
  refine wpAnyH_take (i := 0) (oi := ?ocaseT1061o) (v := ?ocaseT1061v) ?ocaseT1061h (by kernel_rfl) (by kernel_rfl) (by kernel_rfl) ?ocaseT1061q ?ocaseT1061y hHeld ?ocaseT1061r
  case ocaseT1061h => (simp only [List.getElem?_toArray, List.getElem?_cons_zero]; rfl)
  case ocaseT1061q => exact fun _ _ _ h => h
  case ocaseT1061y => (refine Or.inl ⟨by first | kernel_rfl | rfl, ?_⟩; intro w hSw; (try dsimp only at hSw); obtain ⟨⟨x0, x1, x2, x3, x4, x5, y0, y1, y2, y3, y4, y5, z0, z1, z2, z3, z4, z5⟩, -⟩ := hSw; go_simp <;> (try with_reducible rfl))
  try simp only [Act.put, List.setIfInBounds_toArray, List.set_cons_zero, List.set_cons_succ]
  refine wpAnyH_take (i := 1) (oi := ?ocaseT1062o) (v := ?ocaseT1062v) ?ocaseT1062h (by kernel_rfl) (by kernel_rfl) (by kernel_rfl) ?ocaseT1062q ?ocaseT1062y hHeld ?ocaseT1062r
  case ocaseT1062h => (simp only [List.getElem?_toArray, List.getElem?_cons_succ, List.getElem?_cons_zero]; rfl)
  case ocaseT1062q => exact fun _ _ _ h => h
  case ocaseT1062y => (refine Or.inl ⟨by first | kernel_rfl | rfl, ?_⟩; intro w hSw; (try dsimp only at hSw); obtain ⟨⟨x0, x1, x2, x3, x4, x5, y0, y1, y2, y3, y4, y5, z0, z1, z2, z3, z4, z5⟩, -⟩ := hSw; go_simp <;> (try with_reducible rfl))
  try simp only [Act.put, List.setIfInBounds_toArray, List.set_cons_zero, List.set_cons_succ]
  refine wpAnyH_take (i := 2) (oi := ?ocaseT1063o) (v := ?ocaseT1063v) ?ocaseT1063h (by kernel_rfl) (by kernel_rfl) (by kernel_rfl) ?ocaseT1063q ?ocaseT1063y hHeld ?ocaseT1063r
  case ocaseT1063h => (simp only [List.getElem?_toArray, List.getElem?_cons_succ, List.getElem?_cons_zero]; rfl)
  case ocaseT1063q => exact fun _ _ _ h => h
  case ocaseT1063y => (refine Or.inl ⟨by first | kernel_rfl | rfl, ?_⟩; intro w hSw; (try dsimp only at hSw); obtain ⟨⟨x0, x1, x2, x3, x4, x5, y0, y1, y2, y3, y4, y5, z0, z1, z2, z3, z4, z5⟩, -⟩ := hSw; go_simp <;> (try with_reducible rfl))
  try simp only [Act.put, List.setIfInBounds_toArray, List.set_cons_zero, List.set_cons_succ]
  refine wpAnyH_take (i := 3) (oi := ?ocaseT1064o) (v := ?ocaseT1064v) ?ocaseT1064h (by kernel_rfl) (by kernel_rfl) (by kernel_rfl) ?ocaseT1064q ?ocaseT1064y hHeld ?ocaseT1064r
  case ocaseT1064h => (simp only [List.getElem?_toArray, List.getElem?_cons_succ, List.getElem?_cons_zero]; rfl)
  case ocaseT1064q => exact fun _ _ _ h => h
  case ocaseT1064y => (refine Or.inl ⟨by first | kernel_rfl | rfl, ?_⟩; intro w hSw; (try dsimp only at hSw); obtain ⟨⟨x0, x1, x2, x3, x4, x5, y0, y1, y2, y3, y4, y5, z0, z1, z2, z3, z4, z5⟩, -⟩ := hSw; go_simp <;> (try with_reducible rfl))
  try simp only [Act.put, List.setIfInBounds_toArray, List.set_cons_zero, List.set_cons_succ]
  refine wpAnyH_take (i := 4) (oi := ?ocaseT1065o) (v := ?ocaseT1065v) ?ocaseT1065h (by kernel_rfl) (by kernel_rfl) (by kernel_rfl) ?ocaseT1065q ?ocaseT1065y hHeld ?ocaseT1065r
  case ocaseT1065h => (simp only [List.getElem?_toArray, List.getElem?_cons_succ, List.getElem?_cons_zero]; rfl)
  case ocaseT1065q => exact fun _ _ _ h => h
  case ocaseT1065y => (refine Or.inl ⟨by first | kernel_rfl | rfl, ?_⟩; intro w hSw; (try dsimp only at hSw); obtain ⟨⟨x0, x1, x2, x3, x4, x5, y0, y1, y2, y3, y4, y5, z0, z1, z2, z3, z4, z5⟩, -⟩ := hSw; go_simp <;> (try with_reducible rfl))
  try simp only [Act.put, List.setIfInBounds_toArray, List.set_cons_zero, List.set_cons_succ]
  refine wpAnyH_take (i := 5) (oi := ?ocaseT1066o) (v := ?ocaseT1066v) ?ocaseT1066h (by kernel_rfl) (by kernel_rfl) (by kernel_rfl) ?ocaseT1066q ?ocaseT1066y hHeld ?ocaseT1066r
  case ocaseT1066h => (simp only [List.getElem?_toArray, List.getElem?_cons_succ, List.getElem?_cons_zero]; rfl)
  case ocaseT1066q => exact fun _ _ _ h => h
  case ocaseT1066y => (refine Or.inl ⟨by first | kernel_rfl | rfl, ?_⟩; intro w hSw; (try dsimp only at hSw); obtain ⟨⟨x0, x1, x2, x3, x4, x5, y0, y1, y2, y3, y4, y5, z0, z1, z2, z3, z4, z5⟩, -⟩ := hSw; go_simp <;> (try with_reducible rfl))
  try simp only [Act.put, List.setIfInBounds_toArray, List.set_cons_zero, List.set_cons_succ]
  refine wpAnyH_ready (rs := [6]) (by kernel_rfl) (by simp) ?_
  refine (AllReadyH.cons rfl (fun K hK => ?_) AllReadyH.nil)
  go_simp
  ((with_reducible refine (jab _).mono ?_); rintro e w' ⟨rfl, hb'⟩)
  refine hK.out _ _ (hHeld.keep hb') (fun hHeld => ?_)
  clear hK K
  try simp only [Act.put, List.setIfInBounds_toArray, List.set_cons_zero, List.set_cons_succ]
  refine wpAnyH_take (i := 7) (oi := ?ocaseT1067o) (v := ?ocaseT1067v) ?ocaseT1067h (by kernel_rfl) (by kernel_rfl) (by kernel_rfl) ?ocaseT1067q ?ocaseT1067y hHeld ?ocaseT1067r
  case ocaseT1067h => (simp only [List.getElem?_toArray, List.getElem?_cons_succ, List.getElem?_cons_zero]; rfl)
  case ocaseT1067q => exact fun _ _ _ h => h
  case ocaseT1067y => (refine Or.inl ⟨by first | kernel_rfl | rfl, ?_⟩; intro w hSw; (try dsimp only at hSw); obtain ⟨⟨x0, x1, x2, x3, x4, x5, y0, y1, y2, y3, y4, y5, z0, z1, z2, z3, z4, z5⟩, -⟩ := hSw; go_simp <;> (try with_reducible rfl))
  try simp only [Act.put, List.setIfInBounds_toArray, List.set_cons_zero, List.set_cons_succ]
  refine wpAnyH_done (by kernel_rfl) ?_ _
  go_wp2_with fail
  refine wp_region_held_drew (S := (OHeld w g a b c)) (by kernel_rfl) hHeld.drew (fun hHeld => ?_)
  refine wpAnyH_take (i := 0) (oi := ?ocaseT1071o) (v := ?ocaseT1071v) ?ocaseT1071h (by kernel_rfl) (by kernel_rfl) (by kernel_rfl) ?ocaseT1071q ?ocaseT1071y hHeld ?ocaseT1071r
  case ocaseT1071h => (simp only [List.getElem?_toArray, List.getElem?_cons_zero]; rfl)
  case ocaseT1071q => exact fun _ _ _ h => h
  case ocaseT1071y => (refine Or.inl ⟨by first | kernel_rfl | rfl, ?_⟩; intro w hSw; (try dsimp only at hSw); obtain ⟨⟨x0, x1, x2, x3, x4, x5, y0, y1, y2, y3, y4, y5, z0, z1, z2, z3, z4, z5⟩, -⟩ := hSw; go_simp <;> (try with_reducible rfl))
  try simp only [Act.put, List.setIfInBounds_toArray, List.set_cons_zero, List.set_cons_succ]
  refine wpAnyH_take (i := 1) (oi := ?ocaseT1072o) (v := ?ocaseT1072v) ?ocaseT1072h (by kernel_rfl) (by kernel_rfl) (by kernel_rfl) ?ocaseT1072q ?ocaseT1072y hHeld ?ocaseT1072r
  case ocaseT1072h => (simp only [List.getElem?_toArray, List.getElem?_cons_succ, List.getElem?_cons_zero]; rfl)
  case ocaseT1072q => exact fun _ _ _ h => h
  case ocaseT1072y => (refine Or.inl ⟨by first | kernel_rfl | rfl, ?_⟩; intro w hSw; (try dsimp only at hSw); obtain ⟨⟨x0, x1, x2, x3, x4, x5, y0, y1, y2, y3, y4, y5, z0, z1, z2, z3, z4, z5⟩, -⟩ := hSw; go_simp <;> (try with_reducible rfl))
  try simp only [Act.put, List.setIfInBounds_toArray, List.set_cons_zero, List.set_cons_succ]
  refine wpAnyH_take (i := 2) (oi := ?ocaseT1073o) (v := ?ocaseT1073v) ?ocaseT1073h (by kernel_rfl) (by kernel_rfl) (by kernel_rfl) ?ocaseT1073q ?ocaseT1073y hHeld ?ocaseT1073r
  case ocaseT1073h => (simp only [List.getElem?_toArray, List.getElem?_cons_succ, List.getElem?_cons_zero]; rfl)
  case ocaseT1073q => exact fun _ _ _ h => h
  case ocaseT1073y => (refine Or.inl ⟨by first | kernel_rfl | rfl, ?_⟩; intro w hSw; (try dsimp only at hSw); obtain ⟨⟨x0, x1, x2, x3, x4, x5, y0, y1, y2, y3, y4, y5, z0, z1, z2, z3, z4, z5⟩, -⟩ := hSw; go_simp <;> (try with_reducible rfl))
  try simp only [Act.put, List.setIfInBounds_toArray, List.set_cons_zero, List.set_cons_succ]
  refine wpAnyH_take (i := 3) (oi := ?ocaseT1074o) (v := ?ocaseT1074v) ?ocaseT1074h (by kernel_rfl) (by kernel_rfl) (by kernel_rfl) ?ocaseT1074q ?ocaseT1074y hHeld ?ocaseT1074r
  case ocaseT1074h => (simp only [List.getElem?_toArray, List.getElem?_cons_succ, List.getElem?_cons_zero]; rfl)
  case ocaseT1074q => exact fun _ _ _ h => h
  case ocaseT1074y => (refine Or.inl ⟨by first | kernel_rfl | rfl, ?_⟩; intro w hSw; (try dsimp only at hSw); obtain ⟨⟨x0, x1, x2, x3, x4, x5, y0, y1, y2, y3, y4, y5, z0, z1, z2, z3, z4, z5⟩, -⟩ := hSw; go_simp <;> (try with_reducible rfl))
  try simp only [Act.put, List.setIfInBounds_toArray, List.set_cons_zero, List.set_cons_succ]
  refine wpAnyH_take (i := 4) (oi := ?ocaseT1075o) (v := ?ocaseT1075v) ?ocaseT1075h (by kernel_rfl) (by kernel_rfl) (by kernel_rfl) ?ocaseT1075q ?ocaseT1075y hHeld ?ocaseT1075r
  case ocaseT1075h => (simp only [List.getElem?_toArray, List.getElem?_cons_succ, List.getElem?_cons_zero]; rfl)
  case ocaseT1075q => exact fun _ _ _ h => h
  case ocaseT1075y => (refine Or.inl ⟨by first | kernel_rfl | rfl, ?_⟩; intro w hSw; (try dsimp only at hSw); obtain ⟨⟨x0, x1, x2, x3, x4, x5, y0, y1, y2, y3, y4, y5, z0, z1, z2, z3, z4, z5⟩, -⟩ := hSw; go_simp <;> (try with_reducible rfl))
  try simp only [Act.put, List.setIfInBounds_toArray, List.set_cons_zero, List.set_cons_succ]
  refine wpAnyH_take (i := 5) (oi := ?ocaseT1076o) (v := ?ocaseT1076v) ?ocaseT1076h (by kernel_rfl) (by kernel_rfl) (by kernel_rfl) ?ocaseT1076q ?ocaseT1076y hHeld ?ocaseT1076r
  case ocaseT1076h => (simp only [List.getElem?_toArray, List.getElem?_cons_succ, List.getElem?_cons_zero]; rfl)
  case ocaseT1076q => exact fun _ _ _ h => h
  case ocaseT1076y => (refine Or.inl ⟨by first | kernel_rfl | rfl, ?_⟩; intro w hSw; (try dsimp only at hSw); obtain ⟨⟨x0, x1, x2, x3, x4, x5, y0, y1, y2, y3, y4, y5, z0, z1, z2, z3, z4, z5⟩, -⟩ := hSw; go_simp <;> (try with_reducible rfl))
  try simp only [Act.put, List.setIfInBounds_toArray, List.set_cons_zero, List.set_cons_succ]
  refine wpAnyH_ready (rs := [6]) (by kernel_rfl) (by simp) ?_
  refine (AllReadyH.cons rfl (fun K hK => ?_) AllReadyH.nil)
  go_simp
  ((with_reducible refine (jba _).mono ?_); rintro e w' ⟨rfl, hb'⟩)
  refine hK.out _ _ (hHeld.keep hb') (fun hHeld => ?_)
  clear hK K
  try simp only [Act.put, List.setIfInBounds_toArray, List.set_cons_zero, List.set_cons_succ]
  refine wpAnyH_take (i := 7) (oi := ?ocaseT1077o) (v := ?ocaseT1077v) ?ocaseT1077h (by kernel_rfl) (by kernel_rfl) (by kernel_rfl) ?ocaseT1077q ?ocaseT1077y hHeld ?ocaseT1077r
  case ocaseT1077h => (simp only [List.getElem?_toArray, List.getElem?_cons_succ, List.getElem?_cons_zero]; rfl)
  case ocaseT1077q => exact fun _ _ _ h => h
  case ocaseT1077y => (refine Or.inl ⟨by first | kernel_rfl | rfl, ?_⟩; intro w hSw; (try dsimp only at hSw); obtain ⟨⟨x0, x1, x2, x3, x4, x5, y0, y1, y2, y3, y4, y5, z0, z1, z2, z3, z4, z5⟩, -⟩ := hSw; go_simp <;> (try with_reducible rfl))
  try simp only [Act.put, List.setIfInBounds_toArray, List.set_cons_zero, List.set_cons_succ]
  refine wpAnyH_done (by kernel_rfl) ?_ _
  have H7 := hHeld
  have G := hHeld
  obtain ⟨⟨x0, x1, x2, x3, x4, x5, y0, y1, y2, y3, y4, y5, z0, z1, z2, z3, z4, z5⟩, -⟩ := G
  clear hHeld
  go_wp2_with fail
  go_quiet (fail)
  have HQ := H7.drewN (n := nq)
  skip
  go_wp2_with fail
  refine wp_region_held_drew (S := (OHeld w g a b c)) (by kernel_rfl) HQ.drew (fun hHeld => ?_)
  refine wpAnyH_take (i := 0) (oi := ?ocaseT10101o) (v := ?ocaseT10101v) ?ocaseT10101h (by kernel_rfl) (by kernel_rfl) (by kernel_rfl) ?ocaseT10101q ?ocaseT10101y hHeld ?ocaseT10101r
  case ocaseT10101h => (simp only [List.getElem?_toArray, List.getElem?_cons_zero]; rfl)
  case ocaseT10101q => exact fun _ _ _ h => h
  case ocaseT10101y => (refine Or.inl ⟨by first | kernel_rfl | rfl, ?_⟩; intro w hSw; (try dsimp only at hSw); obtain ⟨⟨x0, x1, x2, x3, x4, x5, y0, y1, y2, y3, y4, y5, z0, z1, z2, z3, z4, z5⟩, -⟩ := hSw; go_simp <;> (try with_reducible rfl))
  try simp only [Act.put, List.setIfInBounds_toArray, List.set_cons_zero, List.set_cons_succ]
  refine wpAnyH_take (i := 1) (oi := ?ocaseT10102o) (v := ?ocaseT10102v) ?ocaseT10102h (by kernel_rfl) (by kernel_rfl) (by kernel_rfl) ?ocaseT10102q ?ocaseT10102y hHeld ?ocaseT10102r
  case ocaseT10102h => (simp only [List.getElem?_toArray, List.getElem?_cons_succ, List.getElem?_cons_zero]; rfl)
  case ocaseT10102q => exact fun _ _ _ h => h
  case ocaseT10102y => (refine Or.inl ⟨by first | kernel_rfl | rfl, ?_⟩; intro w hSw; (try dsimp only at hSw); obtain ⟨⟨x0, x1, x2, x3, x4, x5, y0, y1, y2, y3, y4, y5, z0, z1, z2, z3, z4, z5⟩, -⟩ := hSw; go_simp <;> (try with_reducible rfl))
  try simp only [Act.put, List.setIfInBounds_toArray, List.set_cons_zero, List.set_cons_succ]
  refine wpAnyH_take (i := 2) (oi := ?ocaseT10103o) (v := ?ocaseT10103v) ?ocaseT10103h (by kernel_rfl) (by kernel_rfl) (by kernel_rfl) ?ocaseT10103q ?ocaseT10103y hHeld ?ocaseT10103r
  case ocaseT10103h => (simp only [List.getElem?_toArray, List.getElem?_cons_succ, List.getElem?_cons_zero]; rfl)
  case ocaseT10103q => exact fun _ _ _ h => h
  case ocaseT10103y => (refine Or.inl ⟨by first | kernel_rfl | rfl, ?_⟩; intro w hSw; (try dsimp only at hSw); obtain ⟨⟨x0, x1, x2, x3, x4, x5, y0, y1, y2, y3, y4, y5, z0, z1, z2, z3, z4, z5⟩, -⟩ := hSw; go_simp <;> (try with_reducible rfl))
  try simp only [Act.put, List.setIfInBounds_toArray, List.set_cons_zero, List.set_cons_succ]
  refine wpAnyH_take (i := 3) (oi := ?ocaseT10104o) (v := ?ocaseT10104v) ?ocaseT10104h (by kernel_rfl) (by kernel_rfl) (by kernel_rfl) ?ocaseT10104q ?ocaseT10104y hHeld ?ocaseT10104r
  case ocaseT10104h => (simp only [List.getElem?_toArray, List.getElem?_cons_succ, List.getElem?_cons_zero]; rfl)
  case ocaseT10104q => exact fun _ _ _ h => h
  case ocaseT10104y => (refine Or.inl ⟨by first | kernel_rfl | rfl, ?_⟩; intro w hSw; (try dsimp only at hSw); obtain ⟨⟨x0, x1, x2, x3, x4, x5, y0, y1, y2, y3, y4, y5, z0, z1, z2, z3, z4, z5⟩, -⟩ := hSw; go_simp <;> (try with_reducible rfl))
  try simp only [Act.put, List.setIfInBounds_toArray, List.set_cons_zero, List.set_cons_succ]
  refine wpAnyH_take (i := 4) (oi := ?ocaseT10105o) (v := ?ocaseT10105v) ?ocaseT10105h (by kernel_rfl) (by kernel_rfl) (by kernel_rfl) ?ocaseT10105q ?ocaseT10105y hHeld ?ocaseT10105r
  case ocaseT10105h => (simp only [List.getElem?_toArray, List.getElem?_cons_succ, List.getElem?_cons_zero]; rfl)
  case ocaseT10105q => exact fun _ _ _ h => h
  case ocaseT10105y => (refine Or.inl ⟨by first | kernel_rfl | rfl, ?_⟩; intro w hSw; (try dsimp only at hSw); obtain ⟨⟨x0, x1, x2, x3, x4, x5, y0, y1, y2, y3, y4, y5, z0, z1, z2, z3, z4, z5⟩, -⟩ := hSw; go_simp <;> (try with_reducible rfl))
  try simp only [Act.put, List.setIfInBounds_toArray, List.set_cons_zero, List.set_cons_succ]
  refine wpAnyH_take (i := 5) (oi := ?ocaseT10106o) (v := ?ocaseT10106v) ?ocaseT10106h (by kernel_rfl) (by kernel_rfl) (by kernel_rfl) ?ocaseT10106q ?ocaseT10106y hHeld ?ocaseT10106r
  case ocaseT10106h => (simp only [List.getElem?_toArray, List.getElem?_cons_succ, List.getElem?_cons_zero]; rfl)
  case ocaseT10106q => exact fun _ _ _ h => h
  case ocaseT10106y => (refine Or.inl ⟨by first | kernel_rfl | rfl, ?_⟩; intro w hSw; (try dsimp only at hSw); obtain ⟨⟨x0, x1, x2, x3, x4, x5, y0, y1, y2, y3, y4, y5, z0, z1, z2, z3, z4, z5⟩, -⟩ := hSw; go_simp <;> (try with_reducible rfl))
  try simp only [Act.put, List.setIfInBounds_toArray, List.set_cons_zero, List.set_cons_succ]
  refine wpAnyH_take (i := 6) (oi := ?ocaseT10107o) (v := ?ocaseT10107v) ?ocaseT10107h (by kernel_rfl) (by kernel_rfl) (by kernel_rfl) ?ocaseT10107q ?ocaseT10107y hHeld ?ocaseT10107r
  case ocaseT10107h => (simp only [List.getElem?_toArray, List.getElem?_cons_succ, List.getElem?_cons_zero]; rfl)
  case ocaseT10107q => exact fun _ _ _ h => h
  case ocaseT10107y => (refine Or.inl ⟨by first | kernel_rfl | rfl, ?_⟩; intro w hSw; (try dsimp only at hSw); obtain ⟨⟨x0, x1, x2, x3, x4, x5, y0, y1, y2, y3, y4, y5, z0, z1, z2, z3, z4, z5⟩, -⟩ := hSw; go_simp <;> (try with_reducible rfl))
  try simp only [Act.put, List.setIfInBounds_toArray, List.set_cons_zero, List.set_cons_succ]
  refine wpAnyH_take (i := 7) (oi := ?ocaseT10108o) (v := ?ocaseT10108v) ?ocaseT10108h (by kernel_rfl) (by kernel_rfl) (by kernel_rfl) ?ocaseT10108q ?ocaseT10108y hHeld ?ocaseT10108r
  case ocaseT10108h => (simp only [List.getElem?_toArray, List.getElem?_cons_succ, List.getElem?_cons_zero]; rfl)
  case ocaseT10108q => exact fun _ _ _ h => h
  case ocaseT10108y => (refine Or.inl ⟨by first | kernel_rfl | rfl, ?_⟩; intro w hSw; (try dsimp only at hSw); obtain ⟨⟨x0, x1, x2, x3, x4, x5, y0, y1, y2, y3, y4, y5, z0, z1, z2, z3, z4, z5⟩, -⟩ := hSw; go_simp <;> (try with_reducible rfl))
  try simp only [Act.put, List.setIfInBounds_toArray, List.set_cons_zero, List.set_cons_succ]
  refine wpAnyH_take (i := 8) (oi := ?ocaseT10109o) (v := ?ocaseT10109v) ?ocaseT10109h (by kernel_rfl) (by kernel_rfl) (by kernel_rfl) ?ocaseT10109q ?ocaseT10109y hHeld ?ocaseT10109r
  case ocaseT10109h => (simp only [List.getElem?_toArray, List.getElem?_cons_succ, List.getElem?_cons_zero]; rfl)
  case ocaseT10109q => exact fun _ _ _ h => h
  case ocaseT10109y => (refine Or.inl ⟨by first | kernel_rfl | rfl, ?_⟩; intro w hSw; (try dsimp only at hSw); obtain ⟨⟨x0, x1, x2, x3, x4, x5, y0, y1, y2, y3, y4, y5, z0, z1, z2, z3, z4, z5⟩, -⟩ := hSw; go_simp <;> (try with_reducible rfl))
  try simp only [Act.put, List.setIfInBounds_toArray, List.set_cons_zero, List.set_cons_succ]
  refine wpAnyH_ready (rs := [9]) (by kernel_rfl) (by simp) ?_
  refine (AllReadyH.cons rfl (fun K hK => ?_) AllReadyH.nil)
  go_simp
  ((with_reducible refine (kbc _).mono ?_); rintro e w' ⟨rfl, hb'⟩)
  refine hK.out _ _ (hHeld.keep hb') (fun hHeld => ?_)
  clear hK K
  try simp only [Act.put, List.setIfInBounds_toArray, List.set_cons_zero, List.set_cons_succ]
  refine wpAnyH_take (i := 10) (oi := ?ocaseT101010o) (v := ?ocaseT101010v) ?ocaseT101010h (by kernel_rfl) (by kernel_rfl) (by kernel_rfl) ?ocaseT101010q ?ocaseT101010y hHeld ?ocaseT101010r
  case ocaseT101010h => (simp only [List.getElem?_toArray, List.getElem?_cons_succ, List.getElem?_cons_zero]; rfl)
  case ocaseT101010q => exact fun _ _ _ h => h
  case ocaseT101010y => (refine Or.inl ⟨by first | kernel_rfl | rfl, ?_⟩; intro w hSw; (try dsimp only at hSw); obtain ⟨⟨x0, x1, x2, x3, x4, x5, y0, y1, y2, y3, y4, y5, z0, z1, z2, z3, z4, z5⟩, -⟩ := hSw; go_simp <;> (try with_reducible rfl))
  try simp only [Act.put, List.setIfInBounds_toArray, List.set_cons_zero, List.set_cons_succ]
  refine wpAnyH_take (i := 11) (oi := ?ocaseT101011o) (v := ?ocaseT101011v) ?ocaseT101011h (by kernel_rfl) (by kernel_rfl) (by kernel_rfl) ?ocaseT101011q ?ocaseT101011y hHeld ?ocaseT101011r
  case ocaseT101011h => (simp only [List.getElem?_toArray, List.getElem?_cons_succ, List.getElem?_cons_zero]; rfl)
  case ocaseT101011q => exact fun _ _ _ h => h
  case ocaseT101011y => (refine Or.inl ⟨by first | kernel_rfl | rfl, ?_⟩; intro w hSw; (try dsimp only at hSw); obtain ⟨⟨x0, x1, x2, x3, x4, x5, y0, y1, y2, y3, y4, y5, z0, z1, z2, z3, z4, z5⟩, -⟩ := hSw; go_simp <;> (try with_reducible rfl))
  try simp only [Act.put, List.setIfInBounds_toArray, List.set_cons_zero, List.set_cons_succ]
  refine wpAnyH_take (i := 12) (oi := ?ocaseT101012o) (v := ?ocaseT101012v) ?ocaseT101012h (by kernel_rfl) (by kernel_rfl) (by kernel_rfl) ?ocaseT101012q ?ocaseT101012y hHeld ?ocaseT101012r
  case ocaseT101012h => (simp only [List.getElem?_toArray, List.getElem?_cons_succ, List.getElem?_cons_zero]; rfl)
  case ocaseT101012q => exact fun _ _ _ h => h
  case ocaseT101012y => (refine Or.inl ⟨by first | kernel_rfl | rfl, ?_⟩; intro w hSw; (try dsimp only at hSw); obtain ⟨⟨x0, x1, x2, x3, x4, x5, y0, y1, y2, y3, y4, y5, z0, z1, z2, z3, z4, z5⟩, -⟩ := hSw; go_simp <;> (try with_reducible rfl))
  try simp only [Act.put, List.setIfInBounds_toArray, List.set_cons_zero, List.set_cons_succ]
  refine wpAnyH_take (i := 13) (oi := ?ocaseT101013o) (v := undef) ?ocaseT101013h (by kernel_rfl) (by kernel_rfl) (by kernel_rfl) ?ocaseT101013q ?ocaseT101013y hHeld ?ocaseT101013r
  case ocaseT101013h => (simp only [List.getElem?_toArray, List.getElem?_cons_succ, List.getElem?_cons_zero]; rfl)
  case ocaseT101013q => exact fun _ _ _ h => h
  case ocaseT101013y => exact Or.inr ⟨by first | kernel_rfl | rfl, rfl⟩
  try simp only [Act.put, List.setIfInBounds_toArray, List.set_cons_zero, List.set_cons_succ]
  refine wpAnyH_take (i := 14) (oi := ?ocaseT101014o) (v := undef) ?ocaseT101014h (by kernel_rfl) (by kernel_rfl) (by kernel_rfl) ?ocaseT101014q ?ocaseT101014y hHeld ?ocaseT101014r
  case ocaseT101014h => (simp only [List.getElem?_toArray, List.getElem?_cons_succ, List.getElem?_cons_zero]; rfl)
  case ocaseT101014q => exact fun _ _ _ h => h
  case ocaseT101014y => exact Or.inr ⟨by first | kernel_rfl | rfl, rfl⟩
  try simp only [Act.put, List.setIfInBounds_toArray, List.set_cons_zero, List.set_cons_succ]
  refine wpAnyH_take (i := 15) (oi := ?ocaseT101015o) (v := undef) ?ocaseT101015h (by kernel_rfl) (by kernel_rfl) (by kernel_rfl) ?ocaseT101015q ?ocaseT101015y hHeld ?ocaseT101015r
  case ocaseT101015h => (simp only [List.getElem?_toArray, List.getElem?_cons_succ, List.getElem?_cons_zero]; rfl)
  case ocaseT101015q => exact fun _ _ _ h => h
  case ocaseT101015y => exact Or.inr ⟨by first | kernel_rfl | rfl, rfl⟩
  try simp only [Act.put, List.setIfInBounds_toArray, List.set_cons_zero, List.set_cons_succ]
  refine wpAnyH_take (i := 16) (oi := ?ocaseT101016o) (v := undef) ?ocaseT101016h (by kernel_rfl) (by kernel_rfl) (by kernel_rfl) ?ocaseT101016q ?ocaseT101016y hHeld ?ocaseT101016r
  case ocaseT101016h => (simp only [List.getElem?_toArray, List.getElem?_cons_succ, List.getElem?_cons_zero]; rfl)
  case ocaseT101016q => exact fun _ _ _ h => h
  case ocaseT101016y => exact Or.inr ⟨by first | kernel_rfl | rfl, rfl⟩
  try simp only [Act.put, List.setIfInBounds_toArray, List.set_cons_zero, List.set_cons_succ]
  refine wpAnyH_take (i := 17) (oi := ?ocaseT101017o) (v := undef) ?ocaseT101017h (by kernel_rfl) (by kernel_rfl) (by kernel_rfl) ?ocaseT101017q ?ocaseT101017y hHeld ?ocaseT101017r
  case ocaseT101017h => (simp only [List.getElem?_toArray, List.getElem?_cons_succ, List.getElem?_cons_zero]; rfl)
  case ocaseT101017q => exact fun _ _ _ h => h
  case ocaseT101017y => exact Or.inr ⟨by first | kernel_rfl | rfl, rfl⟩
  try simp only [Act.put, List.setIfInBounds_toArray, List.set_cons_zero, List.set_cons_succ]
  refine wpAnyH_take (i := 18) (oi := ?ocaseT101018o) (v := undef) ?ocaseT101018h (by kernel_rfl) (by kernel_rfl) (by kernel_rfl) ?ocaseT101018q ?ocaseT101018y hHeld ?ocaseT101018r
  case ocaseT101018h => (simp only [List.getElem?_toArray, List.getElem?_cons_succ, List.getElem?_cons_zero]; rfl)
  case ocaseT101018q => exact fun _ _ _ h => h
  case ocaseT101018y => exact Or.inr ⟨by first | kernel_rfl | rfl, rfl⟩
  try simp only [Act.put, List.setIfInBounds_toArray, List.set_cons_zero, List.set_cons_succ]
  refine wpAnyH_take (i := 19) (oi := ?ocaseT101019o) (v := undef) ?ocaseT101019h (by kernel_rfl) (by kernel_rfl) (by kernel_rfl) ?ocaseT101019q ?ocaseT101019y hHeld ?ocaseT101019r
  case ocaseT101019h => (simp only [List.getElem?_toArray, List.getElem?_cons_succ, List.getElem?_cons_zero]; rfl)
  case ocaseT101019q => exact fun _ _ _ h => h
  case ocaseT101019y => exact Or.inr ⟨by first | kernel_rfl | rfl, rfl⟩
  try simp only [Act.put, List.setIfInBounds_toArray, List.set_cons_zero, List.set_cons_succ]
  refine wpAnyH_take (i := 20) (oi := ?ocaseT101020o) (v := ?ocaseT101020v) ?ocaseT101020h (by kernel_rfl) (by kernel_rfl) (by kernel_rfl) ?ocaseT101020q ?ocaseT101020y hHeld ?ocaseT101020r
  case ocaseT101020h => (simp only [List.getElem?_toArray, List.getElem?_cons_succ, List.getElem?_cons_zero]; rfl)
  case ocaseT101020q => exact fun _ _ _ h => h
  case ocaseT101020y => (refine Or.inl ⟨by first | kernel_rfl | rfl, ?_⟩; intro w hSw; (try dsimp only at hSw); obtain ⟨⟨x0, x1, x2, x3, x4, x5, y0, y1, y2, y3, y4, y5, z0, z1, z2, z3, z4, z5⟩, -⟩ := hSw; go_simp <;> (try with_reducible rfl))
  try simp only [Act.put, List.setIfInBounds_toArray, List.set_cons_zero, List.set_cons_succ]
  refine wpAnyH_take (i := 21) (oi := ?ocaseT101021o) (v := ?ocaseT101021v) ?ocaseT101021h (by kernel_rfl) (by kernel_rfl) (by kernel_rfl) ?ocaseT101021q ?ocaseT101021y hHeld ?ocaseT101021r
  case ocaseT101021h => (simp only [List.getElem?_toArray, List.getElem?_cons_succ, List.getElem?_cons_zero]; rfl)
  case ocaseT101021q => exact fun _ _ _ h => h
  case ocaseT101021y => (refine Or.inl ⟨by first | kernel_rfl | rfl, ?_⟩; intro w hSw; (try dsimp only at hSw); obtain ⟨⟨x0, x1, x2, x3, x4, x5, y0, y1, y2, y3, y4, y5, z0, z1, z2, z3, z4, z5⟩, -⟩ := hSw; go_simp <;> (try with_reducible rfl))
  try simp only [Act.put, List.setIfInBounds_toArray, List.set_cons_zero, List.set_cons_succ]
  refine wpAnyH_done (by kernel_rfl) ?_ _
  go_wp2_with fail
  refine wp_region_held_drew (S := (OHeld w g a b c)) (by kernel_rfl) hHeld.drew (fun hHeld => ?_)
  refine wpAnyH_take (i := 0) (oi := ?ocaseT10111o) (v := ?ocaseT10111v) ?ocaseT10111h (by kernel_rfl) (by kernel_rfl) (by kernel_rfl) ?ocaseT10111q ?ocaseT10111y hHeld ?ocaseT10111r
  case ocaseT10111h => (simp only [List.getElem?_toArray, List.getElem?_cons_zero]; rfl)
  case ocaseT10111q => exact fun _ _ _ h => h
  case ocaseT10111y => (refine Or.inl ⟨by first | kernel_rfl | rfl, ?_⟩; intro w hSw; (try dsimp only at hSw); obtain ⟨⟨x0, x1, x2, x3, x4, x5, y0, y1, y2, y3, y4, y5, z0, z1, z2, z3, z4, z5⟩, -⟩ := hSw; go_simp <;> (try with_reducible rfl))
  try simp only [Act.put, List.setIfInBounds_toArray, List.set_cons_zero, List.set_cons_succ]
  refine wpAnyH_take (i := 1) (oi := ?ocaseT10112o) (v := ?ocaseT10112v) ?ocaseT10112h (by kernel_rfl) (by kernel_rfl) (by kernel_rfl) ?ocaseT10112q ?ocaseT10112y hHeld ?ocaseT10112r
  case ocaseT10112h => (simp only [List.getElem?_toArray, List.getElem?_cons_succ, List.getElem?_cons_zero]; rfl)
  case ocaseT10112q => exact fun _ _ _ h => h
  case ocaseT10112y => (refine Or.inl ⟨by first | kernel_rfl | rfl, ?_⟩; intro w hSw; (try dsimp only at hSw); obtain ⟨⟨x0, x1, x2, x3, x4, x5, y0, y1, y2, y3, y4, y5, z0, z1, z2, z3, z4, z5⟩, -⟩ := hSw; go_simp <;> (try with_reducible rfl))
  try simp only [Act.put, List.setIfInBounds_toArray, List.set_cons_zero, List.set_cons_succ]
  refine wpAnyH_take (i := 2) (oi := ?ocaseT10113o) (v := ?ocaseT10113v) ?ocaseT10113h (by kernel_rfl) (by kernel_rfl) (by kernel_rfl) ?ocaseT10113q ?ocaseT10113y hHeld ?ocaseT10113r
  case ocaseT10113h => (simp only [List.getElem?_toArray, List.getElem?_cons_succ, List.getElem?_cons_zero]; rfl)
  case ocaseT10113q => exact fun _ _ _ h => h
  case ocaseT10113y => (refine Or.inl ⟨by first | kernel_rfl | rfl, ?_⟩; intro w hSw; (try dsimp only at hSw); obtain ⟨⟨x0, x1, x2, x3, x4, x5, y0, y1, y2, y3, y4, y5, z0, z1, z2, z3, z4, z5⟩, -⟩ := hSw; go_simp <;> (try with_reducible rfl))
  try simp only [Act.put, List.setIfInBounds_toArray, List.set_cons_zero, List.set_cons_succ]
  refine wpAnyH_take (i := 3) (oi := ?ocaseT10114o) (v := undef) ?ocaseT10114h (by kernel_rfl) (by kernel_rfl) (by kernel_rfl) ?ocaseT10114q ?ocaseT10114y hHeld ?ocaseT10114r
  case ocaseT10114h => (simp only [List.getElem?_toArray, List.getElem?_cons_succ, List.getElem?_cons_zero]; rfl)
  case ocaseT10114q => exact fun _ _ _ h => h
  case ocaseT10114y => exact Or.inr ⟨by first | kernel_rfl | rfl, rfl⟩
  try simp only [Act.put, List.setIfInBounds_toArray, List.set_cons_zero, List.set_cons_succ]
  refine wpAnyH_take (i := 4) (oi := ?ocaseT10115o) (v := undef) ?ocaseT10115h (by kernel_rfl) (by kernel_rfl) (by kernel_rfl) ?ocaseT10115q ?ocaseT10115y hHeld ?ocaseT10115r
  case ocaseT10115h => (simp only [List.getElem?_toArray, List.getElem?_cons_succ, List.getElem?_cons_zero]; rfl)
  case ocaseT10115q => exact fun _ _ _ h => h
  case ocaseT10115y => exact Or.inr ⟨by first | kernel_rfl | rfl, rfl⟩
  try simp only [Act.put, List.setIfInBounds_toArray, List.set_cons_zero, List.set_cons_succ]
  refine wpAnyH_take (i := 5) (oi := ?ocaseT10116o) (v := undef) ?ocaseT10116h (by kernel_rfl) (by kernel_rfl) (by kernel_rfl) ?ocaseT10116q ?ocaseT10116y hHeld ?ocaseT10116r
  case ocaseT10116h => (simp only [List.getElem?_toArray, List.getElem?_cons_succ, List.getElem?_cons_zero]; rfl)
  case ocaseT10116q => exact fun _ _ _ h => h
  case ocaseT10116y => exact Or.inr ⟨by first | kernel_rfl | rfl, rfl⟩
  try simp only [Act.put, List.setIfInBounds_toArray, List.set_cons_zero, List.set_cons_succ]
  refine wpAnyH_take (i := 6) (oi := ?ocaseT10117o) (v := undef) ?ocaseT10117h (by kernel_rfl) (by kernel_rfl) (by kernel_rfl) ?ocaseT10117q ?ocaseT10117y hHeld ?ocaseT10117r
  case ocaseT10117h => (simp only [List.getElem?_toArray, List.getElem?_cons_succ, List.getElem?_cons_zero]; rfl)
  case ocaseT10117q => exact fun _ _ _ h => h
  case ocaseT10117y => exact Or.inr ⟨by first | kernel_rfl | rfl, rfl⟩
  try simp only [Act.put, List.setIfInBounds_toArray, List.set_cons_zero, List.set_cons_succ]
  refine wpAnyH_take (i := 7) (oi := ?ocaseT10118o) (v := undef) ?ocaseT10118h (by kernel_rfl) (by kernel_rfl) (by kernel_rfl) ?ocaseT10118q ?ocaseT10118y hHeld ?ocaseT10118r
  case ocaseT10118h => (simp only [List.getElem?_toArray, List.getElem?_cons_succ, List.getElem?_cons_zero]; rfl)
  case ocaseT10118q => exact fun _ _ _ h => h
  case ocaseT10118y => exact Or.inr ⟨by first | kernel_rfl | rfl, rfl⟩
  try simp only [Act.put, List.setIfInBounds_toArray, List.set_cons_zero, List.set_cons_succ]
  refine wpAnyH_take (i := 8) (oi := ?ocaseT10119o) (v := undef) ?ocaseT10119h (by kernel_rfl) (by kernel_rfl) (by kernel_rfl) ?ocaseT10119q ?ocaseT10119y hHeld ?ocaseT10119r
  case ocaseT10119h => (simp only [List.getElem?_toArray, List.getElem?_cons_succ, List.getElem?_cons_zero]; rfl)
  case ocaseT10119q => exact fun _ _ _ h => h
  case ocaseT10119y => exact Or.inr ⟨by first | kernel_rfl | rfl, rfl⟩
  try simp only [Act.put, List.setIfInBounds_toArray, List.set_cons_zero, List.set_cons_succ]
  refine wpAnyH_take (i := 9) (oi := ?ocaseT101110o) (v := undef) ?ocaseT101110h (by kernel_rfl) (by kernel_rfl) (by kernel_rfl) ?ocaseT101110q ?ocaseT101110y hHeld ?ocaseT101110r
  case ocaseT101110h => (simp only [List.getElem?_toArray, List.getElem?_cons_succ, List.getElem?_cons_zero]; rfl)
  case ocaseT101110q => exact fun _ _ _ h => h
  case ocaseT101110y => exact Or.inr ⟨by first | kernel_rfl | rfl, rfl⟩
  try simp only [Act.put, List.setIfInBounds_toArray, List.set_cons_zero, List.set_cons_succ]
  refine wpAnyH_take (i := 10) (oi := ?ocaseT101111o) (v := undef) ?ocaseT101111h (by kernel_rfl) (by kernel_rfl) (by kernel_rfl) ?ocaseT101111q ?ocaseT101111y hHeld ?ocaseT101111r
  case ocaseT101111h => (simp only [List.getElem?_toArray, List.getElem?_cons_succ, List.getElem?_cons_zero]; rfl)
  case ocaseT101111q => exact fun _ _ _ h => h
  case ocaseT101111y => exact Or.inr ⟨by first | kernel_rfl | rfl, rfl⟩
  try simp only [Act.put, List.setIfInBounds_toArray, List.set_cons_zero, List.set_cons_succ]
  refine wpAnyH_take (i := 11) (oi := ?ocaseT101112o) (v := ?ocaseT101112v) ?ocaseT101112h (by kernel_rfl) (by kernel_rfl) (by kernel_rfl) ?ocaseT101112q ?ocaseT101112y hHeld ?ocaseT101112r
  case ocaseT101112h => (simp only [List.getElem?_toArray, List.getElem?_cons_succ, List.getElem?_cons_zero]; rfl)
  case ocaseT101112q => exact fun _ _ _ h => h
  case ocaseT101112y => (refine Or.inl ⟨by first | kernel_rfl | rfl, ?_⟩; intro w hSw; (try dsimp only at hSw); obtain ⟨⟨x0, x1, x2, x3, x4, x5, y0, y1, y2, y3, y4, y5, z0, z1, z2, z3, z4, z5⟩, -⟩ := hSw; go_simp <;> (try with_reducible rfl))
  try simp only [Act.put, List.setIfInBounds_toArray, List.set_cons_zero, List.set_cons_succ]
  refine wpAnyH_take (i := 12) (oi := ?ocaseT101113o) (v := ?ocaseT101113v) ?ocaseT101113h (by kernel_rfl) (by kernel_rfl) (by kernel_rfl) ?ocaseT101113q ?ocaseT101113y hHeld ?ocaseT101113r
  case ocaseT101113h => (simp only [List.getElem?_toArray, List.getElem?_cons_succ, List.getElem?_cons_zero]; rfl)
  case ocaseT101113q => exact fun _ _ _ h => h
  case ocaseT101113y => (refine Or.inl ⟨by first | kernel_rfl | rfl, ?_⟩; intro w hSw; (try dsimp only at hSw); obtain ⟨⟨x0, x1, x2, x3, x4, x5, y0, y1, y2, y3, y4, y5, z0, z1, z2, z3, z4, z5⟩, -⟩ := hSw; go_simp <;> (try with_reducible rfl))
  try simp only [Act.put, List.setIfInBounds_toArray, List.set_cons_zero, List.set_cons_succ]
  refine wpAnyH_take (i := 13) (oi := ?ocaseT101114o) (v := undef) ?ocaseT101114h (by kernel_rfl) (by kernel_rfl) (by kernel_rfl) ?ocaseT101114q ?ocaseT101114y hHeld ?ocaseT101114r
  case ocaseT101114h => (simp only [List.getElem?_toArray, List.getElem?_cons_succ, List.getElem?_cons_zero]; rfl)
  case ocaseT101114q => exact fun _ _ _ h => h
  case ocaseT101114y => exact Or.inr ⟨by first | kernel_rfl | rfl, rfl⟩
  try simp only [Act.put, List.setIfInBounds_toArray, List.set_cons_zero, List.set_cons_succ]
  refine wpAnyH_take (i := 14) (oi := ?ocaseT101115o) (v := undef) ?ocaseT101115h (by kernel_rfl) (by kernel_rfl) (by kernel_rfl) ?ocaseT101115q ?ocaseT101115y hHeld ?ocaseT101115r
  case ocaseT101115h => (simp only [List.getElem?_toArray, List.getElem?_cons_succ, List.getElem?_cons_zero]; rfl)
  case ocaseT101115q => exact fun _ _ _ h => h
  case ocaseT101115y => exact Or.inr ⟨by first | kernel_rfl | rfl, rfl⟩
  try simp only [Act.put, List.setIfInBounds_toArray, List.set_cons_zero, List.set_cons_succ]
  refine wpAnyH_take (i := 15) (oi := ?ocaseT101116o) (v := undef) ?ocaseT101116h (by kernel_rfl) (by kernel_rfl) (by kernel_rfl) ?ocaseT101116q ?ocaseT101116y hHeld ?ocaseT101116r
  case ocaseT101116h => (simp only [List.getElem?_toArray, List.getElem?_cons_succ, List.getElem?_cons_zero]; rfl)
  case ocaseT101116q => exact fun _ _ _ h => h
  case ocaseT101116y => exact Or.inr ⟨by first | kernel_rfl | rfl, rfl⟩
  try simp only [Act.put, List.setIfInBounds_toArray, List.set_cons_zero, List.set_cons_succ]
  refine wpAnyH_take (i := 16) (oi := ?ocaseT101117o) (v := undef) ?ocaseT101117h (by kernel_rfl) (by kernel_rfl) (by kernel_rfl) ?ocaseT101117q ?ocaseT101117y hHeld ?ocaseT101117r
  case ocaseT101117h => (simp only [List.getElem?_toArray, List.getElem?_cons_succ, List.getElem?_cons_zero]; rfl)
  case ocaseT101117q => exact fun _ _ _ h => h
  case ocaseT101117y => exact Or.inr ⟨by first | kernel_rfl | rfl, rfl⟩
  try simp only [Act.put, List.setIfInBounds_toArray, List.set_cons_zero, List.set_cons_succ]
  refine wpAnyH_take (i := 17) (oi := ?ocaseT101118o) (v := undef) ?ocaseT101118h (by kernel_rfl) (by kernel_rfl) (by kernel_rfl) ?ocaseT101118q ?ocaseT101118y hHeld ?ocaseT101118r
  case ocaseT101118h => (simp only [List.getElem?_toArray, List.getElem?_cons_succ, List.getElem?_cons_zero]; rfl)
  case ocaseT101118q => exact fun _ _ _ h => h
  case ocaseT101118y => exact Or.inr ⟨by first | kernel_rfl | rfl, rfl⟩
  try simp only [Act.put, List.setIfInBounds_toArray, List.set_cons_zero, List.set_cons_succ]
  refine wpAnyH_take (i := 18) (oi := ?ocaseT101119o) (v := undef) ?ocaseT101119h (by kernel_rfl) (by kernel_rfl) (by kernel_rfl) ?ocaseT101119q ?ocaseT101119y hHeld ?ocaseT101119r
  case ocaseT101119h => (simp only [List.getElem?_toArray, List.getElem?_cons_succ, List.getElem?_cons_zero]; rfl)
  case ocaseT101119q => exact fun _ _ _ h => h
  case ocaseT101119y => exact Or.inr ⟨by first | kernel_rfl | rfl, rfl⟩
  try simp only [Act.put, List.setIfInBounds_toArray, List.set_cons_zero, List.set_cons_succ]
  refine wpAnyH_take (i := 19) (oi := ?ocaseT101120o) (v := undef) ?ocaseT101120h (by kernel_rfl) (by kernel_rfl) (by kernel_rfl) ?ocaseT101120q ?ocaseT101120y hHeld ?ocaseT101120r
  case ocaseT101120h => (simp only [List.getElem?_toArray, List.getElem?_cons_succ, List.getElem?_cons_zero]; rfl)
  case ocaseT101120q => exact fun _ _ _ h => h
  case ocaseT101120y => exact Or.inr ⟨by first | kernel_rfl | rfl, rfl⟩
  try simp only [Act.put, List.setIfInBounds_toArray, List.set_cons_zero, List.set_cons_succ]
  refine wpAnyH_take (i := 20) (oi := ?ocaseT101121o) (v := ?ocaseT101121v) ?ocaseT101121h (by kernel_rfl) (by kernel_rfl) (by kernel_rfl) ?ocaseT101121q ?ocaseT101121y hHeld ?ocaseT101121r
  case ocaseT101121h => (simp only [List.getElem?_toArray, List.getElem?_cons_succ, List.getElem?_cons_zero]; rfl)
  case ocaseT101121q => exact fun _ _ _ h => h
  case ocaseT101121y => (refine Or.inl ⟨by first | kernel_rfl | rfl, ?_⟩; intro w hSw; (try dsimp only at hSw); obtain ⟨⟨x0, x1, x2, x3, x4, x5, y0, y1, y2, y3, y4, y5, z0, z1, z2, z3, z4, z5⟩, -⟩ := hSw; go_simp <;> (try with_reducible rfl))
  try simp only [Act.put, List.setIfInBounds_toArray, List.set_cons_zero, List.set_cons_succ]
  refine wpAnyH_take (i := 21) (oi := ?ocaseT101122o) (v := ?ocaseT101122v) ?ocaseT101122h (by kernel_rfl) (by kernel_rfl) (by kernel_rfl) ?ocaseT101122q ?ocaseT101122y hHeld ?ocaseT101122r
  case ocaseT101122h => (simp only [List.getElem?_toArray, List.getElem?_cons_succ, List.getElem?_cons_zero]; rfl)
  case ocaseT101122q => exact fun _ _ _ h => h
  case ocaseT101122y => (refine Or.inl ⟨by first | kernel_rfl | rfl, ?_⟩; intro w hSw; (try dsimp only at hSw); obtain ⟨⟨x0, x1, x2, x3, x4, x5, y0, y1, y2, y3, y4, y5, z0, z1, z2, z3, z4, z5⟩, -⟩ := hSw; go_simp <;> (try with_reducible rfl))
  try simp only [Act.put, List.setIfInBounds_toArray, List.set_cons_zero, List.set_cons_succ]
  refine wpAnyH_done (by kernel_rfl) ?_ _
  have hbel := hHeld.bel
  go_wp2
  go_ret
  exact ⟨rfl, hbel⟩

set_option maxHeartbeats 8000000 in
theorem caseF0 (a b c : Pt) (h1 : ¬ a.s = b.s) (h : a.before b = false) (k : b.before a = true) : Rest a b c := by
  intro a0 b0 c0 w hfew
  have hp : ¬ (a.s = b.s ∧ a.t = b.t) := fun e => h1 e.1
  have hs := seq_ne h1
  have kab := fun w => before_is a b false w (Lib.hid h)
  have kba := fun w => before_is b a true w (Lib.hid k)
  have jab := fun w => newer_is a b false w (Lib.hid (newer_no hp))
  have jba := fun w => newer_is b a false w (Lib.hid (newer_no fun e => hp ⟨e.1.symm, e.2.symm⟩))
  unfold ptV at kab kba jab jba
  clear h k hp h1
  have H0a := (PHeld.new w a0).keep (bel_new ((Below.refl _ _).alloc (Nat.le_refl _) (.cells #[.string b0.s, .int .i64 b0.t, .int .i64 b0.v, .int .i64 b0.st.c, .int .i64 b0.st.s, .int .i64 b0.st.q] 34)) (.cells #[.string c0.s, .int .i64 c0.t, .int .i64 c0.v, .int .i64 c0.st.c, .int .i64 c0.st.s, .int .i64 c0.st.q] 34))
  have H0b := (PHeld.new (w.alloc (.cells #[.string a0.s, .int .i64 a0.t, .int .i64 a0.v, .int .i64 a0.st.c, .int .i64 a0.st.s, .int .i64 a0.st.q] 34)) b0).keep ((Below.refl _ _).alloc (Nat.le_refl _) (.cells #[.string c0.s, .int .i64 c0.t, .int .i64 c0.v, .int .i64 c0.st.c, .int .i64 c0.st.s, .int .i64 c0.st.q] 34))
  have H0c := PHeld.new ((w.alloc (.cells #[.string a0.s, .int .i64 a0.t, .int .i64 a0.v, .int .i64 a0.st.c, .int .i64 a0.st.s, .int .i64 a0.st.q] 34)).alloc (.cells #[.string b0.s, .int .i64 b0.t, .int .i64 b0.v, .int .i64 b0.st.c, .int .i64 b0.st.s, .int .i64 b0.st.q] 34)) c0
  simp only [World.size_alloc] at H0b H0c
  have HF := Lib.hid hfew
  unfold ptV
  clear hfew
  go_enter Try.func7, Try.ntmps7
  go_wp2_with (first
    | (go_at_call 9; (with_reducible refine (awake_any _).mono ?_); rintro e w1 ⟨rfl, hb⟩; have Ha := H0a.keep hb; have Hb := H0b.keep hb; have Hc := H0c.keep hb; obtain ⟨⟨x0, x1, x2, x3, x4, x5⟩, -⟩ := Ha; obtain ⟨⟨y0, y1, y2, y3, y4, y5⟩, -⟩ := Hb; obtain ⟨⟨z0, z1, z2, z3, z4, z5⟩, -⟩ := Hc; have HB := H0a.bel.trans (hb.mono (by simp; omega)))
    | (go_at_call 26; (with_reducible refine (few3 a0 b0 c0 _).mono ?_); rintro e w2 ⟨v, rfl, hR, hb2⟩; rw [HF.out] at hR; obtain ⟨g, cap, rfl, hT⟩ := tri_of hR; have HH : OHeld w g a b c w2 := ⟨hT, bel_next (bel_new HB _) hb2⟩))
  clear H0a H0b H0c HB hb2 hb hT hR HF x0 x1 x2 x3 x4 x5 y0 y1 y2 y3 y4 y5 z0 z1 z2 z3 z4 z5
  go_wp2_with fail
  refine wp_region_held_drew (S := (OHeld w g a b c)) (by kernel_rfl) HH.drew (fun hHeld => ?_)
  refine wpAnyH_take (i := 0) (oi := ?ocaseF031o) (v := ?ocaseF031v) ?ocaseF031h (by kernel_rfl) (by kernel_rfl) (by kernel_rfl) ?ocaseF031q ?ocaseF031y hHeld ?ocaseF031r
  case ocaseF031h => (simp only [List.getElem?_toArray, List.getElem?_cons_zero]; rfl)
  case ocaseF031q => exact fun _ _ _ h => h
  case ocaseF031y => (refine Or.inl ⟨by first | kernel_rfl | rfl, ?_⟩; intro w hSw; (try dsimp only at hSw); obtain ⟨⟨x0, x1, x2, x3, x4, x5, y0, y1, y2, y3, y4, y5, z0, z1, z2, z3, z4, z5⟩, -⟩ := hSw; go_simp <;> (try with_reducible rfl))
  try simp only [Act.put, List.setIfInBounds_toArray, List.set_cons_zero, List.set_cons_succ]
  refine wpAnyH_take (i := 1) (oi := ?ocaseF032o) (v := ?ocaseF032v) ?ocaseF032h (by kernel_rfl) (by kernel_rfl) (by kernel_rfl) ?ocaseF032q ?ocaseF032y hHeld ?ocaseF032r
  case ocaseF032h => (simp only [List.getElem?_toArray, List.getElem?_cons_succ, List.getElem?_cons_zero]; rfl)
  case ocaseF032q => exact fun _ _ _ h => h
  case ocaseF032y => (refine Or.inl ⟨by first | kernel_rfl | rfl, ?_⟩; intro w hSw; (try dsimp only at hSw); obtain ⟨⟨x0, x1, x2, x3, x4, x5, y0, y1, y2, y3, y4, y5, z0, z1, z2, z3, z4, z5⟩, -⟩ := hSw; go_simp <;> (try with_reducible rfl))
  try simp only [Act.put, List.setIfInBounds_toArray, List.set_cons_zero, List.set_cons_succ]
  refine wpAnyH_take (i := 2) (oi := ?ocaseF033o) (v := ?ocaseF033v) ?ocaseF033h (by kernel_rfl) (by kernel_rfl) (by kernel_rfl) ?ocaseF033q ?ocaseF033y hHeld ?ocaseF033r
  case ocaseF033h => (simp only [List.getElem?_toArray, List.getElem?_cons_succ, List.getElem?_cons_zero]; rfl)
  case ocaseF033q => exact fun _ _ _ h => h
  case ocaseF033y => (refine Or.inl ⟨by first | kernel_rfl | rfl, ?_⟩; intro w hSw; (try dsimp only at hSw); obtain ⟨⟨x0, x1, x2, x3, x4, x5, y0, y1, y2, y3, y4, y5, z0, z1, z2, z3, z4, z5⟩, -⟩ := hSw; go_simp <;> (try with_reducible rfl))
  try simp only [Act.put, List.setIfInBounds_toArray, List.set_cons_zero, List.set_cons_succ]
  refine wpAnyH_take (i := 3) (oi := ?ocaseF034o) (v := ?ocaseF034v) ?ocaseF034h (by kernel_rfl) (by kernel_rfl) (by kernel_rfl) ?ocaseF034q ?ocaseF034y hHeld ?ocaseF034r
  case ocaseF034h => (simp only [List.getElem?_toArray, List.getElem?_cons_succ, List.getElem?_cons_zero]; rfl)
  case ocaseF034q => exact fun _ _ _ h => h
  case ocaseF034y => (refine Or.inl ⟨by first | kernel_rfl | rfl, ?_⟩; intro w hSw; (try dsimp only at hSw); obtain ⟨⟨x0, x1, x2, x3, x4, x5, y0, y1, y2, y3, y4, y5, z0, z1, z2, z3, z4, z5⟩, -⟩ := hSw; go_simp <;> (try with_reducible rfl))
  try simp only [Act.put, List.setIfInBounds_toArray, List.set_cons_zero, List.set_cons_succ]
  refine wpAnyH_take (i := 4) (oi := ?ocaseF035o) (v := ?ocaseF035v) ?ocaseF035h (by kernel_rfl) (by kernel_rfl) (by kernel_rfl) ?ocaseF035q ?ocaseF035y hHeld ?ocaseF035r
  case ocaseF035h => (simp only [List.getElem?_toArray, List.getElem?_cons_succ, List.getElem?_cons_zero]; rfl)
  case ocaseF035q => exact fun _ _ _ h => h
  case ocaseF035y => (refine Or.inl ⟨by first | kernel_rfl | rfl, ?_⟩; intro w hSw; (try dsimp only at hSw); obtain ⟨⟨x0, x1, x2, x3, x4, x5, y0, y1, y2, y3, y4, y5, z0, z1, z2, z3, z4, z5⟩, -⟩ := hSw; go_simp <;> (try with_reducible rfl))
  try simp only [Act.put, List.setIfInBounds_toArray, List.set_cons_zero, List.set_cons_succ]
  refine wpAnyH_take (i := 5) (oi := ?ocaseF036o) (v := ?ocaseF036v) ?ocaseF036h (by kernel_rfl) (by kernel_rfl) (by kernel_rfl) ?ocaseF036q ?ocaseF036y hHeld ?ocaseF036r
  case ocaseF036h => (simp only [List.getElem?_toArray, List.getElem?_cons_succ, List.getElem?_cons_zero]; rfl)
  case ocaseF036q => exact fun _ _ _ h => h
  case ocaseF036y => (refine Or.inl ⟨by first | kernel_rfl | rfl, ?_⟩; intro w hSw; (try dsimp only at hSw); obtain ⟨⟨x0, x1, x2, x3, x4, x5, y0, y1, y2, y3, y4, y5, z0, z1, z2, z3, z4, z5⟩, -⟩ := hSw; go_simp <;> (try with_reducible rfl))
  try simp only [Act.put, List.setIfInBounds_toArray, List.set_cons_zero, List.set_cons_succ]
  refine wpAnyH_ready (rs := [6]) (by kernel_rfl) (by simp) ?_
  refine (AllReadyH.cons rfl (fun K hK => ?_) AllReadyH.nil)
  go_simp
  ((with_reducible refine (kab _).mono ?_); rintro e w' ⟨rfl, hb'⟩)
  refine hK.out _ _ (hHeld.keep hb') (fun hHeld => ?_)
  clear hK K
  try simp only [Act.put, List.setIfInBounds_toArray, List.set_cons_zero, List.set_cons_succ]
  refine wpAnyH_take (i := 7) (oi := ?ocaseF037o) (v := ?ocaseF037v) ?ocaseF037h (by kernel_rfl) (by kernel_rfl) (by kernel_rfl) ?ocaseF037q ?ocaseF037y hHeld ?ocaseF037r
  case ocaseF037h => (simp only [List.getElem?_toArray, List.getElem?_cons_succ, List.getElem?_cons_zero]; rfl)
  case ocaseF037q => exact fun _ _ _ h => h
  case ocaseF037y => (refine Or.inl ⟨by first | kernel_rfl | rfl, ?_⟩; intro w hSw; (try dsimp only at hSw); obtain ⟨⟨x0, x1, x2, x3, x4, x5, y0, y1, y2, y3, y4, y5, z0, z1, z2, z3, z4, z5⟩, -⟩ := hSw; go_simp <;> (try with_reducible rfl))
  try simp only [Act.put, List.setIfInBounds_toArray, List.set_cons_zero, List.set_cons_succ]
  refine wpAnyH_done (by kernel_rfl) ?_ _
  go_wp2_with fail
  refine wp_region_held_drew (S := (OHeld w g a b c)) (by kernel_rfl) hHeld.drew (fun hHeld => ?_)
  refine wpAnyH_take (i := 0) (oi := ?ocaseF041o) (v := ?ocaseF041v) ?ocaseF041h (by kernel_rfl) (by kernel_rfl) (by kernel_rfl) ?ocaseF041q ?ocaseF041y hHeld ?ocaseF041r
  case ocaseF041h => (simp only [List.getElem?_toArray, List.getElem?_cons_zero]; rfl)
  case ocaseF041q => exact fun _ _ _ h => h
  case ocaseF041y => (refine Or.inl ⟨by first | kernel_rfl | rfl, ?_⟩; intro w hSw; (try dsimp only at hSw); obtain ⟨⟨x0, x1, x2, x3, x4, x5, y0, y1, y2, y3, y4, y5, z0, z1, z2, z3, z4, z5⟩, -⟩ := hSw; go_simp <;> (try with_reducible rfl))
  try simp only [Act.put, List.setIfInBounds_toArray, List.set_cons_zero, List.set_cons_succ]
  refine wpAnyH_take (i := 1) (oi := ?ocaseF042o) (v := ?ocaseF042v) ?ocaseF042h (by kernel_rfl) (by kernel_rfl) (by kernel_rfl) ?ocaseF042q ?ocaseF042y hHeld ?ocaseF042r
  case ocaseF042h => (simp only [List.getElem?_toArray, List.getElem?_cons_succ, List.getElem?_cons_zero]; rfl)
  case ocaseF042q => exact fun _ _ _ h => h
  case ocaseF042y => (refine Or.inl ⟨by first | kernel_rfl | rfl, ?_⟩; intro w hSw; (try dsimp only at hSw); obtain ⟨⟨x0, x1, x2, x3, x4, x5, y0, y1, y2, y3, y4, y5, z0, z1, z2, z3, z4, z5⟩, -⟩ := hSw; go_simp <;> (try with_reducible rfl))
  try simp only [Act.put, List.setIfInBounds_toArray, List.set_cons_zero, List.set_cons_succ]
  refine wpAnyH_take (i := 2) (oi := ?ocaseF043o) (v := ?ocaseF043v) ?ocaseF043h (by kernel_rfl) (by kernel_rfl) (by kernel_rfl) ?ocaseF043q ?ocaseF043y hHeld ?ocaseF043r
  case ocaseF043h => (simp only [List.getElem?_toArray, List.getElem?_cons_succ, List.getElem?_cons_zero]; rfl)
  case ocaseF043q => exact fun _ _ _ h => h
  case ocaseF043y => (refine Or.inl ⟨by first | kernel_rfl | rfl, ?_⟩; intro w hSw; (try dsimp only at hSw); obtain ⟨⟨x0, x1, x2, x3, x4, x5, y0, y1, y2, y3, y4, y5, z0, z1, z2, z3, z4, z5⟩, -⟩ := hSw; go_simp <;> (try with_reducible rfl))
  try simp only [Act.put, List.setIfInBounds_toArray, List.set_cons_zero, List.set_cons_succ]
  refine wpAnyH_take (i := 3) (oi := ?ocaseF044o) (v := ?ocaseF044v) ?ocaseF044h (by kernel_rfl) (by kernel_rfl) (by kernel_rfl) ?ocaseF044q ?ocaseF044y hHeld ?ocaseF044r
  case ocaseF044h => (simp only [List.getElem?_toArray, List.getElem?_cons_succ, List.getElem?_cons_zero]; rfl)
  case ocaseF044q => exact fun _ _ _ h => h
  case ocaseF044y => (refine Or.inl ⟨by first | kernel_rfl | rfl, ?_⟩; intro w hSw; (try dsimp only at hSw); obtain ⟨⟨x0, x1, x2, x3, x4, x5, y0, y1, y2, y3, y4, y5, z0, z1, z2, z3, z4, z5⟩, -⟩ := hSw; go_simp <;> (try with_reducible rfl))
  try simp only [Act.put, List.setIfInBounds_toArray, List.set_cons_zero, List.set_cons_succ]
  refine wpAnyH_take (i := 4) (oi := ?ocaseF045o) (v := ?ocaseF045v) ?ocaseF045h (by kernel_rfl) (by kernel_rfl) (by kernel_rfl) ?ocaseF045q ?ocaseF045y hHeld ?ocaseF045r
  case ocaseF045h => (simp only [List.getElem?_toArray, List.getElem?_cons_succ, List.getElem?_cons_zero]; rfl)
  case ocaseF045q => exact fun _ _ _ h => h
  case ocaseF045y => (refine Or.inl ⟨by first | kernel_rfl | rfl, ?_⟩; intro w hSw; (try dsimp only at hSw); obtain ⟨⟨x0, x1, x2, x3, x4, x5, y0, y1, y2, y3, y4, y5, z0, z1, z2, z3, z4, z5⟩, -⟩ := hSw; go_simp <;> (try with_reducible rfl))
  try simp only [Act.put, List.setIfInBounds_toArray, List.set_cons_zero, List.set_cons_succ]
  refine wpAnyH_take (i := 5) (oi := ?ocaseF046o) (v := ?ocaseF046v) ?ocaseF046h (by kernel_rfl) (by kernel_rfl) (by kernel_rfl) ?ocaseF046q ?ocaseF046y hHeld ?ocaseF046r
  case ocaseF046h => (simp only [List.getElem?_toArray, List.getElem?_cons_succ, List.getElem?_cons_zero]; rfl)
  case ocaseF046q => exact fun _ _ _ h => h
  case ocaseF046y => (refine Or.inl ⟨by first | kernel_rfl | rfl, ?_⟩; intro w hSw; (try dsimp only at hSw); obtain ⟨⟨x0, x1, x2, x3, x4, x5, y0, y1, y2, y3, y4, y5, z0, z1, z2, z3, z4, z5⟩, -⟩ := hSw; go_simp <;> (try with_reducible rfl))
  try simp only [Act.put, List.setIfInBounds_toArray, List.set_cons_zero, List.set_cons_succ]
  refine wpAnyH_ready (rs := [6]) (by kernel_rfl) (by simp) ?_
  refine (AllReadyH.cons rfl (fun K hK => ?_) AllReadyH.nil)
  go_simp
  ((with_reducible refine (kba _).mono ?_); rintro e w' ⟨rfl, hb'⟩)
  refine hK.out _ _ (hHeld.keep hb') (fun hHeld => ?_)
  clear hK K
  try simp only [Act.put, List.setIfInBounds_toArray, List.set_cons_zero, List.set_cons_succ]
  refine wpAnyH_take (i := 7) (oi := ?ocaseF047o) (v := ?ocaseF047v) ?ocaseF047h (by kernel_rfl) (by kernel_rfl) (by kernel_rfl) ?ocaseF047q ?ocaseF047y hHeld ?ocaseF047r
  case ocaseF047h => (simp only [List.getElem?_toArray, List.getElem?_cons_succ, List.getElem?_cons_zero]; rfl)
  case ocaseF047q => exact fun _ _ _ h => h
  case ocaseF047y => (refine Or.inl ⟨by first | kernel_rfl | rfl, ?_⟩; intro w hSw; (try dsimp only at hSw); obtain ⟨⟨x0, x1, x2, x3, x4, x5, y0, y1, y2, y3, y4, y5, z0, z1, z2, z3, z4, z5⟩, -⟩ := hSw; go_simp <;> (try with_reducible rfl))
  try simp only [Act.put, List.setIfInBounds_toArray, List.set_cons_zero, List.set_cons_succ]
  refine wpAnyH_done (by kernel_rfl) ?_ _
  have H4 := hHeld
  have G := hHeld
  obtain ⟨⟨x0, x1, x2, x3, x4, x5, y0, y1, y2, y3, y4, y5, z0, z1, z2, z3, z4, z5⟩, -⟩ := G
  clear hHeld
  go_wp2_with fail
  go_quiet (fail)
  have HP := H4.drewN (n := nq)
  skip
  go_wp2_with fail
  refine wp_region_held_drew (S := (OHeld w g a b c)) (by kernel_rfl) HP.drew (fun hHeld => ?_)
  refine wpAnyH_take (i := 0) (oi := ?ocaseF061o) (v := ?ocaseF061v) ?ocaseF061h (by kernel_rfl) (by kernel_rfl) (by kernel_rfl) ?ocaseF061q ?ocaseF061y hHeld ?ocaseF061r
  case ocaseF061h => (simp only [List.getElem?_toArray, List.getElem?_cons_zero]; rfl)
  case ocaseF061q => exact fun _ _ _ h => h
  case ocaseF061y => (refine Or.inl ⟨by first | kernel_rfl | rfl, ?_⟩; intro w hSw; (try dsimp only at hSw); obtain ⟨⟨x0, x1, x2, x3, x4, x5, y0, y1, y2, y3, y4, y5, z0, z1, z2, z3, z4, z5⟩, -⟩ := hSw; go_simp <;> (try with_reducible rfl))
  try simp only [Act.put, List.setIfInBounds_toArray, List.set_cons_zero, List.set_cons_succ]
  refine wpAnyH_take (i := 1) (oi := ?ocaseF062o) (v := ?ocaseF062v) ?ocaseF062h (by kernel_rfl) (by kernel_rfl) (by kernel_rfl) ?ocaseF062q ?ocaseF062y hHeld ?ocaseF062r
  case ocaseF062h => (simp only [List.getElem?_toArray, List.getElem?_cons_succ, List.getElem?_cons_zero]; rfl)
  case ocaseF062q => exact fun _ _ _ h => h
  case ocaseF062y => (refine Or.inl ⟨by first | kernel_rfl | rfl, ?_⟩; intro w hSw; (try dsimp only at hSw); obtain ⟨⟨x0, x1, x2, x3, x4, x5, y0, y1, y2, y3, y4, y5, z0, z1, z2, z3, z4, z5⟩, -⟩ := hSw; go_simp <;> (try with_reducible rfl))
  try simp only [Act.put, List.setIfInBounds_toArray, List.set_cons_zero, List.set_cons_succ]
  refine wpAnyH_take (i := 2) (oi := ?ocaseF063o) (v := ?ocaseF063v) ?ocaseF063h (by kernel_rfl) (by kernel_rfl) (by kernel_rfl) ?ocaseF063q ?ocaseF063y hHeld ?ocaseF063r
  case ocaseF063h => (simp only [List.getElem?_toArray, List.getElem?_cons_succ, List.getElem?_cons_zero]; rfl)
  case ocaseF063q => exact fun _ _ _ h => h
  case ocaseF063y => (refine Or.inl ⟨by first | kernel_rfl | rfl, ?_⟩; intro w hSw; (try dsimp only at hSw); obtain ⟨⟨x0, x1, x2, x3, x4, x5, y0, y1, y2, y3, y4, y5, z0, z1, z2, z3, z4, z5⟩, -⟩ := hSw; go_simp <;> (try with_reducible rfl))
  try simp only [Act.put, List.setIfInBounds_toArray, List.set_cons_zero, List.set_cons_succ]
  refine wpAnyH_take (i := 3) (oi := ?ocaseF064o) (v := ?ocaseF064v) ?ocaseF064h (by kernel_rfl) (by kernel_rfl) (by kernel_rfl) ?ocaseF064q ?ocaseF064y hHeld ?ocaseF064r
  case ocaseF064h => (simp only [List.getElem?_toArray, List.getElem?_cons_succ, List.getElem?_cons_zero]; rfl)
  case ocaseF064q => exact fun _ _ _ h => h
  case ocaseF064y => (refine Or.inl ⟨by first | kernel_rfl | rfl, ?_⟩; intro w hSw; (try dsimp only at hSw); obtain ⟨⟨x0, x1, x2, x3, x4, x5, y0, y1, y2, y3, y4, y5, z0, z1, z2, z3, z4, z5⟩, -⟩ := hSw; go_simp <;> (try with_reducible rfl))
  try simp only [Act.put, List.setIfInBounds_toArray, List.set_cons_zero, List.set_cons_succ]
  refine wpAnyH_take (i := 4) (oi := ?ocaseF065o) (v := ?ocaseF065v) ?ocaseF065h (by kernel_rfl) (by kernel_rfl) (by kernel_rfl) ?ocaseF065q ?ocaseF065y hHeld ?ocaseF065r
  case ocaseF065h => (simp only [List.getElem?_toArray, List.getElem?_cons_succ, List.getElem?_cons_zero]; rfl)
  case ocaseF065q => exact fun _ _ _ h => h
  case ocaseF065y => (refine Or.inl ⟨by first | kernel_rfl | rfl, ?_⟩; intro w hSw; (try dsimp only at hSw); obtain ⟨⟨x0, x1, x2, x3, x4, x5, y0, y1, y2, y3, y4, y5, z0, z1, z2, z3, z4, z5⟩, -⟩ := hSw; go_simp <;> (try with_reducible rfl))
  try simp only [Act.put, List.setIfInBounds_toArray, List.set_cons_zero, List.set_cons_succ]
  refine wpAnyH_take (i := 5) (oi := ?ocaseF066o) (v := ?ocaseF066v) ?ocaseF066h (by kernel_rfl) (by kernel_rfl) (by kernel_rfl) ?ocaseF066q ?ocaseF066y hHeld ?ocaseF066r
  case ocaseF066h => (simp only [List.getElem?_toArray, List.getElem?_cons_succ, List.getElem?_cons_zero]; rfl)
  case ocaseF066q => exact fun _ _ _ h => h
  case ocaseF066y => (refine Or.inl ⟨by first | kernel_rfl | rfl, ?_⟩; intro w hSw; (try dsimp only at hSw); obtain ⟨⟨x0, x1, x2, x3, x4, x5, y0, y1, y2, y3, y4, y5, z0, z1, z2, z3, z4, z5⟩, -⟩ := hSw; go_simp <;> (try with_reducible rfl))
  try simp only [Act.put, List.setIfInBounds_toArray, List.set_cons_zero, List.set_cons_succ]
  refine wpAnyH_ready (rs := [6]) (by kernel_rfl) (by simp) ?_
  refine (AllReadyH.cons rfl (fun K hK => ?_) AllReadyH.nil)
  go_simp
  ((with_reducible refine (jab _).mono ?_); rintro e w' ⟨rfl, hb'⟩)
  refine hK.out _ _ (hHeld.keep hb') (fun hHeld => ?_)
  clear hK K
  try simp only [Act.put, List.setIfInBounds_toArray, List.set_cons_zero, List.set_cons_succ]
  refine wpAnyH_take (i := 7) (oi := ?ocaseF067o) (v := ?ocaseF067v) ?ocaseF067h (by kernel_rfl) (by kernel_rfl) (by kernel_rfl) ?ocaseF067q ?ocaseF067y hHeld ?ocaseF067r
  case ocaseF067h => (simp only [List.getElem?_toArray, List.getElem?_cons_succ, List.getElem?_cons_zero]; rfl)
  case ocaseF067q => exact fun _ _ _ h => h
  case ocaseF067y => (refine Or.inl ⟨by first | kernel_rfl | rfl, ?_⟩; intro w hSw; (try dsimp only at hSw); obtain ⟨⟨x0, x1, x2, x3, x4, x5, y0, y1, y2, y3, y4, y5, z0, z1, z2, z3, z4, z5⟩, -⟩ := hSw; go_simp <;> (try with_reducible rfl))
  try simp only [Act.put, List.setIfInBounds_toArray, List.set_cons_zero, List.set_cons_succ]
  refine wpAnyH_done (by kernel_rfl) ?_ _
  go_wp2_with fail
  refine wp_region_held_drew (S := (OHeld w g a b c)) (by kernel_rfl) hHeld.drew (fun hHeld => ?_)
  refine wpAnyH_take (i := 0) (oi := ?ocaseF071o) (v := ?ocaseF071v) ?ocaseF071h (by kernel_rfl) (by kernel_rfl) (by kernel_rfl) ?ocaseF071q ?ocaseF071y hHeld ?ocaseF071r
  case ocaseF071h => (simp only [List.getElem?_toArray, List.getElem?_cons_zero]; rfl)
  case ocaseF071q => exact fun _ _ _ h => h
  case ocaseF071y => (refine Or.inl ⟨by first | kernel_rfl | rfl, ?_⟩; intro w hSw; (try dsimp only at hSw); obtain ⟨⟨x0, x1, x2, x3, x4, x5, y0, y1, y2, y3, y4, y5, z0, z1, z2, z3, z4, z5⟩, -⟩ := hSw; go_simp <;> (try with_reducible rfl))
  try simp only [Act.put, List.setIfInBounds_toArray, List.set_cons_zero, List.set_cons_succ]
  refine wpAnyH_take (i := 1) (oi := ?ocaseF072o) (v := ?ocaseF072v) ?ocaseF072h (by kernel_rfl) (by kernel_rfl) (by kernel_rfl) ?ocaseF072q ?ocaseF072y hHeld ?ocaseF072r
  case ocaseF072h => (simp only [List.getElem?_toArray, List.getElem?_cons_succ, List.getElem?_cons_zero]; rfl)
  case ocaseF072q => exact fun _ _ _ h => h
  case ocaseF072y => (refine Or.inl ⟨by first | kernel_rfl | rfl, ?_⟩; intro w hSw; (try dsimp only at hSw); obtain ⟨⟨x0, x1, x2, x3, x4, x5, y0, y1, y2, y3, y4, y5, z0, z1, z2, z3, z4, z5⟩, -⟩ := hSw; go_simp <;> (try with_reducible rfl))
  try simp only [Act.put, List.setIfInBounds_toArray, List.set_cons_zero, List.set_cons_succ]
  refine wpAnyH_take (i := 2) (oi := ?ocaseF073o) (v := ?ocaseF073v) ?ocaseF073h (by kernel_rfl) (by kernel_rfl) (by kernel_rfl) ?ocaseF073q ?ocaseF073y hHeld ?ocaseF073r
  case ocaseF073h => (simp only [List.getElem?_toArray, List.getElem?_cons_succ, List.getElem?_cons_zero]; rfl)
  case ocaseF073q => exact fun _ _ _ h => h
  case ocaseF073y => (refine Or.inl ⟨by first | kernel_rfl | rfl, ?_⟩; intro w hSw; (try dsimp only at hSw); obtain ⟨⟨x0, x1, x2, x3, x4, x5, y0, y1, y2, y3, y4, y5, z0, z1, z2, z3, z4, z5⟩, -⟩ := hSw; go_simp <;> (try with_reducible rfl))
  try simp only [Act.put, List.setIfInBounds_toArray, List.set_cons_zero, List.set_cons_succ]
  refine wpAnyH_take (i := 3) (oi := ?ocaseF074o) (v := ?ocaseF074v) ?ocaseF074h (by kernel_rfl) (by kernel_rfl) (by kernel_rfl) ?ocaseF074q ?ocaseF074y hHeld ?ocaseF074r
  case ocaseF074h => (simp only [List.getElem?_toArray, List.getElem?_cons_succ, List.getElem?_cons_zero]; rfl)
  case ocaseF074q => exact fun _ _ _ h => h
  case ocaseF074y => (refine Or.inl ⟨by first | kernel_rfl | rfl, ?_⟩; intro w hSw; (try dsimp only at hSw); obtain ⟨⟨x0, x1, x2, x3, x4, x5, y0, y1, y2, y3, y4, y5, z0, z1, z2, z3, z4, z5⟩, -⟩ := hSw; go_simp <;> (try with_reducible rfl))
  try simp only [Act.put, List.setIfInBounds_toArray, List.set_cons_zero, List.set_cons_succ]
  refine wpAnyH_take (i := 4) (oi := ?ocaseF075o) (v := ?ocaseF075v) ?ocaseF075h (by kernel_rfl) (by kernel_rfl) (by kernel_rfl) ?ocaseF075q ?ocaseF075y hHeld ?ocaseF075r
  case ocaseF075h => (simp only [List.getElem?_toArray, List.getElem?_cons_succ, List.getElem?_cons_zero]; rfl)
  case ocaseF075q => exact fun _ _ _ h => h
  case ocaseF075y => (refine Or.inl ⟨by first | kernel_rfl | rfl, ?_⟩; intro w hSw; (try dsimp only at hSw); obtain ⟨⟨x0, x1, x2, x3, x4, x5, y0, y1, y2, y3, y4, y5, z0, z1, z2, z3, z4, z5⟩, -⟩ := hSw; go_simp <;> (try with_reducible rfl))
  try simp only [Act.put, List.setIfInBounds_toArray, List.set_cons_zero, List.set_cons_succ]
  refine wpAnyH_take (i := 5) (oi := ?ocaseF076o) (v := ?ocaseF076v) ?ocaseF076h (by kernel_rfl) (by kernel_rfl) (by kernel_rfl) ?ocaseF076q ?ocaseF076y hHeld ?ocaseF076r
  case ocaseF076h => (simp only [List.getElem?_toArray, List.getElem?_cons_succ, List.getElem?_cons_zero]; rfl)
  case ocaseF076q => exact fun _ _ _ h => h
  case ocaseF076y => (refine Or.inl ⟨by first | kernel_rfl | rfl, ?_⟩; intro w hSw; (try dsimp only at hSw); obtain ⟨⟨x0, x1, x2, x3, x4, x5, y0, y1, y2, y3, y4, y5, z0, z1, z2, z3, z4, z5⟩, -⟩ := hSw; go_simp <;> (try with_reducible rfl))
  try simp only [Act.put, List.setIfInBounds_toArray, List.set_cons_zero, List.set_cons_succ]
  refine wpAnyH_ready (rs := [6]) (by kernel_rfl) (by simp) ?_
  refine (AllReadyH.cons rfl (fun K hK => ?_) AllReadyH.nil)
  go_simp
  ((with_reducible refine (jba _).mono ?_); rintro e w' ⟨rfl, hb'⟩)
  refine hK.out _ _ (hHeld.keep hb') (fun hHeld => ?_)
  clear hK K
  try simp only [Act.put, List.setIfInBounds_toArray, List.set_cons_zero, List.set_cons_succ]
  refine wpAnyH_take (i := 7) (oi := ?ocaseF077o) (v := ?ocaseF077v) ?ocaseF077h (by kernel_rfl) (by kernel_rfl) (by kernel_rfl) ?ocaseF077q ?ocaseF077y hHeld ?ocaseF077r
  case ocaseF077h => (simp only [List.getElem?_toArray, List.getElem?_cons_succ, List.getElem?_cons_zero]; rfl)
  case ocaseF077q => exact fun _ _ _ h => h
  case ocaseF077y => (refine Or.inl ⟨by first | kernel_rfl | rfl, ?_⟩; intro w hSw; (try dsimp only at hSw); obtain ⟨⟨x0, x1, x2, x3, x4, x5, y0, y1, y2, y3, y4, y5, z0, z1, z2, z3, z4, z5⟩, -⟩ := hSw; go_simp <;> (try with_reducible rfl))
  try simp only [Act.put, List.setIfInBounds_toArray, List.set_cons_zero, List.set_cons_succ]
  refine wpAnyH_done (by kernel_rfl) ?_ _
  have H7 := hHeld
  have G := hHeld
  obtain ⟨⟨x0, x1, x2, x3, x4, x5, y0, y1, y2, y3, y4, y5, z0, z1, z2, z3, z4, z5⟩, -⟩ := G
  clear hHeld
  go_wp2_with fail
  go_quiet (fail)
  have HQ := H7.drewN (n := nq)
  skip
  go_wp2_with fail
  refine wp_region_held_drew (S := (OHeld w g a b c)) (by kernel_rfl) HQ.drew (fun hHeld => ?_)
  refine wpAnyH_take (i := 0) (oi := ?ocaseF0101o) (v := ?ocaseF0101v) ?ocaseF0101h (by kernel_rfl) (by kernel_rfl) (by kernel_rfl) ?ocaseF0101q ?ocaseF0101y hHeld ?ocaseF0101r
  case ocaseF0101h => (simp only [List.getElem?_toArray, List.getElem?_cons_zero]; rfl)
  case ocaseF0101q => exact fun _ _ _ h => h
  case ocaseF0101y => (refine Or.inl ⟨by first | kernel_rfl | rfl, ?_⟩; intro w hSw; (try dsimp only at hSw); obtain ⟨⟨x0, x1, x2, x3, x4, x5, y0, y1, y2, y3, y4, y5, z0, z1, z2, z3, z4, z5⟩, -⟩ := hSw; go_simp <;> (try with_reducible rfl))
  try simp only [Act.put, List.setIfInBounds_toArray, List.set_cons_zero, List.set_cons_succ]
  refine wpAnyH_take (i := 1) (oi := ?ocaseF0102o) (v := ?ocaseF0102v) ?ocaseF0102h (by kernel_rfl) (by kernel_rfl) (by kernel_rfl) ?ocaseF0102q ?ocaseF0102y hHeld ?ocaseF0102r
  case ocaseF0102h => (simp only [List.getElem?_toArray, List.getElem?_cons_succ, List.getElem?_cons_zero]; rfl)
  case ocaseF0102q => exact fun _ _ _ h => h
  case ocaseF0102y => (refine Or.inl ⟨by first | kernel_rfl | rfl, ?_⟩; intro w hSw; (try dsimp only at hSw); obtain ⟨⟨x0, x1, x2, x3, x4, x5, y0, y1, y2, y3, y4, y5, z0, z1, z2, z3, z4, z5⟩, -⟩ := hSw; go_simp <;> (try with_reducible rfl))
  try simp only [Act.put, List.setIfInBounds_toArray, List.set_cons_zero, List.set_cons_succ]
  refine wpAnyH_take (i := 2) (oi := ?ocaseF0103o) (v := ?ocaseF0103v) ?ocaseF0103h (by kernel_rfl) (by kernel_rfl) (by kernel_rfl) ?ocaseF0103q ?ocaseF0103y hHeld ?ocaseF0103r
  case ocaseF0103h => (simp only [List.getElem?_toArray, List.getElem?_cons_succ, List.getElem?_cons_zero]; rfl)
  case ocaseF0103q => exact fun _ _ _ h => h
  case ocaseF0103y => (refine Or.inl ⟨by first | kernel_rfl | rfl, ?_⟩; intro w hSw; (try dsimp only at hSw); obtain ⟨⟨x0, x1, x2, x3, x4, x5, y0, y1, y2, y3, y4, y5, z0, z1, z2, z3, z4, z5⟩, -⟩ := hSw; go_simp <;> (try with_reducible rfl))
  try simp only [Act.put, List.setIfInBounds_toArray, List.set_cons_zero, List.set_cons_succ]
  refine wpAnyH_take (i := 3) (oi := ?ocaseF0104o) (v := undef) ?ocaseF0104h (by kernel_rfl) (by kernel_rfl) (by kernel_rfl) ?ocaseF0104q ?ocaseF0104y hHeld ?ocaseF0104r
  case ocaseF0104h => (simp only [List.getElem?_toArray, List.getElem?_cons_succ, List.getElem?_cons_zero]; rfl)
  case ocaseF0104q => exact fun _ _ _ h => h
  case ocaseF0104y => exact Or.inr ⟨by first | kernel_rfl | rfl, rfl⟩
  try simp only [Act.put, List.setIfInBounds_toArray, List.set_cons_zero, List.set_cons_succ]
  refine wpAnyH_take (i := 4) (oi := ?ocaseF0105o) (v := undef) ?ocaseF0105h (by kernel_rfl) (by kernel_rfl) (by kernel_rfl) ?ocaseF0105q ?ocaseF0105y hHeld ?ocaseF0105r
  case ocaseF0105h => (simp only [List.getElem?_toArray, List.getElem?_cons_succ, List.getElem?_cons_zero]; rfl)
  case ocaseF0105q => exact fun _ _ _ h => h
  case ocaseF0105y => exact Or.inr ⟨by first | kernel_rfl | rfl, rfl⟩
  try simp only [Act.put, List.setIfInBounds_toArray, List.set_cons_zero, List.set_cons_succ]
  refine wpAnyH_take (i := 5) (oi := ?ocaseF0106o) (v := undef) ?ocaseF0106h (by kernel_rfl) (by kernel_rfl) (by kernel_rfl) ?ocaseF0106q ?ocaseF0106y hHeld ?ocaseF0106r
  case ocaseF0106h => (simp only [List.getElem?_toArray, List.getElem?_cons_succ, List.getElem?_cons_zero]; rfl)
  case ocaseF0106q => exact fun _ _ _ h => h
  case ocaseF0106y => exact Or.inr ⟨by first | kernel_rfl | rfl, rfl⟩
  try simp only [Act.put, List.setIfInBounds_toArray, List.set_cons_zero, List.set_cons_succ]
  refine wpAnyH_take (i := 6) (oi := ?ocaseF0107o) (v := undef) ?ocaseF0107h (by kernel_rfl) (by kernel_rfl) (by kernel_rfl) ?ocaseF0107q ?ocaseF0107y hHeld ?ocaseF0107r
  case ocaseF0107h => (simp only [List.getElem?_toArray, List.getElem?_cons_succ, List.getElem?_cons_zero]; rfl)
  case ocaseF0107q => exact fun _ _ _ h => h
  case ocaseF0107y => exact Or.inr ⟨by first | kernel_rfl | rfl, rfl⟩
  try simp only [Act.put, List.setIfInBounds_toArray, List.set_cons_zero, List.set_cons_succ]
  refine wpAnyH_take (i := 7) (oi := ?ocaseF0108o) (v := undef) ?ocaseF0108h (by kernel_rfl) (by kernel_rfl) (by kernel_rfl) ?ocaseF0108q ?ocaseF0108y hHeld ?ocaseF0108r
  case ocaseF0108h => (simp only [List.getElem?_toArray, List.getElem?_cons_succ, List.getElem?_cons_zero]; rfl)
  case ocaseF0108q => exact fun _ _ _ h => h
  case ocaseF0108y => exact Or.inr ⟨by first | kernel_rfl | rfl, rfl⟩
  try simp only [Act.put, List.setIfInBounds_toArray, List.set_cons_zero, List.set_cons_succ]
  refine wpAnyH_take (i := 8) (oi := ?ocaseF0109o) (v := undef) ?ocaseF0109h (by kernel_rfl) (by kernel_rfl) (by kernel_rfl) ?ocaseF0109q ?ocaseF0109y hHeld ?ocaseF0109r
  case ocaseF0109h => (simp only [List.getElem?_toArray, List.getElem?_cons_succ, List.getElem?_cons_zero]; rfl)
  case ocaseF0109q => exact fun _ _ _ h => h
  case ocaseF0109y => exact Or.inr ⟨by first | kernel_rfl | rfl, rfl⟩
  try simp only [Act.put, List.setIfInBounds_toArray, List.set_cons_zero, List.set_cons_succ]
  refine wpAnyH_take (i := 9) (oi := ?ocaseF01010o) (v := undef) ?ocaseF01010h (by kernel_rfl) (by kernel_rfl) (by kernel_rfl) ?ocaseF01010q ?ocaseF01010y hHeld ?ocaseF01010r
  case ocaseF01010h => (simp only [List.getElem?_toArray, List.getElem?_cons_succ, List.getElem?_cons_zero]; rfl)
  case ocaseF01010q => exact fun _ _ _ h => h
  case ocaseF01010y => exact Or.inr ⟨by first | kernel_rfl | rfl, rfl⟩
  try simp only [Act.put, List.setIfInBounds_toArray, List.set_cons_zero, List.set_cons_succ]
  refine wpAnyH_take (i := 10) (oi := ?ocaseF01011o) (v := undef) ?ocaseF01011h (by kernel_rfl) (by kernel_rfl) (by kernel_rfl) ?ocaseF01011q ?ocaseF01011y hHeld ?ocaseF01011r
  case ocaseF01011h => (simp only [List.getElem?_toArray, List.getElem?_cons_succ, List.getElem?_cons_zero]; rfl)
  case ocaseF01011q => exact fun _ _ _ h => h
  case ocaseF01011y => exact Or.inr ⟨by first | kernel_rfl | rfl, rfl⟩
  try simp only [Act.put, List.setIfInBounds_toArray, List.set_cons_zero, List.set_cons_succ]
  refine wpAnyH_take (i := 11) (oi := ?ocaseF01012o) (v := ?ocaseF01012v) ?ocaseF01012h (by kernel_rfl) (by kernel_rfl) (by kernel_rfl) ?ocaseF01012q ?ocaseF01012y hHeld ?ocaseF01012r
  case ocaseF01012h => (simp only [List.getElem?_toArray, List.getElem?_cons_succ, List.getElem?_cons_zero]; rfl)
  case ocaseF01012q => exact fun _ _ _ h => h
  case ocaseF01012y => (refine Or.inl ⟨by first | kernel_rfl | rfl, ?_⟩; intro w hSw; (try dsimp only at hSw); obtain ⟨⟨x0, x1, x2, x3, x4, x5, y0, y1, y2, y3, y4, y5, z0, z1, z2, z3, z4, z5⟩, -⟩ := hSw; go_simp <;> (try with_reducible rfl))
  try simp only [Act.put, List.setIfInBounds_toArray, List.set_cons_zero, List.set_cons_succ]
  refine wpAnyH_take (i := 12) (oi := ?ocaseF01013o) (v := ?ocaseF01013v) ?ocaseF01013h (by kernel_rfl) (by kernel_rfl) (by kernel_rfl) ?ocaseF01013q ?ocaseF01013y hHeld ?ocaseF01013r
  case ocaseF01013h => (simp only [List.getElem?_toArray, List.getElem?_cons_succ, List.getElem?_cons_zero]; rfl)
  case ocaseF01013q => exact fun _ _ _ h => h
  case ocaseF01013y => (refine Or.inl ⟨by first | kernel_rfl | rfl, ?_⟩; intro w hSw; (try dsimp only at hSw); obtain ⟨⟨x0, x1, x2, x3, x4, x5, y0, y1, y2, y3, y4, y5, z0, z1, z2, z3, z4, z5⟩, -⟩ := hSw; go_simp <;> (try with_reducible rfl))
  try simp only [Act.put, List.setIfInBounds_toArray, List.set_cons_zero, List.set_cons_succ]
  refine wpAnyH_take (i := 13) (oi := ?ocaseF01014o) (v := undef) ?ocaseF01014h (by kernel_rfl) (by kernel_rfl) (by kernel_rfl) ?ocaseF01014q ?ocaseF01014y hHeld ?ocaseF01014r
  case ocaseF01014h => (simp only [List.getElem?_toArray, List.getElem?_cons_succ, List.getElem?_cons_zero]; rfl)
  case ocaseF01014q => exact fun _ _ _ h => h
  case ocaseF01014y => exact Or.inr ⟨by first | kernel_rfl | rfl, rfl⟩
  try simp only [Act.put, List.setIfInBounds_toArray, List.set_cons_zero, List.set_cons_succ]
  refine wpAnyH_take (i := 14) (oi := ?ocaseF01015o) (v := undef) ?ocaseF01015h (by kernel_rfl) (by kernel_rfl) (by kernel_rfl) ?ocaseF01015q ?ocaseF01015y hHeld ?ocaseF01015r
  case ocaseF01015h => (simp only [List.getElem?_toArray, List.getElem?_cons_succ, List.getElem?_cons_zero]; rfl)
  case ocaseF01015q => exact fun _ _ _ h => h
  case ocaseF01015y => exact Or.inr ⟨by first | kernel_rfl | rfl, rfl⟩
  try simp only [Act.put, List.setIfInBounds_toArray, List.set_cons_zero, List.set_cons_succ]
  refine wpAnyH_take (i := 15) (oi := ?ocaseF01016o) (v := undef) ?ocaseF01016h (by kernel_rfl) (by kernel_rfl) (by kernel_rfl) ?ocaseF01016q ?ocaseF01016y hHeld ?ocaseF01016r
  case ocaseF01016h => (simp only [List.getElem?_toArray, List.getElem?_cons_succ, List.getElem?_cons_zero]; rfl)
  case ocaseF01016q => exact fun _ _ _ h => h
  case ocaseF01016y => exact Or.inr ⟨by first | kernel_rfl | rfl, rfl⟩
  try simp only [Act.put, List.setIfInBounds_toArray, List.set_cons_zero, List.set_cons_succ]
  refine wpAnyH_take (i := 16) (oi := ?ocaseF01017o) (v := undef) ?ocaseF01017h (by kernel_rfl) (by kernel_rfl) (by kernel_rfl) ?ocaseF01017q ?ocaseF01017y hHeld ?ocaseF01017r
  case ocaseF01017h => (simp only [List.getElem?_toArray, List.getElem?_cons_succ, List.getElem?_cons_zero]; rfl)
  case ocaseF01017q => exact fun _ _ _ h => h
  case ocaseF01017y => exact Or.inr ⟨by first | kernel_rfl | rfl, rfl⟩
  try simp only [Act.put, List.setIfInBounds_toArray, List.set_cons_zero, List.set_cons_succ]
  refine wpAnyH_take (i := 17) (oi := ?ocaseF01018o) (v := undef) ?ocaseF01018h (by kernel_rfl) (by kernel_rfl) (by kernel_rfl) ?ocaseF01018q ?ocaseF01018y hHeld ?ocaseF01018r
  case ocaseF01018h => (simp only [List.getElem?_toArray, List.getElem?_cons_succ, List.getElem?_cons_zero]; rfl)
  case ocaseF01018q => exact fun _ _ _ h => h
  case ocaseF01018y => exact Or.inr ⟨by first | kernel_rfl | rfl, rfl⟩
  try simp only [Act.put, List.setIfInBounds_toArray, List.set_cons_zero, List.set_cons_succ]
  refine wpAnyH_take (i := 18) (oi := ?ocaseF01019o) (v := undef) ?ocaseF01019h (by kernel_rfl) (by kernel_rfl) (by kernel_rfl) ?ocaseF01019q ?ocaseF01019y hHeld ?ocaseF01019r
  case ocaseF01019h => (simp only [List.getElem?_toArray, List.getElem?_cons_succ, List.getElem?_cons_zero]; rfl)
  case ocaseF01019q => exact fun _ _ _ h => h
  case ocaseF01019y => exact Or.inr ⟨by first | kernel_rfl | rfl, rfl⟩
  try simp only [Act.put, List.setIfInBounds_toArray, List.set_cons_zero, List.set_cons_succ]
  refine wpAnyH_take (i := 19) (oi := ?ocaseF01020o) (v := undef) ?ocaseF01020h (by kernel_rfl) (by kernel_rfl) (by kernel_rfl) ?ocaseF01020q ?ocaseF01020y hHeld ?ocaseF01020r
  case ocaseF01020h => (simp only [List.getElem?_toArray, List.getElem?_cons_succ, List.getElem?_cons_zero]; rfl)
  case ocaseF01020q => exact fun _ _ _ h => h
  case ocaseF01020y => exact Or.inr ⟨by first | kernel_rfl | rfl, rfl⟩
  try simp only [Act.put, List.setIfInBounds_toArray, List.set_cons_zero, List.set_cons_succ]
  refine wpAnyH_take (i := 20) (oi := ?ocaseF01021o) (v := ?ocaseF01021v) ?ocaseF01021h (by kernel_rfl) (by kernel_rfl) (by kernel_rfl) ?ocaseF01021q ?ocaseF01021y hHeld ?ocaseF01021r
  case ocaseF01021h => (simp only [List.getElem?_toArray, List.getElem?_cons_succ, List.getElem?_cons_zero]; rfl)
  case ocaseF01021q => exact fun _ _ _ h => h
  case ocaseF01021y => (refine Or.inl ⟨by first | kernel_rfl | rfl, ?_⟩; intro w hSw; (try dsimp only at hSw); obtain ⟨⟨x0, x1, x2, x3, x4, x5, y0, y1, y2, y3, y4, y5, z0, z1, z2, z3, z4, z5⟩, -⟩ := hSw; go_simp <;> (try with_reducible rfl))
  try simp only [Act.put, List.setIfInBounds_toArray, List.set_cons_zero, List.set_cons_succ]
  refine wpAnyH_take (i := 21) (oi := ?ocaseF01022o) (v := ?ocaseF01022v) ?ocaseF01022h (by kernel_rfl) (by kernel_rfl) (by kernel_rfl) ?ocaseF01022q ?ocaseF01022y hHeld ?ocaseF01022r
  case ocaseF01022h => (simp only [List.getElem?_toArray, List.getElem?_cons_succ, List.getElem?_cons_zero]; rfl)
  case ocaseF01022q => exact fun _ _ _ h => h
  case ocaseF01022y => (refine Or.inl ⟨by first | kernel_rfl | rfl, ?_⟩; intro w hSw; (try dsimp only at hSw); obtain ⟨⟨x0, x1, x2, x3, x4, x5, y0, y1, y2, y3, y4, y5, z0, z1, z2, z3, z4, z5⟩, -⟩ := hSw; go_simp <;> (try with_reducible rfl))
  try simp only [Act.put, List.setIfInBounds_toArray, List.set_cons_zero, List.set_cons_succ]
  refine wpAnyH_done (by kernel_rfl) ?_ _
  go_wp2_with fail
  refine wp_region_held_drew (S := (OHeld w g a b c)) (by kernel_rfl) hHeld.drew (fun hHeld => ?_)
  refine wpAnyH_take (i := 0) (oi := ?ocaseF0111o) (v := ?ocaseF0111v) ?ocaseF0111h (by kernel_rfl) (by kernel_rfl) (by kernel_rfl) ?ocaseF0111q ?ocaseF0111y hHeld ?ocaseF0111r
  case ocaseF0111h => (simp only [List.getElem?_toArray, List.getElem?_cons_zero]; rfl)
  case ocaseF0111q => exact fun _ _ _ h => h
  case ocaseF0111y => (refine Or.inl ⟨by first | kernel_rfl | rfl, ?_⟩; intro w hSw; (try dsimp only at hSw); obtain ⟨⟨x0, x1, x2, x3, x4, x5, y0, y1, y2, y3, y4, y5, z0, z1, z2, z3, z4, z5⟩, -⟩ := hSw; go_simp <;> (try with_reducible rfl))
  try simp only [Act.put, List.setIfInBounds_toArray, List.set_cons_zero, List.set_cons_succ]
  refine wpAnyH_take (i := 1) (oi := ?ocaseF0112o) (v := ?ocaseF0112v) ?ocaseF0112h (by kernel_rfl) (by kernel_rfl) (by kernel_rfl) ?ocaseF0112q ?ocaseF0112y hHeld ?ocaseF0112r
  case ocaseF0112h => (simp only [List.getElem?_toArray, List.getElem?_cons_succ, List.getElem?_cons_zero]; rfl)
  case ocaseF0112q => exact fun _ _ _ h => h
  case ocaseF0112y => (refine Or.inl ⟨by first | kernel_rfl | rfl, ?_⟩; intro w hSw; (try dsimp only at hSw); obtain ⟨⟨x0, x1, x2, x3, x4, x5, y0, y1, y2, y3, y4, y5, z0, z1, z2, z3, z4, z5⟩, -⟩ := hSw; go_simp <;> (try with_reducible rfl))
  try simp only [Act.put, List.setIfInBounds_toArray, List.set_cons_zero, List.set_cons_succ]
  refine wpAnyH_take (i := 2) (oi := ?ocaseF0113o) (v := ?ocaseF0113v) ?ocaseF0113h (by kernel_rfl) (by kernel_rfl) (by kernel_rfl) ?ocaseF0113q ?ocaseF0113y hHeld ?ocaseF0113r
  case ocaseF0113h => (simp only [List.getElem?_toArray, List.getElem?_cons_succ, List.getElem?_cons_zero]; rfl)
  case ocaseF0113q => exact fun _ _ _ h => h
  case ocaseF0113y => (refine Or.inl ⟨by first | kernel_rfl | rfl, ?_⟩; intro w hSw; (try dsimp only at hSw); obtain ⟨⟨x0, x1, x2, x3, x4, x5, y0, y1, y2, y3, y4, y5, z0, z1, z2, z3, z4, z5⟩, -⟩ := hSw; go_simp <;> (try with_reducible rfl))
  try simp only [Act.put, List.setIfInBounds_toArray, List.set_cons_zero, List.set_cons_succ]
  refine wpAnyH_take (i := 3) (oi := ?ocaseF0114o) (v := undef) ?ocaseF0114h (by kernel_rfl) (by kernel_rfl) (by kernel_rfl) ?ocaseF0114q ?ocaseF0114y hHeld ?ocaseF0114r
  case ocaseF0114h => (simp only [List.getElem?_toArray, List.getElem?_cons_succ, List.getElem?_cons_zero]; rfl)
  case ocaseF0114q => exact fun _ _ _ h => h
  case ocaseF0114y => exact Or.inr ⟨by first | kernel_rfl | rfl, rfl⟩
  try simp only [Act.put, List.setIfInBounds_toArray, List.set_cons_zero, List.set_cons_succ]
  refine wpAnyH_take (i := 4) (oi := ?ocaseF0115o) (v := undef) ?ocaseF0115h (by kernel_rfl) (by kernel_rfl) (by kernel_rfl) ?ocaseF0115q ?ocaseF0115y hHeld ?ocaseF0115r
  case ocaseF0115h => (simp only [List.getElem?_toArray, List.getElem?_cons_succ, List.getElem?_cons_zero]; rfl)
  case ocaseF0115q => exact fun _ _ _ h => h
  case ocaseF0115y => exact Or.inr ⟨by first | kernel_rfl | rfl, rfl⟩
  try simp only [Act.put, List.setIfInBounds_toArray, List.set_cons_zero, List.set_cons_succ]
  refine wpAnyH_take (i := 5) (oi := ?ocaseF0116o) (v := undef) ?ocaseF0116h (by kernel_rfl) (by kernel_rfl) (by kernel_rfl) ?ocaseF0116q ?ocaseF0116y hHeld ?ocaseF0116r
  case ocaseF0116h => (simp only [List.getElem?_toArray, List.getElem?_cons_succ, List.getElem?_cons_zero]; rfl)
  case ocaseF0116q => exact fun _ _ _ h => h
  case ocaseF0116y => exact Or.inr ⟨by first | kernel_rfl | rfl, rfl⟩
  try simp only [Act.put, List.setIfInBounds_toArray, List.set_cons_zero, List.set_cons_succ]
  refine wpAnyH_take (i := 6) (oi := ?ocaseF0117o) (v := undef) ?ocaseF0117h (by kernel_rfl) (by kernel_rfl) (by kernel_rfl) ?ocaseF0117q ?ocaseF0117y hHeld ?ocaseF0117r
  case ocaseF0117h => (simp only [List.getElem?_toArray, List.getElem?_cons_succ, List.getElem?_cons_zero]; rfl)
  case ocaseF0117q => exact fun _ _ _ h => h
  case ocaseF0117y => exact Or.inr ⟨by first | kernel_rfl | rfl, rfl⟩
  try simp only [Act.put, List.setIfInBounds_toArray, List.set_cons_zero, List.set_cons_succ]
  refine wpAnyH_take (i := 7) (oi := ?ocaseF0118o) (v := undef) ?ocaseF0118h (by kernel_rfl) (by kernel_rfl) (by kernel_rfl) ?ocaseF0118q ?ocaseF0118y hHeld ?ocaseF0118r
  case ocaseF0118h => (simp only [List.getElem?_toArray, List.getElem?_cons_succ, List.getElem?_cons_zero]; rfl)
  case ocaseF0118q => exact fun _ _ _ h => h
  case ocaseF0118y => exact Or.inr ⟨by first | kernel_rfl | rfl, rfl⟩
  try simp only [Act.put, List.setIfInBounds_toArray, List.set_cons_zero, List.set_cons_succ]
  refine wpAnyH_take (i := 8) (oi := ?ocaseF0119o) (v := undef) ?ocaseF0119h (by kernel_rfl) (by kernel_rfl) (by kernel_rfl) ?ocaseF0119q ?ocaseF0119y hHeld ?ocaseF0119r
  case ocaseF0119h => (simp only [List.getElem?_toArray, List.getElem?_cons_succ, List.getElem?_cons_zero]; rfl)
  case ocaseF0119q => exact fun _ _ _ h => h
  case ocaseF0119y => exact Or.inr ⟨by first | kernel_rfl | rfl, rfl⟩
  try simp only [Act.put, List.setIfInBounds_toArray, List.set_cons_zero, List.set_cons_succ]
  refine wpAnyH_take (i := 9) (oi := ?ocaseF01110o) (v := undef) ?ocaseF01110h (by kernel_rfl) (by kernel_rfl) (by kernel_rfl) ?ocaseF01110q ?ocaseF01110y hHeld ?ocaseF01110r
  case ocaseF01110h => (simp only [List.getElem?_toArray, List.getElem?_cons_succ, List.getElem?_cons_zero]; rfl)
  case ocaseF01110q => exact fun _ _ _ h => h
  case ocaseF01110y => exact Or.inr ⟨by first | kernel_rfl | rfl, rfl⟩
  try simp only [Act.put, List.setIfInBounds_toArray, List.set_cons_zero, List.set_cons_succ]
  refine wpAnyH_take (i := 10) (oi := ?ocaseF01111o) (v := undef) ?ocaseF01111h (by kernel_rfl) (by kernel_rfl) (by kernel_rfl) ?ocaseF01111q ?ocaseF01111y hHeld ?ocaseF01111r
  case ocaseF01111h => (simp only [List.getElem?_toArray, List.getElem?_cons_succ, List.getElem?_cons_zero]; rfl)
  case ocaseF01111q => exact fun _ _ _ h => h
  case ocaseF01111y => exact Or.inr ⟨by first | kernel_rfl | rfl, rfl⟩
  try simp only [Act.put, List.setIfInBounds_toArray, List.set_cons_zero, List.set_cons_succ]
  refine wpAnyH_take (i := 11) (oi := ?ocaseF01112o) (v := ?ocaseF01112v) ?ocaseF01112h (by kernel_rfl) (by kernel_rfl) (by kernel_rfl) ?ocaseF01112q ?ocaseF01112y hHeld ?ocaseF01112r
  case ocaseF01112h => (simp only [List.getElem?_toArray, List.getElem?_cons_succ, List.getElem?_cons_zero]; rfl)
  case ocaseF01112q => exact fun _ _ _ h => h
  case ocaseF01112y => (refine Or.inl ⟨by first | kernel_rfl | rfl, ?_⟩; intro w hSw; (try dsimp only at hSw); obtain ⟨⟨x0, x1, x2, x3, x4, x5, y0, y1, y2, y3, y4, y5, z0, z1, z2, z3, z4, z5⟩, -⟩ := hSw; go_simp <;> (try with_reducible rfl))
  try simp only [Act.put, List.setIfInBounds_toArray, List.set_cons_zero, List.set_cons_succ]
  refine wpAnyH_take (i := 12) (oi := ?ocaseF01113o) (v := ?ocaseF01113v) ?ocaseF01113h (by kernel_rfl) (by kernel_rfl) (by kernel_rfl) ?ocaseF01113q ?ocaseF01113y hHeld ?ocaseF01113r
  case ocaseF01113h => (simp only [List.getElem?_toArray, List.getElem?_cons_succ, List.getElem?_cons_zero]; rfl)
  case ocaseF01113q => exact fun _ _ _ h => h
  case ocaseF01113y => (refine Or.inl ⟨by first | kernel_rfl | rfl, ?_⟩; intro w hSw; (try dsimp only at hSw); obtain ⟨⟨x0, x1, x2, x3, x4, x5, y0, y1, y2, y3, y4, y5, z0, z1, z2, z3, z4, z5⟩, -⟩ := hSw; go_simp <;> (try with_reducible rfl))
  try simp only [Act.put, List.setIfInBounds_toArray, List.set_cons_zero, List.set_cons_succ]
  refine wpAnyH_take (i := 13) (oi := ?ocaseF01114o) (v := undef) ?ocaseF01114h (by kernel_rfl) (by kernel_rfl) (by kernel_rfl) ?ocaseF01114q ?ocaseF01114y hHeld ?ocaseF01114r
  case ocaseF01114h => (simp only [List.getElem?_toArray, List.getElem?_cons_succ, List.getElem?_cons_zero]; rfl)
  case ocaseF01114q => exact fun _ _ _ h => h
  case ocaseF01114y => exact Or.inr ⟨by first | kernel_rfl | rfl, rfl⟩
  try simp only [Act.put, List.setIfInBounds_toArray, List.set_cons_zero, List.set_cons_succ]
  refine wpAnyH_take (i := 14) (oi := ?ocaseF01115o) (v := undef) ?ocaseF01115h (by kernel_rfl) (by kernel_rfl) (by kernel_rfl) ?ocaseF01115q ?ocaseF01115y hHeld ?ocaseF01115r
  case ocaseF01115h => (simp only [List.getElem?_toArray, List.getElem?_cons_succ, List.getElem?_cons_zero]; rfl)
  case ocaseF01115q => exact fun _ _ _ h => h
  case ocaseF01115y => exact Or.inr ⟨by first | kernel_rfl | rfl, rfl⟩
  try simp only [Act.put, List.setIfInBounds_toArray, List.set_cons_zero, List.set_cons_succ]
  refine wpAnyH_take (i := 15) (oi := ?ocaseF01116o) (v := undef) ?ocaseF01116h (by kernel_rfl) (by kernel_rfl) (by kernel_rfl) ?ocaseF01116q ?ocaseF01116y hHeld ?ocaseF01116r
  case ocaseF01116h => (simp only [List.getElem?_toArray, List.getElem?_cons_succ, List.getElem?_cons_zero]; rfl)
  case ocaseF01116q => exact fun _ _ _ h => h
  case ocaseF01116y => exact Or.inr ⟨by first | kernel_rfl | rfl, rfl⟩
  try simp only [Act.put, List.setIfInBounds_toArray, List.set_cons_zero, List.set_cons_succ]
  refine wpAnyH_take (i := 16) (oi := ?ocaseF01117o) (v := undef) ?ocaseF01117h (by kernel_rfl) (by kernel_rfl) (by kernel_rfl) ?ocaseF01117q ?ocaseF01117y hHeld ?ocaseF01117r
  case ocaseF01117h => (simp only [List.getElem?_toArray, List.getElem?_cons_succ, List.getElem?_cons_zero]; rfl)
  case ocaseF01117q => exact fun _ _ _ h => h
  case ocaseF01117y => exact Or.inr ⟨by first | kernel_rfl | rfl, rfl⟩
  try simp only [Act.put, List.setIfInBounds_toArray, List.set_cons_zero, List.set_cons_succ]
  refine wpAnyH_take (i := 17) (oi := ?ocaseF01118o) (v := undef) ?ocaseF01118h (by kernel_rfl) (by kernel_rfl) (by kernel_rfl) ?ocaseF01118q ?ocaseF01118y hHeld ?ocaseF01118r
  case ocaseF01118h => (simp only [List.getElem?_toArray, List.getElem?_cons_succ, List.getElem?_cons_zero]; rfl)
  case ocaseF01118q => exact fun _ _ _ h => h
  case ocaseF01118y => exact Or.inr ⟨by first | kernel_rfl | rfl, rfl⟩
  try simp only [Act.put, List.setIfInBounds_toArray, List.set_cons_zero, List.set_cons_succ]
  refine wpAnyH_take (i := 18) (oi := ?ocaseF01119o) (v := undef) ?ocaseF01119h (by kernel_rfl) (by kernel_rfl) (by kernel_rfl) ?ocaseF01119q ?ocaseF01119y hHeld ?ocaseF01119r
  case ocaseF01119h => (simp only [List.getElem?_toArray, List.getElem?_cons_succ, List.getElem?_cons_zero]; rfl)
  case ocaseF01119q => exact fun _ _ _ h => h
  case ocaseF01119y => exact Or.inr ⟨by first | kernel_rfl | rfl, rfl⟩
  try simp only [Act.put, List.setIfInBounds_toArray, List.set_cons_zero, List.set_cons_succ]
  refine wpAnyH_take (i := 19) (oi := ?ocaseF01120o) (v := undef) ?ocaseF01120h (by kernel_rfl) (by kernel_rfl) (by kernel_rfl) ?ocaseF01120q ?ocaseF01120y hHeld ?ocaseF01120r
  case ocaseF01120h => (simp only [List.getElem?_toArray, List.getElem?_cons_succ, List.getElem?_cons_zero]; rfl)
  case ocaseF01120q => exact fun _ _ _ h => h
  case ocaseF01120y => exact Or.inr ⟨by first | kernel_rfl | rfl, rfl⟩
  try simp only [Act.put, List.setIfInBounds_toArray, List.set_cons_zero, List.set_cons_succ]
  refine wpAnyH_take (i := 20) (oi := ?ocaseF01121o) (v := ?ocaseF01121v) ?ocaseF01121h (by kernel_rfl) (by kernel_rfl) (by kernel_rfl) ?ocaseF01121q ?ocaseF01121y hHeld ?ocaseF01121r
  case ocaseF01121h => (simp only [List.getElem?_toArray, List.getElem?_cons_succ, List.getElem?_cons_zero]; rfl)
  case ocaseF01121q => exact fun _ _ _ h => h
  case ocaseF01121y => (refine Or.inl ⟨by first | kernel_rfl | rfl, ?_⟩; intro w hSw; (try dsimp only at hSw); obtain ⟨⟨x0, x1, x2, x3, x4, x5, y0, y1, y2, y3, y4, y5, z0, z1, z2, z3, z4, z5⟩, -⟩ := hSw; go_simp <;> (try with_reducible rfl))
  try simp only [Act.put, List.setIfInBounds_toArray, List.set_cons_zero, List.set_cons_succ]
  refine wpAnyH_take (i := 21) (oi := ?ocaseF01122o) (v := ?ocaseF01122v) ?ocaseF01122h (by kernel_rfl) (by kernel_rfl) (by kernel_rfl) ?ocaseF01122q ?ocaseF01122y hHeld ?ocaseF01122r
  case ocaseF01122h => (simp only [List.getElem?_toArray, List.getElem?_cons_succ, List.getElem?_cons_zero]; rfl)
  case ocaseF01122q => exact fun _ _ _ h => h
  case ocaseF01122y => (refine Or.inl ⟨by first | kernel_rfl | rfl, ?_⟩; intro w hSw; (try dsimp only at hSw); obtain ⟨⟨x0, x1, x2, x3, x4, x5, y0, y1, y2, y3, y4, y5, z0, z1, z2, z3, z4, z5⟩, -⟩ := hSw; go_simp <;> (try with_reducible rfl))
  try simp only [Act.put, List.setIfInBounds_toArray, List.set_cons_zero, List.set_cons_succ]
  refine wpAnyH_done (by kernel_rfl) ?_ _
  have hbel := hHeld.bel
  go_wp2
  go_ret
  exact ⟨rfl, hbel⟩

set_option maxHeartbeats 8000000 in
theorem caseF1 (a b c : Pt) (h1 : a.s = b.s) (h : a.before b = false) (k : b.before a = true) : Rest a b c := by
  intro a0 b0 c0 w hfew
  have hp : ¬ (a.s = b.s ∧ a.t = b.t) := fun e => by rw [before_s h1.symm] at k; have k := of_decide_eq_true k; omega
  have hs := seq_eq h1
  have ht : (a.t == b.t) = false := by rw [before_s h1.symm] at k; have k := of_decide_eq_true k; simp; omega
  have kab := fun w => before_is a b false w (Lib.hid h)
  have kba := fun w => before_is b a true w (Lib.hid k)
  have jab := fun w => newer_is a b false w (Lib.hid (newer_no hp))
  have jba := fun w => newer_is b a false w (Lib.hid (newer_no fun e => hp ⟨e.1.symm, e.2.symm⟩))
  unfold ptV at kab kba jab jba
  clear h k hp h1
  have H0a := (PHeld.new w a0).keep (bel_new ((Below.refl _ _).alloc (Nat.le_refl _) (.cells #[.string b0.s, .int .i64 b0.t, .int .i64 b0.v, .int .i64 b0.st.c, .int .i64 b0.st.s, .int .i64 b0.st.q] 34)) (.cells #[.string c0.s, .int .i64 c0.t, .int .i64 c0.v, .int .i64 c0.st.c, .int .i64 c0.st.s, .int .i64 c0.st.q] 34))
  have H0b := (PHeld.new (w.alloc (.cells #[.string a0.s, .int .i64 a0.t, .int .i64 a0.v, .int .i64 a0.st.c, .int .i64 a0.st.s, .int .i64 a0.st.q] 34)) b0).keep ((Below.refl _ _).alloc (Nat.le_refl _) (.cells #[.string c0.s, .int .i64 c0.t, .int .i64 c0.v, .int .i64 c0.st.c, .int .i64 c0.st.s, .int .i64 c0.st.q] 34))
  have H0c := PHeld.new ((w.alloc (.cells #[.string a0.s, .int .i64 a0.t, .int .i64 a0.v, .int .i64 a0.st.c, .int .i64 a0.st.s, .int .i64 a0.st.q] 34)).alloc (.cells #[.string b0.s, .int .i64 b0.t, .int .i64 b0.v, .int .i64 b0.st.c, .int .i64 b0.st.s, .int .i64 b0.st.q] 34)) c0
  simp only [World.size_alloc] at H0b H0c
  have HF := Lib.hid hfew
  unfold ptV
  clear hfew
  go_enter Try.func7, Try.ntmps7
  go_wp2_with (first
    | (go_at_call 9; (with_reducible refine (awake_any _).mono ?_); rintro e w1 ⟨rfl, hb⟩; have Ha := H0a.keep hb; have Hb := H0b.keep hb; have Hc := H0c.keep hb; obtain ⟨⟨x0, x1, x2, x3, x4, x5⟩, -⟩ := Ha; obtain ⟨⟨y0, y1, y2, y3, y4, y5⟩, -⟩ := Hb; obtain ⟨⟨z0, z1, z2, z3, z4, z5⟩, -⟩ := Hc; have HB := H0a.bel.trans (hb.mono (by simp; omega)))
    | (go_at_call 26; (with_reducible refine (few3 a0 b0 c0 _).mono ?_); rintro e w2 ⟨v, rfl, hR, hb2⟩; rw [HF.out] at hR; obtain ⟨g, cap, rfl, hT⟩ := tri_of hR; have HH : OHeld w g a b c w2 := ⟨hT, bel_next (bel_new HB _) hb2⟩))
  clear H0a H0b H0c HB hb2 hb hT hR HF x0 x1 x2 x3 x4 x5 y0 y1 y2 y3 y4 y5 z0 z1 z2 z3 z4 z5
  go_wp2_with fail
  refine wp_region_held_drew (S := (OHeld w g a b c)) (by kernel_rfl) HH.drew (fun hHeld => ?_)
  refine wpAnyH_take (i := 0) (oi := ?ocaseF131o) (v := ?ocaseF131v) ?ocaseF131h (by kernel_rfl) (by kernel_rfl) (by kernel_rfl) ?ocaseF131q ?ocaseF131y hHeld ?ocaseF131r
  case ocaseF131h => (simp only [List.getElem?_toArray, List.getElem?_cons_zero]; rfl)
  case ocaseF131q => exact fun _ _ _ h => h
  case ocaseF131y => (refine Or.inl ⟨by first | kernel_rfl | rfl, ?_⟩; intro w hSw; (try dsimp only at hSw); obtain ⟨⟨x0, x1, x2, x3, x4, x5, y0, y1, y2, y3, y4, y5, z0, z1, z2, z3, z4, z5⟩, -⟩ := hSw; go_simp <;> (try with_reducible rfl))
  try simp only [Act.put, List.setIfInBounds_toArray, List.set_cons_zero, List.set_cons_succ]
  refine wpAnyH_take (i := 1) (oi := ?ocaseF132o) (v := ?ocaseF132v) ?ocaseF132h (by kernel_rfl) (by kernel_rfl) (by kernel_rfl) ?ocaseF132q ?ocaseF132y hHeld ?ocaseF132r
  case ocaseF132h => (simp only [List.getElem?_toArray, List.getElem?_cons_succ, List.getElem?_cons_zero]; rfl)
  case ocaseF132q => exact fun _ _ _ h => h
  case ocaseF132y => (refine Or.inl ⟨by first | kernel_rfl | rfl, ?_⟩; intro w hSw; (try dsimp only at hSw); obtain ⟨⟨x0, x1, x2, x3, x4, x5, y0, y1, y2, y3, y4, y5, z0, z1, z2, z3, z4, z5⟩, -⟩ := hSw; go_simp <;> (try with_reducible rfl))
  try simp only [Act.put, List.setIfInBounds_toArray, List.set_cons_zero, List.set_cons_succ]
  refine wpAnyH_take (i := 2) (oi := ?ocaseF133o) (v := ?ocaseF133v) ?ocaseF133h (by kernel_rfl) (by kernel_rfl) (by kernel_rfl) ?ocaseF133q ?ocaseF133y hHeld ?ocaseF133r
  case ocaseF133h => (simp only [List.getElem?_toArray, List.getElem?_cons_succ, List.getElem?_cons_zero]; rfl)
  case ocaseF133q => exact fun _ _ _ h => h
  case ocaseF133y => (refine Or.inl ⟨by first | kernel_rfl | rfl, ?_⟩; intro w hSw; (try dsimp only at hSw); obtain ⟨⟨x0, x1, x2, x3, x4, x5, y0, y1, y2, y3, y4, y5, z0, z1, z2, z3, z4, z5⟩, -⟩ := hSw; go_simp <;> (try with_reducible rfl))
  try simp only [Act.put, List.setIfInBounds_toArray, List.set_cons_zero, List.set_cons_succ]
  refine wpAnyH_take (i := 3) (oi := ?ocaseF134o) (v := ?ocaseF134v) ?ocaseF134h (by kernel_rfl) (by kernel_rfl) (by kernel_rfl) ?ocaseF134q ?ocaseF134y hHeld ?ocaseF134r
  case ocaseF134h => (simp only [List.getElem?_toArray, List.getElem?_cons_succ, List.getElem?_cons_zero]; rfl)
  case ocaseF134q => exact fun _ _ _ h => h
  case ocaseF134y => (refine Or.inl ⟨by first | kernel_rfl | rfl, ?_⟩; intro w hSw; (try dsimp only at hSw); obtain ⟨⟨x0, x1, x2, x3, x4, x5, y0, y1, y2, y3, y4, y5, z0, z1, z2, z3, z4, z5⟩, -⟩ := hSw; go_simp <;> (try with_reducible rfl))
  try simp only [Act.put, List.setIfInBounds_toArray, List.set_cons_zero, List.set_cons_succ]
  refine wpAnyH_take (i := 4) (oi := ?ocaseF135o) (v := ?ocaseF135v) ?ocaseF135h (by kernel_rfl) (by kernel_rfl) (by kernel_rfl) ?ocaseF135q ?ocaseF135y hHeld ?ocaseF135r
  case ocaseF135h => (simp only [List.getElem?_toArray, List.getElem?_cons_succ, List.getElem?_cons_zero]; rfl)
  case ocaseF135q => exact fun _ _ _ h => h
  case ocaseF135y => (refine Or.inl ⟨by first | kernel_rfl | rfl, ?_⟩; intro w hSw; (try dsimp only at hSw); obtain ⟨⟨x0, x1, x2, x3, x4, x5, y0, y1, y2, y3, y4, y5, z0, z1, z2, z3, z4, z5⟩, -⟩ := hSw; go_simp <;> (try with_reducible rfl))
  try simp only [Act.put, List.setIfInBounds_toArray, List.set_cons_zero, List.set_cons_succ]
  refine wpAnyH_take (i := 5) (oi := ?ocaseF136o) (v := ?ocaseF136v) ?ocaseF136h (by kernel_rfl) (by kernel_rfl) (by kernel_rfl) ?ocaseF136q ?ocaseF136y hHeld ?ocaseF136r
  case ocaseF136h => (simp only [List.getElem?_toArray, List.getElem?_cons_succ, List.getElem?_cons_zero]; rfl)
  case ocaseF136q => exact fun _ _ _ h => h
  case ocaseF136y => (refine Or.inl ⟨by first | kernel_rfl | rfl, ?_⟩; intro w hSw; (try dsimp only at hSw); obtain ⟨⟨x0, x1, x2, x3, x4, x5, y0, y1, y2, y3, y4, y5, z0, z1, z2, z3, z4, z5⟩, -⟩ := hSw; go_simp <;> (try with_reducible rfl))
  try simp only [Act.put, List.setIfInBounds_toArray, List.set_cons_zero, List.set_cons_succ]
  refine wpAnyH_ready (rs := [6]) (by kernel_rfl) (by simp) ?_
  refine (AllReadyH.cons rfl (fun K hK => ?_) AllReadyH.nil)
  go_simp
  ((with_reducible refine (kab _).mono ?_); rintro e w' ⟨rfl, hb'⟩)
  refine hK.out _ _ (hHeld.keep hb') (fun hHeld => ?_)
  clear hK K
  try simp only [Act.put, List.setIfInBounds_toArray, List.set_cons_zero, List.set_cons_succ]
  refine wpAnyH_take (i := 7) (oi := ?ocaseF137o) (v := ?ocaseF137v) ?ocaseF137h (by kernel_rfl) (by kernel_rfl) (by kernel_rfl) ?ocaseF137q ?ocaseF137y hHeld ?ocaseF137r
  case ocaseF137h => (simp only [List.getElem?_toArray, List.getElem?_cons_succ, List.getElem?_cons_zero]; rfl)
  case ocaseF137q => exact fun _ _ _ h => h
  case ocaseF137y => (refine Or.inl ⟨by first | kernel_rfl | rfl, ?_⟩; intro w hSw; (try dsimp only at hSw); obtain ⟨⟨x0, x1, x2, x3, x4, x5, y0, y1, y2, y3, y4, y5, z0, z1, z2, z3, z4, z5⟩, -⟩ := hSw; go_simp <;> (try with_reducible rfl))
  try simp only [Act.put, List.setIfInBounds_toArray, List.set_cons_zero, List.set_cons_succ]
  refine wpAnyH_done (by kernel_rfl) ?_ _
  go_wp2_with fail
  refine wp_region_held_drew (S := (OHeld w g a b c)) (by kernel_rfl) hHeld.drew (fun hHeld => ?_)
  refine wpAnyH_take (i := 0) (oi := ?ocaseF141o) (v := ?ocaseF141v) ?ocaseF141h (by kernel_rfl) (by kernel_rfl) (by kernel_rfl) ?ocaseF141q ?ocaseF141y hHeld ?ocaseF141r
  case ocaseF141h => (simp only [List.getElem?_toArray, List.getElem?_cons_zero]; rfl)
  case ocaseF141q => exact fun _ _ _ h => h
  case ocaseF141y => (refine Or.inl ⟨by first | kernel_rfl | rfl, ?_⟩; intro w hSw; (try dsimp only at hSw); obtain ⟨⟨x0, x1, x2, x3, x4, x5, y0, y1, y2, y3, y4, y5, z0, z1, z2, z3, z4, z5⟩, -⟩ := hSw; go_simp <;> (try with_reducible rfl))
  try simp only [Act.put, List.setIfInBounds_toArray, List.set_cons_zero, List.set_cons_succ]
  refine wpAnyH_take (i := 1) (oi := ?ocaseF142o) (v := ?ocaseF142v) ?ocaseF142h (by kernel_rfl) (by kernel_rfl) (by kernel_rfl) ?ocaseF142q ?ocaseF142y hHeld ?ocaseF142r
  case ocaseF142h => (simp only [List.getElem?_toArray, List.getElem?_cons_succ, List.getElem?_cons_zero]; rfl)
  case ocaseF142q => exact fun _ _ _ h => h
  case ocaseF142y => (refine Or.inl ⟨by first | kernel_rfl | rfl, ?_⟩; intro w hSw; (try dsimp only at hSw); obtain ⟨⟨x0, x1, x2, x3, x4, x5, y0, y1, y2, y3, y4, y5, z0, z1, z2, z3, z4, z5⟩, -⟩ := hSw; go_simp <;> (try with_reducible rfl))
  try simp only [Act.put, List.setIfInBounds_toArray, List.set_cons_zero, List.set_cons_succ]
  refine wpAnyH_take (i := 2) (oi := ?ocaseF143o) (v := ?ocaseF143v) ?ocaseF143h (by kernel_rfl) (by kernel_rfl) (by kernel_rfl) ?ocaseF143q ?ocaseF143y hHeld ?ocaseF143r
  case ocaseF143h => (simp only [List.getElem?_toArray, List.getElem?_cons_succ, List.getElem?_cons_zero]; rfl)
  case ocaseF143q => exact fun _ _ _ h => h
  case ocaseF143y => (refine Or.inl ⟨by first | kernel_rfl | rfl, ?_⟩; intro w hSw; (try dsimp only at hSw); obtain ⟨⟨x0, x1, x2, x3, x4, x5, y0, y1, y2, y3, y4, y5, z0, z1, z2, z3, z4, z5⟩, -⟩ := hSw; go_simp <;> (try with_reducible rfl))
  try simp only [Act.put, List.setIfInBounds_toArray, List.set_cons_zero, List.set_cons_succ]
  refine wpAnyH_take (i := 3) (oi := ?ocaseF144o) (v := ?ocaseF144v) ?ocaseF144h (by kernel_rfl) (by kernel_rfl) (by kernel_rfl) ?ocaseF144q ?ocaseF144y hHeld ?ocaseF144r
  case ocaseF144h => (simp only [List.getElem?_toArray, List.getElem?_cons_succ, List.getElem?_cons_zero]; rfl)
  case ocaseF144q => exact fun _ _ _ h => h
  case ocaseF144y => (refine Or.inl ⟨by first | kernel_rfl | rfl, ?_⟩; intro w hSw; (try dsimp only at hSw); obtain ⟨⟨x0, x1, x2, x3, x4, x5, y0, y1, y2, y3, y4, y5, z0, z1, z2, z3, z4, z5⟩, -⟩ := hSw; go_simp <;> (try with_reducible rfl))
  try simp only [Act.put, List.setIfInBounds_toArray, List.set_cons_zero, List.set_cons_succ]
  refine wpAnyH_take (i := 4) (oi := ?ocaseF145o) (v := ?ocaseF145v) ?ocaseF145h (by kernel_rfl) (by kernel_rfl) (by kernel_rfl) ?ocaseF145q ?ocaseF145y hHeld ?ocaseF145r
  case ocaseF145h => (simp only [List.getElem?_toArray, List.getElem?_cons_succ, List.getElem?_cons_zero]; rfl)
  case ocaseF145q => exact fun _ _ _ h => h
  case ocaseF145y => (refine Or.inl ⟨by first | kernel_rfl | rfl, ?_⟩; intro w hSw; (try dsimp only at hSw); obtain ⟨⟨x0, x1, x2, x3, x4, x5, y0, y1, y2, y3, y4, y5, z0, z1, z2, z3, z4, z5⟩, -⟩ := hSw; go_simp <;> (try with_reducible rfl))
  try simp only [Act.put, List.setIfInBounds_toArray, List.set_cons_zero, List.set_cons_succ]
  refine wpAnyH_take (i := 5) (oi := ?ocaseF146o) (v := ?ocaseF146v) ?ocaseF146h (by kernel_rfl) (by kernel_rfl) (by kernel_rfl) ?ocaseF146q ?ocaseF146y hHeld ?ocaseF146r
  case ocaseF146h => (simp only [List.getElem?_toArray, List.getElem?_cons_succ, List.getElem?_cons_zero]; rfl)
  case ocaseF146q => exact fun _ _ _ h => h
  case ocaseF146y => (refine Or.inl ⟨by first | kernel_rfl | rfl, ?_⟩; intro w hSw; (try dsimp only at hSw); obtain ⟨⟨x0, x1, x2, x3, x4, x5, y0, y1, y2, y3, y4, y5, z0, z1, z2, z3, z4, z5⟩, -⟩ := hSw; go_simp <;> (try with_reducible rfl))
  try simp only [Act.put, List.setIfInBounds_toArray, List.set_cons_zero, List.set_cons_succ]
  refine wpAnyH_ready (rs := [6]) (by kernel_rfl) (by simp) ?_
  refine (AllReadyH.cons rfl (fun K hK => ?_) AllReadyH.nil)
  go_simp
  ((with_reducible refine (kba _).mono ?_); rintro e w' ⟨rfl, hb'⟩)
  refine hK.out _ _ (hHeld.keep hb') (fun hHeld => ?_)
  clear hK K
  try simp only [Act.put, List.setIfInBounds_toArray, List.set_cons_zero, List.set_cons_succ]
  refine wpAnyH_take (i := 7) (oi := ?ocaseF147o) (v := ?ocaseF147v) ?ocaseF147h (by kernel_rfl) (by kernel_rfl) (by kernel_rfl) ?ocaseF147q ?ocaseF147y hHeld ?ocaseF147r
  case ocaseF147h => (simp only [List.getElem?_toArray, List.getElem?_cons_succ, List.getElem?_cons_zero]; rfl)
  case ocaseF147q => exact fun _ _ _ h => h
  case ocaseF147y => (refine Or.inl ⟨by first | kernel_rfl | rfl, ?_⟩; intro w hSw; (try dsimp only at hSw); obtain ⟨⟨x0, x1, x2, x3, x4, x5, y0, y1, y2, y3, y4, y5, z0, z1, z2, z3, z4, z5⟩, -⟩ := hSw; go_simp <;> (try with_reducible rfl))
  try simp only [Act.put, List.setIfInBounds_toArray, List.set_cons_zero, List.set_cons_succ]
  refine wpAnyH_done (by kernel_rfl) ?_ _
  have H4 := hHeld
  have G := hHeld
  obtain ⟨⟨x0, x1, x2, x3, x4, x5, y0, y1, y2, y3, y4, y5, z0, z1, z2, z3, z4, z5⟩, -⟩ := G
  clear hHeld
  go_wp2_with fail
  go_quiet (fail)
  have HP := H4.drewN (n := nq)
  skip
  go_wp2_with fail
  refine wp_region_held_drew (S := (OHeld w g a b c)) (by kernel_rfl) HP.drew (fun hHeld => ?_)
  refine wpAnyH_take (i := 0) (oi := ?ocaseF161o) (v := ?ocaseF161v) ?ocaseF161h (by kernel_rfl) (by kernel_rfl) (by kernel_rfl) ?ocaseF161q ?ocaseF161y hHeld ?ocaseF161r
  case ocaseF161h => (simp only [List.getElem?_toArray, List.getElem?_cons_zero]; rfl)
  case ocaseF161q => exact fun _ _ _ h => h
  case ocaseF161y => (refine Or.inl ⟨by first | kernel_rfl | rfl, ?_⟩; intro w hSw; (try dsimp only at hSw); obtain ⟨⟨x0, x1, x2, x3, x4, x5, y0, y1, y2, y3, y4, y5, z0, z1, z2, z3, z4, z5⟩, -⟩ := hSw; go_simp <;> (try with_reducible rfl))
  try simp only [Act.put, List.setIfInBounds_toArray, List.set_cons_zero, List.set_cons_succ]
  refine wpAnyH_take (i := 1) (oi := ?ocaseF162o) (v := ?ocaseF162v) ?ocaseF162h (by kernel_rfl) (by kernel_rfl) (by kernel_rfl) ?ocaseF162q ?ocaseF162y hHeld ?ocaseF162r
  case ocaseF162h => (simp only [List.getElem?_toArray, List.getElem?_cons_succ, List.getElem?_cons_zero]; rfl)
  case ocaseF162q => exact fun _ _ _ h => h
  case ocaseF162y => (refine Or.inl ⟨by first | kernel_rfl | rfl, ?_⟩; intro w hSw; (try dsimp only at hSw); obtain ⟨⟨x0, x1, x2, x3, x4, x5, y0, y1, y2, y3, y4, y5, z0, z1, z2, z3, z4, z5⟩, -⟩ := hSw; go_simp <;> (try with_reducible rfl))
  try simp only [Act.put, List.setIfInBounds_toArray, List.set_cons_zero, List.set_cons_succ]
  refine wpAnyH_take (i := 2) (oi := ?ocaseF163o) (v := ?ocaseF163v) ?ocaseF163h (by kernel_rfl) (by kernel_rfl) (by kernel_rfl) ?ocaseF163q ?ocaseF163y hHeld ?ocaseF163r
  case ocaseF163h => (simp only [List.getElem?_toArray, List.getElem?_cons_succ, List.getElem?_cons_zero]; rfl)
  case ocaseF163q => exact fun _ _ _ h => h
  case ocaseF163y => (refine Or.inl ⟨by first | kernel_rfl | rfl, ?_⟩; intro w hSw; (try dsimp only at hSw); obtain ⟨⟨x0, x1, x2, x3, x4, x5, y0, y1, y2, y3, y4, y5, z0, z1, z2, z3, z4, z5⟩, -⟩ := hSw; go_simp <;> (try with_reducible rfl))
  try simp only [Act.put, List.setIfInBounds_toArray, List.set_cons_zero, List.set_cons_succ]
  refine wpAnyH_take (i := 3) (oi := ?ocaseF164o) (v := ?ocaseF164v) ?ocaseF164h (by kernel_rfl) (by kernel_rfl) (by kernel_rfl) ?ocaseF164q ?ocaseF164y hHeld ?ocaseF164r
  case ocaseF164h => (simp only [List.getElem?_toArray, List.getElem?_cons_succ, List.getElem?_cons_zero]; rfl)
  case ocaseF164q => exact fun _ _ _ h => h
  case ocaseF164y => (refine Or.inl ⟨by first | kernel_rfl | rfl, ?_⟩; intro w hSw; (try dsimp only at hSw); obtain ⟨⟨x0, x1, x2, x3, x4, x5, y0, y1, y2, y3, y4, y5, z0, z1, z2, z3, z4, z5⟩, -⟩ := hSw; go_simp <;> (try with_reducible rfl))
  try simp only [Act.put, List.setIfInBounds_toArray, List.set_cons_zero, List.set_cons_succ]
  refine wpAnyH_take (i := 4) (oi := ?ocaseF165o) (v := ?ocaseF165v) ?ocaseF165h (by kernel_rfl) (by kernel_rfl) (by kernel_rfl) ?ocaseF165q ?ocaseF165y hHeld ?ocaseF165r
  case ocaseF165h => (simp only [List.getElem?_toArray, List.getElem?_cons_succ, List.getElem?_cons_zero]; rfl)
  case ocaseF165q => exact fun _ _ _ h => h
  case ocaseF165y => (refine Or.inl ⟨by first | kernel_rfl | rfl, ?_⟩; intro w hSw; (try dsimp only at hSw); obtain ⟨⟨x0, x1, x2, x3, x4, x5, y0, y1, y2, y3, y4, y5, z0, z1, z2, z3, z4, z5⟩, -⟩ := hSw; go_simp <;> (try with_reducible rfl))
  try simp only [Act.put, List.setIfInBounds_toArray, List.set_cons_zero, List.set_cons_succ]
  refine wpAnyH_take (i := 5) (oi := ?ocaseF166o) (v := ?ocaseF166v) ?ocaseF166h (by kernel_rfl) (by kernel_rfl) (by kernel_rfl) ?ocaseF166q ?ocaseF166y hHeld ?ocaseF166r
  case ocaseF166h => (simp only [List.getElem?_toArray, List.getElem?_cons_succ, List.getElem?_cons_zero]; rfl)
  case ocaseF166q => exact fun _ _ _ h => h
  case ocaseF166y => (refine Or.inl ⟨by first | kernel_rfl | rfl, ?_⟩; intro w hSw; (try dsimp only at hSw); obtain ⟨⟨x0, x1, x2, x3, x4, x5, y0, y1, y2, y3, y4, y5, z0, z1, z2, z3, z4, z5⟩, -⟩ := hSw; go_simp <;> (try with_reducible rfl))
  try simp only [Act.put, List.setIfInBounds_toArray, List.set_cons_zero, List.set_cons_succ]
  refine wpAnyH_ready (rs := [6]) (by kernel_rfl) (by simp) ?_
  refine (AllReadyH.cons rfl (fun K hK => ?_) AllReadyH.nil)
  go_simp
  ((with_reducible refine (jab _).mono ?_); rintro e w' ⟨rfl, hb'⟩)
  refine hK.out _ _ (hHeld.keep hb') (fun hHeld => ?_)
  clear hK K
  try simp only [Act.put, List.setIfInBounds_toArray, List.set_cons_zero, List.set_cons_succ]
  refine wpAnyH_take (i := 7) (oi := ?ocaseF167o) (v := ?ocaseF167v) ?ocaseF167h (by kernel_rfl) (by kernel_rfl) (by kernel_rfl) ?ocaseF167q ?ocaseF167y hHeld ?ocaseF167r
  case ocaseF167h => (simp only [List.getElem?_toArray, List.getElem?_cons_succ, List.getElem?_cons_zero]; rfl)
  case ocaseF167q => exact fun _ _ _ h => h
  case ocaseF167y => (refine Or.inl ⟨by first | kernel_rfl | rfl, ?_⟩; intro w hSw; (try dsimp only at hSw); obtain ⟨⟨x0, x1, x2, x3, x4, x5, y0, y1, y2, y3, y4, y5, z0, z1, z2, z3, z4, z5⟩, -⟩ := hSw; go_simp <;> (try with_reducible rfl))
  try simp only [Act.put, List.setIfInBounds_toArray, List.set_cons_zero, List.set_cons_succ]
  refine wpAnyH_done (by kernel_rfl) ?_ _
  go_wp2_with fail
  refine wp_region_held_drew (S := (OHeld w g a b c)) (by kernel_rfl) hHeld.drew (fun hHeld => ?_)
  refine wpAnyH_take (i := 0) (oi := ?ocaseF171o) (v := ?ocaseF171v) ?ocaseF171h (by kernel_rfl) (by kernel_rfl) (by kernel_rfl) ?ocaseF171q ?ocaseF171y hHeld ?ocaseF171r
  case ocaseF171h => (simp only [List.getElem?_toArray, List.getElem?_cons_zero]; rfl)
  case ocaseF171q => exact fun _ _ _ h => h
  case ocaseF171y => (refine Or.inl ⟨by first | kernel_rfl | rfl, ?_⟩; intro w hSw; (try dsimp only at hSw); obtain ⟨⟨x0, x1, x2, x3, x4, x5, y0, y1, y2, y3, y4, y5, z0, z1, z2, z3, z4, z5⟩, -⟩ := hSw; go_simp <;> (try with_reducible rfl))
  try simp only [Act.put, List.setIfInBounds_toArray, List.set_cons_zero, List.set_cons_succ]
  refine wpAnyH_take (i := 1) (oi := ?ocaseF172o) (v := ?ocaseF172v) ?ocaseF172h (by kernel_rfl) (by kernel_rfl) (by kernel_rfl) ?ocaseF172q ?ocaseF172y hHeld ?ocaseF172r
  case ocaseF172h => (simp only [List.getElem?_toArray, List.getElem?_cons_succ, List.getElem?_cons_zero]; rfl)
  case ocaseF172q => exact fun _ _ _ h => h
  case ocaseF172y => (refine Or.inl ⟨by first | kernel_rfl | rfl, ?_⟩; intro w hSw; (try dsimp only at hSw); obtain ⟨⟨x0, x1, x2, x3, x4, x5, y0, y1, y2, y3, y4, y5, z0, z1, z2, z3, z4, z5⟩, -⟩ := hSw; go_simp <;> (try with_reducible rfl))
  try simp only [Act.put, List.setIfInBounds_toArray, List.set_cons_zero, List.set_cons_succ]
  refine wpAnyH_take (i := 2) (oi := ?ocaseF173o) (v := ?ocaseF173v) ?ocaseF173h (by kernel_rfl) (by kernel_rfl) (by kernel_rfl) ?ocaseF173q ?ocaseF173y hHeld ?ocaseF173r
  case ocaseF173h => (simp only [List.getElem?_toArray, List.getElem?_cons_succ, List.getElem?_cons_zero]; rfl)
  case ocaseF173q => exact fun _ _ _ h => h
  case ocaseF173y => (refine Or.inl ⟨by first | kernel_rfl | rfl, ?_⟩; intro w hSw; (try dsimp only at hSw); obtain ⟨⟨x0, x1, x2, x3, x4, x5, y0, y1, y2, y3, y4, y5, z0, z1, z2, z3, z4, z5⟩, -⟩ := hSw; go_simp <;> (try with_reducible rfl))
  try simp only [Act.put, List.setIfInBounds_toArray, List.set_cons_zero, List.set_cons_succ]
  refine wpAnyH_take (i := 3) (oi := ?ocaseF174o) (v := ?ocaseF174v) ?ocaseF174h (by kernel_rfl) (by kernel_rfl) (by kernel_rfl) ?ocaseF174q ?ocaseF174y hHeld ?ocaseF174r
  case ocaseF174h => (simp only [List.getElem?_toArray, List.getElem?_cons_succ, List.getElem?_cons_zero]; rfl)
  case ocaseF174q => exact fun _ _ _ h => h
  case ocaseF174y => (refine Or.inl ⟨by first | kernel_rfl | rfl, ?_⟩; intro w hSw; (try dsimp only at hSw); obtain ⟨⟨x0, x1, x2, x3, x4, x5, y0, y1, y2, y3, y4, y5, z0, z1, z2, z3, z4, z5⟩, -⟩ := hSw; go_simp <;> (try with_reducible rfl))
  try simp only [Act.put, List.setIfInBounds_toArray, List.set_cons_zero, List.set_cons_succ]
  refine wpAnyH_take (i := 4) (oi := ?ocaseF175o) (v := ?ocaseF175v) ?ocaseF175h (by kernel_rfl) (by kernel_rfl) (by kernel_rfl) ?ocaseF175q ?ocaseF175y hHeld ?ocaseF175r
  case ocaseF175h => (simp only [List.getElem?_toArray, List.getElem?_cons_succ, List.getElem?_cons_zero]; rfl)
  case ocaseF175q => exact fun _ _ _ h => h
  case ocaseF175y => (refine Or.inl ⟨by first | kernel_rfl | rfl, ?_⟩; intro w hSw; (try dsimp only at hSw); obtain ⟨⟨x0, x1, x2, x3, x4, x5, y0, y1, y2, y3, y4, y5, z0, z1, z2, z3, z4, z5⟩, -⟩ := hSw; go_simp <;> (try with_reducible rfl))
  try simp only [Act.put, List.setIfInBounds_toArray, List.set_cons_zero, List.set_cons_succ]
  refine wpAnyH_take (i := 5) (oi := ?ocaseF176o) (v := ?ocaseF176v) ?ocaseF176h (by kernel_rfl) (by kernel_rfl) (by kernel_rfl) ?ocaseF176q ?ocaseF176y hHeld ?ocaseF176r
  case ocaseF176h => (simp only [List.getElem?_toArray, List.getElem?_cons_succ, List.getElem?_cons_zero]; rfl)
  case ocaseF176q => exact fun _ _ _ h => h
  case ocaseF176y => (refine Or.inl ⟨by first | kernel_rfl | rfl, ?_⟩; intro w hSw; (try dsimp only at hSw); obtain ⟨⟨x0, x1, x2, x3, x4, x5, y0, y1, y2, y3, y4, y5, z0, z1, z2, z3, z4, z5⟩, -⟩ := hSw; go_simp <;> (try with_reducible rfl))
  try simp only [Act.put, List.setIfInBounds_toArray, List.set_cons_zero, List.set_cons_succ]
  refine wpAnyH_ready (rs := [6]) (by kernel_rfl) (by simp) ?_
  refine (AllReadyH.cons rfl (fun K hK => ?_) AllReadyH.nil)
  go_simp
  ((with_reducible refine (jba _).mono ?_); rintro e w' ⟨rfl, hb'⟩)
  refine hK.out _ _ (hHeld.keep hb') (fun hHeld => ?_)
  clear hK K
  try simp only [Act.put, List.setIfInBounds_toArray, List.set_cons_zero, List.set_cons_succ]
  refine wpAnyH_take (i := 7) (oi := ?ocaseF177o) (v := ?ocaseF177v) ?ocaseF177h (by kernel_rfl) (by kernel_rfl) (by kernel_rfl) ?ocaseF177q ?ocaseF177y hHeld ?ocaseF177r
  case ocaseF177h => (simp only [List.getElem?_toArray, List.getElem?_cons_succ, List.getElem?_cons_zero]; rfl)
  case ocaseF177q => exact fun _ _ _ h => h
  case ocaseF177y => (refine Or.inl ⟨by first | kernel_rfl | rfl, ?_⟩; intro w hSw; (try dsimp only at hSw); obtain ⟨⟨x0, x1, x2, x3, x4, x5, y0, y1, y2, y3, y4, y5, z0, z1, z2, z3, z4, z5⟩, -⟩ := hSw; go_simp <;> (try with_reducible rfl))
  try simp only [Act.put, List.setIfInBounds_toArray, List.set_cons_zero, List.set_cons_succ]
  refine wpAnyH_done (by kernel_rfl) ?_ _
  have H7 := hHeld
  have G := hHeld
  obtain ⟨⟨x0, x1, x2, x3, x4, x5, y0, y1, y2, y3, y4, y5, z0, z1, z2, z3, z4, z5⟩, -⟩ := G
  clear hHeld
  go_wp2_with fail
  go_quiet (fail)
  have HQ := H7.drewN (n := nq)
  skip
  go_wp2_with fail
  refine wp_region_held_drew (S := (OHeld w g a b c)) (by kernel_rfl) HQ.drew (fun hHeld => ?_)
  refine wpAnyH_take (i := 0) (oi := ?ocaseF1101o) (v := ?ocaseF1101v) ?ocaseF1101h (by kernel_rfl) (by kernel_rfl) (by kernel_rfl) ?ocaseF1101q ?ocaseF1101y hHeld ?ocaseF1101r
  case ocaseF1101h => (simp only [List.getElem?_toArray, List.getElem?_cons_zero]; rfl)
  case ocaseF1101q => exact fun _ _ _ h => h
  case ocaseF1101y => (refine Or.inl ⟨by first | kernel_rfl | rfl, ?_⟩; intro w hSw; (try dsimp only at hSw); obtain ⟨⟨x0, x1, x2, x3, x4, x5, y0, y1, y2, y3, y4, y5, z0, z1, z2, z3, z4, z5⟩, -⟩ := hSw; go_simp <;> (try with_reducible rfl))
  try simp only [Act.put, List.setIfInBounds_toArray, List.set_cons_zero, List.set_cons_succ]
  refine wpAnyH_take (i := 1) (oi := ?ocaseF1102o) (v := ?ocaseF1102v) ?ocaseF1102h (by kernel_rfl) (by kernel_rfl) (by kernel_rfl) ?ocaseF1102q ?ocaseF1102y hHeld ?ocaseF1102r
  case ocaseF1102h => (simp only [List.getElem?_toArray, List.getElem?_cons_succ, List.getElem?_cons_zero]; rfl)
  case ocaseF1102q => exact fun _ _ _ h => h
  case ocaseF1102y => (refine Or.inl ⟨by first | kernel_rfl | rfl, ?_⟩; intro w hSw; (try dsimp only at hSw); obtain ⟨⟨x0, x1, x2, x3, x4, x5, y0, y1, y2, y3, y4, y5, z0, z1, z2, z3, z4, z5⟩, -⟩ := hSw; go_simp <;> (try with_reducible rfl))
  try simp only [Act.put, List.setIfInBounds_toArray, List.set_cons_zero, List.set_cons_succ]
  refine wpAnyH_take (i := 2) (oi := ?ocaseF1103o) (v := ?ocaseF1103v) ?ocaseF1103h (by kernel_rfl) (by kernel_rfl) (by kernel_rfl) ?ocaseF1103q ?ocaseF1103y hHeld ?ocaseF1103r
  case ocaseF1103h => (simp only [List.getElem?_toArray, List.getElem?_cons_succ, List.getElem?_cons_zero]; rfl)
  case ocaseF1103q => exact fun _ _ _ h => h
  case ocaseF1103y => (refine Or.inl ⟨by first | kernel_rfl | rfl, ?_⟩; intro w hSw; (try dsimp only at hSw); obtain ⟨⟨x0, x1, x2, x3, x4, x5, y0, y1, y2, y3, y4, y5, z0, z1, z2, z3, z4, z5⟩, -⟩ := hSw; go_simp <;> (try with_reducible rfl))
  try simp only [Act.put, List.setIfInBounds_toArray, List.set_cons_zero, List.set_cons_succ]
  refine wpAnyH_take (i := 3) (oi := ?ocaseF1104o) (v := undef) ?ocaseF1104h (by kernel_rfl) (by kernel_rfl) (by kernel_rfl) ?ocaseF1104q ?ocaseF1104y hHeld ?ocaseF1104r
  case ocaseF1104h => (simp only [List.getElem?_toArray, List.getElem?_cons_succ, List.getElem?_cons_zero]; rfl)
  case ocaseF1104q => exact fun _ _ _ h => h
  case ocaseF1104y => exact Or.inr ⟨by first | kernel_rfl | rfl, rfl⟩
  try simp only [Act.put, List.setIfInBounds_toArray, List.set_cons_zero, List.set_cons_succ]
  refine wpAnyH_take (i := 4) (oi := ?ocaseF1105o) (v := undef) ?ocaseF1105h (by kernel_rfl) (by kernel_rfl) (by kernel_rfl) ?ocaseF1105q ?ocaseF1105y hHeld ?ocaseF1105r
  case ocaseF1105h => (simp only [List.getElem?_toArray, List.getElem?_cons_succ, List.getElem?_cons_zero]; rfl)
  case ocaseF1105q => exact fun _ _ _ h => h
  case ocaseF1105y => exact Or.inr ⟨by first | kernel_rfl | rfl, rfl⟩
  try simp only [Act.put, List.setIfInBounds_toArray, List.set_cons_zero, List.set_cons_succ]
  refine wpAnyH_take (i := 5) (oi := ?ocaseF1106o) (v := undef) ?ocaseF1106h (by kernel_rfl) (by kernel_rfl) (by kernel_rfl) ?ocaseF1106q ?ocaseF1106y hHeld ?ocaseF1106r
  case ocaseF1106h => (simp only [List.getElem?_toArray, List.getElem?_cons_succ, List.getElem?_cons_zero]; rfl)
  case ocaseF1106q => exact fun _ _ _ h => h
  case ocaseF1106y => exact Or.inr ⟨by first | kernel_rfl | rfl, rfl⟩
  try simp only [Act.put, List.setIfInBounds_toArray, List.set_cons_zero, List.set_cons_succ]
  refine wpAnyH_take (i := 6) (oi := ?ocaseF1107o) (v := undef) ?ocaseF1107h (by kernel_rfl) (by kernel_rfl) (by kernel_rfl) ?ocaseF1107q ?ocaseF1107y hHeld ?ocaseF1107r
  case ocaseF1107h => (simp only [List.getElem?_toArray, List.getElem?_cons_succ, List.getElem?_cons_zero]; rfl)
  case ocaseF1107q => exact fun _ _ _ h => h
  case ocaseF1107y => exact Or.inr ⟨by first | kernel_rfl | rfl, rfl⟩
  try simp only [Act.put, List.setIfInBounds_toArray, List.set_cons_zero, List.set_cons_succ]
  refine wpAnyH_take (i := 7) (oi := ?ocaseF1108o) (v := undef) ?ocaseF1108h (by kernel_rfl) (by kernel_rfl) (by kernel_rfl) ?ocaseF1108q ?ocaseF1108y hHeld ?ocaseF1108r
  case ocaseF1108h => (simp only [List.getElem?_toArray, List.getElem?_cons_succ, List.getElem?_cons_zero]; rfl)
  case ocaseF1108q => exact fun _ _ _ h => h
  case ocaseF1108y => exact Or.inr ⟨by first | kernel_rfl | rfl, rfl⟩
  try simp only [Act.put, List.setIfInBounds_toArray, List.set_cons_zero, List.set_cons_succ]
  refine wpAnyH_take (i := 8) (oi := ?ocaseF1109o) (v := undef) ?ocaseF1109h (by kernel_rfl) (by kernel_rfl) (by kernel_rfl) ?ocaseF1109q ?ocaseF1109y hHeld ?ocaseF1109r
  case ocaseF1109h => (simp only [List.getElem?_toArray, List.getElem?_cons_succ, List.getElem?_cons_zero]; rfl)
  case ocaseF1109q => exact fun _ _ _ h => h
  case ocaseF1109y => exact Or.inr ⟨by first | kernel_rfl | rfl, rfl⟩
  try simp only [Act.put, List.setIfInBounds_toArray, List.set_cons_zero, List.set_cons_succ]
  refine wpAnyH_take (i := 9) (oi := ?ocaseF11010o) (v := undef) ?ocaseF11010h (by kernel_rfl) (by kernel_rfl) (by kernel_rfl) ?ocaseF11010q ?ocaseF11010y hHeld ?ocaseF11010r
  case ocaseF11010h => (simp only [List.getElem?_toArray, List.getElem?_cons_succ, List.getElem?_cons_zero]; rfl)
  case ocaseF11010q => exact fun _ _ _ h => h
  case ocaseF11010y => exact Or.inr ⟨by first | kernel_rfl | rfl, rfl⟩
  try simp only [Act.put, List.setIfInBounds_toArray, List.set_cons_zero, List.set_cons_succ]
  refine wpAnyH_take (i := 10) (oi := ?ocaseF11011o) (v := undef) ?ocaseF11011h (by kernel_rfl) (by kernel_rfl) (by kernel_rfl) ?ocaseF11011q ?ocaseF11011y hHeld ?ocaseF11011r
  case ocaseF11011h => (simp only [List.getElem?_toArray, List.getElem?_cons_succ, List.getElem?_cons_zero]; rfl)
  case ocaseF11011q => exact fun _ _ _ h => h
  case ocaseF11011y => exact Or.inr ⟨by first | kernel_rfl | rfl, rfl⟩
  try simp only [Act.put, List.setIfInBounds_toArray, List.set_cons_zero, List.set_cons_succ]
  refine wpAnyH_take (i := 11) (oi := ?ocaseF11012o) (v := ?ocaseF11012v) ?ocaseF11012h (by kernel_rfl) (by kernel_rfl) (by kernel_rfl) ?ocaseF11012q ?ocaseF11012y hHeld ?ocaseF11012r
  case ocaseF11012h => (simp only [List.getElem?_toArray, List.getElem?_cons_succ, List.getElem?_cons_zero]; rfl)
  case ocaseF11012q => exact fun _ _ _ h => h
  case ocaseF11012y => (refine Or.inl ⟨by first | kernel_rfl | rfl, ?_⟩; intro w hSw; (try dsimp only at hSw); obtain ⟨⟨x0, x1, x2, x3, x4, x5, y0, y1, y2, y3, y4, y5, z0, z1, z2, z3, z4, z5⟩, -⟩ := hSw; go_simp <;> (try with_reducible rfl))
  try simp only [Act.put, List.setIfInBounds_toArray, List.set_cons_zero, List.set_cons_succ]
  refine wpAnyH_take (i := 12) (oi := ?ocaseF11013o) (v := ?ocaseF11013v) ?ocaseF11013h (by kernel_rfl) (by kernel_rfl) (by kernel_rfl) ?ocaseF11013q ?ocaseF11013y hHeld ?ocaseF11013r
  case ocaseF11013h => (simp only [List.getElem?_toArray, List.getElem?_cons_succ, List.getElem?_cons_zero]; rfl)
  case ocaseF11013q => exact fun _ _ _ h => h
  case ocaseF11013y => (refine Or.inl ⟨by first | kernel_rfl | rfl, ?_⟩; intro w hSw; (try dsimp only at hSw); obtain ⟨⟨x0, x1, x2, x3, x4, x5, y0, y1, y2, y3, y4, y5, z0, z1, z2, z3, z4, z5⟩, -⟩ := hSw; go_simp <;> (try with_reducible rfl))
  try simp only [Act.put, List.setIfInBounds_toArray, List.set_cons_zero, List.set_cons_succ]
  refine wpAnyH_take (i := 13) (oi := ?ocaseF11014o) (v := undef) ?ocaseF11014h (by kernel_rfl) (by kernel_rfl) (by kernel_rfl) ?ocaseF11014q ?ocaseF11014y hHeld ?ocaseF11014r
  case ocaseF11014h => (simp only [List.getElem?_toArray, List.getElem?_cons_succ, List.getElem?_cons_zero]; rfl)
  case ocaseF11014q => exact fun _ _ _ h => h
  case ocaseF11014y => exact Or.inr ⟨by first | kernel_rfl | rfl, rfl⟩
  try simp only [Act.put, List.setIfInBounds_toArray, List.set_cons_zero, List.set_cons_succ]
  refine wpAnyH_take (i := 14) (oi := ?ocaseF11015o) (v := undef) ?ocaseF11015h (by kernel_rfl) (by kernel_rfl) (by kernel_rfl) ?ocaseF11015q ?ocaseF11015y hHeld ?ocaseF11015r
  case ocaseF11015h => (simp only [List.getElem?_toArray, List.getElem?_cons_succ, List.getElem?_cons_zero]; rfl)
  case ocaseF11015q => exact fun _ _ _ h => h
  case ocaseF11015y => exact Or.inr ⟨by first | kernel_rfl | rfl, rfl⟩
  try simp only [Act.put, List.setIfInBounds_toArray, List.set_cons_zero, List.set_cons_succ]
  refine wpAnyH_take (i := 15) (oi := ?ocaseF11016o) (v := undef) ?ocaseF11016h (by kernel_rfl) (by kernel_rfl) (by kernel_rfl) ?ocaseF11016q ?ocaseF11016y hHeld ?ocaseF11016r
  case ocaseF11016h => (simp only [List.getElem?_toArray, List.getElem?_cons_succ, List.getElem?_cons_zero]; rfl)
  case ocaseF11016q => exact fun _ _ _ h => h
  case ocaseF11016y => exact Or.inr ⟨by first | kernel_rfl | rfl, rfl⟩
  try simp only [Act.put, List.setIfInBounds_toArray, List.set_cons_zero, List.set_cons_succ]
  refine wpAnyH_take (i := 16) (oi := ?ocaseF11017o) (v := undef) ?ocaseF11017h (by kernel_rfl) (by kernel_rfl) (by kernel_rfl) ?ocaseF11017q ?ocaseF11017y hHeld ?ocaseF11017r
  case ocaseF11017h => (simp only [List.getElem?_toArray, List.getElem?_cons_succ, List.getElem?_cons_zero]; rfl)
  case ocaseF11017q => exact fun _ _ _ h => h
  case ocaseF11017y => exact Or.inr ⟨by first | kernel_rfl | rfl, rfl⟩
  try simp only [Act.put, List.setIfInBounds_toArray, List.set_cons_zero, List.set_cons_succ]
  refine wpAnyH_take (i := 17) (oi := ?ocaseF11018o) (v := undef) ?ocaseF11018h (by kernel_rfl) (by kernel_rfl) (by kernel_rfl) ?ocaseF11018q ?ocaseF11018y hHeld ?ocaseF11018r
  case ocaseF11018h => (simp only [List.getElem?_toArray, List.getElem?_cons_succ, List.getElem?_cons_zero]; rfl)
  case ocaseF11018q => exact fun _ _ _ h => h
  case ocaseF11018y => exact Or.inr ⟨by first | kernel_rfl | rfl, rfl⟩
  try simp only [Act.put, List.setIfInBounds_toArray, List.set_cons_zero, List.set_cons_succ]
  refine wpAnyH_take (i := 18) (oi := ?ocaseF11019o) (v := undef) ?ocaseF11019h (by kernel_rfl) (by kernel_rfl) (by kernel_rfl) ?ocaseF11019q ?ocaseF11019y hHeld ?ocaseF11019r
  case ocaseF11019h => (simp only [List.getElem?_toArray, List.getElem?_cons_succ, List.getElem?_cons_zero]; rfl)
  case ocaseF11019q => exact fun _ _ _ h => h
  case ocaseF11019y => exact Or.inr ⟨by first | kernel_rfl | rfl, rfl⟩
  try simp only [Act.put, List.setIfInBounds_toArray, List.set_cons_zero, List.set_cons_succ]
  refine wpAnyH_take (i := 19) (oi := ?ocaseF11020o) (v := undef) ?ocaseF11020h (by kernel_rfl) (by kernel_rfl) (by kernel_rfl) ?ocaseF11020q ?ocaseF11020y hHeld ?ocaseF11020r
  case ocaseF11020h => (simp only [List.getElem?_toArray, List.getElem?_cons_succ, List.getElem?_cons_zero]; rfl)
  case ocaseF11020q => exact fun _ _ _ h => h
  case ocaseF11020y => exact Or.inr ⟨by first | kernel_rfl | rfl, rfl⟩
  try simp only [Act.put, List.setIfInBounds_toArray, List.set_cons_zero, List.set_cons_succ]
  refine wpAnyH_take (i := 20) (oi := ?ocaseF11021o) (v := ?ocaseF11021v) ?ocaseF11021h (by kernel_rfl) (by kernel_rfl) (by kernel_rfl) ?ocaseF11021q ?ocaseF11021y hHeld ?ocaseF11021r
  case ocaseF11021h => (simp only [List.getElem?_toArray, List.getElem?_cons_succ, List.getElem?_cons_zero]; rfl)
  case ocaseF11021q => exact fun _ _ _ h => h
  case ocaseF11021y => (refine Or.inl ⟨by first | kernel_rfl | rfl, ?_⟩; intro w hSw; (try dsimp only at hSw); obtain ⟨⟨x0, x1, x2, x3, x4, x5, y0, y1, y2, y3, y4, y5, z0, z1, z2, z3, z4, z5⟩, -⟩ := hSw; go_simp <;> (try with_reducible rfl))
  try simp only [Act.put, List.setIfInBounds_toArray, List.set_cons_zero, List.set_cons_succ]
  refine wpAnyH_take (i := 21) (oi := ?ocaseF11022o) (v := ?ocaseF11022v) ?ocaseF11022h (by kernel_rfl) (by kernel_rfl) (by kernel_rfl) ?ocaseF11022q ?ocaseF11022y hHeld ?ocaseF11022r
  case ocaseF11022h => (simp only [List.getElem?_toArray, List.getElem?_cons_succ, List.getElem?_cons_zero]; rfl)
  case ocaseF11022q => exact fun _ _ _ h => h
  case ocaseF11022y => (refine Or.inl ⟨by first | kernel_rfl | rfl, ?_⟩; intro w hSw; (try dsimp only at hSw); obtain ⟨⟨x0, x1, x2, x3, x4, x5, y0, y1, y2, y3, y4, y5, z0, z1, z2, z3, z4, z5⟩, -⟩ := hSw; go_simp <;> (try with_reducible rfl))
  try simp only [Act.put, List.setIfInBounds_toArray, List.set_cons_zero, List.set_cons_succ]
  refine wpAnyH_done (by kernel_rfl) ?_ _
  go_wp2_with fail
  refine wp_region_held_drew (S := (OHeld w g a b c)) (by kernel_rfl) hHeld.drew (fun hHeld => ?_)
  refine wpAnyH_take (i := 0) (oi := ?ocaseF1111o) (v := ?ocaseF1111v) ?ocaseF1111h (by kernel_rfl) (by kernel_rfl) (by kernel_rfl) ?ocaseF1111q ?ocaseF1111y hHeld ?ocaseF1111r
  case ocaseF1111h => (simp only [List.getElem?_toArray, List.getElem?_cons_zero]; rfl)
  case ocaseF1111q => exact fun _ _ _ h => h
  case ocaseF1111y => (refine Or.inl ⟨by first | kernel_rfl | rfl, ?_⟩; intro w hSw; (try dsimp only at hSw); obtain ⟨⟨x0, x1, x2, x3, x4, x5, y0, y1, y2, y3, y4, y5, z0, z1, z2, z3, z4, z5⟩, -⟩ := hSw; go_simp <;> (try with_reducible rfl))
  try simp only [Act.put, List.setIfInBounds_toArray, List.set_cons_zero, List.set_cons_succ]
  refine wpAnyH_take (i := 1) (oi := ?ocaseF1112o) (v := ?ocaseF1112v) ?ocaseF1112h (by kernel_rfl) (by kernel_rfl) (by kernel_rfl) ?ocaseF1112q ?ocaseF1112y hHeld ?ocaseF1112r
  case ocaseF1112h => (simp only [List.getElem?_toArray, List.getElem?_cons_succ, List.getElem?_cons_zero]; rfl)
  case ocaseF1112q => exact fun _ _ _ h => h
  case ocaseF1112y => (refine Or.inl ⟨by first | kernel_rfl | rfl, ?_⟩; intro w hSw; (try dsimp only at hSw); obtain ⟨⟨x0, x1, x2, x3, x4, x5, y0, y1, y2, y3, y4, y5, z0, z1, z2, z3, z4, z5⟩, -⟩ := hSw; go_simp <;> (try with_reducible rfl))
  try simp only [Act.put, List.setIfInBounds_toArray, List.set_cons_zero, List.set_cons_succ]
  refine wpAnyH_take (i := 2) (oi := ?ocaseF1113o) (v := ?ocaseF1113v) ?ocaseF1113h (by kernel_rfl) (by kernel_rfl) (by kernel_rfl) ?ocaseF1113q ?ocaseF1113y hHeld ?ocaseF1113r
  case ocaseF1113h => (simp only [List.getElem?_toArray, List.getElem?_cons_succ, List.getElem?_cons_zero]; rfl)
  case ocaseF1113q => exact fun _ _ _ h => h
  case ocaseF1113y => (refine Or.inl ⟨by first | kernel_rfl | rfl, ?_⟩; intro w hSw; (try dsimp only at hSw); obtain ⟨⟨x0, x1, x2, x3, x4, x5, y0, y1, y2, y3, y4, y5, z0, z1, z2, z3, z4, z5⟩, -⟩ := hSw; go_simp <;> (try with_reducible rfl))
  try simp only [Act.put, List.setIfInBounds_toArray, List.set_cons_zero, List.set_cons_succ]
  refine wpAnyH_take (i := 3) (oi := ?ocaseF1114o) (v := undef) ?ocaseF1114h (by kernel_rfl) (by kernel_rfl) (by kernel_rfl) ?ocaseF1114q ?ocaseF1114y hHeld ?ocaseF1114r
  case ocaseF1114h => (simp only [List.getElem?_toArray, List.getElem?_cons_succ, List.getElem?_cons_zero]; rfl)
  case ocaseF1114q => exact fun _ _ _ h => h
  case ocaseF1114y => exact Or.inr ⟨by first | kernel_rfl | rfl, rfl⟩
  try simp only [Act.put, List.setIfInBounds_toArray, List.set_cons_zero, List.set_cons_succ]
  refine wpAnyH_take (i := 4) (oi := ?ocaseF1115o) (v := undef) ?ocaseF1115h (by kernel_rfl) (by kernel_rfl) (by kernel_rfl) ?ocaseF1115q ?ocaseF1115y hHeld ?ocaseF1115r
  case ocaseF1115h => (simp only [List.getElem?_toArray, List.getElem?_cons_succ, List.getElem?_cons_zero]; rfl)
  case ocaseF1115q => exact fun _ _ _ h => h
  case ocaseF1115y => exact Or.inr ⟨by first | kernel_rfl | rfl, rfl⟩
  try simp only [Act.put, List.setIfInBounds_toArray, List.set_cons_zero, List.set_cons_succ]
  refine wpAnyH_take (i := 5) (oi := ?ocaseF1116o) (v := undef) ?ocaseF1116h (by kernel_rfl) (by kernel_rfl) (by kernel_rfl) ?ocaseF1116q ?ocaseF1116y hHeld ?ocaseF1116r
  case ocaseF1116h => (simp only [List.getElem?_toArray, List.getElem?_cons_succ, List.getElem?_cons_zero]; rfl)
  case ocaseF1116q => exact fun _ _ _ h => h
  case ocaseF1116y => exact Or.inr ⟨by first | kernel_rfl | rfl, rfl⟩
  try simp only [Act.put, List.setIfInBounds_toArray, List.set_cons_zero, List.set_cons_succ]
  refine wpAnyH_take (i := 6) (oi := ?ocaseF1117o) (v := undef) ?ocaseF1117h (by kernel_rfl) (by kernel_rfl) (by kernel_rfl) ?ocaseF1117q ?ocaseF1117y hHeld ?ocaseF1117r
  case ocaseF1117h => (simp only [List.getElem?_toArray, List.getElem?_cons_succ, List.getElem?_cons_zero]; rfl)
  case ocaseF1117q => exact fun _ _ _ h => h
  case ocaseF1117y => exact Or.inr ⟨by first | kernel_rfl | rfl, rfl⟩
  try simp only [Act.put, List.setIfInBounds_toArray, List.set_cons_zero, List.set_cons_succ]
  refine wpAnyH_take (i := 7) (oi := ?ocaseF1118o) (v := undef) ?ocaseF1118h (by kernel_rfl) (by kernel_rfl) (by kernel_rfl) ?ocaseF1118q ?ocaseF1118y hHeld ?ocaseF1118r
  case ocaseF1118h => (simp only [List.getElem?_toArray, List.getElem?_cons_succ, List.getElem?_cons_zero]; rfl)
  case ocaseF1118q => exact fun _ _ _ h => h
  case ocaseF1118y => exact Or.inr ⟨by first | kernel_rfl | rfl, rfl⟩
  try simp only [Act.put, List.setIfInBounds_toArray, List.set_cons_zero, List.set_cons_succ]
  refine wpAnyH_take (i := 8) (oi := ?ocaseF1119o) (v := undef) ?ocaseF1119h (by kernel_rfl) (by kernel_rfl) (by kernel_rfl) ?ocaseF1119q ?ocaseF1119y hHeld ?ocaseF1119r
  case ocaseF1119h => (simp only [List.getElem?_toArray, List.getElem?_cons_succ, List.getElem?_cons_zero]; rfl)
  case ocaseF1119q => exact fun _ _ _ h => h
  case ocaseF1119y => exact Or.inr ⟨by first | kernel_rfl | rfl, rfl⟩
  try simp only [Act.put, List.setIfInBounds_toArray, List.set_cons_zero, List.set_cons_succ]
  refine wpAnyH_take (i := 9) (oi := ?ocaseF11110o) (v := undef) ?ocaseF11110h (by kernel_rfl) (by kernel_rfl) (by kernel_rfl) ?ocaseF11110q ?ocaseF11110y hHeld ?ocaseF11110r
  case ocaseF11110h => (simp only [List.getElem?_toArray, List.getElem?_cons_succ, List.getElem?_cons_zero]; rfl)
  case ocaseF11110q => exact fun _ _ _ h => h
  case ocaseF11110y => exact Or.inr ⟨by first | kernel_rfl | rfl, rfl⟩
  try simp only [Act.put, List.setIfInBounds_toArray, List.set_cons_zero, List.set_cons_succ]
  refine wpAnyH_take (i := 10) (oi := ?ocaseF11111o) (v := undef) ?ocaseF11111h (by kernel_rfl) (by kernel_rfl) (by kernel_rfl) ?ocaseF11111q ?ocaseF11111y hHeld ?ocaseF11111r
  case ocaseF11111h => (simp only [List.getElem?_toArray, List.getElem?_cons_succ, List.getElem?_cons_zero]; rfl)
  case ocaseF11111q => exact fun _ _ _ h => h
  case ocaseF11111y => exact Or.inr ⟨by first | kernel_rfl | rfl, rfl⟩
  try simp only [Act.put, List.setIfInBounds_toArray, List.set_cons_zero, List.set_cons_succ]
  refine wpAnyH_take (i := 11) (oi := ?ocaseF11112o) (v := ?ocaseF11112v) ?ocaseF11112h (by kernel_rfl) (by kernel_rfl) (by kernel_rfl) ?ocaseF11112q ?ocaseF11112y hHeld ?ocaseF11112r
  case ocaseF11112h => (simp only [List.getElem?_toArray, List.getElem?_cons_succ, List.getElem?_cons_zero]; rfl)
  case ocaseF11112q => exact fun _ _ _ h => h
  case ocaseF11112y => (refine Or.inl ⟨by first | kernel_rfl | rfl, ?_⟩; intro w hSw; (try dsimp only at hSw); obtain ⟨⟨x0, x1, x2, x3, x4, x5, y0, y1, y2, y3, y4, y5, z0, z1, z2, z3, z4, z5⟩, -⟩ := hSw; go_simp <;> (try with_reducible rfl))
  try simp only [Act.put, List.setIfInBounds_toArray, List.set_cons_zero, List.set_cons_succ]
  refine wpAnyH_take (i := 12) (oi := ?ocaseF11113o) (v := ?ocaseF11113v) ?ocaseF11113h (by kernel_rfl) (by kernel_rfl) (by kernel_rfl) ?ocaseF11113q ?ocaseF11113y hHeld ?ocaseF11113r
  case ocaseF11113h => (simp only [List.getElem?_toArray, List.getElem?_cons_succ, List.getElem?_cons_zero]; rfl)
  case ocaseF11113q => exact fun _ _ _ h => h
  case ocaseF11113y => (refine Or.inl ⟨by first | kernel_rfl | rfl, ?_⟩; intro w hSw; (try dsimp only at hSw); obtain ⟨⟨x0, x1, x2, x3, x4, x5, y0, y1, y2, y3, y4, y5, z0, z1, z2, z3, z4, z5⟩, -⟩ := hSw; go_simp <;> (try with_reducible rfl))
  try simp only [Act.put, List.setIfInBounds_toArray, List.set_cons_zero, List.set_cons_succ]
  refine wpAnyH_take (i := 13) (oi := ?ocaseF11114o) (v := undef) ?ocaseF11114h (by kernel_rfl) (by kernel_rfl) (by kernel_rfl) ?ocaseF11114q ?ocaseF11114y hHeld ?ocaseF11114r
  case ocaseF11114h => (simp only [List.getElem?_toArray, List.getElem?_cons_succ, List.getElem?_cons_zero]; rfl)
  case ocaseF11114q => exact fun _ _ _ h => h
  case ocaseF11114y => exact Or.inr ⟨by first | kernel_rfl | rfl, rfl⟩
  try simp only [Act.put, List.setIfInBounds_toArray, List.set_cons_zero, List.set_cons_succ]
  refine wpAnyH_take (i := 14) (oi := ?ocaseF11115o) (v := undef) ?ocaseF11115h (by kernel_rfl) (by kernel_rfl) (by kernel_rfl) ?ocaseF11115q ?ocaseF11115y hHeld ?ocaseF11115r
  case ocaseF11115h => (simp only [List.getElem?_toArray, List.getElem?_cons_succ, List.getElem?_cons_zero]; rfl)
  case ocaseF11115q => exact fun _ _ _ h => h
  case ocaseF11115y => exact Or.inr ⟨by first | kernel_rfl | rfl, rfl⟩
  try simp only [Act.put, List.setIfInBounds_toArray, List.set_cons_zero, List.set_cons_succ]
  refine wpAnyH_take (i := 15) (oi := ?ocaseF11116o) (v := undef) ?ocaseF11116h (by kernel_rfl) (by kernel_rfl) (by kernel_rfl) ?ocaseF11116q ?ocaseF11116y hHeld ?ocaseF11116r
  case ocaseF11116h => (simp only [List.getElem?_toArray, List.getElem?_cons_succ, List.getElem?_cons_zero]; rfl)
  case ocaseF11116q => exact fun _ _ _ h => h
  case ocaseF11116y => exact Or.inr ⟨by first | kernel_rfl | rfl, rfl⟩
  try simp only [Act.put, List.setIfInBounds_toArray, List.set_cons_zero, List.set_cons_succ]
  refine wpAnyH_take (i := 16) (oi := ?ocaseF11117o) (v := undef) ?ocaseF11117h (by kernel_rfl) (by kernel_rfl) (by kernel_rfl) ?ocaseF11117q ?ocaseF11117y hHeld ?ocaseF11117r
  case ocaseF11117h => (simp only [List.getElem?_toArray, List.getElem?_cons_succ, List.getElem?_cons_zero]; rfl)
  case ocaseF11117q => exact fun _ _ _ h => h
  case ocaseF11117y => exact Or.inr ⟨by first | kernel_rfl | rfl, rfl⟩
  try simp only [Act.put, List.setIfInBounds_toArray, List.set_cons_zero, List.set_cons_succ]
  refine wpAnyH_take (i := 17) (oi := ?ocaseF11118o) (v := undef) ?ocaseF11118h (by kernel_rfl) (by kernel_rfl) (by kernel_rfl) ?ocaseF11118q ?ocaseF11118y hHeld ?ocaseF11118r
  case ocaseF11118h => (simp only [List.getElem?_toArray, List.getElem?_cons_succ, List.getElem?_cons_zero]; rfl)
  case ocaseF11118q => exact fun _ _ _ h => h
  case ocaseF11118y => exact Or.inr ⟨by first | kernel_rfl | rfl, rfl⟩
  try simp only [Act.put, List.setIfInBounds_toArray, List.set_cons_zero, List.set_cons_succ]
  refine wpAnyH_take (i := 18) (oi := ?ocaseF11119o) (v := undef) ?ocaseF11119h (by kernel_rfl) (by kernel_rfl) (by kernel_rfl) ?ocaseF11119q ?ocaseF11119y hHeld ?ocaseF11119r
  case ocaseF11119h => (simp only [List.getElem?_toArray, List.getElem?_cons_succ, List.getElem?_cons_zero]; rfl)
  case ocaseF11119q => exact fun _ _ _ h => h
  case ocaseF11119y => exact Or.inr ⟨by first | kernel_rfl | rfl, rfl⟩
  try simp only [Act.put, List.setIfInBounds_toArray, List.set_cons_zero, List.set_cons_succ]
  refine wpAnyH_take (i := 19) (oi := ?ocaseF11120o) (v := undef) ?ocaseF11120h (by kernel_rfl) (by kernel_rfl) (by kernel_rfl) ?ocaseF11120q ?ocaseF11120y hHeld ?ocaseF11120r
  case ocaseF11120h => (simp only [List.getElem?_toArray, List.getElem?_cons_succ, List.getElem?_cons_zero]; rfl)
  case ocaseF11120q => exact fun _ _ _ h => h
  case ocaseF11120y => exact Or.inr ⟨by first | kernel_rfl | rfl, rfl⟩
  try simp only [Act.put, List.setIfInBounds_toArray, List.set_cons_zero, List.set_cons_succ]
  refine wpAnyH_take (i := 20) (oi := ?ocaseF11121o) (v := ?ocaseF11121v) ?ocaseF11121h (by kernel_rfl) (by kernel_rfl) (by kernel_rfl) ?ocaseF11121q ?ocaseF11121y hHeld ?ocaseF11121r
  case ocaseF11121h => (simp only [List.getElem?_toArray, List.getElem?_cons_succ, List.getElem?_cons_zero]; rfl)
  case ocaseF11121q => exact fun _ _ _ h => h
  case ocaseF11121y => (refine Or.inl ⟨by first | kernel_rfl | rfl, ?_⟩; intro w hSw; (try dsimp only at hSw); obtain ⟨⟨x0, x1, x2, x3, x4, x5, y0, y1, y2, y3, y4, y5, z0, z1, z2, z3, z4, z5⟩, -⟩ := hSw; go_simp <;> (try with_reducible rfl))
  try simp only [Act.put, List.setIfInBounds_toArray, List.set_cons_zero, List.set_cons_succ]
  refine wpAnyH_take (i := 21) (oi := ?ocaseF11122o) (v := ?ocaseF11122v) ?ocaseF11122h (by kernel_rfl) (by kernel_rfl) (by kernel_rfl) ?ocaseF11122q ?ocaseF11122y hHeld ?ocaseF11122r
  case ocaseF11122h => (simp only [List.getElem?_toArray, List.getElem?_cons_succ, List.getElem?_cons_zero]; rfl)
  case ocaseF11122q => exact fun _ _ _ h => h
  case ocaseF11122y => (refine Or.inl ⟨by first | kernel_rfl | rfl, ?_⟩; intro w hSw; (try dsimp only at hSw); obtain ⟨⟨x0, x1, x2, x3, x4, x5, y0, y1, y2, y3, y4, y5, z0, z1, z2, z3, z4, z5⟩, -⟩ := hSw; go_simp <;> (try with_reducible rfl))
  try simp only [Act.put, List.setIfInBounds_toArray, List.set_cons_zero, List.set_cons_succ]
  refine wpAnyH_done (by kernel_rfl) ?_ _
  have hbel := hHeld.bel
  go_wp2
  go_ret
  exact ⟨rfl, hbel⟩
end Go.Proofs.Ytjckphmkhikpaaa.sampleOrder
