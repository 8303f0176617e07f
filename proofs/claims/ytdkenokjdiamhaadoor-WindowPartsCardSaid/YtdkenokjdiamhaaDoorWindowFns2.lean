/- The contracts of the program's Cover, Inner, Count, Meets, Both. -/
import Derived.Test.YtdkenokjdiamhaaDoorWindowFns
import Derived.Test.YtdkenokjdiamhaaDoorWindowFacts
set_option maxRecDepth 20000
namespace Go.Proofs.YtdkenokjdiamhaaDoor
open Go.RowKit

/-- The argument's block, the result's, the widths. -/
structure IOT (w : World) (s : Sp) (w' : World) : Prop where
  io : InOut w s w'
  tab : Tab w'
theorem IOT.keep {w w1 w2 : World} {s : Sp} (h : IOT w s w1) (k : Below w1.heap.size w1 w2) : IOT w s w2 := ⟨h.io.keep k, h.tab.next k⟩
theorem IOT.drew {w w1 : World} {s : Sp} (h : IOT w s w1) : IOT w s w1.drew := h.keep ((Below.refl _ _).drew)
theorem IOT.new {w : World} (hT : Tab w) (s : Sp) : IOT w s ((w.alloc (.cells #[.int .i64 s.f, .int .i64 s.t] 26)).alloc (.cells #[.int .i64 0, .int .i64 0] 26)) := ⟨InOut.new w s, (hT.alloc _).alloc _⟩

theorem field_t (f t : Int) (w : World) : (Instr.field 26 (.agg #[.int .i64 f, .int .i64 t]) 1).run Tryd.prog w = .ok (.int .i64 t) w := by kernel_rfl
theorem wid_four {tier : Int} (h : 0 < wid tier) : wid tier = 1 ∨ wid tier = 10 ∨ wid tier = 60 ∨ wid tier = 3600 := by
  unfold wid at h ⊢
  by_cases h0 : tier = 0
  · rw [if_pos h0]; omega
  · by_cases h1 : tier = 1
    · rw [if_neg h0, if_pos h1]; omega
    · by_cases h2 : tier = 2
      · rw [if_neg h0, if_neg h1, if_pos h2]; omega
      · by_cases h3 : tier = 3
        · rw [if_neg h0, if_neg h1, if_neg h2, if_pos h3]; omega
        · rw [if_neg h0, if_neg h1, if_neg h2, if_neg h3] at h; omega
theorem of_t {x tier : Int} (h0 : 0 ≤ x) (h1 : x < 1099511627777) (hw : 0 < wid tier) : (ofI x tier).t = cutI (x - x % wid tier + wid tier) := by
  rw [of_of ⟨h0, h1⟩ hw]
theorem of_ahead {f tier : Int} (h0 : 0 ≤ f) (h1 : f ≤ 1099511627777) (hw : 0 < wid tier) : (ofI (f - 1) tier).t = cutI (upI f (wid tier)) := by
  by_cases h : f = 0
  · subst h
    have h0 : startI (0 - 1) tier = -1 := by unfold startI; rw [if_neg (by omega)]
    unfold ofI
    rw [h0, if_pos (by omega)]
    unfold upI cutI Sp.zero
    simp
  · rw [of_t (by omega) (by omega) hw]
    congr 1
    unfold upI
    rcases wid_four hw with e | e | e | e <;> rw [e] <;> split <;> omega

set_option maxHeartbeats 2000000 in
theorem cover_no (s c : Sp) (tier : Int) (w : World) (hT : Tab w) (H : s.cover tier = c) (hm : s.may tier = false) : Calls Tryd.prog 25 #[s.v, .int .i64 tier] w fun e w' => e = .returned (c.v) ∧ Below w.heap.size w w' := by
  have H0 := IOT.new hT s
  have kf := fun w hT => fits_is s tier _ w hT (Lib.hid rfl)
  unfold Sp.cover at H
  rw [if_pos hm] at H
  have HC := Lib.hid (show Sp.zero.v = c.v by rw [H])
  rw [hm] at kf
  unfold Sp.v at kf
  rw [show s.v = .agg #[.int .i64 s.f, .int .i64 s.t] from rfl]
  clear H hm
  go_enter Tryd.func25, Tryd.ntmps25
  go_wp2_with (go_at_call 44; (with_reducible refine (kf _ H0.tab).mono ?_); rintro e w1 ⟨rfl, hb1⟩; have H1 := H0.keep hb1; have G := H1.io.i; obtain ⟨x0, x1⟩ := G; have G := H1.io.o; obtain ⟨⟨z0, z1⟩, g0, g1⟩ := G; dsimp only [Sp.zero] at z0 z1)
  refine bodyPost_ret (v := .agg #[.int .i64 0, .int .i64 0]) (by simp [results, Tryd.results25, go_sem, z0, z1]; try rfl) rfl ⟨by rw [← HC.out]; rfl, ?_⟩
  first | exact H1.io.bel | exact two_set H1.io.bel _ (by omega) _ _

set_option maxHeartbeats 2000000 in
theorem cover_end (s c : Sp) (tier : Int) (w : World) (hT : Tab w) (H : s.cover tier = c) (hm : s.may tier = true) (he : s.f = 1099511627777) : Calls Tryd.prog 25 #[s.v, .int .i64 tier] w fun e w' => e = .returned (c.v) ∧ Below w.heap.size w w' := by
  have H0 := IOT.new hT s
  have kf := fun w hT => fits_is s tier _ w hT (Lib.hid rfl)
  obtain ⟨⟨a1, a2, a3⟩, a4⟩ := Sp.may_parts hm
  unfold Sp.cover at H
  rw [if_neg (by rw [hm]; simp)] at H
  rw [hm] at kf
  unfold Sp.v at kf
  rw [show s.v = .agg #[.int .i64 s.f, .int .i64 s.t] from rfl]
  rw [if_pos (by omega), if_pos he] at H
  have HC := Lib.hid (show Sp.zero.v = c.v by rw [H])
  have g : (s.f == 1099511627777) = true := by simpa using he
  clear H hm he
  go_enter Tryd.func25, Tryd.ntmps25
  go_wp2_with (go_at_call 44; (with_reducible refine (kf _ H0.tab).mono ?_); rintro e w1 ⟨rfl, hb1⟩; have H1 := H0.keep hb1; have G := H1.io.i; obtain ⟨x0, x1⟩ := G; have G := H1.io.o; obtain ⟨⟨z0, z1⟩, g0, g1⟩ := G; dsimp only [Sp.zero] at z0 z1)
  refine bodyPost_ret (v := .agg #[.int .i64 0, .int .i64 0]) (by simp [results, Tryd.results25, go_sem, z0, z1]; try rfl) rfl ⟨by rw [← HC.out]; rfl, ?_⟩
  first | exact H1.io.bel | exact two_set H1.io.bel _ (by omega) _ _

set_option maxHeartbeats 2000000 in
theorem cover_empty (s c : Sp) (tier : Int) (w : World) (hT : Tab w) (H : s.cover tier = c) (hm : s.may tier = true) (he : s.f ≠ 1099511627777) (hft : s.f = s.t) : Calls Tryd.prog 25 #[s.v, .int .i64 tier] w fun e w' => e = .returned (c.v) ∧ Below w.heap.size w w' := by
  have H0 := IOT.new hT s
  have kf := fun w hT => fits_is s tier _ w hT (Lib.hid rfl)
  obtain ⟨⟨a1, a2, a3⟩, a4⟩ := Sp.may_parts hm
  unfold Sp.cover at H
  rw [if_neg (by rw [hm]; simp)] at H
  rw [hm] at kf
  unfold Sp.v at kf
  rw [show s.v = .agg #[.int .i64 s.f, .int .i64 s.t] from rfl]
  rw [if_pos hft, if_neg he] at H
  have ks := fun w hT => start_is s.f tier _ w hT (by omega) (Lib.hid rfl)
  have hS : startI s.f tier = s.f - s.f % wid tier := by unfold startI; rw [if_pos ⟨a1, by omega, by omega⟩]
  rw [← hS] at H
  generalize startI s.f tier = z at *
  have HC := Lib.hid (show (Sp.mk z z).v = c.v by rw [H])
  have g : (s.f == 1099511627777) = false := by simpa using he
  have g2 : (s.f == s.t) = true := by simpa using hft
  clear H hm he hS hft
  go_enter Tryd.func25, Tryd.ntmps25
  go_wp2_with (first
    | (go_at_call 44; (with_reducible refine (kf _ H0.tab).mono ?_); rintro e w1 ⟨rfl, hb1⟩; have H1 := H0.keep hb1; have G := H1.io.i; obtain ⟨x0, x1⟩ := G; have G := H1.io.o; obtain ⟨⟨z0, z1⟩, g0, g1⟩ := G; dsimp only [Sp.zero] at z0 z1)
    | (go_at_call 13; (with_reducible refine (ks _ H1.tab).mono ?_); rintro e w2 ⟨rfl, rfl⟩))
  refine bodyPost_ret (v := .agg #[.int .i64 z, .int .i64 z]) (by simp [results, Tryd.results25, go_sem, z0, z1]; try rfl) rfl ⟨by rw [← HC.out]; rfl, ?_⟩
  first | exact H1.io.bel | exact two_set H1.io.bel _ (by omega) _ _

set_option maxHeartbeats 2000000 in
theorem cover_some (s c : Sp) (tier : Int) (w : World) (hT : Tab w) (H : s.cover tier = c) (hm : s.may tier = true) (hft : s.f ≠ s.t) : Calls Tryd.prog 25 #[s.v, .int .i64 tier] w fun e w' => e = .returned (c.v) ∧ Below w.heap.size w w' := by
  have H0 := IOT.new hT s
  have kf := fun w hT => fits_is s tier _ w hT (Lib.hid rfl)
  obtain ⟨⟨a1, a2, a3⟩, a4⟩ := Sp.may_parts hm
  unfold Sp.cover at H
  rw [if_neg (by rw [hm]; simp)] at H
  rw [hm] at kf
  unfold Sp.v at kf
  rw [show s.v = .agg #[.int .i64 s.f, .int .i64 s.t] from rfl]
  rw [if_neg hft] at H
  have ks := fun w hT => start_is s.f tier _ w hT (by omega) (Lib.hid rfl)
  have hS : startI s.f tier = s.f - s.f % wid tier := by unfold startI; rw [if_pos ⟨a1, by omega, by omega⟩]
  rw [← hS] at H
  generalize startI s.f tier = z at *
  have ko := fun w hT => of_is (s.t - 1) tier _ w hT (by omega) (Lib.hid rfl)
  have hO := of_t (x := s.t - 1) (by omega) (by omega) a4
  rw [← hO] at H
  generalize ofI (s.t - 1) tier = o at *
  obtain ⟨of, ot⟩ := o
  dsimp only at H
  have HC := Lib.hid (show (Sp.mk z ot).v = c.v by rw [H])
  have g : (s.f == 1099511627777) = false := by rw [beq_eq_false_iff_ne]; omega
  have g2 : (s.f == s.t) = false := by simpa using hft
  have hw1 : IntKind.i64.wrap (s.t - 1) = s.t - 1 := by rw [IntKind.wrap_i64]; omega
  unfold Sp.v at ko
  dsimp only at ko
  have hfl := field_t of ot
  clear H hm hS hft hO
  go_enter Tryd.func25, Tryd.ntmps25
  go_wp2_with (first
    | (go_at_call 44; (with_reducible refine (kf _ H0.tab).mono ?_); rintro e w1 ⟨rfl, hb1⟩; have H1 := H0.keep hb1; have G := H1.io.i; obtain ⟨x0, x1⟩ := G; have G := H1.io.o; obtain ⟨⟨z0, z1⟩, g0, g1⟩ := G; dsimp only [Sp.zero] at z0 z1)
    | (go_at_call 13; (with_reducible refine (ks _ H1.tab).mono ?_); rintro e w2 ⟨rfl, rfl⟩)
    | (go_at_call 15; (with_reducible refine (ko _ H1.tab).mono ?_); rintro e w2 ⟨rfl, hb2⟩; have H2 := H1.keep hb2; have G := H2.io.i; obtain ⟨x0, x1⟩ := G; have G := H2.io.o; obtain ⟨⟨z0, z1⟩, g0, g1⟩ := G; dsimp only [Sp.zero] at z0 z1))
  refine bodyPost_ret (v := .agg #[.int .i64 z, .int .i64 ot]) (by simp [results, Tryd.results25, go_sem, z0, z1]; try rfl) rfl ⟨by rw [← HC.out]; rfl, ?_⟩
  first | exact H2.io.bel | exact two_set H2.io.bel _ (by omega) _ _

theorem cover_is (s c : Sp) (tier : Int) (w : World) (hT : Tab w) (H : Hid (s.cover tier = c)) : Calls Tryd.prog 25 #[s.v, .int .i64 tier] w fun e w' => e = .returned (c.v) ∧ Below w.heap.size w w' := by
  cases hm : s.may tier with
  | false => exact cover_no s c tier w hT H.out hm
  | true =>
    by_cases hft : s.f = s.t
    · by_cases he : s.f = 1099511627777
      · exact cover_end s c tier w hT H.out hm he
      · exact cover_empty s c tier w hT H.out hm he hft
    · exact cover_some s c tier w hT H.out hm hft

set_option maxHeartbeats 2000000 in
theorem inner_no (s c : Sp) (tier : Int) (w : World) (hT : Tab w) (H : s.inner tier = c) (hm : s.may tier = false) : Calls Tryd.prog 27 #[s.v, .int .i64 tier] w fun e w' => e = .returned (c.v) ∧ Below w.heap.size w w' := by
  have H0 := IOT.new hT s
  have kf := fun w hT => fits_is s tier _ w hT (Lib.hid rfl)
  unfold Sp.inner at H
  rw [if_pos hm] at H
  have HC := Lib.hid (show Sp.zero.v = c.v by rw [H])
  rw [hm] at kf
  unfold Sp.v at kf
  rw [show s.v = .agg #[.int .i64 s.f, .int .i64 s.t] from rfl]
  clear H hm
  go_enter Tryd.func27, Tryd.ntmps27
  go_wp2_with (go_at_call 44; (with_reducible refine (kf _ H0.tab).mono ?_); rintro e w1 ⟨rfl, hb1⟩; have H1 := H0.keep hb1; have G := H1.io.i; obtain ⟨x0, x1⟩ := G; have G := H1.io.o; obtain ⟨⟨z0, z1⟩, g0, g1⟩ := G; dsimp only [Sp.zero] at z0 z1)
  refine bodyPost_ret (v := .agg #[.int .i64 0, .int .i64 0]) (by simp [results, Tryd.results27, go_sem, z0, z1]; try rfl) rfl ⟨by rw [← HC.out]; rfl, ?_⟩
  first | exact H1.io.bel | exact two_set H1.io.bel _ (by omega) _ _

set_option maxHeartbeats 2000000 in
theorem inner_00 (s c : Sp) (tier : Int) (w : World) (hT : Tab w) (H : s.inner tier = c) (hm : s.may tier = true) (he : ¬ s.t = 1099511627777) (hl : ¬ downI s.t (wid tier) ≤ upI s.f (wid tier)) : Calls Tryd.prog 27 #[s.v, .int .i64 tier] w fun e w' => e = .returned (c.v) ∧ Below w.heap.size w w' := by
  have H0 := IOT.new hT s
  have kf := fun w hT => fits_is s tier _ w hT (Lib.hid rfl)
  obtain ⟨⟨a1, a2, a3⟩, a4⟩ := Sp.may_parts hm
  unfold Sp.inner at H
  rw [if_neg (by rw [hm]; simp), if_neg hl] at H
  rw [hm] at kf
  unfold Sp.v at kf
  rw [show s.v = .agg #[.int .i64 s.f, .int .i64 s.t] from rfl]
  have ko := fun w hT => of_is (s.f - 1) tier _ w hT (by omega) (Lib.hid rfl)
  have hO := of_ahead (tier := tier) a1 (by omega) a4
  generalize ofI (s.f - 1) tier = o at *
  obtain ⟨of, ot⟩ := o
  unfold Sp.v at ko
  dsimp only at ko hO
  have hfl := field_t of ot
  have hw1 : IntKind.i64.wrap (s.f - 1) = s.f - 1 := by rw [IntKind.wrap_i64]; omega
  have ks := fun w hT => start_is s.t tier _ w hT (by omega) (Lib.hid rfl)
  have hS : startI s.t tier = s.t - s.t % wid tier := by unfold startI; rw [if_pos ⟨by omega, by omega, by omega⟩]
  have hD : downI s.t (wid tier) = startI s.t tier := by unfold downI; rw [if_pos (by omega), hS]
  rw [hD] at hl H
  obtain ⟨-, m2, m3, m4⟩ := mod_facts (show 0 ≤ s.t by omega) a4
  have hz2 : startI s.t tier < 1099511627777 := by rw [hS]; omega
  generalize startI s.t tier = z at *
  have g1 : (s.t == 1099511627777) = false := by simpa using he
  have g1' : (s.t != 1099511627777) = true := by simp [bne, g1]
  have hcu : ot = upI s.f (wid tier) := by rw [hO]; unfold cutI; rw [if_neg (by omega)]
  rw [← hcu] at H hl
  have g2 : ¬ z ≤ ot := hl
  have HC := Lib.hid (show (Sp.mk ot z).v = c.v by rw [H])
  clear H hm he hl hO hD hcu hS m2 m3 m4 hz2
  go_enter Tryd.func27, Tryd.ntmps27
  go_wp2_with (go_at_call 44; (with_reducible refine (kf _ H0.tab).mono ?_); rintro e w1 ⟨rfl, hb1⟩; have H1 := H0.keep hb1; have G := H1.io.i; obtain ⟨x0, x1⟩ := G; have G := H1.io.o; obtain ⟨⟨z0, z1⟩, g0, g1⟩ := G; dsimp only [Sp.zero] at z0 z1)
  refine wp_region_held_drew (S := (IOT w s)) (by kernel_rfl) H1.drew (fun hHeld => ?_)
  refine wpAnyH_take (i := 0) (oi := ?oi001o) (v := ?oi001v) ?oi001h (by kernel_rfl) (by kernel_rfl) (by kernel_rfl) ?oi001q ?oi001y hHeld ?oi001r
  case oi001h => (simp only [List.getElem?_toArray, List.getElem?_cons_zero]; rfl)
  case oi001q => exact fun _ _ _ h => h
  case oi001y => (refine Or.inl ⟨by first | kernel_rfl | rfl, ?_⟩; intro w hSw; (try dsimp only at hSw); obtain ⟨⟨⟨x0, x1⟩, -, -⟩, -⟩ := hSw; go_simp <;> (try with_reducible rfl))
  try simp only [Act.put, List.setIfInBounds_toArray, List.set_cons_zero, List.set_cons_succ]
  refine wpAnyH_take (i := 1) (oi := ?oi002o) (v := ?oi002v) ?oi002h (by kernel_rfl) (by kernel_rfl) (by kernel_rfl) ?oi002q ?oi002y hHeld ?oi002r
  case oi002h => (simp only [List.getElem?_toArray, List.getElem?_cons_succ, List.getElem?_cons_zero]; rfl)
  case oi002q => exact fun _ _ _ h => h
  case oi002y => (refine Or.inl ⟨by first | kernel_rfl | rfl, ?_⟩; intro w hSw; (try dsimp only at hSw); obtain ⟨⟨⟨x0, x1⟩, -, -⟩, -⟩ := hSw; go_simp <;> (try with_reducible rfl))
  try simp only [Act.put, List.setIfInBounds_toArray, List.set_cons_zero, List.set_cons_succ]
  refine wpAnyH_take (i := 2) (oi := ?oi003o) (v := ?oi003v) ?oi003h (by kernel_rfl) (by kernel_rfl) (by kernel_rfl) ?oi003q ?oi003y hHeld ?oi003r
  case oi003h => (simp only [List.getElem?_toArray, List.getElem?_cons_succ, List.getElem?_cons_zero]; rfl)
  case oi003q => exact fun _ _ _ h => h
  case oi003y => (refine Or.inl ⟨by first | kernel_rfl | rfl, ?_⟩; intro w hSw; (try dsimp only at hSw); obtain ⟨⟨⟨x0, x1⟩, -, -⟩, -⟩ := hSw; go_simp <;> (try with_reducible rfl))
  try simp only [Act.put, List.setIfInBounds_toArray, List.set_cons_zero, List.set_cons_succ]
  refine wpAnyH_take (i := 3) (oi := ?oi004o) (v := ?oi004v) ?oi004h (by kernel_rfl) (by kernel_rfl) (by kernel_rfl) ?oi004q ?oi004y hHeld ?oi004r
  case oi004h => (simp only [List.getElem?_toArray, List.getElem?_cons_succ, List.getElem?_cons_zero]; rfl)
  case oi004q => exact fun _ _ _ h => h
  case oi004y => (refine Or.inl ⟨by first | kernel_rfl | rfl, ?_⟩; intro w hSw; (try dsimp only at hSw); obtain ⟨⟨⟨x0, x1⟩, -, -⟩, -⟩ := hSw; go_simp <;> (try with_reducible rfl))
  try simp only [Act.put, List.setIfInBounds_toArray, List.set_cons_zero, List.set_cons_succ]
  refine wpAnyH_take (i := 6) (oi := ?oi005o) (v := ?oi005v) ?oi005h (by kernel_rfl) (by kernel_rfl) (by kernel_rfl) ?oi005q ?oi005y hHeld ?oi005r
  case oi005h => (simp only [List.getElem?_toArray, List.getElem?_cons_succ, List.getElem?_cons_zero]; rfl)
  case oi005q => exact fun _ _ _ h => h
  case oi005y => (refine Or.inl ⟨by first | kernel_rfl | rfl, ?_⟩; intro w hSw; (try dsimp only at hSw); obtain ⟨⟨⟨x0, x1⟩, -, -⟩, -⟩ := hSw; go_simp <;> (try with_reducible rfl))
  try simp only [Act.put, List.setIfInBounds_toArray, List.set_cons_zero, List.set_cons_succ]
  refine wpAnyH_take (i := 7) (oi := ?oi006o) (v := ?oi006v) ?oi006h (by kernel_rfl) (by kernel_rfl) (by kernel_rfl) ?oi006q ?oi006y hHeld ?oi006r
  case oi006h => (simp only [List.getElem?_toArray, List.getElem?_cons_succ, List.getElem?_cons_zero]; rfl)
  case oi006q => exact fun _ _ _ h => h
  case oi006y => (refine Or.inl ⟨by first | kernel_rfl | rfl, ?_⟩; intro w hSw; (try dsimp only at hSw); obtain ⟨⟨⟨x0, x1⟩, -, -⟩, -⟩ := hSw; go_simp <;> (try with_reducible rfl))
  try simp only [Act.put, List.setIfInBounds_toArray, List.set_cons_zero, List.set_cons_succ]
  refine wpAnyH_ready (rs := [4]) (by kernel_rfl) (by simp) ?_
  refine (AllReadyH.cons rfl (fun K hK => ?_) AllReadyH.nil)
  go_simp
  ((with_reducible refine (ko _ hHeld.tab).mono ?_); rintro e w' ⟨rfl, hb'⟩)
  refine hK.out _ _ (hHeld.keep hb') (fun hHeld => ?_)
  clear hK K
  try simp only [Act.put, List.setIfInBounds_toArray, List.set_cons_zero, List.set_cons_succ]
  refine wpAnyH_take (i := 5) (oi := ?oi007o) (v := ?oi007v) ?oi007h (by kernel_rfl) (by kernel_rfl) (by kernel_rfl) ?oi007q ?oi007y hHeld ?oi007r
  case oi007h => (simp only [List.getElem?_toArray, List.getElem?_cons_succ, List.getElem?_cons_zero]; rfl)
  case oi007q => exact fun _ _ _ h => h
  case oi007y => (refine Or.inl ⟨by first | kernel_rfl | rfl, ?_⟩; intro w hSw; (try dsimp only at hSw); obtain ⟨⟨⟨x0, x1⟩, -, -⟩, -⟩ := hSw; go_simp <;> (try with_reducible rfl))
  try simp only [Act.put, List.setIfInBounds_toArray, List.set_cons_zero, List.set_cons_succ]
  refine wpAnyH_take (i := 8) (oi := ?oi008o) (v := ?oi008v) ?oi008h (by kernel_rfl) (by kernel_rfl) (by kernel_rfl) ?oi008q ?oi008y hHeld ?oi008r
  case oi008h => (simp only [List.getElem?_toArray, List.getElem?_cons_succ, List.getElem?_cons_zero]; rfl)
  case oi008q => exact fun _ _ _ h => h
  case oi008y => (refine Or.inl ⟨by first | kernel_rfl | rfl, ?_⟩; intro w hSw; (try dsimp only at hSw); obtain ⟨⟨⟨x0, x1⟩, -, -⟩, -⟩ := hSw; go_simp <;> (try with_reducible rfl))
  try simp only [Act.put, List.setIfInBounds_toArray, List.set_cons_zero, List.set_cons_succ]
  refine wpAnyH_take (i := 9) (oi := ?oi009o) (v := ?oi009v) ?oi009h (by kernel_rfl) (by kernel_rfl) (by kernel_rfl) ?oi009q ?oi009y hHeld ?oi009r
  case oi009h => (simp only [List.getElem?_toArray, List.getElem?_cons_succ, List.getElem?_cons_zero]; rfl)
  case oi009q => exact fun _ _ _ h => h
  case oi009y => (refine Or.inl ⟨by first | kernel_rfl | rfl, ?_⟩; intro w hSw; (try dsimp only at hSw); obtain ⟨⟨⟨x0, x1⟩, -, -⟩, -⟩ := hSw; go_simp <;> (try with_reducible rfl))
  try simp only [Act.put, List.setIfInBounds_toArray, List.set_cons_zero, List.set_cons_succ]
  refine wpAnyH_done (by kernel_rfl) ?_ _
  have H2 := hHeld
  have G := H2.io.i; obtain ⟨x0, x1⟩ := G; have G := H2.io.o; obtain ⟨⟨z0, z1⟩, g0, g1⟩ := G; dsimp only [Sp.zero] at z0 z1
  go_wp2_with (go_at_call 13; (with_reducible refine (ks _ H2.tab).mono ?_); rintro e w2 ⟨rfl, rfl⟩)
  refine bodyPost_ret (v := .agg #[.int .i64 ot, .int .i64 z]) (by simp [results, Tryd.results27, go_sem, z0, z1]; try rfl) rfl ⟨by rw [← HC.out]; rfl, ?_⟩
  first | exact H2.io.bel | exact two_set H2.io.bel _ (by omega) _ _

set_option maxHeartbeats 2000000 in
theorem inner_01 (s c : Sp) (tier : Int) (w : World) (hT : Tab w) (H : s.inner tier = c) (hm : s.may tier = true) (he : ¬ s.t = 1099511627777) (hl : downI s.t (wid tier) ≤ upI s.f (wid tier)) : Calls Tryd.prog 27 #[s.v, .int .i64 tier] w fun e w' => e = .returned (c.v) ∧ Below w.heap.size w w' := by
  have H0 := IOT.new hT s
  have kf := fun w hT => fits_is s tier _ w hT (Lib.hid rfl)
  obtain ⟨⟨a1, a2, a3⟩, a4⟩ := Sp.may_parts hm
  unfold Sp.inner at H
  rw [if_neg (by rw [hm]; simp), if_pos hl] at H
  rw [hm] at kf
  unfold Sp.v at kf
  rw [show s.v = .agg #[.int .i64 s.f, .int .i64 s.t] from rfl]
  have ko := fun w hT => of_is (s.f - 1) tier _ w hT (by omega) (Lib.hid rfl)
  have hO := of_ahead (tier := tier) a1 (by omega) a4
  generalize ofI (s.f - 1) tier = o at *
  obtain ⟨of, ot⟩ := o
  unfold Sp.v at ko
  dsimp only at ko hO
  have hfl := field_t of ot
  have hw1 : IntKind.i64.wrap (s.f - 1) = s.f - 1 := by rw [IntKind.wrap_i64]; omega
  have ks := fun w hT => start_is s.t tier _ w hT (by omega) (Lib.hid rfl)
  have hS : startI s.t tier = s.t - s.t % wid tier := by unfold startI; rw [if_pos ⟨by omega, by omega, by omega⟩]
  have hD : downI s.t (wid tier) = startI s.t tier := by unfold downI; rw [if_pos (by omega), hS]
  rw [hD] at hl
  obtain ⟨-, m2, m3, m4⟩ := mod_facts (show 0 ≤ s.t by omega) a4
  have hz2 : startI s.t tier < 1099511627777 := by rw [hS]; omega
  generalize startI s.t tier = z at *
  have g1 : (s.t == 1099511627777) = false := by simpa using he
  have g1' : (s.t != 1099511627777) = true := by simp [bne, g1]
  have g2 : z ≤ ot := by rw [hO]; unfold cutI; split <;> omega
  have HC := Lib.hid (show (Sp.mk s.f s.f).v = c.v by rw [H])
  clear H hm he hl hO hD hS m2 m3 m4 hz2
  go_enter Tryd.func27, Tryd.ntmps27
  go_wp2_with (go_at_call 44; (with_reducible refine (kf _ H0.tab).mono ?_); rintro e w1 ⟨rfl, hb1⟩; have H1 := H0.keep hb1; have G := H1.io.i; obtain ⟨x0, x1⟩ := G; have G := H1.io.o; obtain ⟨⟨z0, z1⟩, g0, g1⟩ := G; dsimp only [Sp.zero] at z0 z1)
  refine wp_region_held_drew (S := (IOT w s)) (by kernel_rfl) H1.drew (fun hHeld => ?_)
  refine wpAnyH_take (i := 0) (oi := ?oi011o) (v := ?oi011v) ?oi011h (by kernel_rfl) (by kernel_rfl) (by kernel_rfl) ?oi011q ?oi011y hHeld ?oi011r
  case oi011h => (simp only [List.getElem?_toArray, List.getElem?_cons_zero]; rfl)
  case oi011q => exact fun _ _ _ h => h
  case oi011y => (refine Or.inl ⟨by first | kernel_rfl | rfl, ?_⟩; intro w hSw; (try dsimp only at hSw); obtain ⟨⟨⟨x0, x1⟩, -, -⟩, -⟩ := hSw; go_simp <;> (try with_reducible rfl))
  try simp only [Act.put, List.setIfInBounds_toArray, List.set_cons_zero, List.set_cons_succ]
  refine wpAnyH_take (i := 1) (oi := ?oi012o) (v := ?oi012v) ?oi012h (by kernel_rfl) (by kernel_rfl) (by kernel_rfl) ?oi012q ?oi012y hHeld ?oi012r
  case oi012h => (simp only [List.getElem?_toArray, List.getElem?_cons_succ, List.getElem?_cons_zero]; rfl)
  case oi012q => exact fun _ _ _ h => h
  case oi012y => (refine Or.inl ⟨by first | kernel_rfl | rfl, ?_⟩; intro w hSw; (try dsimp only at hSw); obtain ⟨⟨⟨x0, x1⟩, -, -⟩, -⟩ := hSw; go_simp <;> (try with_reducible rfl))
  try simp only [Act.put, List.setIfInBounds_toArray, List.set_cons_zero, List.set_cons_succ]
  refine wpAnyH_take (i := 2) (oi := ?oi013o) (v := ?oi013v) ?oi013h (by kernel_rfl) (by kernel_rfl) (by kernel_rfl) ?oi013q ?oi013y hHeld ?oi013r
  case oi013h => (simp only [List.getElem?_toArray, List.getElem?_cons_succ, List.getElem?_cons_zero]; rfl)
  case oi013q => exact fun _ _ _ h => h
  case oi013y => (refine Or.inl ⟨by first | kernel_rfl | rfl, ?_⟩; intro w hSw; (try dsimp only at hSw); obtain ⟨⟨⟨x0, x1⟩, -, -⟩, -⟩ := hSw; go_simp <;> (try with_reducible rfl))
  try simp only [Act.put, List.setIfInBounds_toArray, List.set_cons_zero, List.set_cons_succ]
  refine wpAnyH_take (i := 3) (oi := ?oi014o) (v := ?oi014v) ?oi014h (by kernel_rfl) (by kernel_rfl) (by kernel_rfl) ?oi014q ?oi014y hHeld ?oi014r
  case oi014h => (simp only [List.getElem?_toArray, List.getElem?_cons_succ, List.getElem?_cons_zero]; rfl)
  case oi014q => exact fun _ _ _ h => h
  case oi014y => (refine Or.inl ⟨by first | kernel_rfl | rfl, ?_⟩; intro w hSw; (try dsimp only at hSw); obtain ⟨⟨⟨x0, x1⟩, -, -⟩, -⟩ := hSw; go_simp <;> (try with_reducible rfl))
  try simp only [Act.put, List.setIfInBounds_toArray, List.set_cons_zero, List.set_cons_succ]
  refine wpAnyH_take (i := 6) (oi := ?oi015o) (v := ?oi015v) ?oi015h (by kernel_rfl) (by kernel_rfl) (by kernel_rfl) ?oi015q ?oi015y hHeld ?oi015r
  case oi015h => (simp only [List.getElem?_toArray, List.getElem?_cons_succ, List.getElem?_cons_zero]; rfl)
  case oi015q => exact fun _ _ _ h => h
  case oi015y => (refine Or.inl ⟨by first | kernel_rfl | rfl, ?_⟩; intro w hSw; (try dsimp only at hSw); obtain ⟨⟨⟨x0, x1⟩, -, -⟩, -⟩ := hSw; go_simp <;> (try with_reducible rfl))
  try simp only [Act.put, List.setIfInBounds_toArray, List.set_cons_zero, List.set_cons_succ]
  refine wpAnyH_take (i := 7) (oi := ?oi016o) (v := ?oi016v) ?oi016h (by kernel_rfl) (by kernel_rfl) (by kernel_rfl) ?oi016q ?oi016y hHeld ?oi016r
  case oi016h => (simp only [List.getElem?_toArray, List.getElem?_cons_succ, List.getElem?_cons_zero]; rfl)
  case oi016q => exact fun _ _ _ h => h
  case oi016y => (refine Or.inl ⟨by first | kernel_rfl | rfl, ?_⟩; intro w hSw; (try dsimp only at hSw); obtain ⟨⟨⟨x0, x1⟩, -, -⟩, -⟩ := hSw; go_simp <;> (try with_reducible rfl))
  try simp only [Act.put, List.setIfInBounds_toArray, List.set_cons_zero, List.set_cons_succ]
  refine wpAnyH_ready (rs := [4]) (by kernel_rfl) (by simp) ?_
  refine (AllReadyH.cons rfl (fun K hK => ?_) AllReadyH.nil)
  go_simp
  ((with_reducible refine (ko _ hHeld.tab).mono ?_); rintro e w' ⟨rfl, hb'⟩)
  refine hK.out _ _ (hHeld.keep hb') (fun hHeld => ?_)
  clear hK K
  try simp only [Act.put, List.setIfInBounds_toArray, List.set_cons_zero, List.set_cons_succ]
  refine wpAnyH_take (i := 5) (oi := ?oi017o) (v := ?oi017v) ?oi017h (by kernel_rfl) (by kernel_rfl) (by kernel_rfl) ?oi017q ?oi017y hHeld ?oi017r
  case oi017h => (simp only [List.getElem?_toArray, List.getElem?_cons_succ, List.getElem?_cons_zero]; rfl)
  case oi017q => exact fun _ _ _ h => h
  case oi017y => (refine Or.inl ⟨by first | kernel_rfl | rfl, ?_⟩; intro w hSw; (try dsimp only at hSw); obtain ⟨⟨⟨x0, x1⟩, -, -⟩, -⟩ := hSw; go_simp <;> (try with_reducible rfl))
  try simp only [Act.put, List.setIfInBounds_toArray, List.set_cons_zero, List.set_cons_succ]
  refine wpAnyH_take (i := 8) (oi := ?oi018o) (v := ?oi018v) ?oi018h (by kernel_rfl) (by kernel_rfl) (by kernel_rfl) ?oi018q ?oi018y hHeld ?oi018r
  case oi018h => (simp only [List.getElem?_toArray, List.getElem?_cons_succ, List.getElem?_cons_zero]; rfl)
  case oi018q => exact fun _ _ _ h => h
  case oi018y => (refine Or.inl ⟨by first | kernel_rfl | rfl, ?_⟩; intro w hSw; (try dsimp only at hSw); obtain ⟨⟨⟨x0, x1⟩, -, -⟩, -⟩ := hSw; go_simp <;> (try with_reducible rfl))
  try simp only [Act.put, List.setIfInBounds_toArray, List.set_cons_zero, List.set_cons_succ]
  refine wpAnyH_take (i := 9) (oi := ?oi019o) (v := ?oi019v) ?oi019h (by kernel_rfl) (by kernel_rfl) (by kernel_rfl) ?oi019q ?oi019y hHeld ?oi019r
  case oi019h => (simp only [List.getElem?_toArray, List.getElem?_cons_succ, List.getElem?_cons_zero]; rfl)
  case oi019q => exact fun _ _ _ h => h
  case oi019y => (refine Or.inl ⟨by first | kernel_rfl | rfl, ?_⟩; intro w hSw; (try dsimp only at hSw); obtain ⟨⟨⟨x0, x1⟩, -, -⟩, -⟩ := hSw; go_simp <;> (try with_reducible rfl))
  try simp only [Act.put, List.setIfInBounds_toArray, List.set_cons_zero, List.set_cons_succ]
  refine wpAnyH_done (by kernel_rfl) ?_ _
  have H2 := hHeld
  have G := H2.io.i; obtain ⟨x0, x1⟩ := G; have G := H2.io.o; obtain ⟨⟨z0, z1⟩, g0, g1⟩ := G; dsimp only [Sp.zero] at z0 z1
  go_wp2_with (go_at_call 13; (with_reducible refine (ks _ H2.tab).mono ?_); rintro e w2 ⟨rfl, rfl⟩)
  refine bodyPost_ret (v := .agg #[.int .i64 s.f, .int .i64 s.f]) (by simp [results, Tryd.results27, go_sem, z0, z1]; try rfl) rfl ⟨by rw [← HC.out]; rfl, ?_⟩
  first | exact H2.io.bel | exact two_set H2.io.bel _ (by omega) _ _

set_option maxHeartbeats 2000000 in
theorem inner_10 (s c : Sp) (tier : Int) (w : World) (hT : Tab w) (H : s.inner tier = c) (hm : s.may tier = true) (he : s.t = 1099511627777) (hl : ¬ downI s.t (wid tier) ≤ upI s.f (wid tier)) : Calls Tryd.prog 27 #[s.v, .int .i64 tier] w fun e w' => e = .returned (c.v) ∧ Below w.heap.size w w' := by
  have H0 := IOT.new hT s
  have kf := fun w hT => fits_is s tier _ w hT (Lib.hid rfl)
  obtain ⟨⟨a1, a2, a3⟩, a4⟩ := Sp.may_parts hm
  unfold Sp.inner at H
  rw [if_neg (by rw [hm]; simp), if_neg hl] at H
  rw [hm] at kf
  unfold Sp.v at kf
  rw [show s.v = .agg #[.int .i64 s.f, .int .i64 s.t] from rfl]
  have ko := fun w hT => of_is (s.f - 1) tier _ w hT (by omega) (Lib.hid rfl)
  have hO := of_ahead (tier := tier) a1 (by omega) a4
  generalize ofI (s.f - 1) tier = o at *
  obtain ⟨of, ot⟩ := o
  unfold Sp.v at ko
  dsimp only at ko hO
  have hfl := field_t of ot
  have hw1 : IntKind.i64.wrap (s.f - 1) = s.f - 1 := by rw [IntKind.wrap_i64]; omega
  have hD : downI s.t (wid tier) = s.t := by unfold downI; rw [if_neg (by omega)]
  rw [hD] at hl H
  have g1 : (s.t == 1099511627777) = true := by simpa using he
  have g1' : (s.t != 1099511627777) = false := by simp [bne, g1]
  have hcu : ot = upI s.f (wid tier) := by rw [hO]; unfold cutI; rw [if_neg (by omega)]
  rw [← hcu] at H hl
  have g2 : ¬ s.t ≤ ot := hl
  have HC := Lib.hid (show (Sp.mk ot s.t).v = c.v by rw [H])
  clear H hm he hl hO hD hcu
  go_enter Tryd.func27, Tryd.ntmps27
  go_wp2_with (go_at_call 44; (with_reducible refine (kf _ H0.tab).mono ?_); rintro e w1 ⟨rfl, hb1⟩; have H1 := H0.keep hb1; have G := H1.io.i; obtain ⟨x0, x1⟩ := G; have G := H1.io.o; obtain ⟨⟨z0, z1⟩, g0, g1⟩ := G; dsimp only [Sp.zero] at z0 z1)
  refine wp_region_held_drew (S := (IOT w s)) (by kernel_rfl) H1.drew (fun hHeld => ?_)
  refine wpAnyH_take (i := 0) (oi := ?oi101o) (v := ?oi101v) ?oi101h (by kernel_rfl) (by kernel_rfl) (by kernel_rfl) ?oi101q ?oi101y hHeld ?oi101r
  case oi101h => (simp only [List.getElem?_toArray, List.getElem?_cons_zero]; rfl)
  case oi101q => exact fun _ _ _ h => h
  case oi101y => (refine Or.inl ⟨by first | kernel_rfl | rfl, ?_⟩; intro w hSw; (try dsimp only at hSw); obtain ⟨⟨⟨x0, x1⟩, -, -⟩, -⟩ := hSw; go_simp <;> (try with_reducible rfl))
  try simp only [Act.put, List.setIfInBounds_toArray, List.set_cons_zero, List.set_cons_succ]
  refine wpAnyH_take (i := 1) (oi := ?oi102o) (v := ?oi102v) ?oi102h (by kernel_rfl) (by kernel_rfl) (by kernel_rfl) ?oi102q ?oi102y hHeld ?oi102r
  case oi102h => (simp only [List.getElem?_toArray, List.getElem?_cons_succ, List.getElem?_cons_zero]; rfl)
  case oi102q => exact fun _ _ _ h => h
  case oi102y => (refine Or.inl ⟨by first | kernel_rfl | rfl, ?_⟩; intro w hSw; (try dsimp only at hSw); obtain ⟨⟨⟨x0, x1⟩, -, -⟩, -⟩ := hSw; go_simp <;> (try with_reducible rfl))
  try simp only [Act.put, List.setIfInBounds_toArray, List.set_cons_zero, List.set_cons_succ]
  refine wpAnyH_take (i := 2) (oi := ?oi103o) (v := ?oi103v) ?oi103h (by kernel_rfl) (by kernel_rfl) (by kernel_rfl) ?oi103q ?oi103y hHeld ?oi103r
  case oi103h => (simp only [List.getElem?_toArray, List.getElem?_cons_succ, List.getElem?_cons_zero]; rfl)
  case oi103q => exact fun _ _ _ h => h
  case oi103y => (refine Or.inl ⟨by first | kernel_rfl | rfl, ?_⟩; intro w hSw; (try dsimp only at hSw); obtain ⟨⟨⟨x0, x1⟩, -, -⟩, -⟩ := hSw; go_simp <;> (try with_reducible rfl))
  try simp only [Act.put, List.setIfInBounds_toArray, List.set_cons_zero, List.set_cons_succ]
  refine wpAnyH_take (i := 3) (oi := ?oi104o) (v := ?oi104v) ?oi104h (by kernel_rfl) (by kernel_rfl) (by kernel_rfl) ?oi104q ?oi104y hHeld ?oi104r
  case oi104h => (simp only [List.getElem?_toArray, List.getElem?_cons_succ, List.getElem?_cons_zero]; rfl)
  case oi104q => exact fun _ _ _ h => h
  case oi104y => (refine Or.inl ⟨by first | kernel_rfl | rfl, ?_⟩; intro w hSw; (try dsimp only at hSw); obtain ⟨⟨⟨x0, x1⟩, -, -⟩, -⟩ := hSw; go_simp <;> (try with_reducible rfl))
  try simp only [Act.put, List.setIfInBounds_toArray, List.set_cons_zero, List.set_cons_succ]
  refine wpAnyH_take (i := 6) (oi := ?oi105o) (v := ?oi105v) ?oi105h (by kernel_rfl) (by kernel_rfl) (by kernel_rfl) ?oi105q ?oi105y hHeld ?oi105r
  case oi105h => (simp only [List.getElem?_toArray, List.getElem?_cons_succ, List.getElem?_cons_zero]; rfl)
  case oi105q => exact fun _ _ _ h => h
  case oi105y => (refine Or.inl ⟨by first | kernel_rfl | rfl, ?_⟩; intro w hSw; (try dsimp only at hSw); obtain ⟨⟨⟨x0, x1⟩, -, -⟩, -⟩ := hSw; go_simp <;> (try with_reducible rfl))
  try simp only [Act.put, List.setIfInBounds_toArray, List.set_cons_zero, List.set_cons_succ]
  refine wpAnyH_take (i := 7) (oi := ?oi106o) (v := ?oi106v) ?oi106h (by kernel_rfl) (by kernel_rfl) (by kernel_rfl) ?oi106q ?oi106y hHeld ?oi106r
  case oi106h => (simp only [List.getElem?_toArray, List.getElem?_cons_succ, List.getElem?_cons_zero]; rfl)
  case oi106q => exact fun _ _ _ h => h
  case oi106y => (refine Or.inl ⟨by first | kernel_rfl | rfl, ?_⟩; intro w hSw; (try dsimp only at hSw); obtain ⟨⟨⟨x0, x1⟩, -, -⟩, -⟩ := hSw; go_simp <;> (try with_reducible rfl))
  try simp only [Act.put, List.setIfInBounds_toArray, List.set_cons_zero, List.set_cons_succ]
  refine wpAnyH_ready (rs := [4]) (by kernel_rfl) (by simp) ?_
  refine (AllReadyH.cons rfl (fun K hK => ?_) AllReadyH.nil)
  go_simp
  ((with_reducible refine (ko _ hHeld.tab).mono ?_); rintro e w' ⟨rfl, hb'⟩)
  refine hK.out _ _ (hHeld.keep hb') (fun hHeld => ?_)
  clear hK K
  try simp only [Act.put, List.setIfInBounds_toArray, List.set_cons_zero, List.set_cons_succ]
  refine wpAnyH_take (i := 5) (oi := ?oi107o) (v := ?oi107v) ?oi107h (by kernel_rfl) (by kernel_rfl) (by kernel_rfl) ?oi107q ?oi107y hHeld ?oi107r
  case oi107h => (simp only [List.getElem?_toArray, List.getElem?_cons_succ, List.getElem?_cons_zero]; rfl)
  case oi107q => exact fun _ _ _ h => h
  case oi107y => (refine Or.inl ⟨by first | kernel_rfl | rfl, ?_⟩; intro w hSw; (try dsimp only at hSw); obtain ⟨⟨⟨x0, x1⟩, -, -⟩, -⟩ := hSw; go_simp <;> (try with_reducible rfl))
  try simp only [Act.put, List.setIfInBounds_toArray, List.set_cons_zero, List.set_cons_succ]
  refine wpAnyH_take (i := 8) (oi := ?oi108o) (v := ?oi108v) ?oi108h (by kernel_rfl) (by kernel_rfl) (by kernel_rfl) ?oi108q ?oi108y hHeld ?oi108r
  case oi108h => (simp only [List.getElem?_toArray, List.getElem?_cons_succ, List.getElem?_cons_zero]; rfl)
  case oi108q => exact fun _ _ _ h => h
  case oi108y => (refine Or.inl ⟨by first | kernel_rfl | rfl, ?_⟩; intro w hSw; (try dsimp only at hSw); obtain ⟨⟨⟨x0, x1⟩, -, -⟩, -⟩ := hSw; go_simp <;> (try with_reducible rfl))
  try simp only [Act.put, List.setIfInBounds_toArray, List.set_cons_zero, List.set_cons_succ]
  refine wpAnyH_take (i := 9) (oi := ?oi109o) (v := ?oi109v) ?oi109h (by kernel_rfl) (by kernel_rfl) (by kernel_rfl) ?oi109q ?oi109y hHeld ?oi109r
  case oi109h => (simp only [List.getElem?_toArray, List.getElem?_cons_succ, List.getElem?_cons_zero]; rfl)
  case oi109q => exact fun _ _ _ h => h
  case oi109y => (refine Or.inl ⟨by first | kernel_rfl | rfl, ?_⟩; intro w hSw; (try dsimp only at hSw); obtain ⟨⟨⟨x0, x1⟩, -, -⟩, -⟩ := hSw; go_simp <;> (try with_reducible rfl))
  try simp only [Act.put, List.setIfInBounds_toArray, List.set_cons_zero, List.set_cons_succ]
  refine wpAnyH_done (by kernel_rfl) ?_ _
  have H2 := hHeld
  have G := H2.io.i; obtain ⟨x0, x1⟩ := G; have G := H2.io.o; obtain ⟨⟨z0, z1⟩, g0, g1⟩ := G; dsimp only [Sp.zero] at z0 z1
  go_wp2
  refine bodyPost_ret (v := .agg #[.int .i64 ot, .int .i64 s.t]) (by simp [results, Tryd.results27, go_sem, z0, z1]; try rfl) rfl ⟨by rw [← HC.out]; rfl, ?_⟩
  first | exact H2.io.bel | exact two_set H2.io.bel _ (by omega) _ _

set_option maxHeartbeats 2000000 in
theorem inner_11 (s c : Sp) (tier : Int) (w : World) (hT : Tab w) (H : s.inner tier = c) (hm : s.may tier = true) (he : s.t = 1099511627777) (hl : downI s.t (wid tier) ≤ upI s.f (wid tier)) : Calls Tryd.prog 27 #[s.v, .int .i64 tier] w fun e w' => e = .returned (c.v) ∧ Below w.heap.size w w' := by
  have H0 := IOT.new hT s
  have kf := fun w hT => fits_is s tier _ w hT (Lib.hid rfl)
  obtain ⟨⟨a1, a2, a3⟩, a4⟩ := Sp.may_parts hm
  unfold Sp.inner at H
  rw [if_neg (by rw [hm]; simp), if_pos hl] at H
  rw [hm] at kf
  unfold Sp.v at kf
  rw [show s.v = .agg #[.int .i64 s.f, .int .i64 s.t] from rfl]
  have ko := fun w hT => of_is (s.f - 1) tier _ w hT (by omega) (Lib.hid rfl)
  have hO := of_ahead (tier := tier) a1 (by omega) a4
  generalize ofI (s.f - 1) tier = o at *
  obtain ⟨of, ot⟩ := o
  unfold Sp.v at ko
  dsimp only at ko hO
  have hfl := field_t of ot
  have hw1 : IntKind.i64.wrap (s.f - 1) = s.f - 1 := by rw [IntKind.wrap_i64]; omega
  have hD : downI s.t (wid tier) = s.t := by unfold downI; rw [if_neg (by omega)]
  rw [hD] at hl
  have g1 : (s.t == 1099511627777) = true := by simpa using he
  have g1' : (s.t != 1099511627777) = false := by simp [bne, g1]
  have g2 : s.t ≤ ot := by rw [hO]; unfold cutI; split <;> omega
  have HC := Lib.hid (show (Sp.mk s.f s.f).v = c.v by rw [H])
  clear H hm he hl hO hD
  go_enter Tryd.func27, Tryd.ntmps27
  go_wp2_with (go_at_call 44; (with_reducible refine (kf _ H0.tab).mono ?_); rintro e w1 ⟨rfl, hb1⟩; have H1 := H0.keep hb1; have G := H1.io.i; obtain ⟨x0, x1⟩ := G; have G := H1.io.o; obtain ⟨⟨z0, z1⟩, g0, g1⟩ := G; dsimp only [Sp.zero] at z0 z1)
  refine wp_region_held_drew (S := (IOT w s)) (by kernel_rfl) H1.drew (fun hHeld => ?_)
  refine wpAnyH_take (i := 0) (oi := ?oi111o) (v := ?oi111v) ?oi111h (by kernel_rfl) (by kernel_rfl) (by kernel_rfl) ?oi111q ?oi111y hHeld ?oi111r
  case oi111h => (simp only [List.getElem?_toArray, List.getElem?_cons_zero]; rfl)
  case oi111q => exact fun _ _ _ h => h
  case oi111y => (refine Or.inl ⟨by first | kernel_rfl | rfl, ?_⟩; intro w hSw; (try dsimp only at hSw); obtain ⟨⟨⟨x0, x1⟩, -, -⟩, -⟩ := hSw; go_simp <;> (try with_reducible rfl))
  try simp only [Act.put, List.setIfInBounds_toArray, List.set_cons_zero, List.set_cons_succ]
  refine wpAnyH_take (i := 1) (oi := ?oi112o) (v := ?oi112v) ?oi112h (by kernel_rfl) (by kernel_rfl) (by kernel_rfl) ?oi112q ?oi112y hHeld ?oi112r
  case oi112h => (simp only [List.getElem?_toArray, List.getElem?_cons_succ, List.getElem?_cons_zero]; rfl)
  case oi112q => exact fun _ _ _ h => h
  case oi112y => (refine Or.inl ⟨by first | kernel_rfl | rfl, ?_⟩; intro w hSw; (try dsimp only at hSw); obtain ⟨⟨⟨x0, x1⟩, -, -⟩, -⟩ := hSw; go_simp <;> (try with_reducible rfl))
  try simp only [Act.put, List.setIfInBounds_toArray, List.set_cons_zero, List.set_cons_succ]
  refine wpAnyH_take (i := 2) (oi := ?oi113o) (v := ?oi113v) ?oi113h (by kernel_rfl) (by kernel_rfl) (by kernel_rfl) ?oi113q ?oi113y hHeld ?oi113r
  case oi113h => (simp only [List.getElem?_toArray, List.getElem?_cons_succ, List.getElem?_cons_zero]; rfl)
  case oi113q => exact fun _ _ _ h => h
  case oi113y => (refine Or.inl ⟨by first | kernel_rfl | rfl, ?_⟩; intro w hSw; (try dsimp only at hSw); obtain ⟨⟨⟨x0, x1⟩, -, -⟩, -⟩ := hSw; go_simp <;> (try with_reducible rfl))
  try simp only [Act.put, List.setIfInBounds_toArray, List.set_cons_zero, List.set_cons_succ]
  refine wpAnyH_take (i := 3) (oi := ?oi114o) (v := ?oi114v) ?oi114h (by kernel_rfl) (by kernel_rfl) (by kernel_rfl) ?oi114q ?oi114y hHeld ?oi114r
  case oi114h => (simp only [List.getElem?_toArray, List.getElem?_cons_succ, List.getElem?_cons_zero]; rfl)
  case oi114q => exact fun _ _ _ h => h
  case oi114y => (refine Or.inl ⟨by first | kernel_rfl | rfl, ?_⟩; intro w hSw; (try dsimp only at hSw); obtain ⟨⟨⟨x0, x1⟩, -, -⟩, -⟩ := hSw; go_simp <;> (try with_reducible rfl))
  try simp only [Act.put, List.setIfInBounds_toArray, List.set_cons_zero, List.set_cons_succ]
  refine wpAnyH_take (i := 6) (oi := ?oi115o) (v := ?oi115v) ?oi115h (by kernel_rfl) (by kernel_rfl) (by kernel_rfl) ?oi115q ?oi115y hHeld ?oi115r
  case oi115h => (simp only [List.getElem?_toArray, List.getElem?_cons_succ, List.getElem?_cons_zero]; rfl)
  case oi115q => exact fun _ _ _ h => h
  case oi115y => (refine Or.inl ⟨by first | kernel_rfl | rfl, ?_⟩; intro w hSw; (try dsimp only at hSw); obtain ⟨⟨⟨x0, x1⟩, -, -⟩, -⟩ := hSw; go_simp <;> (try with_reducible rfl))
  try simp only [Act.put, List.setIfInBounds_toArray, List.set_cons_zero, List.set_cons_succ]
  refine wpAnyH_take (i := 7) (oi := ?oi116o) (v := ?oi116v) ?oi116h (by kernel_rfl) (by kernel_rfl) (by kernel_rfl) ?oi116q ?oi116y hHeld ?oi116r
  case oi116h => (simp only [List.getElem?_toArray, List.getElem?_cons_succ, List.getElem?_cons_zero]; rfl)
  case oi116q => exact fun _ _ _ h => h
  case oi116y => (refine Or.inl ⟨by first | kernel_rfl | rfl, ?_⟩; intro w hSw; (try dsimp only at hSw); obtain ⟨⟨⟨x0, x1⟩, -, -⟩, -⟩ := hSw; go_simp <;> (try with_reducible rfl))
  try simp only [Act.put, List.setIfInBounds_toArray, List.set_cons_zero, List.set_cons_succ]
  refine wpAnyH_ready (rs := [4]) (by kernel_rfl) (by simp) ?_
  refine (AllReadyH.cons rfl (fun K hK => ?_) AllReadyH.nil)
  go_simp
  ((with_reducible refine (ko _ hHeld.tab).mono ?_); rintro e w' ⟨rfl, hb'⟩)
  refine hK.out _ _ (hHeld.keep hb') (fun hHeld => ?_)
  clear hK K
  try simp only [Act.put, List.setIfInBounds_toArray, List.set_cons_zero, List.set_cons_succ]
  refine wpAnyH_take (i := 5) (oi := ?oi117o) (v := ?oi117v) ?oi117h (by kernel_rfl) (by kernel_rfl) (by kernel_rfl) ?oi117q ?oi117y hHeld ?oi117r
  case oi117h => (simp only [List.getElem?_toArray, List.getElem?_cons_succ, List.getElem?_cons_zero]; rfl)
  case oi117q => exact fun _ _ _ h => h
  case oi117y => (refine Or.inl ⟨by first | kernel_rfl | rfl, ?_⟩; intro w hSw; (try dsimp only at hSw); obtain ⟨⟨⟨x0, x1⟩, -, -⟩, -⟩ := hSw; go_simp <;> (try with_reducible rfl))
  try simp only [Act.put, List.setIfInBounds_toArray, List.set_cons_zero, List.set_cons_succ]
  refine wpAnyH_take (i := 8) (oi := ?oi118o) (v := ?oi118v) ?oi118h (by kernel_rfl) (by kernel_rfl) (by kernel_rfl) ?oi118q ?oi118y hHeld ?oi118r
  case oi118h => (simp only [List.getElem?_toArray, List.getElem?_cons_succ, List.getElem?_cons_zero]; rfl)
  case oi118q => exact fun _ _ _ h => h
  case oi118y => (refine Or.inl ⟨by first | kernel_rfl | rfl, ?_⟩; intro w hSw; (try dsimp only at hSw); obtain ⟨⟨⟨x0, x1⟩, -, -⟩, -⟩ := hSw; go_simp <;> (try with_reducible rfl))
  try simp only [Act.put, List.setIfInBounds_toArray, List.set_cons_zero, List.set_cons_succ]
  refine wpAnyH_take (i := 9) (oi := ?oi119o) (v := ?oi119v) ?oi119h (by kernel_rfl) (by kernel_rfl) (by kernel_rfl) ?oi119q ?oi119y hHeld ?oi119r
  case oi119h => (simp only [List.getElem?_toArray, List.getElem?_cons_succ, List.getElem?_cons_zero]; rfl)
  case oi119q => exact fun _ _ _ h => h
  case oi119y => (refine Or.inl ⟨by first | kernel_rfl | rfl, ?_⟩; intro w hSw; (try dsimp only at hSw); obtain ⟨⟨⟨x0, x1⟩, -, -⟩, -⟩ := hSw; go_simp <;> (try with_reducible rfl))
  try simp only [Act.put, List.setIfInBounds_toArray, List.set_cons_zero, List.set_cons_succ]
  refine wpAnyH_done (by kernel_rfl) ?_ _
  have H2 := hHeld
  have G := H2.io.i; obtain ⟨x0, x1⟩ := G; have G := H2.io.o; obtain ⟨⟨z0, z1⟩, g0, g1⟩ := G; dsimp only [Sp.zero] at z0 z1
  go_wp2
  refine bodyPost_ret (v := .agg #[.int .i64 s.f, .int .i64 s.f]) (by simp [results, Tryd.results27, go_sem, z0, z1]; try rfl) rfl ⟨by rw [← HC.out]; rfl, ?_⟩
  first | exact H2.io.bel | exact two_set H2.io.bel _ (by omega) _ _

theorem inner_is (s c : Sp) (tier : Int) (w : World) (hT : Tab w) (H : Hid (s.inner tier = c)) : Calls Tryd.prog 27 #[s.v, .int .i64 tier] w fun e w' => e = .returned (c.v) ∧ Below w.heap.size w w' := by
  cases hm : s.may tier with
  | false => exact inner_no s c tier w hT H.out hm
  | true =>
    by_cases he : s.t = 1099511627777
    · by_cases hl : downI s.t (wid tier) ≤ upI s.f (wid tier)
      · exact inner_11 s c tier w hT H.out hm he hl
      · exact inner_10 s c tier w hT H.out hm he hl
    · by_cases hl : downI s.t (wid tier) ≤ upI s.f (wid tier)
      · exact inner_01 s c tier w hT H.out hm he hl
      · exact inner_00 s c tier w hT H.out hm he hl

theorem count_is (s : Sp) (tier n : Int) (w : World) (hT : Tab w) (H : Hid (s.count tier = n)) : Calls Tryd.prog 29 #[s.v, .int .i64 tier] w fun e w' => e = .returned (.int .i64 n) ∧ Below w.heap.size w w' := by
  have hB := (Below.refl w.heap.size w).alloc (Nat.le_refl _) (.cells #[.int .i64 s.f, .int .i64 s.t] 26)
  have hI := SpAt.new w s 26
  have hT1 := hT.alloc (.cells #[.int .i64 s.f, .int .i64 s.t] 26)
  have kf := fun w hT => fits_is s tier _ w hT (Lib.hid rfl)
  have H := H.out
  unfold Sp.count at H
  cases hm : s.may tier with
  | false =>
    have hc : s.cover tier = Sp.zero := by unfold Sp.cover; rw [if_pos hm]
    rw [hc, if_pos (show Sp.zero.f = Sp.zero.t from rfl)] at H
    have HZ := Lib.hid H
    rw [hm] at kf
    unfold Sp.v at kf ⊢
    clear H hm hc
    go_enter Tryd.func29, Tryd.ntmps29
    go_wp2_with (go_at_call 44; (with_reducible refine (kf _ hT1).mono ?_); rintro e w1 ⟨rfl, hb1⟩)
    go_ret
    exact ⟨by rw [← HZ.out]; rfl, bel_next hB hb1⟩
  | true =>
    obtain ⟨⟨a1, a2, a3⟩, a4⟩ := Sp.may_parts hm
    obtain ⟨b1, b2, b3, -⟩ := cover_bounds s tier
    have kc := fun w hT => cover_is s _ tier w hT (Lib.hid rfl)
    obtain ⟨W, hW⟩ : ∃ W, wid tier = W := ⟨_, rfl⟩
    have kw := fun w hT => width_is tier W w hT (Lib.hid hW)
    have hwb := wid_bounds tier
    rw [hW] at H hwb a4
    obtain ⟨⟨cf, ct⟩, hc⟩ : ∃ c, s.cover tier = c := ⟨_, rfl⟩
    rw [hc] at H b1 b2 b3 kc
    rw [hm] at kf
    dsimp only at H b1 b2 b3
    unfold Sp.v at kc kf ⊢
    dsimp only at kc
    have e2 : (W == 0) = false := by rw [beq_eq_false_iff_ne]; omega
    have hW0 : ¬ W = 0 := by omega
    obtain ⟨x, hx⟩ : ∃ x, ct - cf + W - 1 = x := ⟨_, rfl⟩
    rw [hx] at H
    have hx0 : 0 ≤ x ∧ x ≤ 2000000000000 := by omega
    have hn' : x / W = n := by
      by_cases he : cf = ct
      · rw [if_pos he] at H
        rw [← H]
        exact Int.ediv_eq_zero_of_lt hx0.1 (by omega)
      · rw [if_neg he] at H; exact H
    have hq : x.tdiv W = n := by rw [← hn']; exact Int.tdiv_eq_ediv_of_nonneg hx0.1
    have hn : 0 ≤ n ∧ n ≤ 2000000000000 := by
      rw [← hn']
      refine ⟨Int.ediv_nonneg hx0.1 (by omega), ?_⟩
      have := Int.ediv_le_self W hx0.1
      omega
    have h1 : IntKind.i64.wrap (ct - cf) = ct - cf := by rw [IntKind.wrap_i64]; omega
    have h2 : IntKind.i64.wrap (ct - cf + W) = ct - cf + W := by rw [IntKind.wrap_i64]; omega
    have h3 : IntKind.i64.wrap (ct - cf + W - 1) = x := by rw [IntKind.wrap_i64]; omega
    have h3' : IntKind.i64.wrap x = x := by rw [IntKind.wrap_i64]; omega
    have h4 : IntKind.i64.wrap n = n := by rw [IntKind.wrap_i64]; omega
    clear H hm hc hW hn'
    go_enter Tryd.func29, Tryd.ntmps29
    go_wp2_with (first
      | (go_at_call 44; (with_reducible refine (kf _ hT1).mono ?_); rintro e w1 ⟨rfl, hb1⟩; have hT2 := hT1.next hb1; have hI1 := hI.below hb1; obtain ⟨x0, x1⟩ := hI1)
      | (go_at_call 25; (with_reducible refine (kc _ hT2).mono ?_); rintro e w2 ⟨rfl, hb2⟩; have hT3 := hT2.next hb2)
      | (go_at_call 11; (with_reducible refine (kw _ hT3).mono ?_); rintro e w3 ⟨rfl, rfl⟩))
    go_ret
    exact ⟨rfl, bel_new (bel_next (bel_next hB hb1) hb2) _⟩

def meetsB (a b : Sp) : Bool := a.is && (b.is && decide (max a.f b.f < min a.t b.t))
theorem check_yes {s : Sp} (h : s.is = true) (w : World) : Calls Tryd.prog 22 #[.agg #[.int .i64 s.f, .int .i64 s.t]] w fun e w' => e = .returned (.int .i64 0) ∧ Below w.heap.size w w' := check_is s 0 w (Lib.hid (by rw [h]; rfl))
theorem check_not {s : Sp} (h : s.is = false) (w : World) : Calls Tryd.prog 22 #[.agg #[.int .i64 s.f, .int .i64 s.t]] w fun e w' => e = .returned (.int .i64 1) ∧ Below w.heap.size w w' := check_is s 1 w (Lib.hid (by rw [h]; rfl))

set_option maxHeartbeats 2000000 in
theorem meets_na (a b : Sp) (z : Bool) (w : World) (H : meetsB a b = z) (ha : a.is = false) : Calls Tryd.prog 32 #[a.v, b.v] w fun e w' => e = .returned (.bool z) ∧ Below w.heap.size w w' := by
  have hB := bel_new ((Below.refl w.heap.size w).alloc (Nat.le_refl _) (.cells #[.int .i64 a.f, .int .i64 a.t] 26)) (.cells #[.int .i64 b.f, .int .i64 b.t] 26)
  have hI := (SpAt.new w a 26).below ((Below.refl _ _).alloc (Nat.le_refl _) (.cells #[.int .i64 b.f, .int .i64 b.t] 26))
  have hJ : SpAt ((w.alloc (.cells #[.int .i64 a.f, .int .i64 a.t] 26)).alloc (.cells #[.int .i64 b.f, .int .i64 b.t] 26)) (w.heap.size + 1) b := by
    have := SpAt.new (w.alloc (.cells #[.int .i64 a.f, .int .i64 a.t] 26)) b 26
    simpa using this
  rw [show a.v = .agg #[.int .i64 a.f, .int .i64 a.t] from rfl, show b.v = .agg #[.int .i64 b.f, .int .i64 b.t] from rfl]
  unfold meetsB at H
  have ka := check_not ha
  rw [ha] at H
  have HZ := Lib.hid (show false = z from H)
  clear H ha
  go_enter Tryd.func32, Tryd.ntmps32
  go_wp2_with (go_at_call 22; first
    | ((with_reducible refine (ka _).mono ?_); rintro e w1 ⟨rfl, hb1⟩; have hI1 := hI.below hb1; (have hJ1 := hJ.below hb1); (have G := hI1; obtain ⟨x0, x1⟩ := G); (have G := hJ1; obtain ⟨y0, y1⟩ := G)))
  go_ret
  exact ⟨by rw [← HZ.out]; rfl, bel_next hB hb1⟩

set_option maxHeartbeats 2000000 in
theorem meets_nb (a b : Sp) (z : Bool) (w : World) (H : meetsB a b = z) (ha : a.is = true) (hb : b.is = false) : Calls Tryd.prog 32 #[a.v, b.v] w fun e w' => e = .returned (.bool z) ∧ Below w.heap.size w w' := by
  have hB := bel_new ((Below.refl w.heap.size w).alloc (Nat.le_refl _) (.cells #[.int .i64 a.f, .int .i64 a.t] 26)) (.cells #[.int .i64 b.f, .int .i64 b.t] 26)
  have hI := (SpAt.new w a 26).below ((Below.refl _ _).alloc (Nat.le_refl _) (.cells #[.int .i64 b.f, .int .i64 b.t] 26))
  have hJ : SpAt ((w.alloc (.cells #[.int .i64 a.f, .int .i64 a.t] 26)).alloc (.cells #[.int .i64 b.f, .int .i64 b.t] 26)) (w.heap.size + 1) b := by
    have := SpAt.new (w.alloc (.cells #[.int .i64 a.f, .int .i64 a.t] 26)) b 26
    simpa using this
  rw [show a.v = .agg #[.int .i64 a.f, .int .i64 a.t] from rfl, show b.v = .agg #[.int .i64 b.f, .int .i64 b.t] from rfl]
  unfold meetsB at H
  have ka := check_yes ha
  have kb := check_not hb
  rw [ha, hb] at H
  have HZ := Lib.hid (show false = z from H)
  clear H ha hb
  go_enter Tryd.func32, Tryd.ntmps32
  go_wp2_with (go_at_call 22; first
    | ((with_reducible refine (ka _).mono ?_); rintro e w1 ⟨rfl, hb1⟩; have hI1 := hI.below hb1; (have hJ1 := hJ.below hb1); (have G := hI1; obtain ⟨x0, x1⟩ := G); (have G := hJ1; obtain ⟨y0, y1⟩ := G))
    | ((with_reducible refine (kb _).mono ?_); rintro e w2 ⟨rfl, hb2⟩; have hI2 := hI1.below hb2; (have hJ2 := hJ1.below hb2); (have G := hI2; obtain ⟨x0, x1⟩ := G); (have G := hJ2; obtain ⟨y0, y1⟩ := G)))
  go_ret
  exact ⟨by rw [← HZ.out]; rfl, bel_next (bel_next hB hb1) hb2⟩

set_option maxHeartbeats 2000000 in
theorem meets_00 (a b : Sp) (z : Bool) (w : World) (H : meetsB a b = z) (ha : a.is = true) (hb : b.is = true) (hf : ¬ a.f < b.f) (hg : ¬ b.t < a.t) : Calls Tryd.prog 32 #[a.v, b.v] w fun e w' => e = .returned (.bool z) ∧ Below w.heap.size w w' := by
  have hB := bel_new ((Below.refl w.heap.size w).alloc (Nat.le_refl _) (.cells #[.int .i64 a.f, .int .i64 a.t] 26)) (.cells #[.int .i64 b.f, .int .i64 b.t] 26)
  have hI := (SpAt.new w a 26).below ((Below.refl _ _).alloc (Nat.le_refl _) (.cells #[.int .i64 b.f, .int .i64 b.t] 26))
  have hJ : SpAt ((w.alloc (.cells #[.int .i64 a.f, .int .i64 a.t] 26)).alloc (.cells #[.int .i64 b.f, .int .i64 b.t] 26)) (w.heap.size + 1) b := by
    have := SpAt.new (w.alloc (.cells #[.int .i64 a.f, .int .i64 a.t] 26)) b 26
    simpa using this
  rw [show a.v = .agg #[.int .i64 a.f, .int .i64 a.t] from rfl, show b.v = .agg #[.int .i64 b.f, .int .i64 b.t] from rfl]
  unfold meetsB at H
  have ka := check_yes ha
  have kb := check_yes hb
  rw [ha, hb] at H
  have e1 : max a.f b.f = a.f := by omega
  have e2 : min a.t b.t = a.t := by omega
  have HZ := Lib.hid (show decide (a.f < a.t) = z by rw [← H, e1, e2]; rfl)
  clear H ha hb e1 e2
  go_enter Tryd.func32, Tryd.ntmps32
  go_wp2_with (go_at_call 22; first
    | ((with_reducible refine (ka _).mono ?_); rintro e w1 ⟨rfl, hb1⟩; have hI1 := hI.below hb1; (have hJ1 := hJ.below hb1); (have G := hI1; obtain ⟨x0, x1⟩ := G); (have G := hJ1; obtain ⟨y0, y1⟩ := G))
    | ((with_reducible refine (kb _).mono ?_); rintro e w2 ⟨rfl, hb2⟩; have hI2 := hI1.below hb2; (have hJ2 := hJ1.below hb2); (have G := hI2; obtain ⟨x0, x1⟩ := G); (have G := hJ2; obtain ⟨y0, y1⟩ := G)))
  go_ret
  exact ⟨by rw [← HZ.out]; rfl, bel_next (bel_next hB hb1) hb2⟩

set_option maxHeartbeats 2000000 in
theorem meets_01 (a b : Sp) (z : Bool) (w : World) (H : meetsB a b = z) (ha : a.is = true) (hb : b.is = true) (hf : ¬ a.f < b.f) (hg : b.t < a.t) : Calls Tryd.prog 32 #[a.v, b.v] w fun e w' => e = .returned (.bool z) ∧ Below w.heap.size w w' := by
  have hB := bel_new ((Below.refl w.heap.size w).alloc (Nat.le_refl _) (.cells #[.int .i64 a.f, .int .i64 a.t] 26)) (.cells #[.int .i64 b.f, .int .i64 b.t] 26)
  have hI := (SpAt.new w a 26).below ((Below.refl _ _).alloc (Nat.le_refl _) (.cells #[.int .i64 b.f, .int .i64 b.t] 26))
  have hJ : SpAt ((w.alloc (.cells #[.int .i64 a.f, .int .i64 a.t] 26)).alloc (.cells #[.int .i64 b.f, .int .i64 b.t] 26)) (w.heap.size + 1) b := by
    have := SpAt.new (w.alloc (.cells #[.int .i64 a.f, .int .i64 a.t] 26)) b 26
    simpa using this
  rw [show a.v = .agg #[.int .i64 a.f, .int .i64 a.t] from rfl, show b.v = .agg #[.int .i64 b.f, .int .i64 b.t] from rfl]
  unfold meetsB at H
  have ka := check_yes ha
  have kb := check_yes hb
  rw [ha, hb] at H
  have e1 : max a.f b.f = a.f := by omega
  have e2 : min a.t b.t = b.t := by omega
  have HZ := Lib.hid (show decide (a.f < b.t) = z by rw [← H, e1, e2]; rfl)
  clear H ha hb e1 e2
  go_enter Tryd.func32, Tryd.ntmps32
  go_wp2_with (go_at_call 22; first
    | ((with_reducible refine (ka _).mono ?_); rintro e w1 ⟨rfl, hb1⟩; have hI1 := hI.below hb1; (have hJ1 := hJ.below hb1); (have G := hI1; obtain ⟨x0, x1⟩ := G); (have G := hJ1; obtain ⟨y0, y1⟩ := G))
    | ((with_reducible refine (kb _).mono ?_); rintro e w2 ⟨rfl, hb2⟩; have hI2 := hI1.below hb2; (have hJ2 := hJ1.below hb2); (have G := hI2; obtain ⟨x0, x1⟩ := G); (have G := hJ2; obtain ⟨y0, y1⟩ := G)))
  go_ret
  exact ⟨by rw [← HZ.out]; rfl, bel_next (bel_next hB hb1) hb2⟩

set_option maxHeartbeats 2000000 in
theorem meets_10 (a b : Sp) (z : Bool) (w : World) (H : meetsB a b = z) (ha : a.is = true) (hb : b.is = true) (hf : a.f < b.f) (hg : ¬ b.t < a.t) : Calls Tryd.prog 32 #[a.v, b.v] w fun e w' => e = .returned (.bool z) ∧ Below w.heap.size w w' := by
  have hB := bel_new ((Below.refl w.heap.size w).alloc (Nat.le_refl _) (.cells #[.int .i64 a.f, .int .i64 a.t] 26)) (.cells #[.int .i64 b.f, .int .i64 b.t] 26)
  have hI := (SpAt.new w a 26).below ((Below.refl _ _).alloc (Nat.le_refl _) (.cells #[.int .i64 b.f, .int .i64 b.t] 26))
  have hJ : SpAt ((w.alloc (.cells #[.int .i64 a.f, .int .i64 a.t] 26)).alloc (.cells #[.int .i64 b.f, .int .i64 b.t] 26)) (w.heap.size + 1) b := by
    have := SpAt.new (w.alloc (.cells #[.int .i64 a.f, .int .i64 a.t] 26)) b 26
    simpa using this
  rw [show a.v = .agg #[.int .i64 a.f, .int .i64 a.t] from rfl, show b.v = .agg #[.int .i64 b.f, .int .i64 b.t] from rfl]
  unfold meetsB at H
  have ka := check_yes ha
  have kb := check_yes hb
  rw [ha, hb] at H
  have e1 : max a.f b.f = b.f := by omega
  have e2 : min a.t b.t = a.t := by omega
  have HZ := Lib.hid (show decide (b.f < a.t) = z by rw [← H, e1, e2]; rfl)
  clear H ha hb e1 e2
  go_enter Tryd.func32, Tryd.ntmps32
  go_wp2_with (go_at_call 22; first
    | ((with_reducible refine (ka _).mono ?_); rintro e w1 ⟨rfl, hb1⟩; have hI1 := hI.below hb1; (have hJ1 := hJ.below hb1); (have G := hI1; obtain ⟨x0, x1⟩ := G); (have G := hJ1; obtain ⟨y0, y1⟩ := G))
    | ((with_reducible refine (kb _).mono ?_); rintro e w2 ⟨rfl, hb2⟩; have hI2 := hI1.below hb2; (have hJ2 := hJ1.below hb2); (have G := hI2; obtain ⟨x0, x1⟩ := G); (have G := hJ2; obtain ⟨y0, y1⟩ := G)))
  go_ret
  exact ⟨by rw [← HZ.out]; rfl, bel_next (bel_next hB hb1) hb2⟩

set_option maxHeartbeats 2000000 in
theorem meets_11 (a b : Sp) (z : Bool) (w : World) (H : meetsB a b = z) (ha : a.is = true) (hb : b.is = true) (hf : a.f < b.f) (hg : b.t < a.t) : Calls Tryd.prog 32 #[a.v, b.v] w fun e w' => e = .returned (.bool z) ∧ Below w.heap.size w w' := by
  have hB := bel_new ((Below.refl w.heap.size w).alloc (Nat.le_refl _) (.cells #[.int .i64 a.f, .int .i64 a.t] 26)) (.cells #[.int .i64 b.f, .int .i64 b.t] 26)
  have hI := (SpAt.new w a 26).below ((Below.refl _ _).alloc (Nat.le_refl _) (.cells #[.int .i64 b.f, .int .i64 b.t] 26))
  have hJ : SpAt ((w.alloc (.cells #[.int .i64 a.f, .int .i64 a.t] 26)).alloc (.cells #[.int .i64 b.f, .int .i64 b.t] 26)) (w.heap.size + 1) b := by
    have := SpAt.new (w.alloc (.cells #[.int .i64 a.f, .int .i64 a.t] 26)) b 26
    simpa using this
  rw [show a.v = .agg #[.int .i64 a.f, .int .i64 a.t] from rfl, show b.v = .agg #[.int .i64 b.f, .int .i64 b.t] from rfl]
  unfold meetsB at H
  have ka := check_yes ha
  have kb := check_yes hb
  rw [ha, hb] at H
  have e1 : max a.f b.f = b.f := by omega
  have e2 : min a.t b.t = b.t := by omega
  have HZ := Lib.hid (show decide (b.f < b.t) = z by rw [← H, e1, e2]; rfl)
  clear H ha hb e1 e2
  go_enter Tryd.func32, Tryd.ntmps32
  go_wp2_with (go_at_call 22; first
    | ((with_reducible refine (ka _).mono ?_); rintro e w1 ⟨rfl, hb1⟩; have hI1 := hI.below hb1; (have hJ1 := hJ.below hb1); (have G := hI1; obtain ⟨x0, x1⟩ := G); (have G := hJ1; obtain ⟨y0, y1⟩ := G))
    | ((with_reducible refine (kb _).mono ?_); rintro e w2 ⟨rfl, hb2⟩; have hI2 := hI1.below hb2; (have hJ2 := hJ1.below hb2); (have G := hI2; obtain ⟨x0, x1⟩ := G); (have G := hJ2; obtain ⟨y0, y1⟩ := G)))
  go_ret
  exact ⟨by rw [← HZ.out]; rfl, bel_next (bel_next hB hb1) hb2⟩

theorem meets_is (a b : Sp) (z : Bool) (w : World) (H : Hid (meetsB a b = z)) : Calls Tryd.prog 32 #[a.v, b.v] w fun e w' => e = .returned (.bool z) ∧ Below w.heap.size w w' := by
  cases ha : a.is with
  | false => exact meets_na a b z w H.out ha
  | true =>
    cases hb : b.is with
    | false => exact meets_nb a b z w H.out ha hb
    | true =>
      by_cases hf : a.f < b.f
      · by_cases hg : b.t < a.t
        · exact meets_11 a b z w H.out ha hb hf hg
        · exact meets_10 a b z w H.out ha hb hf hg
      · by_cases hg : b.t < a.t
        · exact meets_01 a b z w H.out ha hb hf hg
        · exact meets_00 a b z w H.out ha hb hf hg
theorem meets_both (a b : Sp) : meetsB a b = decide ((bothI a b).f < (bothI a b).t) := by
  unfold meetsB bothI Sp.zero
  cases a.is <;> cases b.is <;> simp
  split <;> simp <;> omega

set_option maxHeartbeats 2000000 in
theorem both_no (a b c : Sp) (w : World) (H : bothI a b = c) (hm : meetsB a b = false) : Calls Tryd.prog 31 #[a.v, b.v] w fun e w' => e = .returned (c.v) ∧ Below w.heap.size w w' := by
  have H0 := In2.new w a b
  have km := fun w => meets_is a b _ w (Lib.hid hm)
  unfold bothI at H
  unfold Sp.v at km
  rw [show a.v = .agg #[.int .i64 a.f, .int .i64 a.t] from rfl, show b.v = .agg #[.int .i64 b.f, .int .i64 b.t] from rfl]
  have HC := Lib.hid (show Sp.zero.v = c.v by
    rw [← H]
    unfold meetsB at hm
    split
    · rfl
    · rename_i h
      rw [if_pos]
      revert hm h
      cases a.is <;> cases b.is <;> simp <;> omega)
  clear H hm
  go_enter Tryd.func31, Tryd.ntmps31
  go_wp2_with (go_at_call 32; (with_reducible refine (km _).mono ?_); rintro e w1 ⟨rfl, hb1⟩; have H1 := H0.keep hb1; have G := H1.i; obtain ⟨x0, x1⟩ := G; have G := H1.j; obtain ⟨y0, y1⟩ := G; have G := H1.o; obtain ⟨⟨z0, z1⟩, g0, g1⟩ := G; dsimp only [Sp.zero] at z0 z1)
  refine bodyPost_ret (v := .agg #[.int .i64 0, .int .i64 0]) (by simp [results, Tryd.results31, go_sem, z0, z1]; try rfl) rfl ⟨by rw [← HC.out]; rfl, ?_⟩
  first | exact H1.bel | exact two_set H1.bel _ (by omega) _ _

set_option maxHeartbeats 2000000 in
theorem both_00 (a b c : Sp) (w : World) (H : bothI a b = c) (hm : meetsB a b = true) (hf : ¬ a.f < b.f) (hg : ¬ b.t < a.t) : Calls Tryd.prog 31 #[a.v, b.v] w fun e w' => e = .returned (c.v) ∧ Below w.heap.size w w' := by
  have H0 := In2.new w a b
  have km := fun w => meets_is a b _ w (Lib.hid hm)
  unfold bothI at H
  unfold Sp.v at km
  rw [show a.v = .agg #[.int .i64 a.f, .int .i64 a.t] from rfl, show b.v = .agg #[.int .i64 b.f, .int .i64 b.t] from rfl]
  have e1 : max a.f b.f = a.f := by omega
  have e2 : min a.t b.t = a.t := by omega
  have HC := Lib.hid (show (Sp.mk a.f a.t).v = c.v by
    rw [← H]
    unfold meetsB at hm
    rw [e1, e2] at hm ⊢
    revert hm
    cases a.is <;> cases b.is <;> simp
    intro h
    rw [if_neg (by omega)])
  clear H hm e1 e2
  go_enter Tryd.func31, Tryd.ntmps31
  go_wp2_with (go_at_call 32; (with_reducible refine (km _).mono ?_); rintro e w1 ⟨rfl, hb1⟩; have H1 := H0.keep hb1; have G := H1.i; obtain ⟨x0, x1⟩ := G; have G := H1.j; obtain ⟨y0, y1⟩ := G; have G := H1.o; obtain ⟨⟨z0, z1⟩, g0, g1⟩ := G; dsimp only [Sp.zero] at z0 z1)
  refine bodyPost_ret (v := .agg #[.int .i64 a.f, .int .i64 a.t]) (by simp [results, Tryd.results31, go_sem, z0, z1]; try rfl) rfl ⟨by rw [← HC.out]; rfl, ?_⟩
  first | exact H1.bel | exact two_set H1.bel _ (by omega) _ _

set_option maxHeartbeats 2000000 in
theorem both_01 (a b c : Sp) (w : World) (H : bothI a b = c) (hm : meetsB a b = true) (hf : ¬ a.f < b.f) (hg : b.t < a.t) : Calls Tryd.prog 31 #[a.v, b.v] w fun e w' => e = .returned (c.v) ∧ Below w.heap.size w w' := by
  have H0 := In2.new w a b
  have km := fun w => meets_is a b _ w (Lib.hid hm)
  unfold bothI at H
  unfold Sp.v at km
  rw [show a.v = .agg #[.int .i64 a.f, .int .i64 a.t] from rfl, show b.v = .agg #[.int .i64 b.f, .int .i64 b.t] from rfl]
  have e1 : max a.f b.f = a.f := by omega
  have e2 : min a.t b.t = b.t := by omega
  have HC := Lib.hid (show (Sp.mk a.f b.t).v = c.v by
    rw [← H]
    unfold meetsB at hm
    rw [e1, e2] at hm ⊢
    revert hm
    cases a.is <;> cases b.is <;> simp
    intro h
    rw [if_neg (by omega)])
  clear H hm e1 e2
  go_enter Tryd.func31, Tryd.ntmps31
  go_wp2_with (go_at_call 32; (with_reducible refine (km _).mono ?_); rintro e w1 ⟨rfl, hb1⟩; have H1 := H0.keep hb1; have G := H1.i; obtain ⟨x0, x1⟩ := G; have G := H1.j; obtain ⟨y0, y1⟩ := G; have G := H1.o; obtain ⟨⟨z0, z1⟩, g0, g1⟩ := G; dsimp only [Sp.zero] at z0 z1)
  refine bodyPost_ret (v := .agg #[.int .i64 a.f, .int .i64 b.t]) (by simp [results, Tryd.results31, go_sem, z0, z1]; try rfl) rfl ⟨by rw [← HC.out]; rfl, ?_⟩
  first | exact H1.bel | exact two_set H1.bel _ (by omega) _ _

set_option maxHeartbeats 2000000 in
theorem both_10 (a b c : Sp) (w : World) (H : bothI a b = c) (hm : meetsB a b = true) (hf : a.f < b.f) (hg : ¬ b.t < a.t) : Calls Tryd.prog 31 #[a.v, b.v] w fun e w' => e = .returned (c.v) ∧ Below w.heap.size w w' := by
  have H0 := In2.new w a b
  have km := fun w => meets_is a b _ w (Lib.hid hm)
  unfold bothI at H
  unfold Sp.v at km
  rw [show a.v = .agg #[.int .i64 a.f, .int .i64 a.t] from rfl, show b.v = .agg #[.int .i64 b.f, .int .i64 b.t] from rfl]
  have e1 : max a.f b.f = b.f := by omega
  have e2 : min a.t b.t = a.t := by omega
  have HC := Lib.hid (show (Sp.mk b.f a.t).v = c.v by
    rw [← H]
    unfold meetsB at hm
    rw [e1, e2] at hm ⊢
    revert hm
    cases a.is <;> cases b.is <;> simp
    intro h
    rw [if_neg (by omega)])
  clear H hm e1 e2
  go_enter Tryd.func31, Tryd.ntmps31
  go_wp2_with (go_at_call 32; (with_reducible refine (km _).mono ?_); rintro e w1 ⟨rfl, hb1⟩; have H1 := H0.keep hb1; have G := H1.i; obtain ⟨x0, x1⟩ := G; have G := H1.j; obtain ⟨y0, y1⟩ := G; have G := H1.o; obtain ⟨⟨z0, z1⟩, g0, g1⟩ := G; dsimp only [Sp.zero] at z0 z1)
  refine bodyPost_ret (v := .agg #[.int .i64 b.f, .int .i64 a.t]) (by simp [results, Tryd.results31, go_sem, z0, z1]; try rfl) rfl ⟨by rw [← HC.out]; rfl, ?_⟩
  first | exact H1.bel | exact two_set H1.bel _ (by omega) _ _

set_option maxHeartbeats 2000000 in
theorem both_11 (a b c : Sp) (w : World) (H : bothI a b = c) (hm : meetsB a b = true) (hf : a.f < b.f) (hg : b.t < a.t) : Calls Tryd.prog 31 #[a.v, b.v] w fun e w' => e = .returned (c.v) ∧ Below w.heap.size w w' := by
  have H0 := In2.new w a b
  have km := fun w => meets_is a b _ w (Lib.hid hm)
  unfold bothI at H
  unfold Sp.v at km
  rw [show a.v = .agg #[.int .i64 a.f, .int .i64 a.t] from rfl, show b.v = .agg #[.int .i64 b.f, .int .i64 b.t] from rfl]
  have e1 : max a.f b.f = b.f := by omega
  have e2 : min a.t b.t = b.t := by omega
  have HC := Lib.hid (show (Sp.mk b.f b.t).v = c.v by
    rw [← H]
    unfold meetsB at hm
    rw [e1, e2] at hm ⊢
    revert hm
    cases a.is <;> cases b.is <;> simp
    intro h
    rw [if_neg (by omega)])
  clear H hm e1 e2
  go_enter Tryd.func31, Tryd.ntmps31
  go_wp2_with (go_at_call 32; (with_reducible refine (km _).mono ?_); rintro e w1 ⟨rfl, hb1⟩; have H1 := H0.keep hb1; have G := H1.i; obtain ⟨x0, x1⟩ := G; have G := H1.j; obtain ⟨y0, y1⟩ := G; have G := H1.o; obtain ⟨⟨z0, z1⟩, g0, g1⟩ := G; dsimp only [Sp.zero] at z0 z1)
  refine bodyPost_ret (v := .agg #[.int .i64 b.f, .int .i64 b.t]) (by simp [results, Tryd.results31, go_sem, z0, z1]; try rfl) rfl ⟨by rw [← HC.out]; rfl, ?_⟩
  first | exact H1.bel | exact two_set H1.bel _ (by omega) _ _

theorem both_is (a b c : Sp) (w : World) (H : Hid (bothI a b = c)) : Calls Tryd.prog 31 #[a.v, b.v] w fun e w' => e = .returned (c.v) ∧ Below w.heap.size w w' := by
  cases hm : meetsB a b with
  | false => exact both_no a b c w H.out hm
  | true =>
    by_cases hf : a.f < b.f
    · by_cases hg : b.t < a.t
      · exact both_11 a b c w H.out hm hf hg
      · exact both_10 a b c w H.out hm hf hg
    · by_cases hg : b.t < a.t
      · exact both_01 a b c w H.out hm hf hg
      · exact both_00 a b c w H.out hm hf hg
end Go.Proofs.YtdkenokjdiamhaaDoor
