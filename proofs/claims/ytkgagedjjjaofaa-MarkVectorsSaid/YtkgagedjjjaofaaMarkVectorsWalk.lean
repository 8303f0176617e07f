/- The walk of law MarkVectors: it returns true and turns nothing that was there. -/
import Derived.Test.YtkgagedjjjaofaaMarkRefB
namespace Go.Proofs.Ytkgagedjjjaofaa.markVectors
open Go.RowKit Go.Proofs.Ytkgagedjjjaofaa Go.Proofs.Ytkgagedjjjaofaa.Vi Go.Proofs.Ytkgagedjjjaofaa.Mk

/-- The two numbers in their block, and the two lists. -/
structure HV (w : World) (bq : Nat) (q0 q1 : Int) (va vb : Value) (a b : List Int) (w' : World) : Prop where
  c0 : w'.cell? ⟨bq, 0, none⟩ = some (.int .i64 q0)
  c1 : w'.cell? ⟨bq, 1, none⟩ = some (.int .i64 q1)
  ga : Ns w' va a
  gb : Ns w' vb b
  bel : Below w.heap.size w w'
theorem HV.keep {w w1 w2 : World} {bq : Nat} {q0 q1 : Int} {va vb : Value} {a b : List Int} (h : HV w bq q0 q1 va vb a b w1) (k : Below w1.heap.size w1 w2) : HV w bq q0 q1 va vb a b w2 :=
  ⟨(k.cell (p := ⟨bq, 0, none⟩) (World.block_lt_of_cell? w1 _ h.c0)).trans h.c0, (k.cell (p := ⟨bq, 1, none⟩) (World.block_lt_of_cell? w1 _ h.c1)).trans h.c1, h.ga.later k, h.gb.later k, bel_next h.bel k⟩
theorem HV.drew {w w1 : World} {bq : Nat} {q0 q1 : Int} {va vb : Value} {a b : List Int} (h : HV w bq q0 q1 va vb a b w1) : HV w bq q0 q1 va vb a b w1.drew := h.keep ((Below.refl _ _).drew)
theorem same_yes (v1 v2 : Value) (l : List Int) (w : World) (h1 : Ns w v1 l) (h2 : Ns w v2 l) : Calls Try.prog 24 #[v1, v2] w fun e w' => e = .returned (.bool true) ∧ Below w.heap.size w w' := by
  have := rsameN v1 v2 l l w h1 h2
  rw [sameL_self] at this; exact this

set_option maxHeartbeats 16000000 in
theorem core (u1 u2 : Value) (k1 k2 : List Int) (q0 q1 : Int) (w : World) (h1 : ArgNs w u1 k1) (h2 : ArgNs w u2 k2) (hq0 : -9223372036854775808 ≤ q0 ∧ q0 ≤ 9223372036854775807) (hq1 : -9223372036854775808 ≤ q1 ∧ q1 ≤ 9223372036854775807) :
    Calls Try.prog 4 #[u1, u2, .agg #[.int .i64 q0, .int .i64 q1]] w fun e w' => e = .returned (.bool true) ∧ Below w.heap.size w w' := by
  obtain ⟨a, ha⟩ : ∃ a, k1.take 12 = a := ⟨_, rfl⟩
  obtain ⟨b, hb0⟩ : ∃ b, k2.take 12 = b := ⟨_, rfl⟩
  have f1 := fun w h => fewN u1 k1 w h h1.cap
  have f2 := fun w h => fewN u2 k2 w h h2.cap
  have G1 := h1.ns
  have G2 := h2.ns
  rw [ha] at f1
  rw [hb0] at f2
  have j1 := fun v1 v2 w h1 h2 => joinN v1 v2 a b w h1 h2
  have j2 := fun v1 v2 w h1 h2 => rjoin_is v1 v2 a b w h1 h2
  have m1 := fun v1 v2 w h1 h2 => meetN v1 v2 a b w h1 h2
  have m2 := fun v1 v2 w h1 h2 => rmeet_is v1 v2 a b w h1 h2
  have s1 := same_yes
  have w1 := fun v w h => withN v a q0 q1 w h
  have w2 := fun v w h => rwith_is v a q0 q1 w h hq1
  obtain ⟨x1, hx1⟩ : ∃ x, sameL a (plainL a) = x := ⟨_, rfl⟩
  obtain ⟨x2, hx2⟩ : ∃ x, atL a q0 = x := ⟨_, rfl⟩
  obtain ⟨x3, hx3⟩ : ∃ x, covL a b = x := ⟨_, rfl⟩
  obtain ⟨x4, hx4⟩ : ∃ x, cmpL a b = x := ⟨_, rfl⟩
  have r1 := fun v w h => rightN v a w h
  have r2 := fun v w h => rright_is v a w h
  rw [hx1] at r1 r2
  have a1 : ∀ v w, Ns w v a → Calls Try.prog 33 #[v, .int .i64 q0] w fun e w' => e = .returned (.int .i64 x2) ∧ Below w.heap.size w w' := fun v w h => by
    have := atN v a q0 w h hq0
    rw [hx2] at this
    exact this.mono fun e w' ⟨h1, h2⟩ => ⟨h1, h2 ▸ Below.refl _ _⟩
  have a2 := fun v w h => rat_is v a q0 w h
  rw [hx2] at a2
  have c1 : ∀ v1 v2 w, Ns w v1 a → Ns w v2 b → Calls Try.prog 35 #[v1, v2] w fun e w' => e = .returned (.bool x3) ∧ Below w.heap.size w w' := fun v1 v2 w h1 h2 => by
    have := coversN v1 v2 a b w h1 h2
    rw [hx3] at this
    exact this.mono fun e w' ⟨h1, h2⟩ => ⟨h1, h2 ▸ Below.refl _ _⟩
  have c2 := fun v1 v2 w h1 h2 => rcovers_is v1 v2 a b w h1 h2
  rw [hx3] at c2
  have p1 : ∀ v1 v2 w, Ns w v1 a → Ns w v2 b → Calls Try.prog 37 #[v1, v2] w fun e w' => e = .returned (.int .i64 x4) ∧ Below w.heap.size w w' := fun v1 v2 w h1 h2 => by
    have := compareN v1 v2 a b w h1 h2
    rw [hx4] at this
    exact this.mono fun e w' ⟨h1, h2⟩ => ⟨h1, h2 ▸ Below.refl _ _⟩
  have p2 := fun v1 v2 w h1 h2 => rcompare_is v1 v2 a b w h1 h2
  rw [hx4] at p2
  have hbx : Below w.heap.size w (w.alloc (.cells #[.int .i64 q0, .int .i64 q1] 40)) := (Below.refl _ _).alloc (Nat.le_refl _) _
  have d0 : (w.alloc (.cells #[.int .i64 q0, .int .i64 q1] 40)).cell? ⟨w.heap.size, 0, none⟩ = some (.int .i64 q0) := by simp [go_sem]
  have d1 : (w.alloc (.cells #[.int .i64 q0, .int .i64 q1] 40)).cell? ⟨w.heap.size, 1, none⟩ = some (.int .i64 q1) := by simp [go_sem]
  have G1 := G1.later hbx
  have G2 := G2.later hbx
  have hroom : w.heap.size < (w.alloc (.cells #[.int .i64 q0, .int .i64 q1] 40)).heap.size := by simp
  have HD := Lib.hid (And.intro d0 (And.intro d1 hroom))
  clear hx1 hx2 hx3 hx4 ha hb0 h1 h2 d0 d1 hroom
  go_enter Try.func4, Try.ntmps4
  go_wp2_with (first
    | (go_at_call 10; (with_reducible refine (awake_any _).mono ?_); rintro e wn ⟨rfl, hb⟩; have G1 := G1.later hb; have G2 := G2.later hb; have B0 := bel_next hbx hb; have e0 := (hb.cell (p := ⟨w.heap.size, 0, none⟩) HD.out.2.2).trans HD.out.1; have e1 := (hb.cell (p := ⟨w.heap.size, 1, none⟩) HD.out.2.2).trans HD.out.2.1)
    | (go_at_call 23; (with_reducible refine (f1 _ G1).mono ?_); rintro e wn ⟨va, rfl, Ga, rfl⟩)
    | (go_at_call 23; (with_reducible refine (f2 _ G2).mono ?_); rintro e wn ⟨vb, rfl, Gb, rfl⟩; have H : HV w w.heap.size q0 q1 va vb a b _ := ⟨e0, e1, Ga, Gb, B0⟩)
    | (go_at_call 25; (with_reducible refine (j1 _ _ _ H.ga H.gb).mono ?_); rintro e wn hz; obtain ⟨vx, rfl, Gx, hb⟩ := hz.ns; have H := H.keep hb)
    | (go_at_call 26; (with_reducible refine (j2 _ _ _ H.ga H.gb).mono ?_); rintro e wn hz; obtain ⟨vy, rfl, Gy, hb⟩ := hz.ns; have H := H.keep hb; have Gx := Gx.later hb)
    | (go_at_call 27; (with_reducible refine (m1 _ _ _ H.ga H.gb).mono ?_); rintro e wn hz; obtain ⟨vx, rfl, Gx, hb⟩ := hz.ns; have H := H.keep hb)
    | (go_at_call 28; (with_reducible refine (m2 _ _ _ H.ga H.gb).mono ?_); rintro e wn hz; obtain ⟨vy, rfl, Gy, hb⟩ := hz.ns; have H := H.keep hb; have Gx := Gx.later hb)
    | (go_at_call 24; (with_reducible refine (s1 _ _ _ _ Gx Gy).mono ?_); rintro e wn ⟨rfl, hb⟩; have H := H.keep hb; clear Gx Gy))
  have HH := Lib.hid H
  clear H Ga Gb G1 G2 HD e0 e1 hbx f1 f2 j1 j2 m1 m2 B0
  refine wp_region_held_drew (S := (HV w w.heap.size q0 q1 va vb a b)) (by kernel_rfl) HH.out.drew (fun hHeld => ?_)
  refine wpAnyH_take (i := 0) (oi := ?oa1o) (v := ?oa1v) ?oa1h (by kernel_rfl) (by kernel_rfl) (by kernel_rfl) ?oa1q ?oa1y hHeld ?oa1r
  case oa1h => (simp only [List.getElem?_toArray, List.getElem?_cons_zero]; rfl)
  case oa1q => exact fun _ _ _ h => h
  case oa1y => (refine Or.inl ⟨by first | kernel_rfl | rfl, ?_⟩; intro w hSw; (try dsimp only at hSw); obtain ⟨c0, c1, -, -, -⟩ := hSw; go_simp <;> (try with_reducible rfl))
  try simp only [Act.put, List.setIfInBounds_toArray, List.set_cons_zero, List.set_cons_succ]
  refine wpAnyH_take (i := 1) (oi := ?oa2o) (v := ?oa2v) ?oa2h (by kernel_rfl) (by kernel_rfl) (by kernel_rfl) ?oa2q ?oa2y hHeld ?oa2r
  case oa2h => (simp only [List.getElem?_toArray, List.getElem?_cons_succ, List.getElem?_cons_zero]; rfl)
  case oa2q => exact fun _ _ _ h => h
  case oa2y => (refine Or.inl ⟨by first | kernel_rfl | rfl, ?_⟩; intro w hSw; (try dsimp only at hSw); obtain ⟨c0, c1, -, -, -⟩ := hSw; go_simp <;> (try with_reducible rfl))
  try simp only [Act.put, List.setIfInBounds_toArray, List.set_cons_zero, List.set_cons_succ]
  refine wpAnyH_take (i := 2) (oi := ?oa3o) (v := ?oa3v) ?oa3h (by kernel_rfl) (by kernel_rfl) (by kernel_rfl) ?oa3q ?oa3y hHeld ?oa3r
  case oa3h => (simp only [List.getElem?_toArray, List.getElem?_cons_succ, List.getElem?_cons_zero]; rfl)
  case oa3q => exact fun _ _ _ h => h
  case oa3y => (refine Or.inl ⟨by first | kernel_rfl | rfl, ?_⟩; intro w hSw; (try dsimp only at hSw); obtain ⟨c0, c1, -, -, -⟩ := hSw; go_simp <;> (try with_reducible rfl))
  try simp only [Act.put, List.setIfInBounds_toArray, List.set_cons_zero, List.set_cons_succ]
  refine wpAnyH_take (i := 3) (oi := ?oa4o) (v := ?oa4v) ?oa4h (by kernel_rfl) (by kernel_rfl) (by kernel_rfl) ?oa4q ?oa4y hHeld ?oa4r
  case oa4h => (simp only [List.getElem?_toArray, List.getElem?_cons_succ, List.getElem?_cons_zero]; rfl)
  case oa4q => exact fun _ _ _ h => h
  case oa4y => (refine Or.inl ⟨by first | kernel_rfl | rfl, ?_⟩; intro w hSw; (try dsimp only at hSw); obtain ⟨c0, c1, -, -, -⟩ := hSw; go_simp <;> (try with_reducible rfl))
  try simp only [Act.put, List.setIfInBounds_toArray, List.set_cons_zero, List.set_cons_succ]
  refine wpAnyH_take (i := 4) (oi := ?oa5o) (v := ?oa5v) ?oa5h (by kernel_rfl) (by kernel_rfl) (by kernel_rfl) ?oa5q ?oa5y hHeld ?oa5r
  case oa5h => (simp only [List.getElem?_toArray, List.getElem?_cons_succ, List.getElem?_cons_zero]; rfl)
  case oa5q => exact fun _ _ _ h => h
  case oa5y => (refine Or.inl ⟨by first | kernel_rfl | rfl, ?_⟩; intro w hSw; (try dsimp only at hSw); obtain ⟨c0, c1, -, -, -⟩ := hSw; go_simp <;> (try with_reducible rfl))
  try simp only [Act.put, List.setIfInBounds_toArray, List.set_cons_zero, List.set_cons_succ]
  refine wpAnyH_take (i := 6) (oi := ?oa6o) (v := ?oa6v) ?oa6h (by kernel_rfl) (by kernel_rfl) (by kernel_rfl) ?oa6q ?oa6y hHeld ?oa6r
  case oa6h => (simp only [List.getElem?_toArray, List.getElem?_cons_succ, List.getElem?_cons_zero]; rfl)
  case oa6q => exact fun _ _ _ h => h
  case oa6y => (refine Or.inl ⟨by first | kernel_rfl | rfl, ?_⟩; intro w hSw; (try dsimp only at hSw); obtain ⟨c0, c1, -, -, -⟩ := hSw; go_simp <;> (try with_reducible rfl))
  try simp only [Act.put, List.setIfInBounds_toArray, List.set_cons_zero, List.set_cons_succ]
  refine wpAnyH_take (i := 7) (oi := ?oa7o) (v := ?oa7v) ?oa7h (by kernel_rfl) (by kernel_rfl) (by kernel_rfl) ?oa7q ?oa7y hHeld ?oa7r
  case oa7h => (simp only [List.getElem?_toArray, List.getElem?_cons_succ, List.getElem?_cons_zero]; rfl)
  case oa7q => exact fun _ _ _ h => h
  case oa7y => (refine Or.inl ⟨by first | kernel_rfl | rfl, ?_⟩; intro w hSw; (try dsimp only at hSw); obtain ⟨c0, c1, -, -, -⟩ := hSw; go_simp <;> (try with_reducible rfl))
  try simp only [Act.put, List.setIfInBounds_toArray, List.set_cons_zero, List.set_cons_succ]
  refine wpAnyH_take (i := 8) (oi := ?oa8o) (v := ?oa8v) ?oa8h (by kernel_rfl) (by kernel_rfl) (by kernel_rfl) ?oa8q ?oa8y hHeld ?oa8r
  case oa8h => (simp only [List.getElem?_toArray, List.getElem?_cons_succ, List.getElem?_cons_zero]; rfl)
  case oa8q => exact fun _ _ _ h => h
  case oa8y => (refine Or.inl ⟨by first | kernel_rfl | rfl, ?_⟩; intro w hSw; (try dsimp only at hSw); obtain ⟨c0, c1, -, -, -⟩ := hSw; go_simp <;> (try with_reducible rfl))
  try simp only [Act.put, List.setIfInBounds_toArray, List.set_cons_zero, List.set_cons_succ]
  refine wpAnyH_take (i := 9) (oi := ?oa9o) (v := ?oa9v) ?oa9h (by kernel_rfl) (by kernel_rfl) (by kernel_rfl) ?oa9q ?oa9y hHeld ?oa9r
  case oa9h => (simp only [List.getElem?_toArray, List.getElem?_cons_succ, List.getElem?_cons_zero]; rfl)
  case oa9q => exact fun _ _ _ h => h
  case oa9y => (refine Or.inl ⟨by first | kernel_rfl | rfl, ?_⟩; intro w hSw; (try dsimp only at hSw); obtain ⟨c0, c1, -, -, -⟩ := hSw; go_simp <;> (try with_reducible rfl))
  try simp only [Act.put, List.setIfInBounds_toArray, List.set_cons_zero, List.set_cons_succ]
  refine wpAnyH_take (i := 10) (oi := ?oa10o) (v := ?oa10v) ?oa10h (by kernel_rfl) (by kernel_rfl) (by kernel_rfl) ?oa10q ?oa10y hHeld ?oa10r
  case oa10h => (simp only [List.getElem?_toArray, List.getElem?_cons_succ, List.getElem?_cons_zero]; rfl)
  case oa10q => exact fun _ _ _ h => h
  case oa10y => (refine Or.inl ⟨by first | kernel_rfl | rfl, ?_⟩; intro w hSw; (try dsimp only at hSw); obtain ⟨c0, c1, -, -, -⟩ := hSw; go_simp <;> (try with_reducible rfl))
  try simp only [Act.put, List.setIfInBounds_toArray, List.set_cons_zero, List.set_cons_succ]
  refine wpAnyH_ready (rs := [5]) (by kernel_rfl) (by simp) ?_
  refine (AllReadyH.cons rfl (fun K hK => ?_) AllReadyH.nil)
  go_simp
  ((with_reducible refine (w1 _ _ hHeld.ga).mono ?_); rintro e w' hz'; obtain ⟨vx, rfl, Gvx, hb'⟩ := hz'.ns)
  refine hK.out _ _ (hHeld.keep hb') (fun hHeld => ?_)
  clear hK K
  try simp only [Act.put, List.setIfInBounds_toArray, List.set_cons_zero, List.set_cons_succ]
  refine wpAnyH_ready (rs := [11]) (by kernel_rfl) (by simp) ?_
  refine (AllReadyH.cons rfl (fun K hK => ?_) AllReadyH.nil)
  go_simp
  ((with_reducible refine (w2 _ _ hHeld.ga).mono ?_); rintro e w' hz'; obtain ⟨vy, rfl, Gvy, hb'⟩ := hz'.ns; have Gvx := Gvx.later hb')
  refine hK.out _ _ (hHeld.keep hb') (fun hHeld => ?_)
  clear hK K
  try simp only [Act.put, List.setIfInBounds_toArray, List.set_cons_zero, List.set_cons_succ]
  refine wpAnyH_ready (rs := [12]) (by kernel_rfl) (by simp) ?_
  refine (AllReadyH.cons rfl (fun K hK => ?_) AllReadyH.nil)
  go_simp
  ((with_reducible refine (s1 _ _ _ _ Gvx Gvy).mono ?_); rintro e w' ⟨rfl, hb'⟩)
  refine hK.out _ _ (hHeld.keep hb') (fun hHeld => ?_)
  clear hK K
  try simp only [Act.put, List.setIfInBounds_toArray, List.set_cons_zero, List.set_cons_succ]
  refine wpAnyH_take (i := 13) (oi := ?oa11o) (v := ?oa11v) ?oa11h (by kernel_rfl) (by kernel_rfl) (by kernel_rfl) ?oa11q ?oa11y hHeld ?oa11r
  case oa11h => (simp only [List.getElem?_toArray, List.getElem?_cons_succ, List.getElem?_cons_zero]; rfl)
  case oa11q => exact fun _ _ _ h => h
  case oa11y => (refine Or.inl ⟨by first | kernel_rfl | rfl, ?_⟩; intro w hSw; (try dsimp only at hSw); obtain ⟨c0, c1, -, -, -⟩ := hSw; go_simp <;> (try with_reducible rfl))
  try simp only [Act.put, List.setIfInBounds_toArray, List.set_cons_zero, List.set_cons_succ]
  refine wpAnyH_done (by kernel_rfl) ?_ _
  go_wp2_with fail
  refine wp_region_held_drew (S := (HV w w.heap.size q0 q1 va vb a b)) (by kernel_rfl) hHeld.drew (fun hHeld => ?_)
  refine wpAnyH_take (i := 0) (oi := ?ob1o) (v := ?ob1v) ?ob1h (by kernel_rfl) (by kernel_rfl) (by kernel_rfl) ?ob1q ?ob1y hHeld ?ob1r
  case ob1h => (simp only [List.getElem?_toArray, List.getElem?_cons_zero]; rfl)
  case ob1q => exact fun _ _ _ h => h
  case ob1y => (refine Or.inl ⟨by first | kernel_rfl | rfl, ?_⟩; intro w hSw; (try dsimp only at hSw); obtain ⟨c0, c1, -, -, -⟩ := hSw; go_simp <;> (try with_reducible rfl))
  try simp only [Act.put, List.setIfInBounds_toArray, List.set_cons_zero, List.set_cons_succ]
  refine wpAnyH_take (i := 1) (oi := ?ob2o) (v := ?ob2v) ?ob2h (by kernel_rfl) (by kernel_rfl) (by kernel_rfl) ?ob2q ?ob2y hHeld ?ob2r
  case ob2h => (simp only [List.getElem?_toArray, List.getElem?_cons_succ, List.getElem?_cons_zero]; rfl)
  case ob2q => exact fun _ _ _ h => h
  case ob2y => (refine Or.inl ⟨by first | kernel_rfl | rfl, ?_⟩; intro w hSw; (try dsimp only at hSw); obtain ⟨c0, c1, -, -, -⟩ := hSw; go_simp <;> (try with_reducible rfl))
  try simp only [Act.put, List.setIfInBounds_toArray, List.set_cons_zero, List.set_cons_succ]
  refine wpAnyH_take (i := 2) (oi := ?ob3o) (v := ?ob3v) ?ob3h (by kernel_rfl) (by kernel_rfl) (by kernel_rfl) ?ob3q ?ob3y hHeld ?ob3r
  case ob3h => (simp only [List.getElem?_toArray, List.getElem?_cons_succ, List.getElem?_cons_zero]; rfl)
  case ob3q => exact fun _ _ _ h => h
  case ob3y => (refine Or.inl ⟨by first | kernel_rfl | rfl, ?_⟩; intro w hSw; (try dsimp only at hSw); obtain ⟨c0, c1, -, -, -⟩ := hSw; go_simp <;> (try with_reducible rfl))
  try simp only [Act.put, List.setIfInBounds_toArray, List.set_cons_zero, List.set_cons_succ]
  refine wpAnyH_take (i := 3) (oi := ?ob4o) (v := ?ob4v) ?ob4h (by kernel_rfl) (by kernel_rfl) (by kernel_rfl) ?ob4q ?ob4y hHeld ?ob4r
  case ob4h => (simp only [List.getElem?_toArray, List.getElem?_cons_succ, List.getElem?_cons_zero]; rfl)
  case ob4q => exact fun _ _ _ h => h
  case ob4y => (refine Or.inl ⟨by first | kernel_rfl | rfl, ?_⟩; intro w hSw; (try dsimp only at hSw); obtain ⟨c0, c1, -, -, -⟩ := hSw; go_simp <;> (try with_reducible rfl))
  try simp only [Act.put, List.setIfInBounds_toArray, List.set_cons_zero, List.set_cons_succ]
  refine wpAnyH_take (i := 4) (oi := ?ob5o) (v := ?ob5v) ?ob5h (by kernel_rfl) (by kernel_rfl) (by kernel_rfl) ?ob5q ?ob5y hHeld ?ob5r
  case ob5h => (simp only [List.getElem?_toArray, List.getElem?_cons_succ, List.getElem?_cons_zero]; rfl)
  case ob5q => exact fun _ _ _ h => h
  case ob5y => (refine Or.inl ⟨by first | kernel_rfl | rfl, ?_⟩; intro w hSw; (try dsimp only at hSw); obtain ⟨c0, c1, -, -, -⟩ := hSw; go_simp <;> (try with_reducible rfl))
  try simp only [Act.put, List.setIfInBounds_toArray, List.set_cons_zero, List.set_cons_succ]
  refine wpAnyH_take (i := 5) (oi := ?ob6o) (v := ?ob6v) ?ob6h (by kernel_rfl) (by kernel_rfl) (by kernel_rfl) ?ob6q ?ob6y hHeld ?ob6r
  case ob6h => (simp only [List.getElem?_toArray, List.getElem?_cons_succ, List.getElem?_cons_zero]; rfl)
  case ob6q => exact fun _ _ _ h => h
  case ob6y => (refine Or.inl ⟨by first | kernel_rfl | rfl, ?_⟩; intro w hSw; (try dsimp only at hSw); obtain ⟨c0, c1, -, -, -⟩ := hSw; go_simp <;> (try with_reducible rfl))
  try simp only [Act.put, List.setIfInBounds_toArray, List.set_cons_zero, List.set_cons_succ]
  refine wpAnyH_take (i := 6) (oi := ?ob7o) (v := ?ob7v) ?ob7h (by kernel_rfl) (by kernel_rfl) (by kernel_rfl) ?ob7q ?ob7y hHeld ?ob7r
  case ob7h => (simp only [List.getElem?_toArray, List.getElem?_cons_succ, List.getElem?_cons_zero]; rfl)
  case ob7q => exact fun _ _ _ h => h
  case ob7y => (refine Or.inl ⟨by first | kernel_rfl | rfl, ?_⟩; intro w hSw; (try dsimp only at hSw); obtain ⟨c0, c1, -, -, -⟩ := hSw; go_simp <;> (try with_reducible rfl))
  try simp only [Act.put, List.setIfInBounds_toArray, List.set_cons_zero, List.set_cons_succ]
  refine wpAnyH_take (i := 7) (oi := ?ob8o) (v := ?ob8v) ?ob8h (by kernel_rfl) (by kernel_rfl) (by kernel_rfl) ?ob8q ?ob8y hHeld ?ob8r
  case ob8h => (simp only [List.getElem?_toArray, List.getElem?_cons_succ, List.getElem?_cons_zero]; rfl)
  case ob8q => exact fun _ _ _ h => h
  case ob8y => (refine Or.inl ⟨by first | kernel_rfl | rfl, ?_⟩; intro w hSw; (try dsimp only at hSw); obtain ⟨c0, c1, -, -, -⟩ := hSw; go_simp <;> (try with_reducible rfl))
  try simp only [Act.put, List.setIfInBounds_toArray, List.set_cons_zero, List.set_cons_succ]
  refine wpAnyH_take (i := 8) (oi := ?ob9o) (v := ?ob9v) ?ob9h (by kernel_rfl) (by kernel_rfl) (by kernel_rfl) ?ob9q ?ob9y hHeld ?ob9r
  case ob9h => (simp only [List.getElem?_toArray, List.getElem?_cons_succ, List.getElem?_cons_zero]; rfl)
  case ob9q => exact fun _ _ _ h => h
  case ob9y => (refine Or.inl ⟨by first | kernel_rfl | rfl, ?_⟩; intro w hSw; (try dsimp only at hSw); obtain ⟨c0, c1, -, -, -⟩ := hSw; go_simp <;> (try with_reducible rfl))
  try simp only [Act.put, List.setIfInBounds_toArray, List.set_cons_zero, List.set_cons_succ]
  refine wpAnyH_take (i := 9) (oi := ?ob10o) (v := ?ob10v) ?ob10h (by kernel_rfl) (by kernel_rfl) (by kernel_rfl) ?ob10q ?ob10y hHeld ?ob10r
  case ob10h => (simp only [List.getElem?_toArray, List.getElem?_cons_succ, List.getElem?_cons_zero]; rfl)
  case ob10q => exact fun _ _ _ h => h
  case ob10y => (refine Or.inl ⟨by first | kernel_rfl | rfl, ?_⟩; intro w hSw; (try dsimp only at hSw); obtain ⟨c0, c1, -, -, -⟩ := hSw; go_simp <;> (try with_reducible rfl))
  try simp only [Act.put, List.setIfInBounds_toArray, List.set_cons_zero, List.set_cons_succ]
  refine wpAnyH_take (i := 10) (oi := ?ob11o) (v := ?ob11v) ?ob11h (by kernel_rfl) (by kernel_rfl) (by kernel_rfl) ?ob11q ?ob11y hHeld ?ob11r
  case ob11h => (simp only [List.getElem?_toArray, List.getElem?_cons_succ, List.getElem?_cons_zero]; rfl)
  case ob11q => exact fun _ _ _ h => h
  case ob11y => (refine Or.inl ⟨by first | kernel_rfl | rfl, ?_⟩; intro w hSw; (try dsimp only at hSw); obtain ⟨c0, c1, -, -, -⟩ := hSw; go_simp <;> (try with_reducible rfl))
  try simp only [Act.put, List.setIfInBounds_toArray, List.set_cons_zero, List.set_cons_succ]
  refine wpAnyH_take (i := 11) (oi := ?ob12o) (v := ?ob12v) ?ob12h (by kernel_rfl) (by kernel_rfl) (by kernel_rfl) ?ob12q ?ob12y hHeld ?ob12r
  case ob12h => (simp only [List.getElem?_toArray, List.getElem?_cons_succ, List.getElem?_cons_zero]; rfl)
  case ob12q => exact fun _ _ _ h => h
  case ob12y => (refine Or.inl ⟨by first | kernel_rfl | rfl, ?_⟩; intro w hSw; (try dsimp only at hSw); obtain ⟨c0, c1, -, -, -⟩ := hSw; go_simp <;> (try with_reducible rfl))
  try simp only [Act.put, List.setIfInBounds_toArray, List.set_cons_zero, List.set_cons_succ]
  refine wpAnyH_take (i := 13) (oi := ?ob13o) (v := ?ob13v) ?ob13h (by kernel_rfl) (by kernel_rfl) (by kernel_rfl) ?ob13q ?ob13y hHeld ?ob13r
  case ob13h => (simp only [List.getElem?_toArray, List.getElem?_cons_succ, List.getElem?_cons_zero]; rfl)
  case ob13q => exact fun _ _ _ h => h
  case ob13y => (refine Or.inl ⟨by first | kernel_rfl | rfl, ?_⟩; intro w hSw; (try dsimp only at hSw); obtain ⟨c0, c1, -, -, -⟩ := hSw; go_simp <;> (try with_reducible rfl))
  try simp only [Act.put, List.setIfInBounds_toArray, List.set_cons_zero, List.set_cons_succ]
  refine wpAnyH_ready (rs := [12]) (by kernel_rfl) (by simp) ?_
  refine (AllReadyH.cons rfl (fun K hK => ?_) AllReadyH.nil)
  go_simp
  ((with_reducible refine (r1 _ _ hHeld.ga).mono ?_); rintro e w' ⟨rfl, hb'⟩)
  refine hK.out _ _ (hHeld.keep hb') (fun hHeld => ?_)
  clear hK K
  try simp only [Act.put, List.setIfInBounds_toArray, List.set_cons_zero, List.set_cons_succ]
  refine wpAnyH_ready (rs := [14]) (by kernel_rfl) (by simp) ?_
  refine (AllReadyH.cons rfl (fun K hK => ?_) AllReadyH.nil)
  go_simp
  ((with_reducible refine (r2 _ _ hHeld.ga).mono ?_); rintro e w' ⟨rfl, hb'⟩)
  refine hK.out _ _ (hHeld.keep hb') (fun hHeld => ?_)
  clear hK K
  try simp only [Act.put, List.setIfInBounds_toArray, List.set_cons_zero, List.set_cons_succ]
  refine wpAnyH_take (i := 15) (oi := ?ob14o) (v := ?ob14v) ?ob14h (by kernel_rfl) (by kernel_rfl) (by kernel_rfl) ?ob14q ?ob14y hHeld ?ob14r
  case ob14h => (simp only [List.getElem?_toArray, List.getElem?_cons_succ, List.getElem?_cons_zero]; rfl)
  case ob14q => exact fun _ _ _ h => h
  case ob14y => (refine Or.inl ⟨by first | kernel_rfl | rfl, ?_⟩; intro w hSw; (try dsimp only at hSw); obtain ⟨c0, c1, -, -, -⟩ := hSw; go_simp <;> (try with_reducible rfl))
  try simp only [Act.put, List.setIfInBounds_toArray, List.set_cons_zero, List.set_cons_succ]
  refine wpAnyH_take (i := 16) (oi := ?ob15o) (v := ?ob15v) ?ob15h (by kernel_rfl) (by kernel_rfl) (by kernel_rfl) ?ob15q ?ob15y hHeld ?ob15r
  case ob15h => (simp only [List.getElem?_toArray, List.getElem?_cons_succ, List.getElem?_cons_zero]; rfl)
  case ob15q => exact fun _ _ _ h => h
  case ob15y => (refine Or.inl ⟨by first | kernel_rfl | rfl, ?_⟩; intro w hSw; (try dsimp only at hSw); obtain ⟨c0, c1, -, -, -⟩ := hSw; go_simp <;> (try with_reducible rfl))
  try simp only [Act.put, List.setIfInBounds_toArray, List.set_cons_zero, List.set_cons_succ]
  refine wpAnyH_take (i := 17) (oi := ?ob16o) (v := ?ob16v) ?ob16h (by kernel_rfl) (by kernel_rfl) (by kernel_rfl) ?ob16q ?ob16y hHeld ?ob16r
  case ob16h => (simp only [List.getElem?_toArray, List.getElem?_cons_succ, List.getElem?_cons_zero]; rfl)
  case ob16q => exact fun _ _ _ h => h
  case ob16y => (refine Or.inl ⟨by first | kernel_rfl | rfl, ?_⟩; intro w hSw; (try dsimp only at hSw); obtain ⟨c0, c1, -, -, -⟩ := hSw; go_simp <;> (try with_reducible rfl))
  try simp only [Act.put, List.setIfInBounds_toArray, List.set_cons_zero, List.set_cons_succ]
  refine wpAnyH_take (i := 18) (oi := ?ob17o) (v := ?ob17v) ?ob17h (by kernel_rfl) (by kernel_rfl) (by kernel_rfl) ?ob17q ?ob17y hHeld ?ob17r
  case ob17h => (simp only [List.getElem?_toArray, List.getElem?_cons_succ, List.getElem?_cons_zero]; rfl)
  case ob17q => exact fun _ _ _ h => h
  case ob17y => (refine Or.inl ⟨by first | kernel_rfl | rfl, ?_⟩; intro w hSw; (try dsimp only at hSw); obtain ⟨c0, c1, -, -, -⟩ := hSw; go_simp <;> (try with_reducible rfl))
  try simp only [Act.put, List.setIfInBounds_toArray, List.set_cons_zero, List.set_cons_succ]
  refine wpAnyH_take (i := 19) (oi := ?ob18o) (v := ?ob18v) ?ob18h (by kernel_rfl) (by kernel_rfl) (by kernel_rfl) ?ob18q ?ob18y hHeld ?ob18r
  case ob18h => (simp only [List.getElem?_toArray, List.getElem?_cons_succ, List.getElem?_cons_zero]; rfl)
  case ob18q => exact fun _ _ _ h => h
  case ob18y => (refine Or.inl ⟨by first | kernel_rfl | rfl, ?_⟩; intro w hSw; (try dsimp only at hSw); obtain ⟨c0, c1, -, -, -⟩ := hSw; go_simp <;> (try with_reducible rfl))
  try simp only [Act.put, List.setIfInBounds_toArray, List.set_cons_zero, List.set_cons_succ]
  refine wpAnyH_take (i := 20) (oi := ?ob19o) (v := ?ob19v) ?ob19h (by kernel_rfl) (by kernel_rfl) (by kernel_rfl) ?ob19q ?ob19y hHeld ?ob19r
  case ob19h => (simp only [List.getElem?_toArray, List.getElem?_cons_succ, List.getElem?_cons_zero]; rfl)
  case ob19q => exact fun _ _ _ h => h
  case ob19y => (refine Or.inl ⟨by first | kernel_rfl | rfl, ?_⟩; intro w hSw; (try dsimp only at hSw); obtain ⟨c0, c1, -, -, -⟩ := hSw; go_simp <;> (try with_reducible rfl))
  try simp only [Act.put, List.setIfInBounds_toArray, List.set_cons_zero, List.set_cons_succ]
  refine wpAnyH_take (i := 22) (oi := ?ob20o) (v := ?ob20v) ?ob20h (by kernel_rfl) (by kernel_rfl) (by kernel_rfl) ?ob20q ?ob20y hHeld ?ob20r
  case ob20h => (simp only [List.getElem?_toArray, List.getElem?_cons_succ, List.getElem?_cons_zero]; rfl)
  case ob20q => exact fun _ _ _ h => h
  case ob20y => (refine Or.inl ⟨by first | kernel_rfl | rfl, ?_⟩; intro w hSw; (try dsimp only at hSw); obtain ⟨c0, c1, -, -, -⟩ := hSw; go_simp <;> (try with_reducible rfl))
  try simp only [Act.put, List.setIfInBounds_toArray, List.set_cons_zero, List.set_cons_succ]
  refine wpAnyH_take (i := 23) (oi := ?ob21o) (v := ?ob21v) ?ob21h (by kernel_rfl) (by kernel_rfl) (by kernel_rfl) ?ob21q ?ob21y hHeld ?ob21r
  case ob21h => (simp only [List.getElem?_toArray, List.getElem?_cons_succ, List.getElem?_cons_zero]; rfl)
  case ob21q => exact fun _ _ _ h => h
  case ob21y => (refine Or.inl ⟨by first | kernel_rfl | rfl, ?_⟩; intro w hSw; (try dsimp only at hSw); obtain ⟨c0, c1, -, -, -⟩ := hSw; go_simp <;> (try with_reducible rfl))
  try simp only [Act.put, List.setIfInBounds_toArray, List.set_cons_zero, List.set_cons_succ]
  refine wpAnyH_take (i := 24) (oi := ?ob22o) (v := ?ob22v) ?ob22h (by kernel_rfl) (by kernel_rfl) (by kernel_rfl) ?ob22q ?ob22y hHeld ?ob22r
  case ob22h => (simp only [List.getElem?_toArray, List.getElem?_cons_succ, List.getElem?_cons_zero]; rfl)
  case ob22q => exact fun _ _ _ h => h
  case ob22y => (refine Or.inl ⟨by first | kernel_rfl | rfl, ?_⟩; intro w hSw; (try dsimp only at hSw); obtain ⟨c0, c1, -, -, -⟩ := hSw; go_simp <;> (try with_reducible rfl))
  try simp only [Act.put, List.setIfInBounds_toArray, List.set_cons_zero, List.set_cons_succ]
  refine wpAnyH_ready (rs := [21]) (by kernel_rfl) (by simp) ?_
  refine (AllReadyH.cons rfl (fun K hK => ?_) AllReadyH.nil)
  go_simp
  ((with_reducible refine (a1 _ _ hHeld.ga).mono ?_); rintro e w' ⟨rfl, hb'⟩)
  refine hK.out _ _ (hHeld.keep hb') (fun hHeld => ?_)
  clear hK K
  try simp only [Act.put, List.setIfInBounds_toArray, List.set_cons_zero, List.set_cons_succ]
  refine wpAnyH_ready (rs := [25]) (by kernel_rfl) (by simp) ?_
  refine (AllReadyH.cons rfl (fun K hK => ?_) AllReadyH.nil)
  go_simp
  ((with_reducible refine (a2 _ _ hHeld.ga).mono ?_); rintro e w' ⟨rfl, hb'⟩)
  refine hK.out _ _ (hHeld.keep hb') (fun hHeld => ?_)
  clear hK K
  try simp only [Act.put, List.setIfInBounds_toArray, List.set_cons_zero, List.set_cons_succ]
  refine wpAnyH_take (i := 26) (oi := ?ob23o) (v := ?ob23v) ?ob23h (by kernel_rfl) (by kernel_rfl) (by kernel_rfl) ?ob23q ?ob23y hHeld ?ob23r
  case ob23h => (simp only [List.getElem?_toArray, List.getElem?_cons_succ, List.getElem?_cons_zero]; rfl)
  case ob23q => exact fun _ _ _ h => h
  case ob23y => (refine Or.inl ⟨by first | kernel_rfl | rfl, ?_⟩; intro w hSw; (try dsimp only at hSw); obtain ⟨c0, c1, -, -, -⟩ := hSw; go_simp <;> (try with_reducible rfl))
  try simp only [Act.put, List.setIfInBounds_toArray, List.set_cons_zero, List.set_cons_succ]
  refine wpAnyH_take (i := 27) (oi := ?ob24o) (v := ?ob24v) ?ob24h (by kernel_rfl) (by kernel_rfl) (by kernel_rfl) ?ob24q ?ob24y hHeld ?ob24r
  case ob24h => (simp only [List.getElem?_toArray, List.getElem?_cons_succ, List.getElem?_cons_zero]; rfl)
  case ob24q => exact fun _ _ _ h => h
  case ob24y => (refine Or.inl ⟨by first | kernel_rfl | rfl, ?_⟩; intro w hSw; (try dsimp only at hSw); obtain ⟨c0, c1, -, -, -⟩ := hSw; go_simp <;> (try with_reducible rfl))
  try simp only [Act.put, List.setIfInBounds_toArray, List.set_cons_zero, List.set_cons_succ]
  refine wpAnyH_take (i := 28) (oi := ?ob25o) (v := ?ob25v) ?ob25h (by kernel_rfl) (by kernel_rfl) (by kernel_rfl) ?ob25q ?ob25y hHeld ?ob25r
  case ob25h => (simp only [List.getElem?_toArray, List.getElem?_cons_succ, List.getElem?_cons_zero]; rfl)
  case ob25q => exact fun _ _ _ h => h
  case ob25y => (refine Or.inl ⟨by first | kernel_rfl | rfl, ?_⟩; intro w hSw; (try dsimp only at hSw); obtain ⟨c0, c1, -, -, -⟩ := hSw; go_simp <;> (try with_reducible rfl))
  try simp only [Act.put, List.setIfInBounds_toArray, List.set_cons_zero, List.set_cons_succ]
  refine wpAnyH_take (i := 29) (oi := ?ob26o) (v := ?ob26v) ?ob26h (by kernel_rfl) (by kernel_rfl) (by kernel_rfl) ?ob26q ?ob26y hHeld ?ob26r
  case ob26h => (simp only [List.getElem?_toArray, List.getElem?_cons_succ, List.getElem?_cons_zero]; rfl)
  case ob26q => exact fun _ _ _ h => h
  case ob26y => (refine Or.inl ⟨by first | kernel_rfl | rfl, ?_⟩; intro w hSw; (try dsimp only at hSw); obtain ⟨c0, c1, -, -, -⟩ := hSw; go_simp <;> (try with_reducible rfl))
  try simp only [Act.put, List.setIfInBounds_toArray, List.set_cons_zero, List.set_cons_succ]
  refine wpAnyH_take (i := 30) (oi := ?ob27o) (v := ?ob27v) ?ob27h (by kernel_rfl) (by kernel_rfl) (by kernel_rfl) ?ob27q ?ob27y hHeld ?ob27r
  case ob27h => (simp only [List.getElem?_toArray, List.getElem?_cons_succ, List.getElem?_cons_zero]; rfl)
  case ob27q => exact fun _ _ _ h => h
  case ob27y => (refine Or.inl ⟨by first | kernel_rfl | rfl, ?_⟩; intro w hSw; (try dsimp only at hSw); obtain ⟨c0, c1, -, -, -⟩ := hSw; go_simp <;> (try with_reducible rfl))
  try simp only [Act.put, List.setIfInBounds_toArray, List.set_cons_zero, List.set_cons_succ]
  refine wpAnyH_take (i := 32) (oi := ?ob28o) (v := ?ob28v) ?ob28h (by kernel_rfl) (by kernel_rfl) (by kernel_rfl) ?ob28q ?ob28y hHeld ?ob28r
  case ob28h => (simp only [List.getElem?_toArray, List.getElem?_cons_succ, List.getElem?_cons_zero]; rfl)
  case ob28q => exact fun _ _ _ h => h
  case ob28y => (refine Or.inl ⟨by first | kernel_rfl | rfl, ?_⟩; intro w hSw; (try dsimp only at hSw); obtain ⟨c0, c1, -, -, -⟩ := hSw; go_simp <;> (try with_reducible rfl))
  try simp only [Act.put, List.setIfInBounds_toArray, List.set_cons_zero, List.set_cons_succ]
  refine wpAnyH_take (i := 33) (oi := ?ob29o) (v := ?ob29v) ?ob29h (by kernel_rfl) (by kernel_rfl) (by kernel_rfl) ?ob29q ?ob29y hHeld ?ob29r
  case ob29h => (simp only [List.getElem?_toArray, List.getElem?_cons_succ, List.getElem?_cons_zero]; rfl)
  case ob29q => exact fun _ _ _ h => h
  case ob29y => (refine Or.inl ⟨by first | kernel_rfl | rfl, ?_⟩; intro w hSw; (try dsimp only at hSw); obtain ⟨c0, c1, -, -, -⟩ := hSw; go_simp <;> (try with_reducible rfl))
  try simp only [Act.put, List.setIfInBounds_toArray, List.set_cons_zero, List.set_cons_succ]
  refine wpAnyH_ready (rs := [31]) (by kernel_rfl) (by simp) ?_
  refine (AllReadyH.cons rfl (fun K hK => ?_) AllReadyH.nil)
  go_simp
  ((with_reducible refine (c1 _ _ _ hHeld.ga hHeld.gb).mono ?_); rintro e w' ⟨rfl, hb'⟩)
  refine hK.out _ _ (hHeld.keep hb') (fun hHeld => ?_)
  clear hK K
  try simp only [Act.put, List.setIfInBounds_toArray, List.set_cons_zero, List.set_cons_succ]
  refine wpAnyH_ready (rs := [34]) (by kernel_rfl) (by simp) ?_
  refine (AllReadyH.cons rfl (fun K hK => ?_) AllReadyH.nil)
  go_simp
  ((with_reducible refine (c2 _ _ _ hHeld.ga hHeld.gb).mono ?_); rintro e w' ⟨rfl, hb'⟩)
  refine hK.out _ _ (hHeld.keep hb') (fun hHeld => ?_)
  clear hK K
  try simp only [Act.put, List.setIfInBounds_toArray, List.set_cons_zero, List.set_cons_succ]
  refine wpAnyH_take (i := 35) (oi := ?ob30o) (v := ?ob30v) ?ob30h (by kernel_rfl) (by kernel_rfl) (by kernel_rfl) ?ob30q ?ob30y hHeld ?ob30r
  case ob30h => (simp only [List.getElem?_toArray, List.getElem?_cons_succ, List.getElem?_cons_zero]; rfl)
  case ob30q => exact fun _ _ _ h => h
  case ob30y => (refine Or.inl ⟨by first | kernel_rfl | rfl, ?_⟩; intro w hSw; (try dsimp only at hSw); obtain ⟨c0, c1, -, -, -⟩ := hSw; go_simp <;> (try with_reducible rfl))
  try simp only [Act.put, List.setIfInBounds_toArray, List.set_cons_zero, List.set_cons_succ]
  refine wpAnyH_take (i := 36) (oi := ?ob31o) (v := ?ob31v) ?ob31h (by kernel_rfl) (by kernel_rfl) (by kernel_rfl) ?ob31q ?ob31y hHeld ?ob31r
  case ob31h => (simp only [List.getElem?_toArray, List.getElem?_cons_succ, List.getElem?_cons_zero]; rfl)
  case ob31q => exact fun _ _ _ h => h
  case ob31y => (refine Or.inl ⟨by first | kernel_rfl | rfl, ?_⟩; intro w hSw; (try dsimp only at hSw); obtain ⟨c0, c1, -, -, -⟩ := hSw; go_simp <;> (try with_reducible rfl))
  try simp only [Act.put, List.setIfInBounds_toArray, List.set_cons_zero, List.set_cons_succ]
  refine wpAnyH_take (i := 37) (oi := ?ob32o) (v := ?ob32v) ?ob32h (by kernel_rfl) (by kernel_rfl) (by kernel_rfl) ?ob32q ?ob32y hHeld ?ob32r
  case ob32h => (simp only [List.getElem?_toArray, List.getElem?_cons_succ, List.getElem?_cons_zero]; rfl)
  case ob32q => exact fun _ _ _ h => h
  case ob32y => (refine Or.inl ⟨by first | kernel_rfl | rfl, ?_⟩; intro w hSw; (try dsimp only at hSw); obtain ⟨c0, c1, -, -, -⟩ := hSw; go_simp <;> (try with_reducible rfl))
  try simp only [Act.put, List.setIfInBounds_toArray, List.set_cons_zero, List.set_cons_succ]
  refine wpAnyH_take (i := 38) (oi := ?ob33o) (v := ?ob33v) ?ob33h (by kernel_rfl) (by kernel_rfl) (by kernel_rfl) ?ob33q ?ob33y hHeld ?ob33r
  case ob33h => (simp only [List.getElem?_toArray, List.getElem?_cons_succ, List.getElem?_cons_zero]; rfl)
  case ob33q => exact fun _ _ _ h => h
  case ob33y => (refine Or.inl ⟨by first | kernel_rfl | rfl, ?_⟩; intro w hSw; (try dsimp only at hSw); obtain ⟨c0, c1, -, -, -⟩ := hSw; go_simp <;> (try with_reducible rfl))
  try simp only [Act.put, List.setIfInBounds_toArray, List.set_cons_zero, List.set_cons_succ]
  refine wpAnyH_take (i := 39) (oi := ?ob34o) (v := ?ob34v) ?ob34h (by kernel_rfl) (by kernel_rfl) (by kernel_rfl) ?ob34q ?ob34y hHeld ?ob34r
  case ob34h => (simp only [List.getElem?_toArray, List.getElem?_cons_succ, List.getElem?_cons_zero]; rfl)
  case ob34q => exact fun _ _ _ h => h
  case ob34y => (refine Or.inl ⟨by first | kernel_rfl | rfl, ?_⟩; intro w hSw; (try dsimp only at hSw); obtain ⟨c0, c1, -, -, -⟩ := hSw; go_simp <;> (try with_reducible rfl))
  try simp only [Act.put, List.setIfInBounds_toArray, List.set_cons_zero, List.set_cons_succ]
  refine wpAnyH_take (i := 41) (oi := ?ob35o) (v := ?ob35v) ?ob35h (by kernel_rfl) (by kernel_rfl) (by kernel_rfl) ?ob35q ?ob35y hHeld ?ob35r
  case ob35h => (simp only [List.getElem?_toArray, List.getElem?_cons_succ, List.getElem?_cons_zero]; rfl)
  case ob35q => exact fun _ _ _ h => h
  case ob35y => (refine Or.inl ⟨by first | kernel_rfl | rfl, ?_⟩; intro w hSw; (try dsimp only at hSw); obtain ⟨c0, c1, -, -, -⟩ := hSw; go_simp <;> (try with_reducible rfl))
  try simp only [Act.put, List.setIfInBounds_toArray, List.set_cons_zero, List.set_cons_succ]
  refine wpAnyH_take (i := 42) (oi := ?ob36o) (v := ?ob36v) ?ob36h (by kernel_rfl) (by kernel_rfl) (by kernel_rfl) ?ob36q ?ob36y hHeld ?ob36r
  case ob36h => (simp only [List.getElem?_toArray, List.getElem?_cons_succ, List.getElem?_cons_zero]; rfl)
  case ob36q => exact fun _ _ _ h => h
  case ob36y => (refine Or.inl ⟨by first | kernel_rfl | rfl, ?_⟩; intro w hSw; (try dsimp only at hSw); obtain ⟨c0, c1, -, -, -⟩ := hSw; go_simp <;> (try with_reducible rfl))
  try simp only [Act.put, List.setIfInBounds_toArray, List.set_cons_zero, List.set_cons_succ]
  refine wpAnyH_ready (rs := [40]) (by kernel_rfl) (by simp) ?_
  refine (AllReadyH.cons rfl (fun K hK => ?_) AllReadyH.nil)
  go_simp
  ((with_reducible refine (p1 _ _ _ hHeld.ga hHeld.gb).mono ?_); rintro e w' ⟨rfl, hb'⟩)
  refine hK.out _ _ (hHeld.keep hb') (fun hHeld => ?_)
  clear hK K
  try simp only [Act.put, List.setIfInBounds_toArray, List.set_cons_zero, List.set_cons_succ]
  refine wpAnyH_ready (rs := [43]) (by kernel_rfl) (by simp) ?_
  refine (AllReadyH.cons rfl (fun K hK => ?_) AllReadyH.nil)
  go_simp
  ((with_reducible refine (p2 _ _ _ hHeld.ga hHeld.gb).mono ?_); rintro e w' ⟨rfl, hb'⟩)
  refine hK.out _ _ (hHeld.keep hb') (fun hHeld => ?_)
  clear hK K
  try simp only [Act.put, List.setIfInBounds_toArray, List.set_cons_zero, List.set_cons_succ]
  refine wpAnyH_take (i := 44) (oi := ?ob37o) (v := ?ob37v) ?ob37h (by kernel_rfl) (by kernel_rfl) (by kernel_rfl) ?ob37q ?ob37y hHeld ?ob37r
  case ob37h => (simp only [List.getElem?_toArray, List.getElem?_cons_succ, List.getElem?_cons_zero]; rfl)
  case ob37q => exact fun _ _ _ h => h
  case ob37y => (refine Or.inl ⟨by first | kernel_rfl | rfl, ?_⟩; intro w hSw; (try dsimp only at hSw); obtain ⟨c0, c1, -, -, -⟩ := hSw; go_simp <;> (try with_reducible rfl))
  try simp only [Act.put, List.setIfInBounds_toArray, List.set_cons_zero, List.set_cons_succ]
  refine wpAnyH_take (i := 45) (oi := ?ob38o) (v := ?ob38v) ?ob38h (by kernel_rfl) (by kernel_rfl) (by kernel_rfl) ?ob38q ?ob38y hHeld ?ob38r
  case ob38h => (simp only [List.getElem?_toArray, List.getElem?_cons_succ, List.getElem?_cons_zero]; rfl)
  case ob38q => exact fun _ _ _ h => h
  case ob38y => (refine Or.inl ⟨by first | kernel_rfl | rfl, ?_⟩; intro w hSw; (try dsimp only at hSw); obtain ⟨c0, c1, -, -, -⟩ := hSw; go_simp <;> (try with_reducible rfl))
  try simp only [Act.put, List.setIfInBounds_toArray, List.set_cons_zero, List.set_cons_succ]
  refine wpAnyH_take (i := 46) (oi := ?ob39o) (v := ?ob39v) ?ob39h (by kernel_rfl) (by kernel_rfl) (by kernel_rfl) ?ob39q ?ob39y hHeld ?ob39r
  case ob39h => (simp only [List.getElem?_toArray, List.getElem?_cons_succ, List.getElem?_cons_zero]; rfl)
  case ob39q => exact fun _ _ _ h => h
  case ob39y => (refine Or.inl ⟨by first | kernel_rfl | rfl, ?_⟩; intro w hSw; (try dsimp only at hSw); obtain ⟨c0, c1, -, -, -⟩ := hSw; go_simp <;> (try with_reducible rfl))
  try simp only [Act.put, List.setIfInBounds_toArray, List.set_cons_zero, List.set_cons_succ]
  refine wpAnyH_done (by kernel_rfl) ?_ _
  have hbel := hHeld.bel
  go_wp2
  go_ret
  exact ⟨rfl, hbel⟩

theorem walk (a0 : Option Addr) (len0 cap0 : Nat) (a1 : Option Addr) (len1 cap1 : Nat) (q0 q1 : Int) (w : World) (h0 : ArgInts w a0 len0 cap0) (h1 : ArgInts w a1 len1 cap1) (hq0 : -9223372036854775808 ≤ q0 ∧ q0 ≤ 9223372036854775807) (hq1 : -9223372036854775808 ≤ q1 ∧ q1 ≤ 9223372036854775807) :
    Calls Try.prog 4 #[.slice a0 len0 cap0, .slice a1 len1 cap1, .agg #[.int .i64 q0, .int .i64 q1]] w fun e w' => e = .returned (.bool true) ∧ Below w.heap.size w w' := by
  obtain ⟨k0, g0⟩ := argNs_of h0
  obtain ⟨k1, g1⟩ := argNs_of h1
  exact core _ _ k0 k1 q0 q1 w g0 g1 hq0 hq1
end Go.Proofs.Ytkgagedjjjaofaa.markVectors
