/- Whether a record is held; whether it is due. -/
import Derived.Test.YthifmfgnblecbaaCbAt
set_option maxRecDepth 20000
set_option linter.unusedSimpArgs false
set_option linter.unusedVariables false
namespace Go.Proofs.Ythifmfgnblecbaa.Og.Cb
open Go.RowKit Go.Maps Go.Proofs.Ythifmfgnblecbaa.Vi Go.Proofs.Ythifmfgnblecbaa.Mk

structure HS (w : World) (g : Nat) (s q : Int) (X : World) : Prop where
  key : N2 X g s q
  bel : Below w.heap.size w X
theorem N2.later {w w' : World} {g : Nat} {s q : Int} (h : N2 w g s q) (k : Below w.heap.size w w') : N2 w' g s q :=
  ⟨(k.cell h.lt).trans h.c0, (k.cell h.lt).trans h.c1, (World.frozen?_of_block (w := w) (k.block _ h.lt)).trans h.f0, (World.frozen?_of_block (w := w) (k.block _ h.lt)).trans h.f1, Nat.lt_of_lt_of_le h.lt k.size⟩
theorem HS.alloc {w X : World} {g : Nat} {s q : Int} (h : HS w g s q X) (o : Obj) : HS w g s q (X.alloc o) := ⟨h.key.later ((Below.refl _ _).alloc (Nat.le_refl _) o), bel_new h.bel o⟩
theorem HS.drew {w X : World} {g : Nat} {s q : Int} (h : HS w g s q X) : HS w g s q X.drew := ⟨h.key.later (Below.refl _ _).drew, h.bel.drew⟩
set_option maxHeartbeats 2000000 in
theorem has_is {w : World} {p : Option Addr} {mv : Option Nat} {S : CS} (h : Rb w p mv S) (s q : Int) (hs : I64 s) (hq : I64 q) : Calls Try.prog 39 #[.pointer p, kV s q] w fun e w' => e = .returned (.bool (hasB S.L s q)) ∧ Below w.heap.size w w' := by
  have ka := fun (W : World) (hb : Below w.heap.size w W) => all_is (h.later hb)
  obtain ⟨x, hlk, -, -⟩ := h.look hs hq
  obtain ⟨z, hz⟩ : ∃ z, hasB S.L s q = z := ⟨_, rfl⟩
  rw [hz] at hlk ⊢
  obtain ⟨⟨rk, rs, rt, rv, rtier, ⟨rc, rst, rq⟩, rd⟩, ra, rcc⟩ := x
  unfold recV Rd.dv at hlk
  dsimp only at hlk
  have H0 : HS w w.heap.size s q (w.alloc (nbox s q)) := ⟨N2.of (new_block (Below.refl _ _)), (Below.refl _ _).alloc (Nat.le_refl _) _⟩
  clear hz h
  unfold kV nbox at *
  go_enter Try.func39, Try.ntmps39
  go_wp2_with fail
  refine wp_region_held_drew (S := (HS w w.heap.size s q)) (by kernel_rfl) H0.drew (fun hHeld => ?_)
  refine wpAnyH_take (i := 0) (oi := ?r1o) (v := ?r1v) ?r1h (by kernel_rfl) (by kernel_rfl) (by kernel_rfl) ?r1q ?r1y hHeld ?r1r
  case r1h => (simp only [List.getElem?_toArray, List.getElem?_cons_zero]; rfl)
  case r1q => exact fun _ _ _ h => h
  case r1y => (refine Or.inl ⟨by first | kernel_rfl | rfl, ?_⟩; intro w hSw; (try dsimp only at hSw); obtain ⟨⟨x0, x1, f0, f1, lt0⟩, hb7⟩ := hSw; have hl := hlk _ hb7; go_simp <;> (try with_reducible rfl))
  try simp only [Act.put, List.setIfInBounds_toArray, List.set_cons_zero, List.set_cons_succ]
  refine wpAnyH_take (i := 2) (oi := ?r2o) (v := ?r2v) ?r2h (by kernel_rfl) (by kernel_rfl) (by kernel_rfl) ?r2q ?r2y hHeld ?r2r
  case r2h => (simp only [List.getElem?_toArray, List.getElem?_cons_succ, List.getElem?_cons_zero]; rfl)
  case r2q => exact fun _ _ _ h => h
  case r2y => (refine Or.inl ⟨by first | kernel_rfl | rfl, ?_⟩; intro w hSw; (try dsimp only at hSw); obtain ⟨⟨x0, x1, f0, f1, lt0⟩, hb7⟩ := hSw; have hl := hlk _ hb7; go_simp <;> (try with_reducible rfl))
  try simp only [Act.put, List.setIfInBounds_toArray, List.set_cons_zero, List.set_cons_succ]
  refine wpAnyH_ready (rs := [1, 7]) (by kernel_rfl) (by simp) ?_
  refine (AllReadyH.cons rfl (fun K hK => ?_) (AllReadyH.cons rfl (fun K hK => ?_) AllReadyH.nil))
  ·
    go_simp
    (go_at_call 33; (with_reducible refine (ka _ hHeld.bel).mono ?_); rintro e w1 ⟨rfl, rfl⟩)
    refine hK.out _ _ (hHeld) (fun hHeld => ?_)
    clear hK K
    try simp only [Act.put, List.setIfInBounds_toArray, List.set_cons_zero, List.set_cons_succ]
    refine wpAnyH_take (i := 3) (oi := ?r3o) (v := ?r3v) ?r3h (by kernel_rfl) (by kernel_rfl) (by kernel_rfl) ?r3q ?r3y hHeld ?r3r
    case r3h => (simp only [List.getElem?_toArray, List.getElem?_cons_succ, List.getElem?_cons_zero]; rfl)
    case r3q => exact fun _ _ _ h => h
    case r3y => (refine Or.inl ⟨by first | kernel_rfl | rfl, ?_⟩; intro w hSw; (try dsimp only at hSw); obtain ⟨⟨x0, x1, f0, f1, lt0⟩, hb7⟩ := hSw; have hl := hlk _ hb7; go_simp <;> (try with_reducible rfl))
    try simp only [Act.put, List.setIfInBounds_toArray, List.set_cons_zero, List.set_cons_succ]
    refine wpAnyH_take (i := 4) (oi := ?r4o) (v := ?r4v) ?r4h (by kernel_rfl) (by kernel_rfl) (by kernel_rfl) ?r4q ?r4y hHeld ?r4r
    case r4h => (simp only [List.getElem?_toArray, List.getElem?_cons_succ, List.getElem?_cons_zero]; rfl)
    case r4q => exact fun _ _ _ h => h
    case r4y => (refine Or.inl ⟨by first | kernel_rfl | rfl, ?_⟩; intro w hSw; (try dsimp only at hSw); obtain ⟨⟨x0, x1, f0, f1, lt0⟩, hb7⟩ := hSw; have hl := hlk _ hb7; go_simp <;> (try with_reducible rfl))
    try simp only [Act.put, List.setIfInBounds_toArray, List.set_cons_zero, List.set_cons_succ]
    refine wpAnyH_take (i := 5) (oi := ?r5o) (v := ?r5v) ?r5h (by kernel_rfl) (by kernel_rfl) (by kernel_rfl) ?r5q ?r5y hHeld ?r5r
    case r5h => (simp only [List.getElem?_toArray, List.getElem?_cons_succ, List.getElem?_cons_zero]; rfl)
    case r5q => exact fun _ _ _ h => h
    case r5y => (refine Or.inl ⟨by first | kernel_rfl | rfl, ?_⟩; intro w hSw; (try dsimp only at hSw); obtain ⟨⟨x0, x1, f0, f1, lt0⟩, hb7⟩ := hSw; have hl := hlk _ hb7; go_simp <;> (try with_reducible rfl))
    try simp only [Act.put, List.setIfInBounds_toArray, List.set_cons_zero, List.set_cons_succ]
    refine wpAnyH_take (i := 6) (oi := ?r6o) (v := ?r6v) ?r6h (by kernel_rfl) (by kernel_rfl) (by kernel_rfl) ?r6q ?r6y hHeld ?r6r
    case r6h => (simp only [List.getElem?_toArray, List.getElem?_cons_succ, List.getElem?_cons_zero]; rfl)
    case r6q => exact fun _ _ _ h => h
    case r6y => (refine Or.inl ⟨by first | kernel_rfl | rfl, ?_⟩; intro w hSw; (try dsimp only at hSw); obtain ⟨⟨x0, x1, f0, f1, lt0⟩, hb7⟩ := hSw; have hl := hlk _ hb7; go_simp <;> (try with_reducible rfl))
    try simp only [Act.put, List.setIfInBounds_toArray, List.set_cons_zero, List.set_cons_succ]
    refine wpAnyH_ready (rs := [7]) (by kernel_rfl) (by simp) ?_
    refine (AllReadyH.cons rfl (fun K hK => ?_) AllReadyH.nil)
    go_simp
    skip
    refine hK.out _ _ (hHeld.alloc _) (fun hHeld => ?_)
    clear hK K
    try simp only [Act.put, List.setIfInBounds_toArray, List.set_cons_zero, List.set_cons_succ]
    refine wpAnyH_ready (rs := [8]) (by kernel_rfl) (by simp) ?_
    refine (AllReadyH.cons rfl (fun K hK => ?_) AllReadyH.nil)
    go_simp
    skip
    refine hK.out _ _ (((H0.alloc _).drew)) (fun hHeld => ?_)
    clear hK K
    try simp only [Act.put]
    refine wpAnyH_take (i := 9) (oi := ?r7o) (v := ?r7v) ?r7h (by kernel_rfl) (by kernel_rfl) (by kernel_rfl) ?r7q ?r7y hHeld ?r7r
    case r7h => (simp only [List.getElem?_toArray, List.getElem?_cons_succ, List.getElem?_cons_zero]; rfl)
    case r7q => exact fun _ _ _ h => h
    case r7y => (refine Or.inl ⟨by first | kernel_rfl | rfl, ?_⟩; intro w hSw; (try dsimp only at hSw); obtain ⟨⟨x0, x1, f0, f1, lt0⟩, hb7⟩ := hSw; have hl := hlk _ hb7; go_simp <;> (try with_reducible rfl))
    try simp only [Act.put, List.setIfInBounds_toArray, List.set_cons_zero, List.set_cons_succ]
    refine wpAnyH_done (by kernel_rfl) ?_ _
    go_wp2
    go_ret
    exact ⟨rfl, hHeld.bel⟩
  ·
    go_simp
    skip
    refine hK.out _ _ (hHeld.alloc _) (fun hHeld => ?_)
    clear hK K
    try simp only [Act.put, List.setIfInBounds_toArray, List.set_cons_zero, List.set_cons_succ]
    refine wpAnyH_ready (rs := [1]) (by kernel_rfl) (by simp) ?_
    refine (AllReadyH.cons rfl (fun K hK => ?_) AllReadyH.nil)
    go_simp
    (go_at_call 33; (with_reducible refine (ka _ hHeld.bel).mono ?_); rintro e w1 ⟨rfl, rfl⟩)
    refine hK.out _ _ (hHeld) (fun hHeld => ?_)
    clear hK K
    try simp only [Act.put, List.setIfInBounds_toArray, List.set_cons_zero, List.set_cons_succ]
    refine wpAnyH_take (i := 3) (oi := ?r8o) (v := ?r8v) ?r8h (by kernel_rfl) (by kernel_rfl) (by kernel_rfl) ?r8q ?r8y hHeld ?r8r
    case r8h => (simp only [List.getElem?_toArray, List.getElem?_cons_succ, List.getElem?_cons_zero]; rfl)
    case r8q => exact fun _ _ _ h => h
    case r8y => (refine Or.inl ⟨by first | kernel_rfl | rfl, ?_⟩; intro w hSw; (try dsimp only at hSw); obtain ⟨⟨x0, x1, f0, f1, lt0⟩, hb7⟩ := hSw; have hl := hlk _ hb7; go_simp <;> (try with_reducible rfl))
    try simp only [Act.put, List.setIfInBounds_toArray, List.set_cons_zero, List.set_cons_succ]
    refine wpAnyH_take (i := 4) (oi := ?r9o) (v := ?r9v) ?r9h (by kernel_rfl) (by kernel_rfl) (by kernel_rfl) ?r9q ?r9y hHeld ?r9r
    case r9h => (simp only [List.getElem?_toArray, List.getElem?_cons_succ, List.getElem?_cons_zero]; rfl)
    case r9q => exact fun _ _ _ h => h
    case r9y => (refine Or.inl ⟨by first | kernel_rfl | rfl, ?_⟩; intro w hSw; (try dsimp only at hSw); obtain ⟨⟨x0, x1, f0, f1, lt0⟩, hb7⟩ := hSw; have hl := hlk _ hb7; go_simp <;> (try with_reducible rfl))
    try simp only [Act.put, List.setIfInBounds_toArray, List.set_cons_zero, List.set_cons_succ]
    refine wpAnyH_take (i := 5) (oi := ?r10o) (v := ?r10v) ?r10h (by kernel_rfl) (by kernel_rfl) (by kernel_rfl) ?r10q ?r10y hHeld ?r10r
    case r10h => (simp only [List.getElem?_toArray, List.getElem?_cons_succ, List.getElem?_cons_zero]; rfl)
    case r10q => exact fun _ _ _ h => h
    case r10y => (refine Or.inl ⟨by first | kernel_rfl | rfl, ?_⟩; intro w hSw; (try dsimp only at hSw); obtain ⟨⟨x0, x1, f0, f1, lt0⟩, hb7⟩ := hSw; have hl := hlk _ hb7; go_simp <;> (try with_reducible rfl))
    try simp only [Act.put, List.setIfInBounds_toArray, List.set_cons_zero, List.set_cons_succ]
    refine wpAnyH_take (i := 6) (oi := ?r11o) (v := ?r11v) ?r11h (by kernel_rfl) (by kernel_rfl) (by kernel_rfl) ?r11q ?r11y hHeld ?r11r
    case r11h => (simp only [List.getElem?_toArray, List.getElem?_cons_succ, List.getElem?_cons_zero]; rfl)
    case r11q => exact fun _ _ _ h => h
    case r11y => (refine Or.inl ⟨by first | kernel_rfl | rfl, ?_⟩; intro w hSw; (try dsimp only at hSw); obtain ⟨⟨x0, x1, f0, f1, lt0⟩, hb7⟩ := hSw; have hl := hlk _ hb7; go_simp <;> (try with_reducible rfl))
    try simp only [Act.put, List.setIfInBounds_toArray, List.set_cons_zero, List.set_cons_succ]
    refine wpAnyH_ready (rs := [8]) (by kernel_rfl) (by simp) ?_
    refine (AllReadyH.cons rfl (fun K hK => ?_) AllReadyH.nil)
    go_simp
    skip
    refine hK.out _ _ (((H0.alloc _).drew)) (fun hHeld => ?_)
    clear hK K
    try simp only [Act.put]
    refine wpAnyH_take (i := 9) (oi := ?r12o) (v := ?r12v) ?r12h (by kernel_rfl) (by kernel_rfl) (by kernel_rfl) ?r12q ?r12y hHeld ?r12r
    case r12h => (simp only [List.getElem?_toArray, List.getElem?_cons_succ, List.getElem?_cons_zero]; rfl)
    case r12q => exact fun _ _ _ h => h
    case r12y => (refine Or.inl ⟨by first | kernel_rfl | rfl, ?_⟩; intro w hSw; (try dsimp only at hSw); obtain ⟨⟨x0, x1, f0, f1, lt0⟩, hb7⟩ := hSw; have hl := hlk _ hb7; go_simp <;> (try with_reducible rfl))
    try simp only [Act.put, List.setIfInBounds_toArray, List.set_cons_zero, List.set_cons_succ]
    refine wpAnyH_done (by kernel_rfl) ?_ _
    go_wp2
    go_ret
    exact ⟨rfl, hHeld.bel⟩
structure HR (w : World) (g : Nat) (x : Rd) (X : World) : Prop where
  nine : R9 X g 0 x
  bel : Below w.heap.size w X
theorem HR.later {w X Y : World} {g : Nat} {x : Rd} (h : HR w g x X) (k : Below X.heap.size X Y) : HR w g x Y := ⟨h.nine.later k, bel_next h.bel k⟩
theorem HR.drew {w X : World} {g : Nat} {x : Rd} (h : HR w g x X) : HR w g x X.drew := h.later (Below.refl _ _).drew
theorem field_k (s q : Int) (w : World) : (Instr.field 61 (.agg #[.int .i64 s, .int .i64 q]) 1).run Try.prog w = .ok (.int .i64 q) w := by kernel_rfl
set_option maxHeartbeats 4000000 in
theorem due_is {w : World} {B b : Nat} {mv : Option Nat} {ov : Value} {S : CS} {F : Nat → Prop} (h : CbAt w B b mv ov S F) (x : Rd) (hN : Ns w x.dv x.r.d) (hs : I64 x.r.st.s) : Calls Try.prog 34 #[.pointer (some ⟨b, 0, none⟩), recV x.r x.dv] w fun e w' => e = .returned (.bool (dueB S x.r)) ∧ Below w.heap.size w w' := by
  have kf := fun (W : World) (hb : Below w.heap.size w W) => follows_is (h.rb.later hb) x.r.st.s hs
  have kc := fun (W : World) (hb : Below w.heap.size w W) => coversN ov x.dv S.out x.r.d W (Ns.later h.ns hb) (Ns.later hN hb)
  have hc1 := h.c1
  have hlt := h.lt
  have hd : dueB S x.r = ((x.r.st.q == atL S.out x.r.st.s + 1) && covL S.out x.r.d) := rfl
  obtain ⟨⟨rk, rs, rt, rv, rtier, ⟨rc, rst, rq⟩, rd⟩, ra, rcc⟩ := x
  unfold recV Rd.dv at *
  dsimp only at *
  obtain ⟨oa, oc, rfl⟩ := h.ns.slice
  obtain ⟨nx, hnx⟩ : ∃ z, atL S.out rst + 1 = z := ⟨_, rfl⟩
  obtain ⟨zc, hzc⟩ : ∃ z, covL S.out rd = z := ⟨_, rfl⟩
  unfold kV at kf
  rw [hnx] at kf hd
  rw [hzc] at kc hd
  rw [hd]
  have hfl := field_k rst nx
  have H0 : HR w w.heap.size ⟨⟨rk, rs, rt, rv, rtier, ⟨rc, rst, rq⟩, rd⟩, ra, rcc⟩ (w.alloc (box9 ⟨⟨rk, rs, rt, rv, rtier, ⟨rc, rst, rq⟩, rd⟩, ra, rcc⟩)) := ⟨R9.new w _, (Below.refl _ _).alloc (Nat.le_refl _) _⟩
  clear h hN hd hnx hzc
  unfold box9 at H0
  dsimp only at H0
  cases hz : (rq == nx) with
  | true =>
    go_enter Try.func34, Try.ntmps34
    go_wp2_with fail
    refine wp_region_held_drew (S := (HR w w.heap.size ⟨⟨rk, rs, rt, rv, rtier, ⟨rc, rst, rq⟩, rd⟩, ra, rcc⟩)) (by kernel_rfl) H0.drew (fun hHeld => ?_)
    refine wpAnyH_take (i := 0) (oi := ?dt1o) (v := ?dt1v) ?dt1h (by kernel_rfl) (by kernel_rfl) (by kernel_rfl) ?dt1q ?dt1y hHeld ?dt1r
    case dt1h => (simp only [List.getElem?_toArray, List.getElem?_cons_zero]; rfl)
    case dt1q => exact fun _ _ _ h => h
    case dt1y => (refine Or.inl ⟨by first | kernel_rfl | rfl, ?_⟩; intro w hSw; (try dsimp only at hSw); obtain ⟨⟨x0, x1, x2, x3, x4, x5, x6, x7, x8⟩, hb7⟩ := hSw; dsimp only at x0 x1 x2 x3 x4 x5 x6 x7 x8; have c1 := (hb7.cell (p := ⟨b, 1, none⟩) hlt).trans hc1; go_simp <;> (try with_reducible rfl))
    try simp only [Act.put, List.setIfInBounds_toArray, List.set_cons_zero, List.set_cons_succ]
    refine wpAnyH_take (i := 1) (oi := ?dt2o) (v := ?dt2v) ?dt2h (by kernel_rfl) (by kernel_rfl) (by kernel_rfl) ?dt2q ?dt2y hHeld ?dt2r
    case dt2h => (simp only [List.getElem?_toArray, List.getElem?_cons_succ, List.getElem?_cons_zero]; rfl)
    case dt2q => exact fun _ _ _ h => h
    case dt2y => (refine Or.inl ⟨by first | kernel_rfl | rfl, ?_⟩; intro w hSw; (try dsimp only at hSw); obtain ⟨⟨x0, x1, x2, x3, x4, x5, x6, x7, x8⟩, hb7⟩ := hSw; dsimp only at x0 x1 x2 x3 x4 x5 x6 x7 x8; have c1 := (hb7.cell (p := ⟨b, 1, none⟩) hlt).trans hc1; go_simp <;> (try with_reducible rfl))
    try simp only [Act.put, List.setIfInBounds_toArray, List.set_cons_zero, List.set_cons_succ]
    refine wpAnyH_take (i := 2) (oi := ?dt3o) (v := ?dt3v) ?dt3h (by kernel_rfl) (by kernel_rfl) (by kernel_rfl) ?dt3q ?dt3y hHeld ?dt3r
    case dt3h => (simp only [List.getElem?_toArray, List.getElem?_cons_succ, List.getElem?_cons_zero]; rfl)
    case dt3q => exact fun _ _ _ h => h
    case dt3y => (refine Or.inl ⟨by first | kernel_rfl | rfl, ?_⟩; intro w hSw; (try dsimp only at hSw); obtain ⟨⟨x0, x1, x2, x3, x4, x5, x6, x7, x8⟩, hb7⟩ := hSw; dsimp only at x0 x1 x2 x3 x4 x5 x6 x7 x8; have c1 := (hb7.cell (p := ⟨b, 1, none⟩) hlt).trans hc1; go_simp <;> (try with_reducible rfl))
    try simp only [Act.put, List.setIfInBounds_toArray, List.set_cons_zero, List.set_cons_succ]
    refine wpAnyH_take (i := 3) (oi := ?dt4o) (v := ?dt4v) ?dt4h (by kernel_rfl) (by kernel_rfl) (by kernel_rfl) ?dt4q ?dt4y hHeld ?dt4r
    case dt4h => (simp only [List.getElem?_toArray, List.getElem?_cons_succ, List.getElem?_cons_zero]; rfl)
    case dt4q => exact fun _ _ _ h => h
    case dt4y => (refine Or.inl ⟨by first | kernel_rfl | rfl, ?_⟩; intro w hSw; (try dsimp only at hSw); obtain ⟨⟨x0, x1, x2, x3, x4, x5, x6, x7, x8⟩, hb7⟩ := hSw; dsimp only at x0 x1 x2 x3 x4 x5 x6 x7 x8; have c1 := (hb7.cell (p := ⟨b, 1, none⟩) hlt).trans hc1; go_simp <;> (try with_reducible rfl))
    try simp only [Act.put, List.setIfInBounds_toArray, List.set_cons_zero, List.set_cons_succ]
    refine wpAnyH_take (i := 4) (oi := ?dt5o) (v := ?dt5v) ?dt5h (by kernel_rfl) (by kernel_rfl) (by kernel_rfl) ?dt5q ?dt5y hHeld ?dt5r
    case dt5h => (simp only [List.getElem?_toArray, List.getElem?_cons_succ, List.getElem?_cons_zero]; rfl)
    case dt5q => exact fun _ _ _ h => h
    case dt5y => (refine Or.inl ⟨by first | kernel_rfl | rfl, ?_⟩; intro w hSw; (try dsimp only at hSw); obtain ⟨⟨x0, x1, x2, x3, x4, x5, x6, x7, x8⟩, hb7⟩ := hSw; dsimp only at x0 x1 x2 x3 x4 x5 x6 x7 x8; have c1 := (hb7.cell (p := ⟨b, 1, none⟩) hlt).trans hc1; go_simp <;> (try with_reducible rfl))
    try simp only [Act.put, List.setIfInBounds_toArray, List.set_cons_zero, List.set_cons_succ]
    refine wpAnyH_take (i := 5) (oi := ?dt6o) (v := ?dt6v) ?dt6h (by kernel_rfl) (by kernel_rfl) (by kernel_rfl) ?dt6q ?dt6y hHeld ?dt6r
    case dt6h => (simp only [List.getElem?_toArray, List.getElem?_cons_succ, List.getElem?_cons_zero]; rfl)
    case dt6q => exact fun _ _ _ h => h
    case dt6y => (refine Or.inl ⟨by first | kernel_rfl | rfl, ?_⟩; intro w hSw; (try dsimp only at hSw); obtain ⟨⟨x0, x1, x2, x3, x4, x5, x6, x7, x8⟩, hb7⟩ := hSw; dsimp only at x0 x1 x2 x3 x4 x5 x6 x7 x8; have c1 := (hb7.cell (p := ⟨b, 1, none⟩) hlt).trans hc1; go_simp <;> (try with_reducible rfl))
    try simp only [Act.put, List.setIfInBounds_toArray, List.set_cons_zero, List.set_cons_succ]
    refine wpAnyH_take (i := 6) (oi := ?dt7o) (v := ?dt7v) ?dt7h (by kernel_rfl) (by kernel_rfl) (by kernel_rfl) ?dt7q ?dt7y hHeld ?dt7r
    case dt7h => (simp only [List.getElem?_toArray, List.getElem?_cons_succ, List.getElem?_cons_zero]; rfl)
    case dt7q => exact fun _ _ _ h => h
    case dt7y => (refine Or.inl ⟨by first | kernel_rfl | rfl, ?_⟩; intro w hSw; (try dsimp only at hSw); obtain ⟨⟨x0, x1, x2, x3, x4, x5, x6, x7, x8⟩, hb7⟩ := hSw; dsimp only at x0 x1 x2 x3 x4 x5 x6 x7 x8; have c1 := (hb7.cell (p := ⟨b, 1, none⟩) hlt).trans hc1; go_simp <;> (try with_reducible rfl))
    try simp only [Act.put, List.setIfInBounds_toArray, List.set_cons_zero, List.set_cons_succ]
    refine wpAnyH_ready (rs := [7]) (by kernel_rfl) (by simp) ?_
    refine (AllReadyH.cons rfl (fun K hK => ?_) AllReadyH.nil)
    go_simp
    (go_at_call 32; (with_reducible refine (kf _ hHeld.bel).mono ?_); rintro e w1 ⟨rfl, hb1⟩; (have hHeld := hHeld.later hb1); clear hb1)
    refine hK.out _ _ (hHeld) (fun hHeld => ?_)
    clear hK K
    try simp only [Act.put, List.setIfInBounds_toArray, List.set_cons_zero, List.set_cons_succ]
    refine wpAnyH_take (i := 8) (oi := ?dt8o) (v := ?dt8v) ?dt8h (by kernel_rfl) (by kernel_rfl) (by kernel_rfl) ?dt8q ?dt8y hHeld ?dt8r
    case dt8h => (simp only [List.getElem?_toArray, List.getElem?_cons_succ, List.getElem?_cons_zero]; rfl)
    case dt8q => exact fun _ _ _ h => h
    case dt8y => (refine Or.inl ⟨by first | kernel_rfl | rfl, ?_⟩; intro w hSw; (try dsimp only at hSw); obtain ⟨⟨x0, x1, x2, x3, x4, x5, x6, x7, x8⟩, hb7⟩ := hSw; dsimp only at x0 x1 x2 x3 x4 x5 x6 x7 x8; have c1 := (hb7.cell (p := ⟨b, 1, none⟩) hlt).trans hc1; go_simp <;> (try with_reducible rfl))
    try simp only [Act.put, List.setIfInBounds_toArray, List.set_cons_zero, List.set_cons_succ]
    refine wpAnyH_take (i := 9) (oi := ?dt9o) (v := ?dt9v) ?dt9h (by kernel_rfl) (by kernel_rfl) (by kernel_rfl) ?dt9q ?dt9y hHeld ?dt9r
    case dt9h => (simp only [List.getElem?_toArray, List.getElem?_cons_succ, List.getElem?_cons_zero]; rfl)
    case dt9q => exact fun _ _ _ h => h
    case dt9y => (refine Or.inl ⟨by first | kernel_rfl | rfl, ?_⟩; intro w hSw; (try dsimp only at hSw); obtain ⟨⟨x0, x1, x2, x3, x4, x5, x6, x7, x8⟩, hb7⟩ := hSw; dsimp only at x0 x1 x2 x3 x4 x5 x6 x7 x8; have c1 := (hb7.cell (p := ⟨b, 1, none⟩) hlt).trans hc1; go_simp <;> (try with_reducible rfl))
    try simp only [Act.put, List.setIfInBounds_toArray, List.set_cons_zero, List.set_cons_succ]
    refine wpAnyH_take (i := 10) (oi := ?dt10o) (v := ?dt10v) ?dt10h (by kernel_rfl) (by kernel_rfl) (by kernel_rfl) ?dt10q ?dt10y hHeld ?dt10r
    case dt10h => (simp only [List.getElem?_toArray, List.getElem?_cons_succ, List.getElem?_cons_zero]; rfl)
    case dt10q => exact fun _ _ _ h => h
    case dt10y => (refine Or.inl ⟨by first | kernel_rfl | rfl, ?_⟩; intro w hSw; (try dsimp only at hSw); obtain ⟨⟨x0, x1, x2, x3, x4, x5, x6, x7, x8⟩, hb7⟩ := hSw; dsimp only at x0 x1 x2 x3 x4 x5 x6 x7 x8; have c1 := (hb7.cell (p := ⟨b, 1, none⟩) hlt).trans hc1; go_simp <;> (try with_reducible rfl))
    try simp only [Act.put, List.setIfInBounds_toArray, List.set_cons_zero, List.set_cons_succ]
    refine wpAnyH_take (i := 11) (oi := ?dt11o) (v := ?dt11v) ?dt11h (by kernel_rfl) (by kernel_rfl) (by kernel_rfl) ?dt11q ?dt11y hHeld ?dt11r
    case dt11h => (simp only [List.getElem?_toArray, List.getElem?_cons_succ, List.getElem?_cons_zero]; rfl)
    case dt11q => exact fun _ _ _ h => h
    case dt11y => (refine Or.inl ⟨by first | kernel_rfl | rfl, ?_⟩; intro w hSw; (try dsimp only at hSw); obtain ⟨⟨x0, x1, x2, x3, x4, x5, x6, x7, x8⟩, hb7⟩ := hSw; dsimp only at x0 x1 x2 x3 x4 x5 x6 x7 x8; have c1 := (hb7.cell (p := ⟨b, 1, none⟩) hlt).trans hc1; go_simp <;> (try with_reducible rfl))
    try simp only [Act.put, List.setIfInBounds_toArray, List.set_cons_zero, List.set_cons_succ]
    refine wpAnyH_take (i := 12) (oi := ?dt12o) (v := ?dt12v) ?dt12h (by kernel_rfl) (by kernel_rfl) (by kernel_rfl) ?dt12q ?dt12y hHeld ?dt12r
    case dt12h => (simp only [List.getElem?_toArray, List.getElem?_cons_succ, List.getElem?_cons_zero]; rfl)
    case dt12q => exact fun _ _ _ h => h
    case dt12y => (refine Or.inl ⟨by first | kernel_rfl | rfl, ?_⟩; intro w hSw; (try dsimp only at hSw); obtain ⟨⟨x0, x1, x2, x3, x4, x5, x6, x7, x8⟩, hb7⟩ := hSw; dsimp only at x0 x1 x2 x3 x4 x5 x6 x7 x8; have c1 := (hb7.cell (p := ⟨b, 1, none⟩) hlt).trans hc1; go_simp <;> (try with_reducible rfl))
    try simp only [Act.put, List.setIfInBounds_toArray, List.set_cons_zero, List.set_cons_succ]
    refine wpAnyH_take (i := 13) (oi := ?dt13o) (v := ?dt13v) ?dt13h (by kernel_rfl) (by kernel_rfl) (by kernel_rfl) ?dt13q ?dt13y hHeld ?dt13r
    case dt13h => (simp only [List.getElem?_toArray, List.getElem?_cons_succ, List.getElem?_cons_zero]; rfl)
    case dt13q => exact fun _ _ _ h => h
    case dt13y => (refine Or.inl ⟨by first | kernel_rfl | rfl, ?_⟩; intro w hSw; (try dsimp only at hSw); obtain ⟨⟨x0, x1, x2, x3, x4, x5, x6, x7, x8⟩, hb7⟩ := hSw; dsimp only at x0 x1 x2 x3 x4 x5 x6 x7 x8; have c1 := (hb7.cell (p := ⟨b, 1, none⟩) hlt).trans hc1; go_simp <;> (try with_reducible rfl))
    try simp only [Act.put, List.setIfInBounds_toArray, List.set_cons_zero, List.set_cons_succ]
    refine wpAnyH_take (i := 14) (oi := ?dt14o) (v := ?dt14v) ?dt14h (by kernel_rfl) (by kernel_rfl) (by kernel_rfl) ?dt14q ?dt14y hHeld ?dt14r
    case dt14h => (simp only [List.getElem?_toArray, List.getElem?_cons_succ, List.getElem?_cons_zero]; rfl)
    case dt14q => exact fun _ _ _ h => h
    case dt14y => (refine Or.inl ⟨by first | kernel_rfl | rfl, ?_⟩; intro w hSw; (try dsimp only at hSw); obtain ⟨⟨x0, x1, x2, x3, x4, x5, x6, x7, x8⟩, hb7⟩ := hSw; dsimp only at x0 x1 x2 x3 x4 x5 x6 x7 x8; have c1 := (hb7.cell (p := ⟨b, 1, none⟩) hlt).trans hc1; go_simp <;> (try with_reducible rfl))
    try simp only [Act.put, List.setIfInBounds_toArray, List.set_cons_zero, List.set_cons_succ]
    refine wpAnyH_take (i := 15) (oi := ?dt15o) (v := ?dt15v) ?dt15h (by kernel_rfl) (by kernel_rfl) (by kernel_rfl) ?dt15q ?dt15y hHeld ?dt15r
    case dt15h => (simp only [List.getElem?_toArray, List.getElem?_cons_succ, List.getElem?_cons_zero]; rfl)
    case dt15q => exact fun _ _ _ h => h
    case dt15y => (refine Or.inl ⟨by first | kernel_rfl | rfl, ?_⟩; intro w hSw; (try dsimp only at hSw); obtain ⟨⟨x0, x1, x2, x3, x4, x5, x6, x7, x8⟩, hb7⟩ := hSw; dsimp only at x0 x1 x2 x3 x4 x5 x6 x7 x8; have c1 := (hb7.cell (p := ⟨b, 1, none⟩) hlt).trans hc1; go_simp <;> (try with_reducible rfl))
    try simp only [Act.put, List.setIfInBounds_toArray, List.set_cons_zero, List.set_cons_succ]
    refine wpAnyH_take (i := 16) (oi := ?dt16o) (v := ?dt16v) ?dt16h (by kernel_rfl) (by kernel_rfl) (by kernel_rfl) ?dt16q ?dt16y hHeld ?dt16r
    case dt16h => (simp only [List.getElem?_toArray, List.getElem?_cons_succ, List.getElem?_cons_zero]; rfl)
    case dt16q => exact fun _ _ _ h => h
    case dt16y => (refine Or.inl ⟨by first | kernel_rfl | rfl, ?_⟩; intro w hSw; (try dsimp only at hSw); obtain ⟨⟨x0, x1, x2, x3, x4, x5, x6, x7, x8⟩, hb7⟩ := hSw; dsimp only at x0 x1 x2 x3 x4 x5 x6 x7 x8; have c1 := (hb7.cell (p := ⟨b, 1, none⟩) hlt).trans hc1; go_simp <;> (try with_reducible rfl))
    try simp only [Act.put, List.setIfInBounds_toArray, List.set_cons_zero, List.set_cons_succ]
    refine wpAnyH_ready (rs := [17]) (by kernel_rfl) (by simp) ?_
    refine (AllReadyH.cons rfl (fun K hK => ?_) AllReadyH.nil)
    go_simp
    (go_at_call 51; (with_reducible refine (kc _ hHeld.bel).mono ?_); rintro e w2 ⟨rfl, rfl⟩)
    refine hK.out _ _ (hHeld) (fun hHeld => ?_)
    clear hK K
    try simp only [Act.put, List.setIfInBounds_toArray, List.set_cons_zero, List.set_cons_succ]
    refine wpAnyH_take (i := 18) (oi := ?dt17o) (v := ?dt17v) ?dt17h (by kernel_rfl) (by kernel_rfl) (by kernel_rfl) ?dt17q ?dt17y hHeld ?dt17r
    case dt17h => (simp only [List.getElem?_toArray, List.getElem?_cons_succ, List.getElem?_cons_zero]; rfl)
    case dt17q => exact fun _ _ _ h => h
    case dt17y => (refine Or.inl ⟨by first | kernel_rfl | rfl, ?_⟩; intro w hSw; (try dsimp only at hSw); obtain ⟨⟨x0, x1, x2, x3, x4, x5, x6, x7, x8⟩, hb7⟩ := hSw; dsimp only at x0 x1 x2 x3 x4 x5 x6 x7 x8; have c1 := (hb7.cell (p := ⟨b, 1, none⟩) hlt).trans hc1; go_simp <;> (try with_reducible rfl))
    try simp only [Act.put, List.setIfInBounds_toArray, List.set_cons_zero, List.set_cons_succ]
    refine wpAnyH_take (i := 19) (oi := ?dt18o) (v := ?dt18v) ?dt18h (by kernel_rfl) (by kernel_rfl) (by kernel_rfl) ?dt18q ?dt18y hHeld ?dt18r
    case dt18h => (simp only [List.getElem?_toArray, List.getElem?_cons_succ, List.getElem?_cons_zero]; rfl)
    case dt18q => exact fun _ _ _ h => h
    case dt18y => (refine Or.inl ⟨by first | kernel_rfl | rfl, ?_⟩; intro w hSw; (try dsimp only at hSw); obtain ⟨⟨x0, x1, x2, x3, x4, x5, x6, x7, x8⟩, hb7⟩ := hSw; dsimp only at x0 x1 x2 x3 x4 x5 x6 x7 x8; have c1 := (hb7.cell (p := ⟨b, 1, none⟩) hlt).trans hc1; go_simp <;> (try with_reducible rfl))
    try simp only [Act.put, List.setIfInBounds_toArray, List.set_cons_zero, List.set_cons_succ]
    refine wpAnyH_done (by kernel_rfl) ?_ _
    go_wp2
    go_ret
    exact ⟨rfl, hHeld.bel⟩
  | false =>
    go_enter Try.func34, Try.ntmps34
    go_wp2_with fail
    refine wp_region_held_drew (S := (HR w w.heap.size ⟨⟨rk, rs, rt, rv, rtier, ⟨rc, rst, rq⟩, rd⟩, ra, rcc⟩)) (by kernel_rfl) H0.drew (fun hHeld => ?_)
    refine wpAnyH_take (i := 0) (oi := ?df1o) (v := ?df1v) ?df1h (by kernel_rfl) (by kernel_rfl) (by kernel_rfl) ?df1q ?df1y hHeld ?df1r
    case df1h => (simp only [List.getElem?_toArray, List.getElem?_cons_zero]; rfl)
    case df1q => exact fun _ _ _ h => h
    case df1y => (refine Or.inl ⟨by first | kernel_rfl | rfl, ?_⟩; intro w hSw; (try dsimp only at hSw); obtain ⟨⟨x0, x1, x2, x3, x4, x5, x6, x7, x8⟩, hb7⟩ := hSw; dsimp only at x0 x1 x2 x3 x4 x5 x6 x7 x8; have c1 := (hb7.cell (p := ⟨b, 1, none⟩) hlt).trans hc1; go_simp <;> (try with_reducible rfl))
    try simp only [Act.put, List.setIfInBounds_toArray, List.set_cons_zero, List.set_cons_succ]
    refine wpAnyH_take (i := 1) (oi := ?df2o) (v := ?df2v) ?df2h (by kernel_rfl) (by kernel_rfl) (by kernel_rfl) ?df2q ?df2y hHeld ?df2r
    case df2h => (simp only [List.getElem?_toArray, List.getElem?_cons_succ, List.getElem?_cons_zero]; rfl)
    case df2q => exact fun _ _ _ h => h
    case df2y => (refine Or.inl ⟨by first | kernel_rfl | rfl, ?_⟩; intro w hSw; (try dsimp only at hSw); obtain ⟨⟨x0, x1, x2, x3, x4, x5, x6, x7, x8⟩, hb7⟩ := hSw; dsimp only at x0 x1 x2 x3 x4 x5 x6 x7 x8; have c1 := (hb7.cell (p := ⟨b, 1, none⟩) hlt).trans hc1; go_simp <;> (try with_reducible rfl))
    try simp only [Act.put, List.setIfInBounds_toArray, List.set_cons_zero, List.set_cons_succ]
    refine wpAnyH_take (i := 2) (oi := ?df3o) (v := ?df3v) ?df3h (by kernel_rfl) (by kernel_rfl) (by kernel_rfl) ?df3q ?df3y hHeld ?df3r
    case df3h => (simp only [List.getElem?_toArray, List.getElem?_cons_succ, List.getElem?_cons_zero]; rfl)
    case df3q => exact fun _ _ _ h => h
    case df3y => (refine Or.inl ⟨by first | kernel_rfl | rfl, ?_⟩; intro w hSw; (try dsimp only at hSw); obtain ⟨⟨x0, x1, x2, x3, x4, x5, x6, x7, x8⟩, hb7⟩ := hSw; dsimp only at x0 x1 x2 x3 x4 x5 x6 x7 x8; have c1 := (hb7.cell (p := ⟨b, 1, none⟩) hlt).trans hc1; go_simp <;> (try with_reducible rfl))
    try simp only [Act.put, List.setIfInBounds_toArray, List.set_cons_zero, List.set_cons_succ]
    refine wpAnyH_take (i := 3) (oi := ?df4o) (v := ?df4v) ?df4h (by kernel_rfl) (by kernel_rfl) (by kernel_rfl) ?df4q ?df4y hHeld ?df4r
    case df4h => (simp only [List.getElem?_toArray, List.getElem?_cons_succ, List.getElem?_cons_zero]; rfl)
    case df4q => exact fun _ _ _ h => h
    case df4y => (refine Or.inl ⟨by first | kernel_rfl | rfl, ?_⟩; intro w hSw; (try dsimp only at hSw); obtain ⟨⟨x0, x1, x2, x3, x4, x5, x6, x7, x8⟩, hb7⟩ := hSw; dsimp only at x0 x1 x2 x3 x4 x5 x6 x7 x8; have c1 := (hb7.cell (p := ⟨b, 1, none⟩) hlt).trans hc1; go_simp <;> (try with_reducible rfl))
    try simp only [Act.put, List.setIfInBounds_toArray, List.set_cons_zero, List.set_cons_succ]
    refine wpAnyH_take (i := 4) (oi := ?df5o) (v := ?df5v) ?df5h (by kernel_rfl) (by kernel_rfl) (by kernel_rfl) ?df5q ?df5y hHeld ?df5r
    case df5h => (simp only [List.getElem?_toArray, List.getElem?_cons_succ, List.getElem?_cons_zero]; rfl)
    case df5q => exact fun _ _ _ h => h
    case df5y => (refine Or.inl ⟨by first | kernel_rfl | rfl, ?_⟩; intro w hSw; (try dsimp only at hSw); obtain ⟨⟨x0, x1, x2, x3, x4, x5, x6, x7, x8⟩, hb7⟩ := hSw; dsimp only at x0 x1 x2 x3 x4 x5 x6 x7 x8; have c1 := (hb7.cell (p := ⟨b, 1, none⟩) hlt).trans hc1; go_simp <;> (try with_reducible rfl))
    try simp only [Act.put, List.setIfInBounds_toArray, List.set_cons_zero, List.set_cons_succ]
    refine wpAnyH_take (i := 5) (oi := ?df6o) (v := ?df6v) ?df6h (by kernel_rfl) (by kernel_rfl) (by kernel_rfl) ?df6q ?df6y hHeld ?df6r
    case df6h => (simp only [List.getElem?_toArray, List.getElem?_cons_succ, List.getElem?_cons_zero]; rfl)
    case df6q => exact fun _ _ _ h => h
    case df6y => (refine Or.inl ⟨by first | kernel_rfl | rfl, ?_⟩; intro w hSw; (try dsimp only at hSw); obtain ⟨⟨x0, x1, x2, x3, x4, x5, x6, x7, x8⟩, hb7⟩ := hSw; dsimp only at x0 x1 x2 x3 x4 x5 x6 x7 x8; have c1 := (hb7.cell (p := ⟨b, 1, none⟩) hlt).trans hc1; go_simp <;> (try with_reducible rfl))
    try simp only [Act.put, List.setIfInBounds_toArray, List.set_cons_zero, List.set_cons_succ]
    refine wpAnyH_take (i := 6) (oi := ?df7o) (v := ?df7v) ?df7h (by kernel_rfl) (by kernel_rfl) (by kernel_rfl) ?df7q ?df7y hHeld ?df7r
    case df7h => (simp only [List.getElem?_toArray, List.getElem?_cons_succ, List.getElem?_cons_zero]; rfl)
    case df7q => exact fun _ _ _ h => h
    case df7y => (refine Or.inl ⟨by first | kernel_rfl | rfl, ?_⟩; intro w hSw; (try dsimp only at hSw); obtain ⟨⟨x0, x1, x2, x3, x4, x5, x6, x7, x8⟩, hb7⟩ := hSw; dsimp only at x0 x1 x2 x3 x4 x5 x6 x7 x8; have c1 := (hb7.cell (p := ⟨b, 1, none⟩) hlt).trans hc1; go_simp <;> (try with_reducible rfl))
    try simp only [Act.put, List.setIfInBounds_toArray, List.set_cons_zero, List.set_cons_succ]
    refine wpAnyH_ready (rs := [7]) (by kernel_rfl) (by simp) ?_
    refine (AllReadyH.cons rfl (fun K hK => ?_) AllReadyH.nil)
    go_simp
    (go_at_call 32; (with_reducible refine (kf _ hHeld.bel).mono ?_); rintro e w1 ⟨rfl, hb1⟩; (have hHeld := hHeld.later hb1); clear hb1)
    refine hK.out _ _ (hHeld) (fun hHeld => ?_)
    clear hK K
    try simp only [Act.put, List.setIfInBounds_toArray, List.set_cons_zero, List.set_cons_succ]
    refine wpAnyH_take (i := 8) (oi := ?df8o) (v := ?df8v) ?df8h (by kernel_rfl) (by kernel_rfl) (by kernel_rfl) ?df8q ?df8y hHeld ?df8r
    case df8h => (simp only [List.getElem?_toArray, List.getElem?_cons_succ, List.getElem?_cons_zero]; rfl)
    case df8q => exact fun _ _ _ h => h
    case df8y => (refine Or.inl ⟨by first | kernel_rfl | rfl, ?_⟩; intro w hSw; (try dsimp only at hSw); obtain ⟨⟨x0, x1, x2, x3, x4, x5, x6, x7, x8⟩, hb7⟩ := hSw; dsimp only at x0 x1 x2 x3 x4 x5 x6 x7 x8; have c1 := (hb7.cell (p := ⟨b, 1, none⟩) hlt).trans hc1; go_simp <;> (try with_reducible rfl))
    try simp only [Act.put, List.setIfInBounds_toArray, List.set_cons_zero, List.set_cons_succ]
    refine wpAnyH_take (i := 9) (oi := ?df9o) (v := ?df9v) ?df9h (by kernel_rfl) (by kernel_rfl) (by kernel_rfl) ?df9q ?df9y hHeld ?df9r
    case df9h => (simp only [List.getElem?_toArray, List.getElem?_cons_succ, List.getElem?_cons_zero]; rfl)
    case df9q => exact fun _ _ _ h => h
    case df9y => (refine Or.inl ⟨by first | kernel_rfl | rfl, ?_⟩; intro w hSw; (try dsimp only at hSw); obtain ⟨⟨x0, x1, x2, x3, x4, x5, x6, x7, x8⟩, hb7⟩ := hSw; dsimp only at x0 x1 x2 x3 x4 x5 x6 x7 x8; have c1 := (hb7.cell (p := ⟨b, 1, none⟩) hlt).trans hc1; go_simp <;> (try with_reducible rfl))
    try simp only [Act.put, List.setIfInBounds_toArray, List.set_cons_zero, List.set_cons_succ]
    refine wpAnyH_take (i := 10) (oi := ?df10o) (v := ?df10v) ?df10h (by kernel_rfl) (by kernel_rfl) (by kernel_rfl) ?df10q ?df10y hHeld ?df10r
    case df10h => (simp only [List.getElem?_toArray, List.getElem?_cons_succ, List.getElem?_cons_zero]; rfl)
    case df10q => exact fun _ _ _ h => h
    case df10y => (refine Or.inl ⟨by first | kernel_rfl | rfl, ?_⟩; intro w hSw; (try dsimp only at hSw); obtain ⟨⟨x0, x1, x2, x3, x4, x5, x6, x7, x8⟩, hb7⟩ := hSw; dsimp only at x0 x1 x2 x3 x4 x5 x6 x7 x8; have c1 := (hb7.cell (p := ⟨b, 1, none⟩) hlt).trans hc1; go_simp <;> (try with_reducible rfl))
    try simp only [Act.put, List.setIfInBounds_toArray, List.set_cons_zero, List.set_cons_succ]
    refine wpAnyH_take (i := 11) (oi := ?df11o) (v := undef) ?df11h (by kernel_rfl) (by kernel_rfl) (by kernel_rfl) ?df11q ?df11y hHeld ?df11r
    case df11h => (simp only [List.getElem?_toArray, List.getElem?_cons_succ, List.getElem?_cons_zero]; rfl)
    case df11q => exact fun _ _ _ h => h
    case df11y => exact Or.inr ⟨by first | kernel_rfl | rfl, rfl⟩
    try simp only [Act.put, List.setIfInBounds_toArray, List.set_cons_zero, List.set_cons_succ]
    refine wpAnyH_take (i := 12) (oi := ?df12o) (v := undef) ?df12h (by kernel_rfl) (by kernel_rfl) (by kernel_rfl) ?df12q ?df12y hHeld ?df12r
    case df12h => (simp only [List.getElem?_toArray, List.getElem?_cons_succ, List.getElem?_cons_zero]; rfl)
    case df12q => exact fun _ _ _ h => h
    case df12y => exact Or.inr ⟨by first | kernel_rfl | rfl, rfl⟩
    try simp only [Act.put, List.setIfInBounds_toArray, List.set_cons_zero, List.set_cons_succ]
    refine wpAnyH_take (i := 13) (oi := ?df13o) (v := undef) ?df13h (by kernel_rfl) (by kernel_rfl) (by kernel_rfl) ?df13q ?df13y hHeld ?df13r
    case df13h => (simp only [List.getElem?_toArray, List.getElem?_cons_succ, List.getElem?_cons_zero]; rfl)
    case df13q => exact fun _ _ _ h => h
    case df13y => exact Or.inr ⟨by first | kernel_rfl | rfl, rfl⟩
    try simp only [Act.put, List.setIfInBounds_toArray, List.set_cons_zero, List.set_cons_succ]
    refine wpAnyH_take (i := 14) (oi := ?df14o) (v := undef) ?df14h (by kernel_rfl) (by kernel_rfl) (by kernel_rfl) ?df14q ?df14y hHeld ?df14r
    case df14h => (simp only [List.getElem?_toArray, List.getElem?_cons_succ, List.getElem?_cons_zero]; rfl)
    case df14q => exact fun _ _ _ h => h
    case df14y => exact Or.inr ⟨by first | kernel_rfl | rfl, rfl⟩
    try simp only [Act.put, List.setIfInBounds_toArray, List.set_cons_zero, List.set_cons_succ]
    refine wpAnyH_take (i := 15) (oi := ?df15o) (v := undef) ?df15h (by kernel_rfl) (by kernel_rfl) (by kernel_rfl) ?df15q ?df15y hHeld ?df15r
    case df15h => (simp only [List.getElem?_toArray, List.getElem?_cons_succ, List.getElem?_cons_zero]; rfl)
    case df15q => exact fun _ _ _ h => h
    case df15y => exact Or.inr ⟨by first | kernel_rfl | rfl, rfl⟩
    try simp only [Act.put, List.setIfInBounds_toArray, List.set_cons_zero, List.set_cons_succ]
    refine wpAnyH_take (i := 16) (oi := ?df16o) (v := undef) ?df16h (by kernel_rfl) (by kernel_rfl) (by kernel_rfl) ?df16q ?df16y hHeld ?df16r
    case df16h => (simp only [List.getElem?_toArray, List.getElem?_cons_succ, List.getElem?_cons_zero]; rfl)
    case df16q => exact fun _ _ _ h => h
    case df16y => exact Or.inr ⟨by first | kernel_rfl | rfl, rfl⟩
    try simp only [Act.put, List.setIfInBounds_toArray, List.set_cons_zero, List.set_cons_succ]
    refine wpAnyH_take (i := 17) (oi := ?df17o) (v := undef) ?df17h (by kernel_rfl) (by kernel_rfl) (by kernel_rfl) ?df17q ?df17y hHeld ?df17r
    case df17h => (simp only [List.getElem?_toArray, List.getElem?_cons_succ, List.getElem?_cons_zero]; rfl)
    case df17q => exact fun _ _ _ h => h
    case df17y => exact Or.inr ⟨by first | kernel_rfl | rfl, rfl⟩
    try simp only [Act.put, List.setIfInBounds_toArray, List.set_cons_zero, List.set_cons_succ]
    refine wpAnyH_take (i := 18) (oi := ?df18o) (v := ?df18v) ?df18h (by kernel_rfl) (by kernel_rfl) (by kernel_rfl) ?df18q ?df18y hHeld ?df18r
    case df18h => (simp only [List.getElem?_toArray, List.getElem?_cons_succ, List.getElem?_cons_zero]; rfl)
    case df18q => exact fun _ _ _ h => h
    case df18y => (refine Or.inl ⟨by first | kernel_rfl | rfl, ?_⟩; intro w hSw; (try dsimp only at hSw); obtain ⟨⟨x0, x1, x2, x3, x4, x5, x6, x7, x8⟩, hb7⟩ := hSw; dsimp only at x0 x1 x2 x3 x4 x5 x6 x7 x8; have c1 := (hb7.cell (p := ⟨b, 1, none⟩) hlt).trans hc1; go_simp <;> (try with_reducible rfl))
    try simp only [Act.put, List.setIfInBounds_toArray, List.set_cons_zero, List.set_cons_succ]
    refine wpAnyH_take (i := 19) (oi := ?df19o) (v := ?df19v) ?df19h (by kernel_rfl) (by kernel_rfl) (by kernel_rfl) ?df19q ?df19y hHeld ?df19r
    case df19h => (simp only [List.getElem?_toArray, List.getElem?_cons_succ, List.getElem?_cons_zero]; rfl)
    case df19q => exact fun _ _ _ h => h
    case df19y => (refine Or.inl ⟨by first | kernel_rfl | rfl, ?_⟩; intro w hSw; (try dsimp only at hSw); obtain ⟨⟨x0, x1, x2, x3, x4, x5, x6, x7, x8⟩, hb7⟩ := hSw; dsimp only at x0 x1 x2 x3 x4 x5 x6 x7 x8; have c1 := (hb7.cell (p := ⟨b, 1, none⟩) hlt).trans hc1; go_simp <;> (try with_reducible rfl))
    try simp only [Act.put, List.setIfInBounds_toArray, List.set_cons_zero, List.set_cons_succ]
    refine wpAnyH_done (by kernel_rfl) ?_ _
    go_wp2
    go_ret
    exact ⟨rfl, hHeld.bel⟩
end Go.Proofs.Ythifmfgnblecbaa.Og.Cb
