/- The contract of the program's put: a point's bytes behind another one of its series. -/
import Derived.Test.YtkomfenjeoaelaaDoorBlockRow
set_option maxRecDepth 20000
set_option linter.unusedSimpArgs false
namespace Go.Proofs.YtkomfenjeoaelaaDoor
open Go.RowKit Go.Proofs.YtkomfenjeoaelaaDoor.Vi Go.Proofs.YtkomfenjeoaelaaDoor.Mk

/-- A point's bytes behind q. -/
def putA (p q : Pt) : List UInt8 := enc (p.t - q.t).toNat ++ enc (zig (IntKind.i64.wrap (p.v - q.v))).toNat ++ p.st.bytes
theorem st_len30 (a : St) : a.bytes.length ≤ 30 := by
  unfold St.bytes
  split
  · rename_i h
    obtain ⟨q1, q2, q3, q4, q5, q6⟩ := St.ok_iff.1 h
    have h1 := enc_len10 a.c.toNat (by omega)
    have h2 := enc_len10 a.s.toNat (by omega)
    have h3 := enc_len10 a.q.toNat (by omega)
    rw [List.length_append, List.length_append]; omega
  · simp
theorem zput12 (v : Int) (s : ByteArray) (w : World) (hv : -9223372036854775808 ≤ v ∧ v ≤ 9223372036854775807) (hs : Hid (tx (enc (zig v).toNat) = s)) : Calls Tryd.prog 46 #[.int .u64 (zig v)] w (TextDone s w) := by
  obtain ⟨h1, h2⟩ := zig_bounds v hv.1 hv.2
  have := put_is (zig v).toNat s w (by omega) hs
  rw [Int.toNat_of_nonneg h1] at this
  exact this
theorem wrap_fit (x : Int) : -9223372036854775808 ≤ IntKind.i64.wrap x ∧ IntKind.i64.wrap x ≤ 9223372036854775807 := by rw [IntKind.wrap_i64]; omega
theorem putA_len (p q : Pt) (h : 0 ≤ p.t - q.t ∧ p.t - q.t ≤ 1099511627776) : (putA p q).length ≤ 50 := by
  unfold putA
  obtain ⟨h1, h2⟩ := zig_bounds _ (wrap_fit (p.v - q.v)).1 (wrap_fit (p.v - q.v)).2
  have e1 := enc_len10 (p.t - q.t).toNat (by omega)
  have e2 := enc_len10 (zig (IntKind.i64.wrap (p.v - q.v))).toNat (by omega)
  have e3 := st_len30 p.st
  rw [List.length_append, List.length_append]; omega
/-- Held while a region draws: two points in their blocks. -/
structure P2H (w : World) (b b' : Nat) (p q : Pt) (w' : World) : Prop where
  x : PtAt w' b p
  y : PtAt w' b' q
  bel : Below w.heap.size w w'
theorem P2H.keep {w w1 w2 : World} {b b' : Nat} {p q : Pt} (h : P2H w b b' p q w1) (k : Below w1.heap.size w1 w2) : P2H w b b' p q w2 := ⟨h.x.below k h.x.room, h.y.below k h.y.room, bel_next h.bel k⟩
theorem P2H.drew {w w1 : World} {b b' : Nat} {p q : Pt} (h : P2H w b b' p q w1) : P2H w b b' p q w1.drew := h.keep ((Below.refl _ _).drew)
theorem P2H.new (w : World) (p q : Pt) : P2H w w.heap.size (w.heap.size + 1) p q ((w.alloc (.cells #[.string p.s, .int .i64 p.t, .int .i64 p.v, .int .i64 p.st.c, .int .i64 p.st.s, .int .i64 p.st.q] 32)).alloc (.cells #[.string q.s, .int .i64 q.t, .int .i64 q.v, .int .i64 q.st.c, .int .i64 q.st.s, .int .i64 q.st.q] 32)) := by
  refine ⟨(PtAt.new w p).alloc _, ?_, ((Below.refl _ _).alloc (Nat.le_refl _) _).alloc (by simp) _⟩
  have := PtAt.new (w.alloc (.cells #[.string p.s, .int .i64 p.t, .int .i64 p.v, .int .i64 p.st.c, .int .i64 p.st.s, .int .i64 p.st.q] 32)) q
  simpa using this

set_option maxHeartbeats 4000000 in
theorem bput_is (p q : Pt) (S : ByteArray) (w : World) (ht : 0 ≤ p.t - q.t ∧ p.t - q.t ≤ 1099511627776) (hS : Hid (tx (putA p q) = S)) : Calls Tryd.prog 48 #[ptV p, ptV q] w (TextDone S w) := by
  obtain ⟨t1, t2⟩ := ht
  obtain ⟨d, hd⟩ : ∃ d, p.t - q.t = d := ⟨_, rfl⟩
  rw [hd] at t1 t2
  have hdw : IntKind.i64.wrap (p.t - q.t) = d := by rw [hd, IntKind.wrap_i64]; omega
  obtain ⟨z, hz⟩ : ∃ z, IntKind.i64.wrap (p.v - q.v) = z := ⟨_, rfl⟩
  have hv : -9223372036854775808 ≤ z ∧ z ≤ 9223372036854775807 := by rw [← hz]; exact wrap_fit _
  obtain ⟨A1, hA1⟩ : ∃ s, tx (enc d.toNat) = s := ⟨_, rfl⟩
  have k1 := fun w => putInt d A1 w t1 t2 (Lib.hid hA1)
  have z1 : A1.size ≤ 10 := by rw [← hA1, tx_size]; exact enc_len10 _ (by omega)
  have kz := fun w => zig_any z w hv.1 hv.2
  obtain ⟨A2, hA2⟩ : ∃ s, tx (enc (zig z).toNat) = s := ⟨_, rfl⟩
  have k2 := fun w => zput12 z A2 w hv (Lib.hid hA2)
  obtain ⟨v1, v2⟩ := zig_bounds z hv.1 hv.2
  have z2 : A2.size ≤ 10 := by rw [← hA2, tx_size]; exact enc_len10 _ (by omega)
  obtain ⟨B1, hB1⟩ : ∃ s, tx p.st.bytes = s := ⟨_, rfl⟩
  have k4 := fun w => bytes_is p.st B1 w (Lib.hid hB1)
  have z4 : B1.size ≤ 30 := by rw [← hB1, tx_size]; exact st_len30 _
  have ut : IntKind.u64.wrap d = d := u64_in d t1 t2
  obtain ⟨X2, hX2⟩ : ∃ s, A1 ++ A2 = s := ⟨_, rfl⟩
  have yX2 : X2.size = A1.size + A2.size := by rw [← hX2]; simp
  have pX2 : A1.size + A2.size ≤ 9223372036854775807 := by omega
  have qX2 : ¬ 9223372036854775807 < A1.size + A2.size := by omega
  obtain ⟨X4, hX4⟩ : ∃ s, X2 ++ B1 = s := ⟨_, rfl⟩
  have yX4 : X4.size = X2.size + B1.size := by rw [← hX4]; simp
  have pX4 : X2.size + B1.size ≤ 9223372036854775807 := by omega
  have qX4 : ¬ 9223372036854775807 < X2.size + B1.size := by omega
  have hfin : X4 = S := by
    rw [← hS.out, ← hX4, ← hX2, ← hA1, ← hA2, ← hB1, tx_app, tx_app]
    unfold putA
    rw [hz, hd]
  have HX := Lib.hid hfin
  have H0 := P2H.new w p q
  unfold ptV
  generalize zig z = zz at *
  clear hS hfin hA1 hA2 hB1 z1 z2 z4 v1 v2 hv t1 t2 yX2 yX4 hd
  go_enter Tryd.func48, Tryd.ntmps48
  go_wp2_with fail
  refine wp_region_held_drew (S := (P2H w w.heap.size (w.heap.size + 1) p q)) (by kernel_rfl) H0.drew (fun hHeld => ?_)
  refine wpAnyH_take (i := 0) (oi := ?op1o) (v := ?op1v) ?op1h (by kernel_rfl) (by kernel_rfl) (by kernel_rfl) ?op1q ?op1y hHeld ?op1r
  case op1h => (simp only [List.getElem?_toArray, List.getElem?_cons_zero]; rfl)
  case op1q => exact fun _ _ _ h => h
  case op1y => (refine Or.inl ⟨by first | kernel_rfl | rfl, ?_⟩; intro w hSw; (try dsimp only at hSw); obtain ⟨⟨-, x1, x2, x3, x4, x5⟩, ⟨-, y1, y2, -, -, -⟩, -⟩ := hSw; go_simp <;> (try with_reducible rfl))
  try simp only [Act.put, List.setIfInBounds_toArray, List.set_cons_zero, List.set_cons_succ]
  refine wpAnyH_take (i := 1) (oi := ?op2o) (v := ?op2v) ?op2h (by kernel_rfl) (by kernel_rfl) (by kernel_rfl) ?op2q ?op2y hHeld ?op2r
  case op2h => (simp only [List.getElem?_toArray, List.getElem?_cons_succ, List.getElem?_cons_zero]; rfl)
  case op2q => exact fun _ _ _ h => h
  case op2y => (refine Or.inl ⟨by first | kernel_rfl | rfl, ?_⟩; intro w hSw; (try dsimp only at hSw); obtain ⟨⟨-, x1, x2, x3, x4, x5⟩, ⟨-, y1, y2, -, -, -⟩, -⟩ := hSw; go_simp <;> (try with_reducible rfl))
  try simp only [Act.put, List.setIfInBounds_toArray, List.set_cons_zero, List.set_cons_succ]
  refine wpAnyH_take (i := 2) (oi := ?op3o) (v := ?op3v) ?op3h (by kernel_rfl) (by kernel_rfl) (by kernel_rfl) ?op3q ?op3y hHeld ?op3r
  case op3h => (simp only [List.getElem?_toArray, List.getElem?_cons_succ, List.getElem?_cons_zero]; rfl)
  case op3q => exact fun _ _ _ h => h
  case op3y => (refine Or.inl ⟨by first | kernel_rfl | rfl, ?_⟩; intro w hSw; (try dsimp only at hSw); obtain ⟨⟨-, x1, x2, x3, x4, x5⟩, ⟨-, y1, y2, -, -, -⟩, -⟩ := hSw; go_simp <;> (try with_reducible rfl))
  try simp only [Act.put, List.setIfInBounds_toArray, List.set_cons_zero, List.set_cons_succ]
  refine wpAnyH_take (i := 3) (oi := ?op4o) (v := ?op4v) ?op4h (by kernel_rfl) (by kernel_rfl) (by kernel_rfl) ?op4q ?op4y hHeld ?op4r
  case op4h => (simp only [List.getElem?_toArray, List.getElem?_cons_succ, List.getElem?_cons_zero]; rfl)
  case op4q => exact fun _ _ _ h => h
  case op4y => (refine Or.inl ⟨by first | kernel_rfl | rfl, ?_⟩; intro w hSw; (try dsimp only at hSw); obtain ⟨⟨-, x1, x2, x3, x4, x5⟩, ⟨-, y1, y2, -, -, -⟩, -⟩ := hSw; go_simp <;> (try with_reducible rfl))
  try simp only [Act.put, List.setIfInBounds_toArray, List.set_cons_zero, List.set_cons_succ]
  refine wpAnyH_take (i := 4) (oi := ?op5o) (v := ?op5v) ?op5h (by kernel_rfl) (by kernel_rfl) (by kernel_rfl) ?op5q ?op5y hHeld ?op5r
  case op5h => (simp only [List.getElem?_toArray, List.getElem?_cons_succ, List.getElem?_cons_zero]; rfl)
  case op5q => exact fun _ _ _ h => h
  case op5y => (refine Or.inl ⟨by first | kernel_rfl | rfl, ?_⟩; intro w hSw; (try dsimp only at hSw); obtain ⟨⟨-, x1, x2, x3, x4, x5⟩, ⟨-, y1, y2, -, -, -⟩, -⟩ := hSw; go_simp <;> (try with_reducible rfl))
  try simp only [Act.put, List.setIfInBounds_toArray, List.set_cons_zero, List.set_cons_succ]
  refine wpAnyH_take (i := 5) (oi := ?op6o) (v := ?op6v) ?op6h (by kernel_rfl) (by kernel_rfl) (by kernel_rfl) ?op6q ?op6y hHeld ?op6r
  case op6h => (simp only [List.getElem?_toArray, List.getElem?_cons_succ, List.getElem?_cons_zero]; rfl)
  case op6q => exact fun _ _ _ h => h
  case op6y => (refine Or.inl ⟨by first | kernel_rfl | rfl, ?_⟩; intro w hSw; (try dsimp only at hSw); obtain ⟨⟨-, x1, x2, x3, x4, x5⟩, ⟨-, y1, y2, -, -, -⟩, -⟩ := hSw; go_simp <;> (try with_reducible rfl))
  try simp only [Act.put, List.setIfInBounds_toArray, List.set_cons_zero, List.set_cons_succ]
  refine wpAnyH_take (i := 7) (oi := ?op7o) (v := ?op7v) ?op7h (by kernel_rfl) (by kernel_rfl) (by kernel_rfl) ?op7q ?op7y hHeld ?op7r
  case op7h => (simp only [List.getElem?_toArray, List.getElem?_cons_succ, List.getElem?_cons_zero]; rfl)
  case op7q => exact fun _ _ _ h => h
  case op7y => (refine Or.inl ⟨by first | kernel_rfl | rfl, ?_⟩; intro w hSw; (try dsimp only at hSw); obtain ⟨⟨-, x1, x2, x3, x4, x5⟩, ⟨-, y1, y2, -, -, -⟩, -⟩ := hSw; go_simp <;> (try with_reducible rfl))
  try simp only [Act.put, List.setIfInBounds_toArray, List.set_cons_zero, List.set_cons_succ]
  refine wpAnyH_take (i := 8) (oi := ?op8o) (v := ?op8v) ?op8h (by kernel_rfl) (by kernel_rfl) (by kernel_rfl) ?op8q ?op8y hHeld ?op8r
  case op8h => (simp only [List.getElem?_toArray, List.getElem?_cons_succ, List.getElem?_cons_zero]; rfl)
  case op8q => exact fun _ _ _ h => h
  case op8y => (refine Or.inl ⟨by first | kernel_rfl | rfl, ?_⟩; intro w hSw; (try dsimp only at hSw); obtain ⟨⟨-, x1, x2, x3, x4, x5⟩, ⟨-, y1, y2, -, -, -⟩, -⟩ := hSw; go_simp <;> (try with_reducible rfl))
  try simp only [Act.put, List.setIfInBounds_toArray, List.set_cons_zero, List.set_cons_succ]
  refine wpAnyH_take (i := 9) (oi := ?op9o) (v := ?op9v) ?op9h (by kernel_rfl) (by kernel_rfl) (by kernel_rfl) ?op9q ?op9y hHeld ?op9r
  case op9h => (simp only [List.getElem?_toArray, List.getElem?_cons_succ, List.getElem?_cons_zero]; rfl)
  case op9q => exact fun _ _ _ h => h
  case op9y => (refine Or.inl ⟨by first | kernel_rfl | rfl, ?_⟩; intro w hSw; (try dsimp only at hSw); obtain ⟨⟨-, x1, x2, x3, x4, x5⟩, ⟨-, y1, y2, -, -, -⟩, -⟩ := hSw; go_simp <;> (try with_reducible rfl))
  try simp only [Act.put, List.setIfInBounds_toArray, List.set_cons_zero, List.set_cons_succ]
  refine wpAnyH_take (i := 10) (oi := ?op10o) (v := ?op10v) ?op10h (by kernel_rfl) (by kernel_rfl) (by kernel_rfl) ?op10q ?op10y hHeld ?op10r
  case op10h => (simp only [List.getElem?_toArray, List.getElem?_cons_succ, List.getElem?_cons_zero]; rfl)
  case op10q => exact fun _ _ _ h => h
  case op10y => (refine Or.inl ⟨by first | kernel_rfl | rfl, ?_⟩; intro w hSw; (try dsimp only at hSw); obtain ⟨⟨-, x1, x2, x3, x4, x5⟩, ⟨-, y1, y2, -, -, -⟩, -⟩ := hSw; go_simp <;> (try with_reducible rfl))
  try simp only [Act.put, List.setIfInBounds_toArray, List.set_cons_zero, List.set_cons_succ]
  refine wpAnyH_take (i := 11) (oi := ?op11o) (v := ?op11v) ?op11h (by kernel_rfl) (by kernel_rfl) (by kernel_rfl) ?op11q ?op11y hHeld ?op11r
  case op11h => (simp only [List.getElem?_toArray, List.getElem?_cons_succ, List.getElem?_cons_zero]; rfl)
  case op11q => exact fun _ _ _ h => h
  case op11y => (refine Or.inl ⟨by first | kernel_rfl | rfl, ?_⟩; intro w hSw; (try dsimp only at hSw); obtain ⟨⟨-, x1, x2, x3, x4, x5⟩, ⟨-, y1, y2, -, -, -⟩, -⟩ := hSw; go_simp <;> (try with_reducible rfl))
  try simp only [Act.put, List.setIfInBounds_toArray, List.set_cons_zero, List.set_cons_succ]
  refine wpAnyH_take (i := 15) (oi := ?op12o) (v := ?op12v) ?op12h (by kernel_rfl) (by kernel_rfl) (by kernel_rfl) ?op12q ?op12y hHeld ?op12r
  case op12h => (simp only [List.getElem?_toArray, List.getElem?_cons_succ, List.getElem?_cons_zero]; rfl)
  case op12q => exact fun _ _ _ h => h
  case op12y => (refine Or.inl ⟨by first | kernel_rfl | rfl, ?_⟩; intro w hSw; (try dsimp only at hSw); obtain ⟨⟨-, x1, x2, x3, x4, x5⟩, ⟨-, y1, y2, -, -, -⟩, -⟩ := hSw; go_simp <;> (try with_reducible rfl))
  try simp only [Act.put, List.setIfInBounds_toArray, List.set_cons_zero, List.set_cons_succ]
  refine wpAnyH_take (i := 16) (oi := ?op13o) (v := ?op13v) ?op13h (by kernel_rfl) (by kernel_rfl) (by kernel_rfl) ?op13q ?op13y hHeld ?op13r
  case op13h => (simp only [List.getElem?_toArray, List.getElem?_cons_succ, List.getElem?_cons_zero]; rfl)
  case op13q => exact fun _ _ _ h => h
  case op13y => (refine Or.inl ⟨by first | kernel_rfl | rfl, ?_⟩; intro w hSw; (try dsimp only at hSw); obtain ⟨⟨-, x1, x2, x3, x4, x5⟩, ⟨-, y1, y2, -, -, -⟩, -⟩ := hSw; go_simp <;> (try with_reducible rfl))
  try simp only [Act.put, List.setIfInBounds_toArray, List.set_cons_zero, List.set_cons_succ]
  refine wpAnyH_ready (rs := [6]) (by kernel_rfl) (by simp) ?_
  refine (AllReadyH.cons rfl (fun K hK => ?_) AllReadyH.nil)
  go_simp
  ((with_reducible refine (k1 _).mono ?_); rintro e w' ⟨rfl, hb'⟩)
  refine hK.out _ _ (hHeld.keep hb') (fun hHeld => ?_)
  clear hK K
  try simp only [Act.put, List.setIfInBounds_toArray, List.set_cons_zero, List.set_cons_succ]
  refine wpAnyH_ready (rs := [12]) (by kernel_rfl) (by simp) ?_
  refine (AllReadyH.cons rfl (fun K hK => ?_) AllReadyH.nil)
  go_simp
  ((with_reducible refine (kz _).mono ?_); rintro e w' ⟨rfl, rfl⟩)
  refine hK.out _ _ (hHeld) (fun hHeld => ?_)
  clear hK K
  try simp only [Act.put, List.setIfInBounds_toArray, List.set_cons_zero, List.set_cons_succ]
  refine wpAnyH_ready (rs := [13]) (by kernel_rfl) (by simp) ?_
  refine (AllReadyH.cons rfl (fun K hK => ?_) AllReadyH.nil)
  go_simp
  ((with_reducible refine (k2 _).mono ?_); rintro e w' ⟨rfl, hb'⟩)
  refine hK.out _ _ (hHeld.keep hb') (fun hHeld => ?_)
  clear hK K
  try simp only [Act.put, List.setIfInBounds_toArray, List.set_cons_zero, List.set_cons_succ]
  refine wpAnyH_take (i := 14) (oi := ?op14o) (v := ?op14v) ?op14h (by kernel_rfl) (by kernel_rfl) (by kernel_rfl) ?op14q ?op14y hHeld ?op14r
  case op14h => (simp only [List.getElem?_toArray, List.getElem?_cons_succ, List.getElem?_cons_zero]; rfl)
  case op14q => exact fun _ _ _ h => h
  case op14y => (refine Or.inl ⟨by first | kernel_rfl | rfl, ?_⟩; intro w hSw; (try dsimp only at hSw); obtain ⟨⟨-, x1, x2, x3, x4, x5⟩, ⟨-, y1, y2, -, -, -⟩, -⟩ := hSw; go_simp <;> (try with_reducible rfl))
  try simp only [Act.put, List.setIfInBounds_toArray, List.set_cons_zero, List.set_cons_succ]
  refine wpAnyH_ready (rs := [17]) (by kernel_rfl) (by simp) ?_
  refine (AllReadyH.cons rfl (fun K hK => ?_) AllReadyH.nil)
  go_simp
  ((with_reducible refine (k4 _).mono ?_); rintro e w' ⟨rfl, hb'⟩)
  refine hK.out _ _ (hHeld.keep hb') (fun hHeld => ?_)
  clear hK K
  try simp only [Act.put, List.setIfInBounds_toArray, List.set_cons_zero, List.set_cons_succ]
  refine wpAnyH_take (i := 18) (oi := ?op15o) (v := ?op15v) ?op15h (by kernel_rfl) (by kernel_rfl) (by kernel_rfl) ?op15q ?op15y hHeld ?op15r
  case op15h => (simp only [List.getElem?_toArray, List.getElem?_cons_succ, List.getElem?_cons_zero]; rfl)
  case op15q => exact fun _ _ _ h => h
  case op15y => (refine Or.inl ⟨by first | kernel_rfl | rfl, ?_⟩; intro w hSw; (try dsimp only at hSw); obtain ⟨⟨-, x1, x2, x3, x4, x5⟩, ⟨-, y1, y2, -, -, -⟩, -⟩ := hSw; go_simp <;> (try with_reducible rfl))
  try simp only [Act.put, List.setIfInBounds_toArray, List.set_cons_zero, List.set_cons_succ]
  refine wpAnyH_take (i := 19) (oi := ?op16o) (v := ?op16v) ?op16h (by kernel_rfl) (by kernel_rfl) (by kernel_rfl) ?op16q ?op16y hHeld ?op16r
  case op16h => (simp only [List.getElem?_toArray, List.getElem?_cons_succ, List.getElem?_cons_zero]; rfl)
  case op16q => exact fun _ _ _ h => h
  case op16y => (refine Or.inl ⟨by first | kernel_rfl | rfl, ?_⟩; intro w hSw; (try dsimp only at hSw); obtain ⟨⟨-, x1, x2, x3, x4, x5⟩, ⟨-, y1, y2, -, -, -⟩, -⟩ := hSw; go_simp <;> (try with_reducible rfl))
  try simp only [Act.put, List.setIfInBounds_toArray, List.set_cons_zero, List.set_cons_succ]
  refine wpAnyH_done (by kernel_rfl) ?_ _
  have hbel := hHeld.bel
  go_wp2
  go_ret
  exact ⟨by rw [← HX.out]; rfl, hbel⟩

end Go.Proofs.YtkomfenjeoaelaaDoor
