/- The contracts of the program's put and Bytes. -/
import Derived.Test.YtjckphmkhikpaaaSamplePCheck
import Derived.Test.YtjckphmkhikpaaaSamplePtsMath
set_option maxRecDepth 20000
namespace Go.Proofs.Ytjckphmkhikpaaa
open Go.RowKit Go.Proofs.Ytjckphmkhikpaaa.Vi Go.Proofs.Ytjckphmkhikpaaa.Mk

theorem zput (v : Int) (s : ByteArray) (w : World) (hv : -9223372036854775808 ≤ v ∧ v ≤ 9223372036854775807) (hs : Hid (tx (enc (zig v).toNat) = s)) : Calls Try.prog 35 #[.int .u64 (zig v)] w (TextDone s w) := by
  obtain ⟨h1, h2⟩ := zig_bounds v hv.1 hv.2
  have := put_is (zig v).toNat s w (by omega) hs
  rw [Int.toNat_of_nonneg h1] at this
  exact this
/-- Held while a region draws: the point in its block. -/
structure PHeld (w : World) (b : Nat) (p : Pt) (w' : World) : Prop where
  at_ : PtAt w' b p
  bel : Below w.heap.size w w'
theorem PHeld.keep {w w1 w2 : World} {b : Nat} {p : Pt} (h : PHeld w b p w1) (k : Below w1.heap.size w1 w2) : PHeld w b p w2 := ⟨h.at_.below k h.at_.room, bel_next h.bel k⟩
theorem PHeld.drew {w w1 : World} {b : Nat} {p : Pt} (h : PHeld w b p w1) : PHeld w b p w1.drew := h.keep ((Below.refl _ _).drew)
theorem PHeld.new (w : World) (p : Pt) : PHeld w w.heap.size p (w.alloc (.cells #[.string p.s, .int .i64 p.t, .int .i64 p.v, .int .i64 p.st.c, .int .i64 p.st.s, .int .i64 p.st.q] 34)) := ⟨PtAt.new w p, (Below.refl _ _).alloc (Nat.le_refl _) _⟩

set_option maxHeartbeats 4000000 in
theorem putp_is (p : Pt) (S : ByteArray) (w : World) (h : p.ok = true) (hv : p.vfit) (hS : Hid (tx p.bytes = S)) : Calls Try.prog 38 #[ptV p] w (TextDone S w) := by
  obtain ⟨hnm, ⟨t1, t2⟩, hst⟩ := Pt.ok_parts h
  have hn40 := name_len hnm
  obtain ⟨A1, hA1⟩ : ∃ s, ahead p.s = s := ⟨_, rfl⟩
  have k1 := fun w => text_is p.s A1 w (by omega) (Lib.hid hA1)
  have z1 : A1.size ≤ 50 := by
    have := enc_len10 p.s.size (by omega)
    rw [← hA1]; unfold ahead; rw [tx_size, List.length_append]; simp; omega
  obtain ⟨A2, hA2⟩ : ∃ s, tx (enc p.t.toNat) = s := ⟨_, rfl⟩
  have k2 := fun w => putInt p.t A2 w t1 t2 (Lib.hid hA2)
  have z2 : A2.size ≤ 10 := by rw [← hA2, tx_size]; exact enc_len10 _ (by omega)
  obtain ⟨A3, hA3⟩ : ∃ s, tx (enc (zig p.v).toNat) = s := ⟨_, rfl⟩
  have kz := fun w => zig_any p.v w hv.1 hv.2
  have k3 := fun w => zput p.v A3 w hv (Lib.hid hA3)
  obtain ⟨v1, v2⟩ := zig_bounds p.v hv.1 hv.2
  have z3 : A3.size ≤ 10 := by rw [← hA3, tx_size]; exact enc_len10 _ (by omega)
  obtain ⟨B1, hB1⟩ : ∃ s, tx p.st.bytes = s := ⟨_, rfl⟩
  have k4 := fun w => bytes_is p.st B1 w (Lib.hid hB1)
  have z4 : B1.size ≤ 30 := by rw [← hB1, tx_size]; exact st_bytes_len _
  have ut : IntKind.u64.wrap p.t = p.t := u64_in p.t t1 t2
  obtain ⟨X2, hX2⟩ : ∃ s, A1 ++ A2 = s := ⟨_, rfl⟩
  have yX2 : X2.size = A1.size + A2.size := by rw [← hX2]; simp
  have pX2 : A1.size + A2.size ≤ 9223372036854775807 := by omega
  have qX2 : ¬ 9223372036854775807 < A1.size + A2.size := by omega
  obtain ⟨X3, hX3⟩ : ∃ s, X2 ++ A3 = s := ⟨_, rfl⟩
  have yX3 : X3.size = X2.size + A3.size := by rw [← hX3]; simp
  have pX3 : X2.size + A3.size ≤ 9223372036854775807 := by omega
  have qX3 : ¬ 9223372036854775807 < X2.size + A3.size := by omega
  obtain ⟨X4, hX4⟩ : ∃ s, X3 ++ B1 = s := ⟨_, rfl⟩
  have yX4 : X4.size = X3.size + B1.size := by rw [← hX4]; simp
  have pX4 : X3.size + B1.size ≤ 9223372036854775807 := by omega
  have qX4 : ¬ 9223372036854775807 < X3.size + B1.size := by omega
  have hfin : X4 = S := by
    have e1 : ahead p.s = tx (enc p.s.size ++ p.s.data.toList) := rfl
    rw [← hS.out, ← hX4, ← hX3, ← hX2, ← hA1, e1, ← hA2, ← hA3, ← hB1, tx_app, tx_app, tx_app]
    unfold Pt.bytes
    simp only [List.append_assoc]
  have HX := Lib.hid hfin
  have H0 := PHeld.new w p
  unfold ptV
  generalize zig p.v = zz at *
  clear hS hfin hA1 hA2 hA3 hB1 z1 z2 z3 z4 hnm hn40 v1 v2 hv h hst t1 t2 yX2 yX3 yX4
  go_enter Try.func38, Try.ntmps38
  go_wp2_with fail
  refine wp_region_held_drew (S := (PHeld w w.heap.size p)) (by kernel_rfl) H0.drew (fun hHeld => ?_)
  refine wpAnyH_take (i := 0) (oi := ?op1o) (v := ?op1v) ?op1h (by kernel_rfl) (by kernel_rfl) (by kernel_rfl) ?op1q ?op1y hHeld ?op1r
  case op1h => (simp only [List.getElem?_toArray, List.getElem?_cons_zero]; rfl)
  case op1q => exact fun _ _ _ h => h
  case op1y => (refine Or.inl ⟨by first | kernel_rfl | rfl, ?_⟩; intro w hSw; (try dsimp only at hSw); obtain ⟨⟨x0, x1, x2, x3, x4, x5⟩, -⟩ := hSw; go_simp <;> (try with_reducible rfl))
  try simp only [Act.put, List.setIfInBounds_toArray, List.set_cons_zero, List.set_cons_succ]
  refine wpAnyH_take (i := 1) (oi := ?op2o) (v := ?op2v) ?op2h (by kernel_rfl) (by kernel_rfl) (by kernel_rfl) ?op2q ?op2y hHeld ?op2r
  case op2h => (simp only [List.getElem?_toArray, List.getElem?_cons_succ, List.getElem?_cons_zero]; rfl)
  case op2q => exact fun _ _ _ h => h
  case op2y => (refine Or.inl ⟨by first | kernel_rfl | rfl, ?_⟩; intro w hSw; (try dsimp only at hSw); obtain ⟨⟨x0, x1, x2, x3, x4, x5⟩, -⟩ := hSw; go_simp <;> (try with_reducible rfl))
  try simp only [Act.put, List.setIfInBounds_toArray, List.set_cons_zero, List.set_cons_succ]
  refine wpAnyH_take (i := 3) (oi := ?op3o) (v := ?op3v) ?op3h (by kernel_rfl) (by kernel_rfl) (by kernel_rfl) ?op3q ?op3y hHeld ?op3r
  case op3h => (simp only [List.getElem?_toArray, List.getElem?_cons_succ, List.getElem?_cons_zero]; rfl)
  case op3q => exact fun _ _ _ h => h
  case op3y => (refine Or.inl ⟨by first | kernel_rfl | rfl, ?_⟩; intro w hSw; (try dsimp only at hSw); obtain ⟨⟨x0, x1, x2, x3, x4, x5⟩, -⟩ := hSw; go_simp <;> (try with_reducible rfl))
  try simp only [Act.put, List.setIfInBounds_toArray, List.set_cons_zero, List.set_cons_succ]
  refine wpAnyH_take (i := 4) (oi := ?op4o) (v := ?op4v) ?op4h (by kernel_rfl) (by kernel_rfl) (by kernel_rfl) ?op4q ?op4y hHeld ?op4r
  case op4h => (simp only [List.getElem?_toArray, List.getElem?_cons_succ, List.getElem?_cons_zero]; rfl)
  case op4q => exact fun _ _ _ h => h
  case op4y => (refine Or.inl ⟨by first | kernel_rfl | rfl, ?_⟩; intro w hSw; (try dsimp only at hSw); obtain ⟨⟨x0, x1, x2, x3, x4, x5⟩, -⟩ := hSw; go_simp <;> (try with_reducible rfl))
  try simp only [Act.put, List.setIfInBounds_toArray, List.set_cons_zero, List.set_cons_succ]
  refine wpAnyH_take (i := 5) (oi := ?op5o) (v := ?op5v) ?op5h (by kernel_rfl) (by kernel_rfl) (by kernel_rfl) ?op5q ?op5y hHeld ?op5r
  case op5h => (simp only [List.getElem?_toArray, List.getElem?_cons_succ, List.getElem?_cons_zero]; rfl)
  case op5q => exact fun _ _ _ h => h
  case op5y => (refine Or.inl ⟨by first | kernel_rfl | rfl, ?_⟩; intro w hSw; (try dsimp only at hSw); obtain ⟨⟨x0, x1, x2, x3, x4, x5⟩, -⟩ := hSw; go_simp <;> (try with_reducible rfl))
  try simp only [Act.put, List.setIfInBounds_toArray, List.set_cons_zero, List.set_cons_succ]
  refine wpAnyH_take (i := 8) (oi := ?op6o) (v := ?op6v) ?op6h (by kernel_rfl) (by kernel_rfl) (by kernel_rfl) ?op6q ?op6y hHeld ?op6r
  case op6h => (simp only [List.getElem?_toArray, List.getElem?_cons_succ, List.getElem?_cons_zero]; rfl)
  case op6q => exact fun _ _ _ h => h
  case op6y => (refine Or.inl ⟨by first | kernel_rfl | rfl, ?_⟩; intro w hSw; (try dsimp only at hSw); obtain ⟨⟨x0, x1, x2, x3, x4, x5⟩, -⟩ := hSw; go_simp <;> (try with_reducible rfl))
  try simp only [Act.put, List.setIfInBounds_toArray, List.set_cons_zero, List.set_cons_succ]
  refine wpAnyH_take (i := 9) (oi := ?op7o) (v := ?op7v) ?op7h (by kernel_rfl) (by kernel_rfl) (by kernel_rfl) ?op7q ?op7y hHeld ?op7r
  case op7h => (simp only [List.getElem?_toArray, List.getElem?_cons_succ, List.getElem?_cons_zero]; rfl)
  case op7q => exact fun _ _ _ h => h
  case op7y => (refine Or.inl ⟨by first | kernel_rfl | rfl, ?_⟩; intro w hSw; (try dsimp only at hSw); obtain ⟨⟨x0, x1, x2, x3, x4, x5⟩, -⟩ := hSw; go_simp <;> (try with_reducible rfl))
  try simp only [Act.put, List.setIfInBounds_toArray, List.set_cons_zero, List.set_cons_succ]
  refine wpAnyH_take (i := 13) (oi := ?op8o) (v := ?op8v) ?op8h (by kernel_rfl) (by kernel_rfl) (by kernel_rfl) ?op8q ?op8y hHeld ?op8r
  case op8h => (simp only [List.getElem?_toArray, List.getElem?_cons_succ, List.getElem?_cons_zero]; rfl)
  case op8q => exact fun _ _ _ h => h
  case op8y => (refine Or.inl ⟨by first | kernel_rfl | rfl, ?_⟩; intro w hSw; (try dsimp only at hSw); obtain ⟨⟨x0, x1, x2, x3, x4, x5⟩, -⟩ := hSw; go_simp <;> (try with_reducible rfl))
  try simp only [Act.put, List.setIfInBounds_toArray, List.set_cons_zero, List.set_cons_succ]
  refine wpAnyH_take (i := 14) (oi := ?op9o) (v := ?op9v) ?op9h (by kernel_rfl) (by kernel_rfl) (by kernel_rfl) ?op9q ?op9y hHeld ?op9r
  case op9h => (simp only [List.getElem?_toArray, List.getElem?_cons_succ, List.getElem?_cons_zero]; rfl)
  case op9q => exact fun _ _ _ h => h
  case op9y => (refine Or.inl ⟨by first | kernel_rfl | rfl, ?_⟩; intro w hSw; (try dsimp only at hSw); obtain ⟨⟨x0, x1, x2, x3, x4, x5⟩, -⟩ := hSw; go_simp <;> (try with_reducible rfl))
  try simp only [Act.put, List.setIfInBounds_toArray, List.set_cons_zero, List.set_cons_succ]
  refine wpAnyH_ready (rs := [2]) (by kernel_rfl) (by simp) ?_
  refine (AllReadyH.cons rfl (fun K hK => ?_) AllReadyH.nil)
  go_simp
  ((with_reducible refine (k1 _).mono ?_); rintro e w' ⟨rfl, hb'⟩)
  refine hK.out _ _ (hHeld.keep hb') (fun hHeld => ?_)
  clear hK K
  try simp only [Act.put, List.setIfInBounds_toArray, List.set_cons_zero, List.set_cons_succ]
  refine wpAnyH_ready (rs := [6]) (by kernel_rfl) (by simp) ?_
  refine (AllReadyH.cons rfl (fun K hK => ?_) AllReadyH.nil)
  go_simp
  ((with_reducible refine (k2 _).mono ?_); rintro e w' ⟨rfl, hb'⟩)
  refine hK.out _ _ (hHeld.keep hb') (fun hHeld => ?_)
  clear hK K
  try simp only [Act.put, List.setIfInBounds_toArray, List.set_cons_zero, List.set_cons_succ]
  refine wpAnyH_take (i := 7) (oi := ?op10o) (v := ?op10v) ?op10h (by kernel_rfl) (by kernel_rfl) (by kernel_rfl) ?op10q ?op10y hHeld ?op10r
  case op10h => (simp only [List.getElem?_toArray, List.getElem?_cons_succ, List.getElem?_cons_zero]; rfl)
  case op10q => exact fun _ _ _ h => h
  case op10y => (refine Or.inl ⟨by first | kernel_rfl | rfl, ?_⟩; intro w hSw; (try dsimp only at hSw); obtain ⟨⟨x0, x1, x2, x3, x4, x5⟩, -⟩ := hSw; go_simp <;> (try with_reducible rfl))
  try simp only [Act.put, List.setIfInBounds_toArray, List.set_cons_zero, List.set_cons_succ]
  refine wpAnyH_ready (rs := [10]) (by kernel_rfl) (by simp) ?_
  refine (AllReadyH.cons rfl (fun K hK => ?_) AllReadyH.nil)
  go_simp
  ((with_reducible refine (kz _).mono ?_); rintro e w' ⟨rfl, rfl⟩)
  refine hK.out _ _ (hHeld) (fun hHeld => ?_)
  clear hK K
  try simp only [Act.put, List.setIfInBounds_toArray, List.set_cons_zero, List.set_cons_succ]
  refine wpAnyH_ready (rs := [11]) (by kernel_rfl) (by simp) ?_
  refine (AllReadyH.cons rfl (fun K hK => ?_) AllReadyH.nil)
  go_simp
  ((with_reducible refine (k3 _).mono ?_); rintro e w' ⟨rfl, hb'⟩)
  refine hK.out _ _ (hHeld.keep hb') (fun hHeld => ?_)
  clear hK K
  try simp only [Act.put, List.setIfInBounds_toArray, List.set_cons_zero, List.set_cons_succ]
  refine wpAnyH_take (i := 12) (oi := ?op11o) (v := ?op11v) ?op11h (by kernel_rfl) (by kernel_rfl) (by kernel_rfl) ?op11q ?op11y hHeld ?op11r
  case op11h => (simp only [List.getElem?_toArray, List.getElem?_cons_succ, List.getElem?_cons_zero]; rfl)
  case op11q => exact fun _ _ _ h => h
  case op11y => (refine Or.inl ⟨by first | kernel_rfl | rfl, ?_⟩; intro w hSw; (try dsimp only at hSw); obtain ⟨⟨x0, x1, x2, x3, x4, x5⟩, -⟩ := hSw; go_simp <;> (try with_reducible rfl))
  try simp only [Act.put, List.setIfInBounds_toArray, List.set_cons_zero, List.set_cons_succ]
  refine wpAnyH_ready (rs := [15]) (by kernel_rfl) (by simp) ?_
  refine (AllReadyH.cons rfl (fun K hK => ?_) AllReadyH.nil)
  go_simp
  ((with_reducible refine (k4 _).mono ?_); rintro e w' ⟨rfl, hb'⟩)
  refine hK.out _ _ (hHeld.keep hb') (fun hHeld => ?_)
  clear hK K
  try simp only [Act.put, List.setIfInBounds_toArray, List.set_cons_zero, List.set_cons_succ]
  refine wpAnyH_take (i := 16) (oi := ?op12o) (v := ?op12v) ?op12h (by kernel_rfl) (by kernel_rfl) (by kernel_rfl) ?op12q ?op12y hHeld ?op12r
  case op12h => (simp only [List.getElem?_toArray, List.getElem?_cons_succ, List.getElem?_cons_zero]; rfl)
  case op12q => exact fun _ _ _ h => h
  case op12y => (refine Or.inl ⟨by first | kernel_rfl | rfl, ?_⟩; intro w hSw; (try dsimp only at hSw); obtain ⟨⟨x0, x1, x2, x3, x4, x5⟩, -⟩ := hSw; go_simp <;> (try with_reducible rfl))
  try simp only [Act.put, List.setIfInBounds_toArray, List.set_cons_zero, List.set_cons_succ]
  refine wpAnyH_take (i := 17) (oi := ?op13o) (v := ?op13v) ?op13h (by kernel_rfl) (by kernel_rfl) (by kernel_rfl) ?op13q ?op13y hHeld ?op13r
  case op13h => (simp only [List.getElem?_toArray, List.getElem?_cons_succ, List.getElem?_cons_zero]; rfl)
  case op13q => exact fun _ _ _ h => h
  case op13y => (refine Or.inl ⟨by first | kernel_rfl | rfl, ?_⟩; intro w hSw; (try dsimp only at hSw); obtain ⟨⟨x0, x1, x2, x3, x4, x5⟩, -⟩ := hSw; go_simp <;> (try with_reducible rfl))
  try simp only [Act.put, List.setIfInBounds_toArray, List.set_cons_zero, List.set_cons_succ]
  refine wpAnyH_done (by kernel_rfl) ?_ _
  have hbel := hHeld.bel
  go_wp2
  go_ret
  exact ⟨by rw [← HX.out]; rfl, hbel⟩

set_option maxHeartbeats 1000000 in
theorem bytes6_no (r : Rec) (dv : Value) (w : World) (h : Ns w dv r.d) (hf : r.fits) (hok : r.ok = false) : Calls Try.prog 12 #[recV r dv] w fun e w' => e = .returned (.tuple #[.string ⟨#[]⟩, .int .i64 1]) ∧ Below w.heap.size w w' := by
  have kc := fun w h => check6_is r dv w h hf
  rw [Rec.err_no hok] at kc
  have H0 := RHeld.new (r := r) h
  have hat := H0.at_
  obtain ⟨x0, x1, x2, x3, x4, x5, x6, x7, x8⟩ := hat
  unfold recV at kc ⊢
  clear h hok hf
  go_enter Try.func12, Try.ntmps12
  go_wp2_with (first
    | (go_at_call 16; (with_reducible refine (kc _ H0.ns).mono ?_); rintro e w1 ⟨rfl, hb1⟩))
  go_ret2
  exact ⟨rfl, (H0.keep hb1).bel⟩

set_option maxHeartbeats 4000000 in
theorem bytes6_cut (r : Rec) (dv : Value) (w : World) (S : ByteArray) (h : Ns w dv r.d) (hf : r.fits) (hok : r.ok = true) (hk : r.k = 2) (hS : Hid (tx r.bytes = S)) : Calls Try.prog 12 #[recV r dv] w fun e w' => e = .returned (.tuple #[.string S, .int .i64 0]) ∧ Below w.heap.size w w' := by
  have kc := fun w h => check6_is r dv w h hf
  rw [Rec.err_yes hok] at kc
  obtain ⟨⟨t1, t2⟩, hpl, hst, -⟩ := Rec.head_parts (Rec.ok_head hok)
  have hkind := Rec.ok_kind hok
  have H0 := RHeld.new (r := r) h
  have hat := H0.at_
  obtain ⟨x0, x1, x2, x3, x4, x5, x6, x7, x8⟩ := hat
  obtain ⟨K0, hK0⟩ : ∃ s, tx (enc (r.k).toNat) = s := ⟨_, rfl⟩
  have k0 := fun w => putInt r.k K0 w (by omega) (by omega) (Lib.hid hK0)
  have z0 : K0.size ≤ 10 := by rw [← hK0, tx_size]; exact enc_len10 _ (by omega)
  obtain ⟨B1, hB1⟩ : ∃ s, tx r.st.bytes = s := ⟨_, rfl⟩
  have k4 := fun w => bytes_is r.st B1 w (Lib.hid hB1)
  have z4 : B1.size ≤ 30 := by rw [← hB1, tx_size]; exact st_bytes_len _
  obtain ⟨B2, hB2⟩ : ∃ s, tx (textL (plainL r.d)) = s := ⟨_, rfl⟩
  have k5 := fun w h => textN dv r.d B2 w h (Lib.hid hB2)
  have z5 : B2.size ≤ 90 := by rw [← hB2, tx_size]; exact textL_plain_len _
  have uk : IntKind.u64.wrap r.k = r.k := u64_in r.k (by omega) (by omega)
  have kk : (r.k == 2) = true := by simp; omega
  obtain ⟨-, -, -, g1, g2⟩ : r.k = 2 ∧ r.s = ⟨#[]⟩ ∧ r.v = 0 ∧ 0 ≤ r.tier ∧ r.tier ≤ 3 := by rcases hkind with h | h; omega; exact h
  obtain ⟨A1, hA1⟩ : ∃ s, tx (enc r.tier.toNat) = s := ⟨_, rfl⟩
  have k1 := fun w => putInt r.tier A1 w (by omega) (by omega) (Lib.hid hA1)
  have z1 : A1.size ≤ 10 := by rw [← hA1, tx_size]; exact enc_len10 _ (by omega)
  have ui : IntKind.u64.wrap r.tier = r.tier := u64_in r.tier (by omega) (by omega)
  obtain ⟨A2, hA2⟩ : ∃ s, tx (enc r.t.toNat) = s := ⟨_, rfl⟩
  have k2 := fun w => putInt r.t A2 w t1 t2 (Lib.hid hA2)
  have z2 : A2.size ≤ 10 := by rw [← hA2, tx_size]; exact enc_len10 _ (by omega)
  have ut : IntKind.u64.wrap r.t = r.t := u64_in r.t t1 t2
  obtain ⟨X1, hX1⟩ : ∃ s, K0 ++ A1 = s := ⟨_, rfl⟩
  have yX1 : X1.size = K0.size + A1.size := by rw [← hX1]; simp
  have pX1 : K0.size + A1.size ≤ 9223372036854775807 := by omega
  have qX1 : ¬ 9223372036854775807 < K0.size + A1.size := by omega
  obtain ⟨X2, hX2⟩ : ∃ s, X1 ++ A2 = s := ⟨_, rfl⟩
  have yX2 : X2.size = X1.size + A2.size := by rw [← hX2]; simp
  have pX2 : X1.size + A2.size ≤ 9223372036854775807 := by omega
  have qX2 : ¬ 9223372036854775807 < X1.size + A2.size := by omega
  obtain ⟨X4, hX4⟩ : ∃ s, X2 ++ B1 = s := ⟨_, rfl⟩
  have yX4 : X4.size = X2.size + B1.size := by rw [← hX4]; simp
  have pX4 : X2.size + B1.size ≤ 9223372036854775807 := by omega
  have qX4 : ¬ 9223372036854775807 < X2.size + B1.size := by omega
  obtain ⟨X5, hX5⟩ : ∃ s, X4 ++ B2 = s := ⟨_, rfl⟩
  have yX5 : X5.size = X4.size + B2.size := by rw [← hX5]; simp
  have pX5 : X4.size + B2.size ≤ 9223372036854775807 := by omega
  have qX5 : ¬ 9223372036854775807 < X4.size + B2.size := by omega
  have hfin : X5 = S := by
    have e2 : r.mid = enc r.tier.toNat ++ enc r.t.toNat := if_neg (by omega)
    rw [← hS.out, ← hX5, ← hX4, ← hX2, ← hX1, ← hK0, ← hA1, ← hA2, ← hB1, ← hB2, tx_app, tx_app, tx_app, tx_app]
    unfold Rec.bytes
    rw [e2]
    simp only [List.append_assoc]
  have HX := Lib.hid hfin
  clear hk x0 x1 x2 x3 x4 x5 x6 x7 x8
  clear hok hS h hpl hst hkind hfin hK0 hB1 hB2 z0 z4 z5 t1 t2 hA1 hA2 z1 z2 g1 g2 hf yX1 yX2 yX4 yX5
  unfold recV at kc ⊢
  go_enter Try.func12, Try.ntmps12
  go_wp2_with (first
    | (go_at_call 16; (with_reducible refine (kc _ H0.ns).mono ?_); rintro e w1 ⟨rfl, hb1⟩; have H1 := H0.keep hb1))
  clear H0 hb1 kc
  refine wp_region_held_drew (S := (RHeld w w.heap.size r dv)) (by kernel_rfl) H1.drew (fun hHeld => ?_)
  refine wpAnyH_take (i := 0) (oi := ?ob1o) (v := ?ob1v) ?ob1h (by kernel_rfl) (by kernel_rfl) (by kernel_rfl) ?ob1q ?ob1y hHeld ?ob1r
  case ob1h => (simp only [List.getElem?_toArray, List.getElem?_cons_zero]; rfl)
  case ob1q => exact fun _ _ _ h => h
  case ob1y => (refine Or.inl ⟨by first | kernel_rfl | rfl, ?_⟩; intro w hSw; (try dsimp only at hSw); obtain ⟨⟨x0, x1, x2, x3, x4, x5, x6, x7, x8⟩, -, -⟩ := hSw; go_simp <;> (try with_reducible rfl))
  try simp only [Act.put, List.setIfInBounds_toArray, List.set_cons_zero, List.set_cons_succ]
  refine wpAnyH_take (i := 1) (oi := ?ob2o) (v := ?ob2v) ?ob2h (by kernel_rfl) (by kernel_rfl) (by kernel_rfl) ?ob2q ?ob2y hHeld ?ob2r
  case ob2h => (simp only [List.getElem?_toArray, List.getElem?_cons_succ, List.getElem?_cons_zero]; rfl)
  case ob2q => exact fun _ _ _ h => h
  case ob2y => (refine Or.inl ⟨by first | kernel_rfl | rfl, ?_⟩; intro w hSw; (try dsimp only at hSw); obtain ⟨⟨x0, x1, x2, x3, x4, x5, x6, x7, x8⟩, -, -⟩ := hSw; go_simp <;> (try with_reducible rfl))
  try simp only [Act.put, List.setIfInBounds_toArray, List.set_cons_zero, List.set_cons_succ]
  refine wpAnyH_take (i := 2) (oi := ?ob3o) (v := ?ob3v) ?ob3h (by kernel_rfl) (by kernel_rfl) (by kernel_rfl) ?ob3q ?ob3y hHeld ?ob3r
  case ob3h => (simp only [List.getElem?_toArray, List.getElem?_cons_succ, List.getElem?_cons_zero]; rfl)
  case ob3q => exact fun _ _ _ h => h
  case ob3y => (refine Or.inl ⟨by first | kernel_rfl | rfl, ?_⟩; intro w hSw; (try dsimp only at hSw); obtain ⟨⟨x0, x1, x2, x3, x4, x5, x6, x7, x8⟩, -, -⟩ := hSw; go_simp <;> (try with_reducible rfl))
  try simp only [Act.put, List.setIfInBounds_toArray, List.set_cons_zero, List.set_cons_succ]
  refine wpAnyH_take (i := 4) (oi := ?ob4o) (v := ?ob4v) ?ob4h (by kernel_rfl) (by kernel_rfl) (by kernel_rfl) ?ob4q ?ob4y hHeld ?ob4r
  case ob4h => (simp only [List.getElem?_toArray, List.getElem?_cons_succ, List.getElem?_cons_zero]; rfl)
  case ob4q => exact fun _ _ _ h => h
  case ob4y => (refine Or.inl ⟨by first | kernel_rfl | rfl, ?_⟩; intro w hSw; (try dsimp only at hSw); obtain ⟨⟨x0, x1, x2, x3, x4, x5, x6, x7, x8⟩, -, -⟩ := hSw; go_simp <;> (try with_reducible rfl))
  try simp only [Act.put, List.setIfInBounds_toArray, List.set_cons_zero, List.set_cons_succ]
  refine wpAnyH_take (i := 5) (oi := ?ob5o) (v := ?ob5v) ?ob5h (by kernel_rfl) (by kernel_rfl) (by kernel_rfl) ?ob5q ?ob5y hHeld ?ob5r
  case ob5h => (simp only [List.getElem?_toArray, List.getElem?_cons_succ, List.getElem?_cons_zero]; rfl)
  case ob5q => exact fun _ _ _ h => h
  case ob5y => (refine Or.inl ⟨by first | kernel_rfl | rfl, ?_⟩; intro w hSw; (try dsimp only at hSw); obtain ⟨⟨x0, x1, x2, x3, x4, x5, x6, x7, x8⟩, -, -⟩ := hSw; go_simp <;> (try with_reducible rfl))
  try simp only [Act.put, List.setIfInBounds_toArray, List.set_cons_zero, List.set_cons_succ]
  refine wpAnyH_ready (rs := [3]) (by kernel_rfl) (by simp) ?_
  refine (AllReadyH.cons rfl (fun K hK => ?_) AllReadyH.nil)
  go_simp
  ((with_reducible refine (k0 _).mono ?_); rintro e w' ⟨rfl, hb'⟩)
  refine hK.out _ _ (hHeld.keep hb') (fun hHeld => ?_)
  clear hK K
  try simp only [Act.put, List.setIfInBounds_toArray, List.set_cons_zero, List.set_cons_succ]
  refine wpAnyH_ready (rs := [6]) (by kernel_rfl) (by simp) ?_
  refine (AllReadyH.cons rfl (fun K hK => ?_) AllReadyH.nil)
  go_simp
  ((with_reducible refine (k5 _ hHeld.ns).mono ?_); rintro e w' ⟨rfl, hb'⟩)
  refine hK.out _ _ (hHeld.keep hb') (fun hHeld => ?_)
  clear hK K
  try simp only [Act.put, List.setIfInBounds_toArray, List.set_cons_zero, List.set_cons_succ]
  refine wpAnyH_take (i := 7) (oi := ?ob6o) (v := ?ob6v) ?ob6h (by kernel_rfl) (by kernel_rfl) (by kernel_rfl) ?ob6q ?ob6y hHeld ?ob6r
  case ob6h => (simp only [List.getElem?_toArray, List.getElem?_cons_succ, List.getElem?_cons_zero]; rfl)
  case ob6q => exact fun _ _ _ h => h
  case ob6y => (refine Or.inl ⟨by first | kernel_rfl | rfl, ?_⟩; intro w hSw; (try dsimp only at hSw); obtain ⟨⟨x0, x1, x2, x3, x4, x5, x6, x7, x8⟩, -, -⟩ := hSw; go_simp <;> (try with_reducible rfl))
  try simp only [Act.put, List.setIfInBounds_toArray, List.set_cons_zero, List.set_cons_succ]
  refine wpAnyH_take (i := 8) (oi := ?ob7o) (v := ?ob7v) ?ob7h (by kernel_rfl) (by kernel_rfl) (by kernel_rfl) ?ob7q ?ob7y hHeld ?ob7r
  case ob7h => (simp only [List.getElem?_toArray, List.getElem?_cons_succ, List.getElem?_cons_zero]; rfl)
  case ob7q => exact fun _ _ _ h => h
  case ob7y => (refine Or.inl ⟨by first | kernel_rfl | rfl, ?_⟩; intro w hSw; (try dsimp only at hSw); obtain ⟨⟨x0, x1, x2, x3, x4, x5, x6, x7, x8⟩, -, -⟩ := hSw; go_simp <;> (try with_reducible rfl))
  try simp only [Act.put, List.setIfInBounds_toArray, List.set_cons_zero, List.set_cons_succ]
  refine wpAnyH_done (by kernel_rfl) ?_ _
  have hat := hHeld.at_
  obtain ⟨x0, -, -, -, -, -, -, -, -⟩ := hat
  go_wp2_with fail
  clear x0
  refine wp_region_held_drew (S := (RHeld w w.heap.size r dv)) (by kernel_rfl) hHeld.drew (fun hHeld => ?_)
  refine wpAnyH_take (i := 0) (oi := ?oc1o) (v := ?oc1v) ?oc1h (by kernel_rfl) (by kernel_rfl) (by kernel_rfl) ?oc1q ?oc1y hHeld ?oc1r
  case oc1h => (simp only [List.getElem?_toArray, List.getElem?_cons_zero]; rfl)
  case oc1q => exact fun _ _ _ h => h
  case oc1y => (refine Or.inl ⟨by first | kernel_rfl | rfl, ?_⟩; intro w hSw; (try dsimp only at hSw); obtain ⟨⟨x0, x1, x2, x3, x4, x5, x6, x7, x8⟩, -, -⟩ := hSw; go_simp <;> (try with_reducible rfl))
  try simp only [Act.put, List.setIfInBounds_toArray, List.set_cons_zero, List.set_cons_succ]
  refine wpAnyH_take (i := 1) (oi := ?oc2o) (v := ?oc2v) ?oc2h (by kernel_rfl) (by kernel_rfl) (by kernel_rfl) ?oc2q ?oc2y hHeld ?oc2r
  case oc2h => (simp only [List.getElem?_toArray, List.getElem?_cons_succ, List.getElem?_cons_zero]; rfl)
  case oc2q => exact fun _ _ _ h => h
  case oc2y => (refine Or.inl ⟨by first | kernel_rfl | rfl, ?_⟩; intro w hSw; (try dsimp only at hSw); obtain ⟨⟨x0, x1, x2, x3, x4, x5, x6, x7, x8⟩, -, -⟩ := hSw; go_simp <;> (try with_reducible rfl))
  try simp only [Act.put, List.setIfInBounds_toArray, List.set_cons_zero, List.set_cons_succ]
  refine wpAnyH_take (i := 2) (oi := ?oc3o) (v := ?oc3v) ?oc3h (by kernel_rfl) (by kernel_rfl) (by kernel_rfl) ?oc3q ?oc3y hHeld ?oc3r
  case oc3h => (simp only [List.getElem?_toArray, List.getElem?_cons_succ, List.getElem?_cons_zero]; rfl)
  case oc3q => exact fun _ _ _ h => h
  case oc3y => (refine Or.inl ⟨by first | kernel_rfl | rfl, ?_⟩; intro w hSw; (try dsimp only at hSw); obtain ⟨⟨x0, x1, x2, x3, x4, x5, x6, x7, x8⟩, -, -⟩ := hSw; go_simp <;> (try with_reducible rfl))
  try simp only [Act.put, List.setIfInBounds_toArray, List.set_cons_zero, List.set_cons_succ]
  refine wpAnyH_take (i := 3) (oi := ?oc4o) (v := ?oc4v) ?oc4h (by kernel_rfl) (by kernel_rfl) (by kernel_rfl) ?oc4q ?oc4y hHeld ?oc4r
  case oc4h => (simp only [List.getElem?_toArray, List.getElem?_cons_succ, List.getElem?_cons_zero]; rfl)
  case oc4q => exact fun _ _ _ h => h
  case oc4y => (refine Or.inl ⟨by first | kernel_rfl | rfl, ?_⟩; intro w hSw; (try dsimp only at hSw); obtain ⟨⟨x0, x1, x2, x3, x4, x5, x6, x7, x8⟩, -, -⟩ := hSw; go_simp <;> (try with_reducible rfl))
  try simp only [Act.put, List.setIfInBounds_toArray, List.set_cons_zero, List.set_cons_succ]
  refine wpAnyH_take (i := 6) (oi := ?oc5o) (v := ?oc5v) ?oc5h (by kernel_rfl) (by kernel_rfl) (by kernel_rfl) ?oc5q ?oc5y hHeld ?oc5r
  case oc5h => (simp only [List.getElem?_toArray, List.getElem?_cons_succ, List.getElem?_cons_zero]; rfl)
  case oc5q => exact fun _ _ _ h => h
  case oc5y => (refine Or.inl ⟨by first | kernel_rfl | rfl, ?_⟩; intro w hSw; (try dsimp only at hSw); obtain ⟨⟨x0, x1, x2, x3, x4, x5, x6, x7, x8⟩, -, -⟩ := hSw; go_simp <;> (try with_reducible rfl))
  try simp only [Act.put, List.setIfInBounds_toArray, List.set_cons_zero, List.set_cons_succ]
  refine wpAnyH_take (i := 7) (oi := ?oc6o) (v := ?oc6v) ?oc6h (by kernel_rfl) (by kernel_rfl) (by kernel_rfl) ?oc6q ?oc6y hHeld ?oc6r
  case oc6h => (simp only [List.getElem?_toArray, List.getElem?_cons_succ, List.getElem?_cons_zero]; rfl)
  case oc6q => exact fun _ _ _ h => h
  case oc6y => (refine Or.inl ⟨by first | kernel_rfl | rfl, ?_⟩; intro w hSw; (try dsimp only at hSw); obtain ⟨⟨x0, x1, x2, x3, x4, x5, x6, x7, x8⟩, -, -⟩ := hSw; go_simp <;> (try with_reducible rfl))
  try simp only [Act.put, List.setIfInBounds_toArray, List.set_cons_zero, List.set_cons_succ]
  refine wpAnyH_take (i := 8) (oi := ?oc7o) (v := ?oc7v) ?oc7h (by kernel_rfl) (by kernel_rfl) (by kernel_rfl) ?oc7q ?oc7y hHeld ?oc7r
  case oc7h => (simp only [List.getElem?_toArray, List.getElem?_cons_succ, List.getElem?_cons_zero]; rfl)
  case oc7q => exact fun _ _ _ h => h
  case oc7y => (refine Or.inl ⟨by first | kernel_rfl | rfl, ?_⟩; intro w hSw; (try dsimp only at hSw); obtain ⟨⟨x0, x1, x2, x3, x4, x5, x6, x7, x8⟩, -, -⟩ := hSw; go_simp <;> (try with_reducible rfl))
  try simp only [Act.put, List.setIfInBounds_toArray, List.set_cons_zero, List.set_cons_succ]
  refine wpAnyH_take (i := 11) (oi := ?oc8o) (v := ?oc8v) ?oc8h (by kernel_rfl) (by kernel_rfl) (by kernel_rfl) ?oc8q ?oc8y hHeld ?oc8r
  case oc8h => (simp only [List.getElem?_toArray, List.getElem?_cons_succ, List.getElem?_cons_zero]; rfl)
  case oc8q => exact fun _ _ _ h => h
  case oc8y => (refine Or.inl ⟨by first | kernel_rfl | rfl, ?_⟩; intro w hSw; (try dsimp only at hSw); obtain ⟨⟨x0, x1, x2, x3, x4, x5, x6, x7, x8⟩, -, -⟩ := hSw; go_simp <;> (try with_reducible rfl))
  try simp only [Act.put, List.setIfInBounds_toArray, List.set_cons_zero, List.set_cons_succ]
  refine wpAnyH_take (i := 12) (oi := ?oc9o) (v := ?oc9v) ?oc9h (by kernel_rfl) (by kernel_rfl) (by kernel_rfl) ?oc9q ?oc9y hHeld ?oc9r
  case oc9h => (simp only [List.getElem?_toArray, List.getElem?_cons_succ, List.getElem?_cons_zero]; rfl)
  case oc9q => exact fun _ _ _ h => h
  case oc9y => (refine Or.inl ⟨by first | kernel_rfl | rfl, ?_⟩; intro w hSw; (try dsimp only at hSw); obtain ⟨⟨x0, x1, x2, x3, x4, x5, x6, x7, x8⟩, -, -⟩ := hSw; go_simp <;> (try with_reducible rfl))
  try simp only [Act.put, List.setIfInBounds_toArray, List.set_cons_zero, List.set_cons_succ]
  refine wpAnyH_take (i := 15) (oi := ?oc10o) (v := ?oc10v) ?oc10h (by kernel_rfl) (by kernel_rfl) (by kernel_rfl) ?oc10q ?oc10y hHeld ?oc10r
  case oc10h => (simp only [List.getElem?_toArray, List.getElem?_cons_succ, List.getElem?_cons_zero]; rfl)
  case oc10q => exact fun _ _ _ h => h
  case oc10y => (refine Or.inl ⟨by first | kernel_rfl | rfl, ?_⟩; intro w hSw; (try dsimp only at hSw); obtain ⟨⟨x0, x1, x2, x3, x4, x5, x6, x7, x8⟩, -, -⟩ := hSw; go_simp <;> (try with_reducible rfl))
  try simp only [Act.put, List.setIfInBounds_toArray, List.set_cons_zero, List.set_cons_succ]
  refine wpAnyH_ready (rs := [4]) (by kernel_rfl) (by simp) ?_
  refine (AllReadyH.cons rfl (fun K hK => ?_) AllReadyH.nil)
  go_simp
  ((with_reducible refine (k1 _).mono ?_); rintro e w' ⟨rfl, hb'⟩)
  refine hK.out _ _ (hHeld.keep hb') (fun hHeld => ?_)
  clear hK K
  try simp only [Act.put, List.setIfInBounds_toArray, List.set_cons_zero, List.set_cons_succ]
  refine wpAnyH_take (i := 5) (oi := ?oc11o) (v := ?oc11v) ?oc11h (by kernel_rfl) (by kernel_rfl) (by kernel_rfl) ?oc11q ?oc11y hHeld ?oc11r
  case oc11h => (simp only [List.getElem?_toArray, List.getElem?_cons_succ, List.getElem?_cons_zero]; rfl)
  case oc11q => exact fun _ _ _ h => h
  case oc11y => (refine Or.inl ⟨by first | kernel_rfl | rfl, ?_⟩; intro w hSw; (try dsimp only at hSw); obtain ⟨⟨x0, x1, x2, x3, x4, x5, x6, x7, x8⟩, -, -⟩ := hSw; go_simp <;> (try with_reducible rfl))
  try simp only [Act.put, List.setIfInBounds_toArray, List.set_cons_zero, List.set_cons_succ]
  refine wpAnyH_ready (rs := [9]) (by kernel_rfl) (by simp) ?_
  refine (AllReadyH.cons rfl (fun K hK => ?_) AllReadyH.nil)
  go_simp
  ((with_reducible refine (k2 _).mono ?_); rintro e w' ⟨rfl, hb'⟩)
  refine hK.out _ _ (hHeld.keep hb') (fun hHeld => ?_)
  clear hK K
  try simp only [Act.put, List.setIfInBounds_toArray, List.set_cons_zero, List.set_cons_succ]
  refine wpAnyH_take (i := 10) (oi := ?oc12o) (v := ?oc12v) ?oc12h (by kernel_rfl) (by kernel_rfl) (by kernel_rfl) ?oc12q ?oc12y hHeld ?oc12r
  case oc12h => (simp only [List.getElem?_toArray, List.getElem?_cons_succ, List.getElem?_cons_zero]; rfl)
  case oc12q => exact fun _ _ _ h => h
  case oc12y => (refine Or.inl ⟨by first | kernel_rfl | rfl, ?_⟩; intro w hSw; (try dsimp only at hSw); obtain ⟨⟨x0, x1, x2, x3, x4, x5, x6, x7, x8⟩, -, -⟩ := hSw; go_simp <;> (try with_reducible rfl))
  try simp only [Act.put, List.setIfInBounds_toArray, List.set_cons_zero, List.set_cons_succ]
  refine wpAnyH_ready (rs := [13]) (by kernel_rfl) (by simp) ?_
  refine (AllReadyH.cons rfl (fun K hK => ?_) AllReadyH.nil)
  go_simp
  ((with_reducible refine (k4 _).mono ?_); rintro e w' ⟨rfl, hb'⟩)
  refine hK.out _ _ (hHeld.keep hb') (fun hHeld => ?_)
  clear hK K
  try simp only [Act.put, List.setIfInBounds_toArray, List.set_cons_zero, List.set_cons_succ]
  refine wpAnyH_take (i := 14) (oi := ?oc13o) (v := ?oc13v) ?oc13h (by kernel_rfl) (by kernel_rfl) (by kernel_rfl) ?oc13q ?oc13y hHeld ?oc13r
  case oc13h => (simp only [List.getElem?_toArray, List.getElem?_cons_succ, List.getElem?_cons_zero]; rfl)
  case oc13q => exact fun _ _ _ h => h
  case oc13y => (refine Or.inl ⟨by first | kernel_rfl | rfl, ?_⟩; intro w hSw; (try dsimp only at hSw); obtain ⟨⟨x0, x1, x2, x3, x4, x5, x6, x7, x8⟩, -, -⟩ := hSw; go_simp <;> (try with_reducible rfl))
  try simp only [Act.put, List.setIfInBounds_toArray, List.set_cons_zero, List.set_cons_succ]
  refine wpAnyH_take (i := 16) (oi := ?oc14o) (v := ?oc14v) ?oc14h (by kernel_rfl) (by kernel_rfl) (by kernel_rfl) ?oc14q ?oc14y hHeld ?oc14r
  case oc14h => (simp only [List.getElem?_toArray, List.getElem?_cons_succ, List.getElem?_cons_zero]; rfl)
  case oc14q => exact fun _ _ _ h => h
  case oc14y => (refine Or.inl ⟨by first | kernel_rfl | rfl, ?_⟩; intro w hSw; (try dsimp only at hSw); obtain ⟨⟨x0, x1, x2, x3, x4, x5, x6, x7, x8⟩, -, -⟩ := hSw; go_simp <;> (try with_reducible rfl))
  try simp only [Act.put, List.setIfInBounds_toArray, List.set_cons_zero, List.set_cons_succ]
  refine wpAnyH_take (i := 17) (oi := ?oc15o) (v := ?oc15v) ?oc15h (by kernel_rfl) (by kernel_rfl) (by kernel_rfl) ?oc15q ?oc15y hHeld ?oc15r
  case oc15h => (simp only [List.getElem?_toArray, List.getElem?_cons_succ, List.getElem?_cons_zero]; rfl)
  case oc15q => exact fun _ _ _ h => h
  case oc15y => (refine Or.inl ⟨by first | kernel_rfl | rfl, ?_⟩; intro w hSw; (try dsimp only at hSw); obtain ⟨⟨x0, x1, x2, x3, x4, x5, x6, x7, x8⟩, -, -⟩ := hSw; go_simp <;> (try with_reducible rfl))
  try simp only [Act.put, List.setIfInBounds_toArray, List.set_cons_zero, List.set_cons_succ]
  refine wpAnyH_take (i := 18) (oi := ?oc16o) (v := ?oc16v) ?oc16h (by kernel_rfl) (by kernel_rfl) (by kernel_rfl) ?oc16q ?oc16y hHeld ?oc16r
  case oc16h => (simp only [List.getElem?_toArray, List.getElem?_cons_succ, List.getElem?_cons_zero]; rfl)
  case oc16q => exact fun _ _ _ h => h
  case oc16y => (refine Or.inl ⟨by first | kernel_rfl | rfl, ?_⟩; intro w hSw; (try dsimp only at hSw); obtain ⟨⟨x0, x1, x2, x3, x4, x5, x6, x7, x8⟩, -, -⟩ := hSw; go_simp <;> (try with_reducible rfl))
  try simp only [Act.put, List.setIfInBounds_toArray, List.set_cons_zero, List.set_cons_succ]
  refine wpAnyH_done (by kernel_rfl) ?_ _
  have hbel := hHeld.bel
  go_wp2
  go_ret2
  exact ⟨by rw [← HX.out]; rfl, hbel⟩

set_option maxHeartbeats 4000000 in
theorem bytes6_sample (r : Rec) (dv : Value) (w : World) (S : ByteArray) (h : Ns w dv r.d) (hf : r.fits) (hok : r.ok = true) (hk : r.k = 1) (hS : Hid (tx r.bytes = S)) : Calls Try.prog 12 #[recV r dv] w fun e w' => e = .returned (.tuple #[.string S, .int .i64 0]) ∧ Below w.heap.size w w' := by
  have kc := fun w h => check6_is r dv w h hf
  rw [Rec.err_yes hok] at kc
  obtain ⟨⟨t1, t2⟩, hpl, hst, -⟩ := Rec.head_parts (Rec.ok_head hok)
  have hkind := Rec.ok_kind hok
  have H0 := RHeld.new (r := r) h
  have hat := H0.at_
  obtain ⟨x0, x1, x2, x3, x4, x5, x6, x7, x8⟩ := hat
  obtain ⟨K0, hK0⟩ : ∃ s, tx (enc (r.k).toNat) = s := ⟨_, rfl⟩
  have k0 := fun w => putInt r.k K0 w (by omega) (by omega) (Lib.hid hK0)
  have z0 : K0.size ≤ 10 := by rw [← hK0, tx_size]; exact enc_len10 _ (by omega)
  obtain ⟨B1, hB1⟩ : ∃ s, tx r.st.bytes = s := ⟨_, rfl⟩
  have k4 := fun w => bytes_is r.st B1 w (Lib.hid hB1)
  have z4 : B1.size ≤ 30 := by rw [← hB1, tx_size]; exact st_bytes_len _
  obtain ⟨B2, hB2⟩ : ∃ s, tx (textL (plainL r.d)) = s := ⟨_, rfl⟩
  have k5 := fun w h => textN dv r.d B2 w h (Lib.hid hB2)
  have z5 : B2.size ≤ 90 := by rw [← hB2, tx_size]; exact textL_plain_len _
  have uk : IntKind.u64.wrap r.k = r.k := u64_in r.k (by omega) (by omega)
  have kk : (r.k == 2) = false := by simp; omega
  obtain ⟨-, hnm, -⟩ : r.k = 1 ∧ nameB r.s = true ∧ r.tier = 0 := by rcases hkind with h | h; exact h; omega
  have hn40 := name_len hnm
  have hpo : r.stored.ok = true := by unfold Pt.ok Rec.stored; simp only; rw [hnm, hst, decide_eq_true ⟨t1, t2⟩]; rfl
  obtain ⟨A1, hA1⟩ : ∃ s, tx r.stored.bytes = s := ⟨_, rfl⟩
  have k1 := fun w => putp_is r.stored A1 w hpo hf.v (Lib.hid hA1)
  have ks := fun w => stored_is r dv w
  have z1 : A1.size ≤ 110 := by rw [← hA1, tx_size]; exact pt_bytes_len hpo hf.v
  obtain ⟨X1, hX1⟩ : ∃ s, K0 ++ A1 = s := ⟨_, rfl⟩
  have yX1 : X1.size = K0.size + A1.size := by rw [← hX1]; simp
  have pX1 : K0.size + A1.size ≤ 9223372036854775807 := by omega
  have qX1 : ¬ 9223372036854775807 < K0.size + A1.size := by omega
  obtain ⟨X5, hX5⟩ : ∃ s, X1 ++ B2 = s := ⟨_, rfl⟩
  have yX5 : X5.size = X1.size + B2.size := by rw [← hX5]; simp
  have pX5 : X1.size + B2.size ≤ 9223372036854775807 := by omega
  have qX5 : ¬ 9223372036854775807 < X1.size + B2.size := by omega
  have hfin : X5 = S := by
    have e2 : r.mid = (enc r.s.size ++ r.s.data.toList) ++ enc r.t.toNat ++ enc (zig r.v).toNat := if_pos hk
    have e3 : r.stored.bytes = r.mid ++ r.st.bytes := by rw [e2]; rfl
    rw [← hS.out, ← hX5, ← hX1, ← hK0, ← hA1, ← hB2, e3, tx_app, tx_app]
    unfold Rec.bytes
    simp only [List.append_assoc]
  generalize r.stored = sp at *
  unfold recV at ks
  unfold ptV at ks k1
  have HX := Lib.hid hfin
  clear hk x0 x1 x2 x3 x4 x5 x6 x7 x8
  clear hok hS h hpl hst hkind hfin hK0 hB1 hB2 z0 z4 z5 t1 t2 hA1 z1 hnm hn40 hpo hf yX1 yX5 k4
  unfold recV at kc ⊢
  go_enter Try.func12, Try.ntmps12
  go_wp2_with (first
    | (go_at_call 16; (with_reducible refine (kc _ H0.ns).mono ?_); rintro e w1 ⟨rfl, hb1⟩; have H1 := H0.keep hb1))
  clear H0 hb1 kc
  refine wp_region_held_drew (S := (RHeld w w.heap.size r dv)) (by kernel_rfl) H1.drew (fun hHeld => ?_)
  refine wpAnyH_take (i := 0) (oi := ?oa1o) (v := ?oa1v) ?oa1h (by kernel_rfl) (by kernel_rfl) (by kernel_rfl) ?oa1q ?oa1y hHeld ?oa1r
  case oa1h => (simp only [List.getElem?_toArray, List.getElem?_cons_zero]; rfl)
  case oa1q => exact fun _ _ _ h => h
  case oa1y => (refine Or.inl ⟨by first | kernel_rfl | rfl, ?_⟩; intro w hSw; (try dsimp only at hSw); obtain ⟨⟨x0, x1, x2, x3, x4, x5, x6, x7, x8⟩, -, -⟩ := hSw; go_simp <;> (try with_reducible rfl))
  try simp only [Act.put, List.setIfInBounds_toArray, List.set_cons_zero, List.set_cons_succ]
  refine wpAnyH_take (i := 1) (oi := ?oa2o) (v := ?oa2v) ?oa2h (by kernel_rfl) (by kernel_rfl) (by kernel_rfl) ?oa2q ?oa2y hHeld ?oa2r
  case oa2h => (simp only [List.getElem?_toArray, List.getElem?_cons_succ, List.getElem?_cons_zero]; rfl)
  case oa2q => exact fun _ _ _ h => h
  case oa2y => (refine Or.inl ⟨by first | kernel_rfl | rfl, ?_⟩; intro w hSw; (try dsimp only at hSw); obtain ⟨⟨x0, x1, x2, x3, x4, x5, x6, x7, x8⟩, -, -⟩ := hSw; go_simp <;> (try with_reducible rfl))
  try simp only [Act.put, List.setIfInBounds_toArray, List.set_cons_zero, List.set_cons_succ]
  refine wpAnyH_take (i := 2) (oi := ?oa3o) (v := ?oa3v) ?oa3h (by kernel_rfl) (by kernel_rfl) (by kernel_rfl) ?oa3q ?oa3y hHeld ?oa3r
  case oa3h => (simp only [List.getElem?_toArray, List.getElem?_cons_succ, List.getElem?_cons_zero]; rfl)
  case oa3q => exact fun _ _ _ h => h
  case oa3y => (refine Or.inl ⟨by first | kernel_rfl | rfl, ?_⟩; intro w hSw; (try dsimp only at hSw); obtain ⟨⟨x0, x1, x2, x3, x4, x5, x6, x7, x8⟩, -, -⟩ := hSw; go_simp <;> (try with_reducible rfl))
  try simp only [Act.put, List.setIfInBounds_toArray, List.set_cons_zero, List.set_cons_succ]
  refine wpAnyH_take (i := 4) (oi := ?oa4o) (v := ?oa4v) ?oa4h (by kernel_rfl) (by kernel_rfl) (by kernel_rfl) ?oa4q ?oa4y hHeld ?oa4r
  case oa4h => (simp only [List.getElem?_toArray, List.getElem?_cons_succ, List.getElem?_cons_zero]; rfl)
  case oa4q => exact fun _ _ _ h => h
  case oa4y => (refine Or.inl ⟨by first | kernel_rfl | rfl, ?_⟩; intro w hSw; (try dsimp only at hSw); obtain ⟨⟨x0, x1, x2, x3, x4, x5, x6, x7, x8⟩, -, -⟩ := hSw; go_simp <;> (try with_reducible rfl))
  try simp only [Act.put, List.setIfInBounds_toArray, List.set_cons_zero, List.set_cons_succ]
  refine wpAnyH_take (i := 5) (oi := ?oa5o) (v := ?oa5v) ?oa5h (by kernel_rfl) (by kernel_rfl) (by kernel_rfl) ?oa5q ?oa5y hHeld ?oa5r
  case oa5h => (simp only [List.getElem?_toArray, List.getElem?_cons_succ, List.getElem?_cons_zero]; rfl)
  case oa5q => exact fun _ _ _ h => h
  case oa5y => (refine Or.inl ⟨by first | kernel_rfl | rfl, ?_⟩; intro w hSw; (try dsimp only at hSw); obtain ⟨⟨x0, x1, x2, x3, x4, x5, x6, x7, x8⟩, -, -⟩ := hSw; go_simp <;> (try with_reducible rfl))
  try simp only [Act.put, List.setIfInBounds_toArray, List.set_cons_zero, List.set_cons_succ]
  refine wpAnyH_ready (rs := [3]) (by kernel_rfl) (by simp) ?_
  refine (AllReadyH.cons rfl (fun K hK => ?_) AllReadyH.nil)
  go_simp
  ((with_reducible refine (k0 _).mono ?_); rintro e w' ⟨rfl, hb'⟩)
  refine hK.out _ _ (hHeld.keep hb') (fun hHeld => ?_)
  clear hK K
  try simp only [Act.put, List.setIfInBounds_toArray, List.set_cons_zero, List.set_cons_succ]
  refine wpAnyH_ready (rs := [6]) (by kernel_rfl) (by simp) ?_
  refine (AllReadyH.cons rfl (fun K hK => ?_) AllReadyH.nil)
  go_simp
  ((with_reducible refine (k5 _ hHeld.ns).mono ?_); rintro e w' ⟨rfl, hb'⟩)
  refine hK.out _ _ (hHeld.keep hb') (fun hHeld => ?_)
  clear hK K
  try simp only [Act.put, List.setIfInBounds_toArray, List.set_cons_zero, List.set_cons_succ]
  refine wpAnyH_take (i := 7) (oi := ?oa6o) (v := ?oa6v) ?oa6h (by kernel_rfl) (by kernel_rfl) (by kernel_rfl) ?oa6q ?oa6y hHeld ?oa6r
  case oa6h => (simp only [List.getElem?_toArray, List.getElem?_cons_succ, List.getElem?_cons_zero]; rfl)
  case oa6q => exact fun _ _ _ h => h
  case oa6y => (refine Or.inl ⟨by first | kernel_rfl | rfl, ?_⟩; intro w hSw; (try dsimp only at hSw); obtain ⟨⟨x0, x1, x2, x3, x4, x5, x6, x7, x8⟩, -, -⟩ := hSw; go_simp <;> (try with_reducible rfl))
  try simp only [Act.put, List.setIfInBounds_toArray, List.set_cons_zero, List.set_cons_succ]
  refine wpAnyH_take (i := 8) (oi := ?oa7o) (v := ?oa7v) ?oa7h (by kernel_rfl) (by kernel_rfl) (by kernel_rfl) ?oa7q ?oa7y hHeld ?oa7r
  case oa7h => (simp only [List.getElem?_toArray, List.getElem?_cons_succ, List.getElem?_cons_zero]; rfl)
  case oa7q => exact fun _ _ _ h => h
  case oa7y => (refine Or.inl ⟨by first | kernel_rfl | rfl, ?_⟩; intro w hSw; (try dsimp only at hSw); obtain ⟨⟨x0, x1, x2, x3, x4, x5, x6, x7, x8⟩, -, -⟩ := hSw; go_simp <;> (try with_reducible rfl))
  try simp only [Act.put, List.setIfInBounds_toArray, List.set_cons_zero, List.set_cons_succ]
  refine wpAnyH_done (by kernel_rfl) ?_ _
  have hat := hHeld.at_
  obtain ⟨x0, x1, x2, x3, x4, x5, x6, x7, x8⟩ := hat
  have HH := hHeld
  go_wp2_with (first
    | (go_at_call 39; (with_reducible refine (ks _).mono ?_); rintro e w4 ⟨rfl, hb4⟩; have H4 := HH.keep hb4)
    | (go_at_call 38; (with_reducible refine (k1 _).mono ?_); rintro e w5 ⟨rfl, hb5⟩; have H5 := H4.keep hb5))
  go_ret2
  exact ⟨by rw [← HX.out]; rfl, H5.bel⟩
end Go.Proofs.Ytjckphmkhikpaaa
