/- Offer. -/
import Derived.Test.YthifmfgnblecbaaCbHold
import Derived.Test.YthifmfgnblecbaaSamplePCheck
set_option maxRecDepth 20000
set_option linter.unusedSimpArgs false
set_option linter.unusedVariables false
namespace Go.Proofs.Ythifmfgnblecbaa.Og.Cb
open Go.RowKit Go.Maps Go.Proofs.Ythifmfgnblecbaa.Vi Go.Proofs.Ythifmfgnblecbaa.Mk

def OfferDone (w : World) (B b : Nat) (S : CS) (F : Nat → Prop) (r : Rec) (e : Ending) (w' : World) : Prop := e = .returned (.int .i64 (offE S r)) ∧ Buf w' B b (offS S r) (grow F w w') ∧ FrF F w w'
theorem Buf.wide {w : World} {B b : Nat} {S : CS} {F G : Nat → Prop} (h : Buf w B b S F) (hF : ∀ q, F q → G q) (fp : ∀ q, G q → B ≤ q ∧ q < w.heap.size) : Buf w B b S G := by
  obtain ⟨mv, ov, h⟩ := h
  exact ⟨mv, ov, h.wide hF fp⟩
theorem Buf.kept {w w' : World} {B b : Nat} {mv : Option Nat} {ov : Value} {S : CS} {F : Nat → Prop} (h : CbAt w B b mv ov S F) (hB : B ≤ w.heap.size) (k : Below w.heap.size w w') : Buf w' B b S (grow F w w') :=
  ⟨mv, ov, (h.later k).wide (fun q hq => Or.inl hq) (grow_fp h.fp hB k.size)⟩
theorem Buf.next9 {w w8 w9 : World} {B b : Nat} {S : CS} {F : Nat → Prop} (h : Buf w9 B b S (grow F w8 w9)) (hB : B ≤ w.heap.size) (k : Below w.heap.size w w8) (hs : w8.heap.size ≤ w9.heap.size) : Buf w9 B b S (grow F w w9) := by
  have hw := k.size
  exact h.wide (fun q hq => hq.imp id fun g => ⟨Nat.le_trans hw g.1, g.2⟩) fun q hq => by
    rcases hq with hq | hq
    · exact h.fp q (Or.inl hq)
    · have h1 : ∀ q, grow F w8 w9 q → B ≤ q ∧ q < w9.heap.size := h.fp
      by_cases e : w8.heap.size ≤ q
      · exact h1 q (Or.inr ⟨e, hq.2⟩)
      · exact ⟨by omega, hq.2⟩
structure HO (w : World) (g n : Nat) (x : Rd) (s q : Int) (X : World) : Prop where
  nine : R9 X g 0 x
  nm : N2 X n s q
  bel : Below w.heap.size w X
theorem HO.later {w X Y : World} {g n : Nat} {x : Rd} {s q : Int} (h : HO w g n x s q X) (k : Below X.heap.size X Y) : HO w g n x s q Y := ⟨h.nine.later k, h.nm.later k, bel_next h.bel k⟩
theorem HO.drew {w X : World} {g n : Nat} {x : Rd} {s q : Int} (h : HO w g n x s q X) : HO w g n x s q X.drew := h.later (Below.refl _ _).drew
set_option maxHeartbeats 8000000 in
theorem offer_bad {w : World} {B b : Nat} {mv : Option Nat} {ov : Value} {S : CS} {F : Nat → Prop} (h : CbAt w B b mv ov S F) (hB : B ≤ w.heap.size) (x : Rd) (hN : Ns w x.dv x.r.d) (hf : x.r.fits) (hdl : x.r.d.length ≤ 1000000) (hx : x.r.ok = false) : Calls Try.prog 16 #[.pointer (some ⟨b, 0, none⟩), recV x.r x.dv] w (OfferDone w B b S F x.r) := by
  have hal := (Below.refl w.heap.size w).alloc (Nat.le_refl _) (box9 x)
  have hh1 := R9.new w x
  have HE := Lib.hid (show offE S x.r = 3 from offE_bad hx)
  have HS := Lib.hid (show offS S x.r = S from offS_no (by rw [HE.out]; decide))
  have hc0 := h.c0
  have hc2 := h.c2
  have hblt := h.lt
  have kck := check6_is x.r x.dv _ (Ns.later hN hal) hf
  rw [show x.r.err = 1 from by unfold Rec.err; rw [hx]; rfl] at kck
  have HH := Lib.hid h
  have HN := Lib.hid hN
  have HX := Lib.hid hx
  have HDL := Lib.hid hdl
  have HBB := Lib.hid hB
  have HAL := Lib.hid hal
  have HH1 := Lib.hid hh1
  have hlen := fun (W : World) (hb : Below w.heap.size w W) => fun T => (h.rb.later hb).lenrun T
  obtain ⟨rm, hrm⟩ : ∃ z, S.room = z := ⟨_, rfl⟩
  rw [hrm] at hc0
  clear hlen hrm
  obtain ⟨⟨rk, rs, rt, rv, rtier, ⟨rc, rst, rq⟩, rd⟩, ra, rcc⟩ := x
  unfold recV Rd.dv at *
  dsimp only at *
  unfold box9 at *
  dsimp only at *
  have i0 : True := trivial
  clear h hN hx hdl hB hal hh1 hf i0
  go_enter Try.func16, Try.ntmps16
  go_wp2_with (go_at_call 38; (with_reducible refine kck.mono ?_); rintro e w2 ⟨rfl, hb2⟩; (have HB2 := Lib.hid hb2); clear hb2)
  go_ret
  exact ⟨(by rw [HE.out]; rfl), by rw [HS.out]; exact Buf.kept HH.out HBB.out (bel_next HAL.out HB2.out), FrF.of (bel_next HAL.out HB2.out)⟩
set_option maxHeartbeats 8000000 in
theorem offer_seq {w : World} {B b : Nat} {mv : Option Nat} {ov : Value} {S : CS} {F : Nat → Prop} (h : CbAt w B b mv ov S F) (hB : B ≤ w.heap.size) (x : Rd) (hN : Ns w x.dv x.r.d) (hf : x.r.fits) (hdl : x.r.d.length ≤ 1000000) (hx : x.r.ok = true) (hq : x.r.st.q < atL S.out x.r.st.s + 1) : Calls Try.prog 16 #[.pointer (some ⟨b, 0, none⟩), recV x.r x.dv] w (OfferDone w B b S F x.r) := by
  have hal := (Below.refl w.heap.size w).alloc (Nat.le_refl _) (box9 x)
  have hh1 := R9.new w x
  have HE := Lib.hid (show offE S x.r = 1 from offE_known hx (by unfold knownB; rw [decide_eq_true hq]; rfl))
  have HS := Lib.hid (show offS S x.r = S from offS_no (by rw [HE.out]; decide))
  have hc0 := h.c0
  have hc2 := h.c2
  have hblt := h.lt
  have kck := check6_is x.r x.dv _ (Ns.later hN hal) hf
  rw [Rec.err_ok.2 hx] at kck
  have HH := Lib.hid h
  have HN := Lib.hid hN
  have HX := Lib.hid hx
  have HDL := Lib.hid hdl
  have HBB := Lib.hid hB
  have HAL := Lib.hid hal
  have HH1 := Lib.hid hh1
  have hlen := fun (W : World) (hb : Below w.heap.size w W) => fun T => (h.rb.later hb).lenrun T
  obtain ⟨i1, i2⟩ := okI hx
  have kf := fun (W : World) (hb : Below w.heap.size w W) => follows_is (h.rb.later hb) x.r.st.s i1
  have kh := fun (W : World) (hb : Below w.heap.size w W) => has_is (h.rb.later hb) x.r.st.s x.r.st.q i1 i2
  have kd := fun (W : World) (hb : Below w.heap.size w W) => due_is (h.later hb) x (Ns.later hN hb) i1
  obtain ⟨ln, hln⟩ : ∃ z, S.L.length = z := ⟨_, rfl⟩
  rw [hln] at hlen
  have HLN := Lib.hid hln
  obtain ⟨nx, hnx⟩ : ∃ z, atL S.out x.r.st.s + 1 = z := ⟨_, rfl⟩
  obtain ⟨rm, hrm⟩ : ∃ z, S.room = z := ⟨_, rfl⟩
  rw [hrm] at hc0
  rw [hnx] at kf
  have hfl := field_k x.r.st.s nx
  unfold kV at kf kh
  have hq1 : x.r.st.q < nx := by rw [← hnx]; exact hq
  clear kd kh hq
  obtain ⟨⟨rk, rs, rt, rv, rtier, ⟨rc, rst, rq⟩, rd⟩, ra, rcc⟩ := x
  unfold recV Rd.dv at *
  dsimp only at *
  unfold box9 at *
  dsimp only at *
  clear h hN hx hdl hB hal hh1 hln hf hnx hrm i1 i2
  go_enter Try.func16, Try.ntmps16
  go_upto_region 4 with (go_at_call 38; (with_reducible refine kck.mono ?_); rintro e w2 ⟨rfl, hb2⟩; (have HB2 := Lib.hid hb2); (obtain ⟨x0, x1, x2, x3, x4, x5, x6, x7, x8⟩ := HH1.out.later hb2); (dsimp only at x0 x1 x2 x3 x4 x5 x6 x7 x8); clear hb2)
  have HHO : HO w w.heap.size w2.heap.size ⟨⟨rk, rs, rt, rv, rtier, ⟨rc, rst, rq⟩, rd⟩, ra, rcc⟩ rst rq (w2.alloc (nbox rst rq)) := ⟨(HH1.out.later HB2.out).later ((Below.refl _ _).alloc (Nat.le_refl _) _), N2.of (new_block (Below.refl _ _)), bel_new (bel_next HAL.out HB2.out) _⟩
  unfold nbox at HHO
  obtain ⟨N, hN9⟩ : ∃ z, w2.heap.size = z := ⟨_, rfl⟩
  rw [hN9] at HHO ⊢
  clear hN9 x0 x1 x2 x3 x4 x5 x6 x7 x8
  refine wp_region_held_drew (S := (HO w w.heap.size N ⟨⟨rk, rs, rt, rv, rtier, ⟨rc, rst, rq⟩, rd⟩, ra, rcc⟩ rst rq)) (by kernel_rfl) HHO.drew (fun hHeld => ?_)
  refine wpAnyH_take (i := 0) (oi := ?a1o) (v := ?a1v) ?a1h (by kernel_rfl) (by kernel_rfl) (by kernel_rfl) ?a1q ?a1y hHeld ?a1r
  case a1h => (simp only [List.getElem?_toArray, List.getElem?_cons_zero]; rfl)
  case a1q => exact fun _ _ _ h => h
  case a1y => (refine Or.inl ⟨by first | kernel_rfl | rfl, ?_⟩; intro w hSw; (try dsimp only at hSw); obtain ⟨⟨x0, x1, x2, x3, x4, x5, x6, x7, x8⟩, ⟨n0, n1, nf0, nf1, nlt⟩, hb7⟩ := hSw; dsimp only at x0 x1 x2 x3 x4 x5 x6 x7 x8; have hln := hlen _ hb7; have b0 := (hb7.cell (p := ⟨b, 0, none⟩) hblt).trans hc0; have b2 := (hb7.cell (p := ⟨b, 2, none⟩) hblt).trans hc2; go_simp <;> (try with_reducible rfl))
  try simp only [Act.put, List.setIfInBounds_toArray, List.set_cons_zero, List.set_cons_succ]
  refine wpAnyH_take (i := 1) (oi := ?a2o) (v := ?a2v) ?a2h (by kernel_rfl) (by kernel_rfl) (by kernel_rfl) ?a2q ?a2y hHeld ?a2r
  case a2h => (simp only [List.getElem?_toArray, List.getElem?_cons_succ, List.getElem?_cons_zero]; rfl)
  case a2q => exact fun _ _ _ h => h
  case a2y => (refine Or.inl ⟨by first | kernel_rfl | rfl, ?_⟩; intro w hSw; (try dsimp only at hSw); obtain ⟨⟨x0, x1, x2, x3, x4, x5, x6, x7, x8⟩, ⟨n0, n1, nf0, nf1, nlt⟩, hb7⟩ := hSw; dsimp only at x0 x1 x2 x3 x4 x5 x6 x7 x8; have hln := hlen _ hb7; have b0 := (hb7.cell (p := ⟨b, 0, none⟩) hblt).trans hc0; have b2 := (hb7.cell (p := ⟨b, 2, none⟩) hblt).trans hc2; go_simp <;> (try with_reducible rfl))
  try simp only [Act.put, List.setIfInBounds_toArray, List.set_cons_zero, List.set_cons_succ]
  refine wpAnyH_take (i := 2) (oi := ?a3o) (v := ?a3v) ?a3h (by kernel_rfl) (by kernel_rfl) (by kernel_rfl) ?a3q ?a3y hHeld ?a3r
  case a3h => (simp only [List.getElem?_toArray, List.getElem?_cons_succ, List.getElem?_cons_zero]; rfl)
  case a3q => exact fun _ _ _ h => h
  case a3y => (refine Or.inl ⟨by first | kernel_rfl | rfl, ?_⟩; intro w hSw; (try dsimp only at hSw); obtain ⟨⟨x0, x1, x2, x3, x4, x5, x6, x7, x8⟩, ⟨n0, n1, nf0, nf1, nlt⟩, hb7⟩ := hSw; dsimp only at x0 x1 x2 x3 x4 x5 x6 x7 x8; have hln := hlen _ hb7; have b0 := (hb7.cell (p := ⟨b, 0, none⟩) hblt).trans hc0; have b2 := (hb7.cell (p := ⟨b, 2, none⟩) hblt).trans hc2; go_simp <;> (try with_reducible rfl))
  try simp only [Act.put, List.setIfInBounds_toArray, List.set_cons_zero, List.set_cons_succ]
  refine wpAnyH_take (i := 3) (oi := ?a4o) (v := ?a4v) ?a4h (by kernel_rfl) (by kernel_rfl) (by kernel_rfl) ?a4q ?a4y hHeld ?a4r
  case a4h => (simp only [List.getElem?_toArray, List.getElem?_cons_succ, List.getElem?_cons_zero]; rfl)
  case a4q => exact fun _ _ _ h => h
  case a4y => (refine Or.inl ⟨by first | kernel_rfl | rfl, ?_⟩; intro w hSw; (try dsimp only at hSw); obtain ⟨⟨x0, x1, x2, x3, x4, x5, x6, x7, x8⟩, ⟨n0, n1, nf0, nf1, nlt⟩, hb7⟩ := hSw; dsimp only at x0 x1 x2 x3 x4 x5 x6 x7 x8; have hln := hlen _ hb7; have b0 := (hb7.cell (p := ⟨b, 0, none⟩) hblt).trans hc0; have b2 := (hb7.cell (p := ⟨b, 2, none⟩) hblt).trans hc2; go_simp <;> (try with_reducible rfl))
  try simp only [Act.put, List.setIfInBounds_toArray, List.set_cons_zero, List.set_cons_succ]
  refine wpAnyH_take (i := 4) (oi := ?a5o) (v := ?a5v) ?a5h (by kernel_rfl) (by kernel_rfl) (by kernel_rfl) ?a5q ?a5y hHeld ?a5r
  case a5h => (simp only [List.getElem?_toArray, List.getElem?_cons_succ, List.getElem?_cons_zero]; rfl)
  case a5q => exact fun _ _ _ h => h
  case a5y => (refine Or.inl ⟨by first | kernel_rfl | rfl, ?_⟩; intro w hSw; (try dsimp only at hSw); obtain ⟨⟨x0, x1, x2, x3, x4, x5, x6, x7, x8⟩, ⟨n0, n1, nf0, nf1, nlt⟩, hb7⟩ := hSw; dsimp only at x0 x1 x2 x3 x4 x5 x6 x7 x8; have hln := hlen _ hb7; have b0 := (hb7.cell (p := ⟨b, 0, none⟩) hblt).trans hc0; have b2 := (hb7.cell (p := ⟨b, 2, none⟩) hblt).trans hc2; go_simp <;> (try with_reducible rfl))
  try simp only [Act.put, List.setIfInBounds_toArray, List.set_cons_zero, List.set_cons_succ]
  refine wpAnyH_ready (rs := [5]) (by kernel_rfl) (by simp) ?_
  refine (AllReadyH.cons rfl (fun K hK => ?_) AllReadyH.nil)
  go_simp
  (go_at_call 32; (with_reducible refine (kf _ hHeld.bel).mono ?_); rintro e w4 ⟨rfl, hb4⟩; (have hHeld := hHeld.later hb4); clear hb4)
  refine hK.out _ _ (hHeld) (fun hHeld => ?_)
  clear hK K
  try simp only [Act.put, List.setIfInBounds_toArray, List.set_cons_zero, List.set_cons_succ]
  refine wpAnyH_take (i := 6) (oi := ?a6o) (v := ?a6v) ?a6h (by kernel_rfl) (by kernel_rfl) (by kernel_rfl) ?a6q ?a6y hHeld ?a6r
  case a6h => (simp only [List.getElem?_toArray, List.getElem?_cons_succ, List.getElem?_cons_zero]; rfl)
  case a6q => exact fun _ _ _ h => h
  case a6y => (refine Or.inl ⟨by first | kernel_rfl | rfl, ?_⟩; intro w hSw; (try dsimp only at hSw); obtain ⟨⟨x0, x1, x2, x3, x4, x5, x6, x7, x8⟩, ⟨n0, n1, nf0, nf1, nlt⟩, hb7⟩ := hSw; dsimp only at x0 x1 x2 x3 x4 x5 x6 x7 x8; have hln := hlen _ hb7; have b0 := (hb7.cell (p := ⟨b, 0, none⟩) hblt).trans hc0; have b2 := (hb7.cell (p := ⟨b, 2, none⟩) hblt).trans hc2; go_simp <;> (try with_reducible rfl))
  try simp only [Act.put, List.setIfInBounds_toArray, List.set_cons_zero, List.set_cons_succ]
  refine wpAnyH_take (i := 7) (oi := ?a7o) (v := ?a7v) ?a7h (by kernel_rfl) (by kernel_rfl) (by kernel_rfl) ?a7q ?a7y hHeld ?a7r
  case a7h => (simp only [List.getElem?_toArray, List.getElem?_cons_succ, List.getElem?_cons_zero]; rfl)
  case a7q => exact fun _ _ _ h => h
  case a7y => (refine Or.inl ⟨by first | kernel_rfl | rfl, ?_⟩; intro w hSw; (try dsimp only at hSw); obtain ⟨⟨x0, x1, x2, x3, x4, x5, x6, x7, x8⟩, ⟨n0, n1, nf0, nf1, nlt⟩, hb7⟩ := hSw; dsimp only at x0 x1 x2 x3 x4 x5 x6 x7 x8; have hln := hlen _ hb7; have b0 := (hb7.cell (p := ⟨b, 0, none⟩) hblt).trans hc0; have b2 := (hb7.cell (p := ⟨b, 2, none⟩) hblt).trans hc2; go_simp <;> (try with_reducible rfl))
  try simp only [Act.put, List.setIfInBounds_toArray, List.set_cons_zero, List.set_cons_succ]
  refine wpAnyH_take (i := 8) (oi := ?a8o) (v := ?a8v) ?a8h (by kernel_rfl) (by kernel_rfl) (by kernel_rfl) ?a8q ?a8y hHeld ?a8r
  case a8h => (simp only [List.getElem?_toArray, List.getElem?_cons_succ, List.getElem?_cons_zero]; rfl)
  case a8q => exact fun _ _ _ h => h
  case a8y => (refine Or.inl ⟨by first | kernel_rfl | rfl, ?_⟩; intro w hSw; (try dsimp only at hSw); obtain ⟨⟨x0, x1, x2, x3, x4, x5, x6, x7, x8⟩, ⟨n0, n1, nf0, nf1, nlt⟩, hb7⟩ := hSw; dsimp only at x0 x1 x2 x3 x4 x5 x6 x7 x8; have hln := hlen _ hb7; have b0 := (hb7.cell (p := ⟨b, 0, none⟩) hblt).trans hc0; have b2 := (hb7.cell (p := ⟨b, 2, none⟩) hblt).trans hc2; go_simp <;> (try with_reducible rfl))
  try simp only [Act.put, List.setIfInBounds_toArray, List.set_cons_zero, List.set_cons_succ]
  refine wpAnyH_done (by kernel_rfl) ?_ _
  go_wp2
  go_ret
  exact ⟨(by rw [HE.out]; rfl), by rw [HS.out]; exact Buf.kept HH.out HBB.out hHeld.bel, FrF.of hHeld.bel⟩
set_option maxHeartbeats 8000000 in
theorem offer_has {w : World} {B b : Nat} {mv : Option Nat} {ov : Value} {S : CS} {F : Nat → Prop} (h : CbAt w B b mv ov S F) (hB : B ≤ w.heap.size) (x : Rd) (hN : Ns w x.dv x.r.d) (hf : x.r.fits) (hdl : x.r.d.length ≤ 1000000) (hx : x.r.ok = true) (hq : ¬ x.r.st.q < atL S.out x.r.st.s + 1) (hh : hasB S.L x.r.st.s x.r.st.q = true) : Calls Try.prog 16 #[.pointer (some ⟨b, 0, none⟩), recV x.r x.dv] w (OfferDone w B b S F x.r) := by
  have hal := (Below.refl w.heap.size w).alloc (Nat.le_refl _) (box9 x)
  have hh1 := R9.new w x
  have HE := Lib.hid (show offE S x.r = 1 from offE_known hx (by unfold knownB; rw [hh, Bool.or_true]))
  have HS := Lib.hid (show offS S x.r = S from offS_no (by rw [HE.out]; decide))
  have hc0 := h.c0
  have hc2 := h.c2
  have hblt := h.lt
  have kck := check6_is x.r x.dv _ (Ns.later hN hal) hf
  rw [Rec.err_ok.2 hx] at kck
  have HH := Lib.hid h
  have HN := Lib.hid hN
  have HX := Lib.hid hx
  have HDL := Lib.hid hdl
  have HBB := Lib.hid hB
  have HAL := Lib.hid hal
  have HH1 := Lib.hid hh1
  have hlen := fun (W : World) (hb : Below w.heap.size w W) => fun T => (h.rb.later hb).lenrun T
  obtain ⟨i1, i2⟩ := okI hx
  have kf := fun (W : World) (hb : Below w.heap.size w W) => follows_is (h.rb.later hb) x.r.st.s i1
  have kh := fun (W : World) (hb : Below w.heap.size w W) => has_is (h.rb.later hb) x.r.st.s x.r.st.q i1 i2
  have kd := fun (W : World) (hb : Below w.heap.size w W) => due_is (h.later hb) x (Ns.later hN hb) i1
  obtain ⟨ln, hln⟩ : ∃ z, S.L.length = z := ⟨_, rfl⟩
  rw [hln] at hlen
  have HLN := Lib.hid hln
  obtain ⟨nx, hnx⟩ : ∃ z, atL S.out x.r.st.s + 1 = z := ⟨_, rfl⟩
  obtain ⟨rm, hrm⟩ : ∃ z, S.room = z := ⟨_, rfl⟩
  rw [hrm] at hc0
  rw [hnx] at kf
  have hfl := field_k x.r.st.s nx
  unfold kV at kf kh
  have hq1 : ¬ x.r.st.q < nx := by rw [← hnx]; exact hq
  rw [hh] at kh
  clear kd hq
  obtain ⟨⟨rk, rs, rt, rv, rtier, ⟨rc, rst, rq⟩, rd⟩, ra, rcc⟩ := x
  unfold recV Rd.dv at *
  dsimp only at *
  unfold box9 at *
  dsimp only at *
  clear h hN hx hdl hB hal hh1 hln hf hnx hrm i1 i2 hh
  go_enter Try.func16, Try.ntmps16
  go_upto_region 4 with (go_at_call 38; (with_reducible refine kck.mono ?_); rintro e w2 ⟨rfl, hb2⟩; (have HB2 := Lib.hid hb2); (obtain ⟨x0, x1, x2, x3, x4, x5, x6, x7, x8⟩ := HH1.out.later hb2); (dsimp only at x0 x1 x2 x3 x4 x5 x6 x7 x8); clear hb2)
  have HHO : HO w w.heap.size w2.heap.size ⟨⟨rk, rs, rt, rv, rtier, ⟨rc, rst, rq⟩, rd⟩, ra, rcc⟩ rst rq (w2.alloc (nbox rst rq)) := ⟨(HH1.out.later HB2.out).later ((Below.refl _ _).alloc (Nat.le_refl _) _), N2.of (new_block (Below.refl _ _)), bel_new (bel_next HAL.out HB2.out) _⟩
  unfold nbox at HHO
  obtain ⟨N, hN9⟩ : ∃ z, w2.heap.size = z := ⟨_, rfl⟩
  rw [hN9] at HHO ⊢
  clear hN9 x0 x1 x2 x3 x4 x5 x6 x7 x8
  refine wp_region_held_drew (S := (HO w w.heap.size N ⟨⟨rk, rs, rt, rv, rtier, ⟨rc, rst, rq⟩, rd⟩, ra, rcc⟩ rst rq)) (by kernel_rfl) HHO.drew (fun hHeld => ?_)
  refine wpAnyH_take (i := 0) (oi := ?a1o) (v := ?a1v) ?a1h (by kernel_rfl) (by kernel_rfl) (by kernel_rfl) ?a1q ?a1y hHeld ?a1r
  case a1h => (simp only [List.getElem?_toArray, List.getElem?_cons_zero]; rfl)
  case a1q => exact fun _ _ _ h => h
  case a1y => (refine Or.inl ⟨by first | kernel_rfl | rfl, ?_⟩; intro w hSw; (try dsimp only at hSw); obtain ⟨⟨x0, x1, x2, x3, x4, x5, x6, x7, x8⟩, ⟨n0, n1, nf0, nf1, nlt⟩, hb7⟩ := hSw; dsimp only at x0 x1 x2 x3 x4 x5 x6 x7 x8; have hln := hlen _ hb7; have b0 := (hb7.cell (p := ⟨b, 0, none⟩) hblt).trans hc0; have b2 := (hb7.cell (p := ⟨b, 2, none⟩) hblt).trans hc2; go_simp <;> (try with_reducible rfl))
  try simp only [Act.put, List.setIfInBounds_toArray, List.set_cons_zero, List.set_cons_succ]
  refine wpAnyH_take (i := 1) (oi := ?a2o) (v := ?a2v) ?a2h (by kernel_rfl) (by kernel_rfl) (by kernel_rfl) ?a2q ?a2y hHeld ?a2r
  case a2h => (simp only [List.getElem?_toArray, List.getElem?_cons_succ, List.getElem?_cons_zero]; rfl)
  case a2q => exact fun _ _ _ h => h
  case a2y => (refine Or.inl ⟨by first | kernel_rfl | rfl, ?_⟩; intro w hSw; (try dsimp only at hSw); obtain ⟨⟨x0, x1, x2, x3, x4, x5, x6, x7, x8⟩, ⟨n0, n1, nf0, nf1, nlt⟩, hb7⟩ := hSw; dsimp only at x0 x1 x2 x3 x4 x5 x6 x7 x8; have hln := hlen _ hb7; have b0 := (hb7.cell (p := ⟨b, 0, none⟩) hblt).trans hc0; have b2 := (hb7.cell (p := ⟨b, 2, none⟩) hblt).trans hc2; go_simp <;> (try with_reducible rfl))
  try simp only [Act.put, List.setIfInBounds_toArray, List.set_cons_zero, List.set_cons_succ]
  refine wpAnyH_take (i := 2) (oi := ?a3o) (v := ?a3v) ?a3h (by kernel_rfl) (by kernel_rfl) (by kernel_rfl) ?a3q ?a3y hHeld ?a3r
  case a3h => (simp only [List.getElem?_toArray, List.getElem?_cons_succ, List.getElem?_cons_zero]; rfl)
  case a3q => exact fun _ _ _ h => h
  case a3y => (refine Or.inl ⟨by first | kernel_rfl | rfl, ?_⟩; intro w hSw; (try dsimp only at hSw); obtain ⟨⟨x0, x1, x2, x3, x4, x5, x6, x7, x8⟩, ⟨n0, n1, nf0, nf1, nlt⟩, hb7⟩ := hSw; dsimp only at x0 x1 x2 x3 x4 x5 x6 x7 x8; have hln := hlen _ hb7; have b0 := (hb7.cell (p := ⟨b, 0, none⟩) hblt).trans hc0; have b2 := (hb7.cell (p := ⟨b, 2, none⟩) hblt).trans hc2; go_simp <;> (try with_reducible rfl))
  try simp only [Act.put, List.setIfInBounds_toArray, List.set_cons_zero, List.set_cons_succ]
  refine wpAnyH_take (i := 3) (oi := ?a4o) (v := ?a4v) ?a4h (by kernel_rfl) (by kernel_rfl) (by kernel_rfl) ?a4q ?a4y hHeld ?a4r
  case a4h => (simp only [List.getElem?_toArray, List.getElem?_cons_succ, List.getElem?_cons_zero]; rfl)
  case a4q => exact fun _ _ _ h => h
  case a4y => (refine Or.inl ⟨by first | kernel_rfl | rfl, ?_⟩; intro w hSw; (try dsimp only at hSw); obtain ⟨⟨x0, x1, x2, x3, x4, x5, x6, x7, x8⟩, ⟨n0, n1, nf0, nf1, nlt⟩, hb7⟩ := hSw; dsimp only at x0 x1 x2 x3 x4 x5 x6 x7 x8; have hln := hlen _ hb7; have b0 := (hb7.cell (p := ⟨b, 0, none⟩) hblt).trans hc0; have b2 := (hb7.cell (p := ⟨b, 2, none⟩) hblt).trans hc2; go_simp <;> (try with_reducible rfl))
  try simp only [Act.put, List.setIfInBounds_toArray, List.set_cons_zero, List.set_cons_succ]
  refine wpAnyH_take (i := 4) (oi := ?a5o) (v := ?a5v) ?a5h (by kernel_rfl) (by kernel_rfl) (by kernel_rfl) ?a5q ?a5y hHeld ?a5r
  case a5h => (simp only [List.getElem?_toArray, List.getElem?_cons_succ, List.getElem?_cons_zero]; rfl)
  case a5q => exact fun _ _ _ h => h
  case a5y => (refine Or.inl ⟨by first | kernel_rfl | rfl, ?_⟩; intro w hSw; (try dsimp only at hSw); obtain ⟨⟨x0, x1, x2, x3, x4, x5, x6, x7, x8⟩, ⟨n0, n1, nf0, nf1, nlt⟩, hb7⟩ := hSw; dsimp only at x0 x1 x2 x3 x4 x5 x6 x7 x8; have hln := hlen _ hb7; have b0 := (hb7.cell (p := ⟨b, 0, none⟩) hblt).trans hc0; have b2 := (hb7.cell (p := ⟨b, 2, none⟩) hblt).trans hc2; go_simp <;> (try with_reducible rfl))
  try simp only [Act.put, List.setIfInBounds_toArray, List.set_cons_zero, List.set_cons_succ]
  refine wpAnyH_ready (rs := [5]) (by kernel_rfl) (by simp) ?_
  refine (AllReadyH.cons rfl (fun K hK => ?_) AllReadyH.nil)
  go_simp
  (go_at_call 32; (with_reducible refine (kf _ hHeld.bel).mono ?_); rintro e w4 ⟨rfl, hb4⟩; (have hHeld := hHeld.later hb4); clear hb4)
  refine hK.out _ _ (hHeld) (fun hHeld => ?_)
  clear hK K
  try simp only [Act.put, List.setIfInBounds_toArray, List.set_cons_zero, List.set_cons_succ]
  refine wpAnyH_take (i := 6) (oi := ?a6o) (v := ?a6v) ?a6h (by kernel_rfl) (by kernel_rfl) (by kernel_rfl) ?a6q ?a6y hHeld ?a6r
  case a6h => (simp only [List.getElem?_toArray, List.getElem?_cons_succ, List.getElem?_cons_zero]; rfl)
  case a6q => exact fun _ _ _ h => h
  case a6y => (refine Or.inl ⟨by first | kernel_rfl | rfl, ?_⟩; intro w hSw; (try dsimp only at hSw); obtain ⟨⟨x0, x1, x2, x3, x4, x5, x6, x7, x8⟩, ⟨n0, n1, nf0, nf1, nlt⟩, hb7⟩ := hSw; dsimp only at x0 x1 x2 x3 x4 x5 x6 x7 x8; have hln := hlen _ hb7; have b0 := (hb7.cell (p := ⟨b, 0, none⟩) hblt).trans hc0; have b2 := (hb7.cell (p := ⟨b, 2, none⟩) hblt).trans hc2; go_simp <;> (try with_reducible rfl))
  try simp only [Act.put, List.setIfInBounds_toArray, List.set_cons_zero, List.set_cons_succ]
  refine wpAnyH_take (i := 7) (oi := ?a7o) (v := ?a7v) ?a7h (by kernel_rfl) (by kernel_rfl) (by kernel_rfl) ?a7q ?a7y hHeld ?a7r
  case a7h => (simp only [List.getElem?_toArray, List.getElem?_cons_succ, List.getElem?_cons_zero]; rfl)
  case a7q => exact fun _ _ _ h => h
  case a7y => (refine Or.inl ⟨by first | kernel_rfl | rfl, ?_⟩; intro w hSw; (try dsimp only at hSw); obtain ⟨⟨x0, x1, x2, x3, x4, x5, x6, x7, x8⟩, ⟨n0, n1, nf0, nf1, nlt⟩, hb7⟩ := hSw; dsimp only at x0 x1 x2 x3 x4 x5 x6 x7 x8; have hln := hlen _ hb7; have b0 := (hb7.cell (p := ⟨b, 0, none⟩) hblt).trans hc0; have b2 := (hb7.cell (p := ⟨b, 2, none⟩) hblt).trans hc2; go_simp <;> (try with_reducible rfl))
  try simp only [Act.put, List.setIfInBounds_toArray, List.set_cons_zero, List.set_cons_succ]
  refine wpAnyH_take (i := 8) (oi := ?a8o) (v := ?a8v) ?a8h (by kernel_rfl) (by kernel_rfl) (by kernel_rfl) ?a8q ?a8y hHeld ?a8r
  case a8h => (simp only [List.getElem?_toArray, List.getElem?_cons_succ, List.getElem?_cons_zero]; rfl)
  case a8q => exact fun _ _ _ h => h
  case a8y => (refine Or.inl ⟨by first | kernel_rfl | rfl, ?_⟩; intro w hSw; (try dsimp only at hSw); obtain ⟨⟨x0, x1, x2, x3, x4, x5, x6, x7, x8⟩, ⟨n0, n1, nf0, nf1, nlt⟩, hb7⟩ := hSw; dsimp only at x0 x1 x2 x3 x4 x5 x6 x7 x8; have hln := hlen _ hb7; have b0 := (hb7.cell (p := ⟨b, 0, none⟩) hblt).trans hc0; have b2 := (hb7.cell (p := ⟨b, 2, none⟩) hblt).trans hc2; go_simp <;> (try with_reducible rfl))
  try simp only [Act.put, List.setIfInBounds_toArray, List.set_cons_zero, List.set_cons_succ]
  refine wpAnyH_done (by kernel_rfl) ?_ _
  obtain ⟨⟨x0, x1, x2, x3, x4, x5, x6, x7, x8⟩, ⟨n0, n1, nf0, nf1, nlt⟩, hb7⟩ := id hHeld
  dsimp only at x0 x1 x2 x3 x4 x5 x6 x7 x8
  clear hb7
  go_wp2_with (go_at_call 39; (with_reducible refine (kh _ hHeld.bel).mono ?_); rintro e w5 ⟨rfl, hb5⟩; (have hHeld := hHeld.later hb5); clear hb5)
  go_wp2
  go_ret
  exact ⟨(by rw [HE.out]; rfl), by rw [HS.out]; exact Buf.kept HH.out HBB.out hHeld.bel, FrF.of hHeld.bel⟩
set_option maxHeartbeats 8000000 in
theorem offer_full {w : World} {B b : Nat} {mv : Option Nat} {ov : Value} {S : CS} {F : Nat → Prop} (h : CbAt w B b mv ov S F) (hB : B ≤ w.heap.size) (x : Rd) (hN : Ns w x.dv x.r.d) (hf : x.r.fits) (hdl : x.r.d.length ≤ 1000000) (hx : x.r.ok = true) (hq : ¬ x.r.st.q < atL S.out x.r.st.s + 1) (hh : hasB S.L x.r.st.s x.r.st.q = false) (hr : S.room ≤ (S.L.length : Int)) (hd : dueB S x.r = false) : Calls Try.prog 16 #[.pointer (some ⟨b, 0, none⟩), recV x.r x.dv] w (OfferDone w B b S F x.r) := by
  have hal := (Below.refl w.heap.size w).alloc (Nat.le_refl _) (box9 x)
  have hh1 := R9.new w x
  have HE := Lib.hid (show offE S x.r = 2 from offE_full hx (Bool.or_eq_false_iff.2 ⟨decide_eq_false hq, hh⟩) ⟨hr, hd⟩)
  have HS := Lib.hid (show offS S x.r = S from offS_no (by rw [HE.out]; decide))
  have hc0 := h.c0
  have hc2 := h.c2
  have hblt := h.lt
  have kck := check6_is x.r x.dv _ (Ns.later hN hal) hf
  rw [Rec.err_ok.2 hx] at kck
  have HH := Lib.hid h
  have HN := Lib.hid hN
  have HX := Lib.hid hx
  have HDL := Lib.hid hdl
  have HBB := Lib.hid hB
  have HAL := Lib.hid hal
  have HH1 := Lib.hid hh1
  have hlen := fun (W : World) (hb : Below w.heap.size w W) => fun T => (h.rb.later hb).lenrun T
  obtain ⟨i1, i2⟩ := okI hx
  have kf := fun (W : World) (hb : Below w.heap.size w W) => follows_is (h.rb.later hb) x.r.st.s i1
  have kh := fun (W : World) (hb : Below w.heap.size w W) => has_is (h.rb.later hb) x.r.st.s x.r.st.q i1 i2
  have kd := fun (W : World) (hb : Below w.heap.size w W) => due_is (h.later hb) x (Ns.later hN hb) i1
  obtain ⟨ln, hln⟩ : ∃ z, S.L.length = z := ⟨_, rfl⟩
  rw [hln] at hlen
  have HLN := Lib.hid hln
  obtain ⟨nx, hnx⟩ : ∃ z, atL S.out x.r.st.s + 1 = z := ⟨_, rfl⟩
  obtain ⟨rm, hrm⟩ : ∃ z, S.room = z := ⟨_, rfl⟩
  rw [hrm] at hc0
  rw [hnx] at kf
  have hfl := field_k x.r.st.s nx
  unfold kV at kf kh
  have hq1 : ¬ x.r.st.q < nx := by rw [← hnx]; exact hq
  rw [hh] at kh
  have hdz := hd
  rw [hd] at kd
  have hr1 : decide (rm ≤ (ln : Int)) = true := decide_eq_true (by rw [← hrm, ← hln]; exact hr)
  clear hq
  obtain ⟨⟨rk, rs, rt, rv, rtier, ⟨rc, rst, rq⟩, rd⟩, ra, rcc⟩ := x
  unfold recV Rd.dv at *
  dsimp only at *
  unfold box9 at *
  dsimp only at *
  clear h hN hx hdl hB hal hh1 hln hf hnx hrm i1 i2 hh hr hd hdz
  go_enter Try.func16, Try.ntmps16
  go_upto_region 4 with (go_at_call 38; (with_reducible refine kck.mono ?_); rintro e w2 ⟨rfl, hb2⟩; (have HB2 := Lib.hid hb2); (obtain ⟨x0, x1, x2, x3, x4, x5, x6, x7, x8⟩ := HH1.out.later hb2); (dsimp only at x0 x1 x2 x3 x4 x5 x6 x7 x8); clear hb2)
  have HHO : HO w w.heap.size w2.heap.size ⟨⟨rk, rs, rt, rv, rtier, ⟨rc, rst, rq⟩, rd⟩, ra, rcc⟩ rst rq (w2.alloc (nbox rst rq)) := ⟨(HH1.out.later HB2.out).later ((Below.refl _ _).alloc (Nat.le_refl _) _), N2.of (new_block (Below.refl _ _)), bel_new (bel_next HAL.out HB2.out) _⟩
  unfold nbox at HHO
  obtain ⟨N, hN9⟩ : ∃ z, w2.heap.size = z := ⟨_, rfl⟩
  rw [hN9] at HHO ⊢
  clear hN9 x0 x1 x2 x3 x4 x5 x6 x7 x8
  refine wp_region_held_drew (S := (HO w w.heap.size N ⟨⟨rk, rs, rt, rv, rtier, ⟨rc, rst, rq⟩, rd⟩, ra, rcc⟩ rst rq)) (by kernel_rfl) HHO.drew (fun hHeld => ?_)
  refine wpAnyH_take (i := 0) (oi := ?a1o) (v := ?a1v) ?a1h (by kernel_rfl) (by kernel_rfl) (by kernel_rfl) ?a1q ?a1y hHeld ?a1r
  case a1h => (simp only [List.getElem?_toArray, List.getElem?_cons_zero]; rfl)
  case a1q => exact fun _ _ _ h => h
  case a1y => (refine Or.inl ⟨by first | kernel_rfl | rfl, ?_⟩; intro w hSw; (try dsimp only at hSw); obtain ⟨⟨x0, x1, x2, x3, x4, x5, x6, x7, x8⟩, ⟨n0, n1, nf0, nf1, nlt⟩, hb7⟩ := hSw; dsimp only at x0 x1 x2 x3 x4 x5 x6 x7 x8; have hln := hlen _ hb7; have b0 := (hb7.cell (p := ⟨b, 0, none⟩) hblt).trans hc0; have b2 := (hb7.cell (p := ⟨b, 2, none⟩) hblt).trans hc2; go_simp <;> (try with_reducible rfl))
  try simp only [Act.put, List.setIfInBounds_toArray, List.set_cons_zero, List.set_cons_succ]
  refine wpAnyH_take (i := 1) (oi := ?a2o) (v := ?a2v) ?a2h (by kernel_rfl) (by kernel_rfl) (by kernel_rfl) ?a2q ?a2y hHeld ?a2r
  case a2h => (simp only [List.getElem?_toArray, List.getElem?_cons_succ, List.getElem?_cons_zero]; rfl)
  case a2q => exact fun _ _ _ h => h
  case a2y => (refine Or.inl ⟨by first | kernel_rfl | rfl, ?_⟩; intro w hSw; (try dsimp only at hSw); obtain ⟨⟨x0, x1, x2, x3, x4, x5, x6, x7, x8⟩, ⟨n0, n1, nf0, nf1, nlt⟩, hb7⟩ := hSw; dsimp only at x0 x1 x2 x3 x4 x5 x6 x7 x8; have hln := hlen _ hb7; have b0 := (hb7.cell (p := ⟨b, 0, none⟩) hblt).trans hc0; have b2 := (hb7.cell (p := ⟨b, 2, none⟩) hblt).trans hc2; go_simp <;> (try with_reducible rfl))
  try simp only [Act.put, List.setIfInBounds_toArray, List.set_cons_zero, List.set_cons_succ]
  refine wpAnyH_take (i := 2) (oi := ?a3o) (v := ?a3v) ?a3h (by kernel_rfl) (by kernel_rfl) (by kernel_rfl) ?a3q ?a3y hHeld ?a3r
  case a3h => (simp only [List.getElem?_toArray, List.getElem?_cons_succ, List.getElem?_cons_zero]; rfl)
  case a3q => exact fun _ _ _ h => h
  case a3y => (refine Or.inl ⟨by first | kernel_rfl | rfl, ?_⟩; intro w hSw; (try dsimp only at hSw); obtain ⟨⟨x0, x1, x2, x3, x4, x5, x6, x7, x8⟩, ⟨n0, n1, nf0, nf1, nlt⟩, hb7⟩ := hSw; dsimp only at x0 x1 x2 x3 x4 x5 x6 x7 x8; have hln := hlen _ hb7; have b0 := (hb7.cell (p := ⟨b, 0, none⟩) hblt).trans hc0; have b2 := (hb7.cell (p := ⟨b, 2, none⟩) hblt).trans hc2; go_simp <;> (try with_reducible rfl))
  try simp only [Act.put, List.setIfInBounds_toArray, List.set_cons_zero, List.set_cons_succ]
  refine wpAnyH_take (i := 3) (oi := ?a4o) (v := ?a4v) ?a4h (by kernel_rfl) (by kernel_rfl) (by kernel_rfl) ?a4q ?a4y hHeld ?a4r
  case a4h => (simp only [List.getElem?_toArray, List.getElem?_cons_succ, List.getElem?_cons_zero]; rfl)
  case a4q => exact fun _ _ _ h => h
  case a4y => (refine Or.inl ⟨by first | kernel_rfl | rfl, ?_⟩; intro w hSw; (try dsimp only at hSw); obtain ⟨⟨x0, x1, x2, x3, x4, x5, x6, x7, x8⟩, ⟨n0, n1, nf0, nf1, nlt⟩, hb7⟩ := hSw; dsimp only at x0 x1 x2 x3 x4 x5 x6 x7 x8; have hln := hlen _ hb7; have b0 := (hb7.cell (p := ⟨b, 0, none⟩) hblt).trans hc0; have b2 := (hb7.cell (p := ⟨b, 2, none⟩) hblt).trans hc2; go_simp <;> (try with_reducible rfl))
  try simp only [Act.put, List.setIfInBounds_toArray, List.set_cons_zero, List.set_cons_succ]
  refine wpAnyH_take (i := 4) (oi := ?a5o) (v := ?a5v) ?a5h (by kernel_rfl) (by kernel_rfl) (by kernel_rfl) ?a5q ?a5y hHeld ?a5r
  case a5h => (simp only [List.getElem?_toArray, List.getElem?_cons_succ, List.getElem?_cons_zero]; rfl)
  case a5q => exact fun _ _ _ h => h
  case a5y => (refine Or.inl ⟨by first | kernel_rfl | rfl, ?_⟩; intro w hSw; (try dsimp only at hSw); obtain ⟨⟨x0, x1, x2, x3, x4, x5, x6, x7, x8⟩, ⟨n0, n1, nf0, nf1, nlt⟩, hb7⟩ := hSw; dsimp only at x0 x1 x2 x3 x4 x5 x6 x7 x8; have hln := hlen _ hb7; have b0 := (hb7.cell (p := ⟨b, 0, none⟩) hblt).trans hc0; have b2 := (hb7.cell (p := ⟨b, 2, none⟩) hblt).trans hc2; go_simp <;> (try with_reducible rfl))
  try simp only [Act.put, List.setIfInBounds_toArray, List.set_cons_zero, List.set_cons_succ]
  refine wpAnyH_ready (rs := [5]) (by kernel_rfl) (by simp) ?_
  refine (AllReadyH.cons rfl (fun K hK => ?_) AllReadyH.nil)
  go_simp
  (go_at_call 32; (with_reducible refine (kf _ hHeld.bel).mono ?_); rintro e w4 ⟨rfl, hb4⟩; (have hHeld := hHeld.later hb4); clear hb4)
  refine hK.out _ _ (hHeld) (fun hHeld => ?_)
  clear hK K
  try simp only [Act.put, List.setIfInBounds_toArray, List.set_cons_zero, List.set_cons_succ]
  refine wpAnyH_take (i := 6) (oi := ?a6o) (v := ?a6v) ?a6h (by kernel_rfl) (by kernel_rfl) (by kernel_rfl) ?a6q ?a6y hHeld ?a6r
  case a6h => (simp only [List.getElem?_toArray, List.getElem?_cons_succ, List.getElem?_cons_zero]; rfl)
  case a6q => exact fun _ _ _ h => h
  case a6y => (refine Or.inl ⟨by first | kernel_rfl | rfl, ?_⟩; intro w hSw; (try dsimp only at hSw); obtain ⟨⟨x0, x1, x2, x3, x4, x5, x6, x7, x8⟩, ⟨n0, n1, nf0, nf1, nlt⟩, hb7⟩ := hSw; dsimp only at x0 x1 x2 x3 x4 x5 x6 x7 x8; have hln := hlen _ hb7; have b0 := (hb7.cell (p := ⟨b, 0, none⟩) hblt).trans hc0; have b2 := (hb7.cell (p := ⟨b, 2, none⟩) hblt).trans hc2; go_simp <;> (try with_reducible rfl))
  try simp only [Act.put, List.setIfInBounds_toArray, List.set_cons_zero, List.set_cons_succ]
  refine wpAnyH_take (i := 7) (oi := ?a7o) (v := ?a7v) ?a7h (by kernel_rfl) (by kernel_rfl) (by kernel_rfl) ?a7q ?a7y hHeld ?a7r
  case a7h => (simp only [List.getElem?_toArray, List.getElem?_cons_succ, List.getElem?_cons_zero]; rfl)
  case a7q => exact fun _ _ _ h => h
  case a7y => (refine Or.inl ⟨by first | kernel_rfl | rfl, ?_⟩; intro w hSw; (try dsimp only at hSw); obtain ⟨⟨x0, x1, x2, x3, x4, x5, x6, x7, x8⟩, ⟨n0, n1, nf0, nf1, nlt⟩, hb7⟩ := hSw; dsimp only at x0 x1 x2 x3 x4 x5 x6 x7 x8; have hln := hlen _ hb7; have b0 := (hb7.cell (p := ⟨b, 0, none⟩) hblt).trans hc0; have b2 := (hb7.cell (p := ⟨b, 2, none⟩) hblt).trans hc2; go_simp <;> (try with_reducible rfl))
  try simp only [Act.put, List.setIfInBounds_toArray, List.set_cons_zero, List.set_cons_succ]
  refine wpAnyH_take (i := 8) (oi := ?a8o) (v := ?a8v) ?a8h (by kernel_rfl) (by kernel_rfl) (by kernel_rfl) ?a8q ?a8y hHeld ?a8r
  case a8h => (simp only [List.getElem?_toArray, List.getElem?_cons_succ, List.getElem?_cons_zero]; rfl)
  case a8q => exact fun _ _ _ h => h
  case a8y => (refine Or.inl ⟨by first | kernel_rfl | rfl, ?_⟩; intro w hSw; (try dsimp only at hSw); obtain ⟨⟨x0, x1, x2, x3, x4, x5, x6, x7, x8⟩, ⟨n0, n1, nf0, nf1, nlt⟩, hb7⟩ := hSw; dsimp only at x0 x1 x2 x3 x4 x5 x6 x7 x8; have hln := hlen _ hb7; have b0 := (hb7.cell (p := ⟨b, 0, none⟩) hblt).trans hc0; have b2 := (hb7.cell (p := ⟨b, 2, none⟩) hblt).trans hc2; go_simp <;> (try with_reducible rfl))
  try simp only [Act.put, List.setIfInBounds_toArray, List.set_cons_zero, List.set_cons_succ]
  refine wpAnyH_done (by kernel_rfl) ?_ _
  obtain ⟨⟨x0, x1, x2, x3, x4, x5, x6, x7, x8⟩, ⟨n0, n1, nf0, nf1, nlt⟩, hb7⟩ := id hHeld
  dsimp only at x0 x1 x2 x3 x4 x5 x6 x7 x8
  clear hb7
  go_wp2_with (go_at_call 39; (with_reducible refine (kh _ hHeld.bel).mono ?_); rintro e w5 ⟨rfl, hb5⟩; (have hHeld := hHeld.later hb5); clear hb5)
  clear x0 x1 x2 x3 x4 x5 x6 x7 x8 n0 n1 nf0 nf1 nlt
  refine wp_region_held_drew (S := (HO w w.heap.size N ⟨⟨rk, rs, rt, rv, rtier, ⟨rc, rst, rq⟩, rd⟩, ra, rcc⟩ rst rq)) (by kernel_rfl) hHeld.drew (fun hHeld => ?_)
  refine wpAnyH_take (i := 0) (oi := ?c1o) (v := ?c1v) ?c1h (by kernel_rfl) (by kernel_rfl) (by kernel_rfl) ?c1q ?c1y hHeld ?c1r
  case c1h => (simp only [List.getElem?_toArray, List.getElem?_cons_zero]; rfl)
  case c1q => exact fun _ _ _ h => h
  case c1y => (refine Or.inl ⟨by first | kernel_rfl | rfl, ?_⟩; intro w hSw; (try dsimp only at hSw); obtain ⟨⟨x0, x1, x2, x3, x4, x5, x6, x7, x8⟩, ⟨n0, n1, nf0, nf1, nlt⟩, hb7⟩ := hSw; dsimp only at x0 x1 x2 x3 x4 x5 x6 x7 x8; have hln := hlen _ hb7; have b0 := (hb7.cell (p := ⟨b, 0, none⟩) hblt).trans hc0; have b2 := (hb7.cell (p := ⟨b, 2, none⟩) hblt).trans hc2; go_simp <;> (try with_reducible rfl))
  try simp only [Act.put, List.setIfInBounds_toArray, List.set_cons_zero, List.set_cons_succ]
  refine wpAnyH_take (i := 1) (oi := ?c2o) (v := ?c2v) ?c2h (by kernel_rfl) (by kernel_rfl) (by kernel_rfl) ?c2q ?c2y hHeld ?c2r
  case c2h => (simp only [List.getElem?_toArray, List.getElem?_cons_succ, List.getElem?_cons_zero]; rfl)
  case c2q => exact fun _ _ _ h => h
  case c2y => (refine Or.inl ⟨by first | kernel_rfl | rfl, ?_⟩; intro w hSw; (try dsimp only at hSw); obtain ⟨⟨x0, x1, x2, x3, x4, x5, x6, x7, x8⟩, ⟨n0, n1, nf0, nf1, nlt⟩, hb7⟩ := hSw; dsimp only at x0 x1 x2 x3 x4 x5 x6 x7 x8; have hln := hlen _ hb7; have b0 := (hb7.cell (p := ⟨b, 0, none⟩) hblt).trans hc0; have b2 := (hb7.cell (p := ⟨b, 2, none⟩) hblt).trans hc2; go_simp <;> (try with_reducible rfl))
  try simp only [Act.put, List.setIfInBounds_toArray, List.set_cons_zero, List.set_cons_succ]
  refine wpAnyH_take (i := 2) (oi := ?c3o) (v := ?c3v) ?c3h (by kernel_rfl) (by kernel_rfl) (by kernel_rfl) ?c3q ?c3y hHeld ?c3r
  case c3h => (simp only [List.getElem?_toArray, List.getElem?_cons_succ, List.getElem?_cons_zero]; rfl)
  case c3q => exact fun _ _ _ h => h
  case c3y => (refine Or.inl ⟨by first | kernel_rfl | rfl, ?_⟩; intro w hSw; (try dsimp only at hSw); obtain ⟨⟨x0, x1, x2, x3, x4, x5, x6, x7, x8⟩, ⟨n0, n1, nf0, nf1, nlt⟩, hb7⟩ := hSw; dsimp only at x0 x1 x2 x3 x4 x5 x6 x7 x8; have hln := hlen _ hb7; have b0 := (hb7.cell (p := ⟨b, 0, none⟩) hblt).trans hc0; have b2 := (hb7.cell (p := ⟨b, 2, none⟩) hblt).trans hc2; go_simp <;> (try with_reducible rfl))
  try simp only [Act.put, List.setIfInBounds_toArray, List.set_cons_zero, List.set_cons_succ]
  refine wpAnyH_take (i := 3) (oi := ?c4o) (v := ?c4v) ?c4h (by kernel_rfl) (by kernel_rfl) (by kernel_rfl) ?c4q ?c4y hHeld ?c4r
  case c4h => (simp only [List.getElem?_toArray, List.getElem?_cons_succ, List.getElem?_cons_zero]; rfl)
  case c4q => exact fun _ _ _ h => h
  case c4y => (refine Or.inl ⟨by first | kernel_rfl | rfl, ?_⟩; intro w hSw; (try dsimp only at hSw); obtain ⟨⟨x0, x1, x2, x3, x4, x5, x6, x7, x8⟩, ⟨n0, n1, nf0, nf1, nlt⟩, hb7⟩ := hSw; dsimp only at x0 x1 x2 x3 x4 x5 x6 x7 x8; have hln := hlen _ hb7; have b0 := (hb7.cell (p := ⟨b, 0, none⟩) hblt).trans hc0; have b2 := (hb7.cell (p := ⟨b, 2, none⟩) hblt).trans hc2; go_simp <;> (try with_reducible rfl))
  try simp only [Act.put, List.setIfInBounds_toArray, List.set_cons_zero, List.set_cons_succ]
  refine wpAnyH_take (i := 4) (oi := ?c5o) (v := ?c5v) ?c5h (by kernel_rfl) (by kernel_rfl) (by kernel_rfl) ?c5q ?c5y hHeld ?c5r
  case c5h => (simp only [List.getElem?_toArray, List.getElem?_cons_succ, List.getElem?_cons_zero]; rfl)
  case c5q => exact fun _ _ _ h => h
  case c5y => (refine Or.inl ⟨by first | kernel_rfl | rfl, ?_⟩; intro w hSw; (try dsimp only at hSw); obtain ⟨⟨x0, x1, x2, x3, x4, x5, x6, x7, x8⟩, ⟨n0, n1, nf0, nf1, nlt⟩, hb7⟩ := hSw; dsimp only at x0 x1 x2 x3 x4 x5 x6 x7 x8; have hln := hlen _ hb7; have b0 := (hb7.cell (p := ⟨b, 0, none⟩) hblt).trans hc0; have b2 := (hb7.cell (p := ⟨b, 2, none⟩) hblt).trans hc2; go_simp <;> (try with_reducible rfl))
  try simp only [Act.put, List.setIfInBounds_toArray, List.set_cons_zero, List.set_cons_succ]
  refine wpAnyH_take (i := 5) (oi := ?c6o) (v := ?c6v) ?c6h (by kernel_rfl) (by kernel_rfl) (by kernel_rfl) ?c6q ?c6y hHeld ?c6r
  case c6h => (simp only [List.getElem?_toArray, List.getElem?_cons_succ, List.getElem?_cons_zero]; rfl)
  case c6q => exact fun _ _ _ h => h
  case c6y => (refine Or.inl ⟨by first | kernel_rfl | rfl, ?_⟩; intro w hSw; (try dsimp only at hSw); obtain ⟨⟨x0, x1, x2, x3, x4, x5, x6, x7, x8⟩, ⟨n0, n1, nf0, nf1, nlt⟩, hb7⟩ := hSw; dsimp only at x0 x1 x2 x3 x4 x5 x6 x7 x8; have hln := hlen _ hb7; have b0 := (hb7.cell (p := ⟨b, 0, none⟩) hblt).trans hc0; have b2 := (hb7.cell (p := ⟨b, 2, none⟩) hblt).trans hc2; go_simp <;> (try with_reducible rfl))
  try simp only [Act.put, List.setIfInBounds_toArray, List.set_cons_zero, List.set_cons_succ]
  refine wpAnyH_take (i := 6) (oi := ?c7o) (v := ?c7v) ?c7h (by kernel_rfl) (by kernel_rfl) (by kernel_rfl) ?c7q ?c7y hHeld ?c7r
  case c7h => (simp only [List.getElem?_toArray, List.getElem?_cons_succ, List.getElem?_cons_zero]; rfl)
  case c7q => exact fun _ _ _ h => h
  case c7y => (refine Or.inl ⟨by first | kernel_rfl | rfl, ?_⟩; intro w hSw; (try dsimp only at hSw); obtain ⟨⟨x0, x1, x2, x3, x4, x5, x6, x7, x8⟩, ⟨n0, n1, nf0, nf1, nlt⟩, hb7⟩ := hSw; dsimp only at x0 x1 x2 x3 x4 x5 x6 x7 x8; have hln := hlen _ hb7; have b0 := (hb7.cell (p := ⟨b, 0, none⟩) hblt).trans hc0; have b2 := (hb7.cell (p := ⟨b, 2, none⟩) hblt).trans hc2; go_simp <;> (try with_reducible rfl))
  try simp only [Act.put, List.setIfInBounds_toArray, List.set_cons_zero, List.set_cons_succ]
  refine wpAnyH_take (i := 7) (oi := ?c8o) (v := ?c8v) ?c8h (by kernel_rfl) (by kernel_rfl) (by kernel_rfl) ?c8q ?c8y hHeld ?c8r
  case c8h => (simp only [List.getElem?_toArray, List.getElem?_cons_succ, List.getElem?_cons_zero]; rfl)
  case c8q => exact fun _ _ _ h => h
  case c8y => (refine Or.inl ⟨by first | kernel_rfl | rfl, ?_⟩; intro w hSw; (try dsimp only at hSw); obtain ⟨⟨x0, x1, x2, x3, x4, x5, x6, x7, x8⟩, ⟨n0, n1, nf0, nf1, nlt⟩, hb7⟩ := hSw; dsimp only at x0 x1 x2 x3 x4 x5 x6 x7 x8; have hln := hlen _ hb7; have b0 := (hb7.cell (p := ⟨b, 0, none⟩) hblt).trans hc0; have b2 := (hb7.cell (p := ⟨b, 2, none⟩) hblt).trans hc2; go_simp <;> (try with_reducible rfl))
  try simp only [Act.put, List.setIfInBounds_toArray, List.set_cons_zero, List.set_cons_succ]
  refine wpAnyH_take (i := 8) (oi := ?c9o) (v := ?c9v) ?c9h (by kernel_rfl) (by kernel_rfl) (by kernel_rfl) ?c9q ?c9y hHeld ?c9r
  case c9h => (simp only [List.getElem?_toArray, List.getElem?_cons_succ, List.getElem?_cons_zero]; rfl)
  case c9q => exact fun _ _ _ h => h
  case c9y => (refine Or.inl ⟨by first | kernel_rfl | rfl, ?_⟩; intro w hSw; (try dsimp only at hSw); obtain ⟨⟨x0, x1, x2, x3, x4, x5, x6, x7, x8⟩, ⟨n0, n1, nf0, nf1, nlt⟩, hb7⟩ := hSw; dsimp only at x0 x1 x2 x3 x4 x5 x6 x7 x8; have hln := hlen _ hb7; have b0 := (hb7.cell (p := ⟨b, 0, none⟩) hblt).trans hc0; have b2 := (hb7.cell (p := ⟨b, 2, none⟩) hblt).trans hc2; go_simp <;> (try with_reducible rfl))
  try simp only [Act.put, List.setIfInBounds_toArray, List.set_cons_zero, List.set_cons_succ]
  refine wpAnyH_take (i := 9) (oi := ?c10o) (v := ?c10v) ?c10h (by kernel_rfl) (by kernel_rfl) (by kernel_rfl) ?c10q ?c10y hHeld ?c10r
  case c10h => (simp only [List.getElem?_toArray, List.getElem?_cons_succ, List.getElem?_cons_zero]; rfl)
  case c10q => exact fun _ _ _ h => h
  case c10y => (refine Or.inl ⟨by first | kernel_rfl | rfl, ?_⟩; intro w hSw; (try dsimp only at hSw); obtain ⟨⟨x0, x1, x2, x3, x4, x5, x6, x7, x8⟩, ⟨n0, n1, nf0, nf1, nlt⟩, hb7⟩ := hSw; dsimp only at x0 x1 x2 x3 x4 x5 x6 x7 x8; have hln := hlen _ hb7; have b0 := (hb7.cell (p := ⟨b, 0, none⟩) hblt).trans hc0; have b2 := (hb7.cell (p := ⟨b, 2, none⟩) hblt).trans hc2; go_simp <;> (try with_reducible rfl))
  try simp only [Act.put, List.setIfInBounds_toArray, List.set_cons_zero, List.set_cons_succ]
  refine wpAnyH_take (i := 10) (oi := ?c11o) (v := ?c11v) ?c11h (by kernel_rfl) (by kernel_rfl) (by kernel_rfl) ?c11q ?c11y hHeld ?c11r
  case c11h => (simp only [List.getElem?_toArray, List.getElem?_cons_succ, List.getElem?_cons_zero]; rfl)
  case c11q => exact fun _ _ _ h => h
  case c11y => (refine Or.inl ⟨by first | kernel_rfl | rfl, ?_⟩; intro w hSw; (try dsimp only at hSw); obtain ⟨⟨x0, x1, x2, x3, x4, x5, x6, x7, x8⟩, ⟨n0, n1, nf0, nf1, nlt⟩, hb7⟩ := hSw; dsimp only at x0 x1 x2 x3 x4 x5 x6 x7 x8; have hln := hlen _ hb7; have b0 := (hb7.cell (p := ⟨b, 0, none⟩) hblt).trans hc0; have b2 := (hb7.cell (p := ⟨b, 2, none⟩) hblt).trans hc2; go_simp <;> (try with_reducible rfl))
  try simp only [Act.put, List.setIfInBounds_toArray, List.set_cons_zero, List.set_cons_succ]
  refine wpAnyH_take (i := 11) (oi := ?c12o) (v := ?c12v) ?c12h (by kernel_rfl) (by kernel_rfl) (by kernel_rfl) ?c12q ?c12y hHeld ?c12r
  case c12h => (simp only [List.getElem?_toArray, List.getElem?_cons_succ, List.getElem?_cons_zero]; rfl)
  case c12q => exact fun _ _ _ h => h
  case c12y => (refine Or.inl ⟨by first | kernel_rfl | rfl, ?_⟩; intro w hSw; (try dsimp only at hSw); obtain ⟨⟨x0, x1, x2, x3, x4, x5, x6, x7, x8⟩, ⟨n0, n1, nf0, nf1, nlt⟩, hb7⟩ := hSw; dsimp only at x0 x1 x2 x3 x4 x5 x6 x7 x8; have hln := hlen _ hb7; have b0 := (hb7.cell (p := ⟨b, 0, none⟩) hblt).trans hc0; have b2 := (hb7.cell (p := ⟨b, 2, none⟩) hblt).trans hc2; go_simp <;> (try with_reducible rfl))
  try simp only [Act.put, List.setIfInBounds_toArray, List.set_cons_zero, List.set_cons_succ]
  refine wpAnyH_take (i := 12) (oi := ?c13o) (v := ?c13v) ?c13h (by kernel_rfl) (by kernel_rfl) (by kernel_rfl) ?c13q ?c13y hHeld ?c13r
  case c13h => (simp only [List.getElem?_toArray, List.getElem?_cons_succ, List.getElem?_cons_zero]; rfl)
  case c13q => exact fun _ _ _ h => h
  case c13y => (refine Or.inl ⟨by first | kernel_rfl | rfl, ?_⟩; intro w hSw; (try dsimp only at hSw); obtain ⟨⟨x0, x1, x2, x3, x4, x5, x6, x7, x8⟩, ⟨n0, n1, nf0, nf1, nlt⟩, hb7⟩ := hSw; dsimp only at x0 x1 x2 x3 x4 x5 x6 x7 x8; have hln := hlen _ hb7; have b0 := (hb7.cell (p := ⟨b, 0, none⟩) hblt).trans hc0; have b2 := (hb7.cell (p := ⟨b, 2, none⟩) hblt).trans hc2; go_simp <;> (try with_reducible rfl))
  try simp only [Act.put, List.setIfInBounds_toArray, List.set_cons_zero, List.set_cons_succ]
  refine wpAnyH_ready (rs := [13]) (by kernel_rfl) (by simp) ?_
  refine (AllReadyH.cons rfl (fun K hK => ?_) AllReadyH.nil)
  go_simp
  (go_at_call 34; (with_reducible refine (kd _ hHeld.bel).mono ?_); rintro e w6 ⟨rfl, hb6⟩; (have hHeld := hHeld.later hb6); clear hb6)
  refine hK.out _ _ (hHeld) (fun hHeld => ?_)
  clear hK K
  try simp only [Act.put, List.setIfInBounds_toArray, List.set_cons_zero, List.set_cons_succ]
  refine wpAnyH_take (i := 14) (oi := ?c14o) (v := ?c14v) ?c14h (by kernel_rfl) (by kernel_rfl) (by kernel_rfl) ?c14q ?c14y hHeld ?c14r
  case c14h => (simp only [List.getElem?_toArray, List.getElem?_cons_succ, List.getElem?_cons_zero]; rfl)
  case c14q => exact fun _ _ _ h => h
  case c14y => (refine Or.inl ⟨by first | kernel_rfl | rfl, ?_⟩; intro w hSw; (try dsimp only at hSw); obtain ⟨⟨x0, x1, x2, x3, x4, x5, x6, x7, x8⟩, ⟨n0, n1, nf0, nf1, nlt⟩, hb7⟩ := hSw; dsimp only at x0 x1 x2 x3 x4 x5 x6 x7 x8; have hln := hlen _ hb7; have b0 := (hb7.cell (p := ⟨b, 0, none⟩) hblt).trans hc0; have b2 := (hb7.cell (p := ⟨b, 2, none⟩) hblt).trans hc2; go_simp <;> (try with_reducible rfl))
  try simp only [Act.put, List.setIfInBounds_toArray, List.set_cons_zero, List.set_cons_succ]
  refine wpAnyH_take (i := 15) (oi := ?c15o) (v := ?c15v) ?c15h (by kernel_rfl) (by kernel_rfl) (by kernel_rfl) ?c15q ?c15y hHeld ?c15r
  case c15h => (simp only [List.getElem?_toArray, List.getElem?_cons_succ, List.getElem?_cons_zero]; rfl)
  case c15q => exact fun _ _ _ h => h
  case c15y => (refine Or.inl ⟨by first | kernel_rfl | rfl, ?_⟩; intro w hSw; (try dsimp only at hSw); obtain ⟨⟨x0, x1, x2, x3, x4, x5, x6, x7, x8⟩, ⟨n0, n1, nf0, nf1, nlt⟩, hb7⟩ := hSw; dsimp only at x0 x1 x2 x3 x4 x5 x6 x7 x8; have hln := hlen _ hb7; have b0 := (hb7.cell (p := ⟨b, 0, none⟩) hblt).trans hc0; have b2 := (hb7.cell (p := ⟨b, 2, none⟩) hblt).trans hc2; go_simp <;> (try with_reducible rfl))
  try simp only [Act.put, List.setIfInBounds_toArray, List.set_cons_zero, List.set_cons_succ]
  refine wpAnyH_take (i := 16) (oi := ?c16o) (v := ?c16v) ?c16h (by kernel_rfl) (by kernel_rfl) (by kernel_rfl) ?c16q ?c16y hHeld ?c16r
  case c16h => (simp only [List.getElem?_toArray, List.getElem?_cons_succ, List.getElem?_cons_zero]; rfl)
  case c16q => exact fun _ _ _ h => h
  case c16y => (refine Or.inl ⟨by first | kernel_rfl | rfl, ?_⟩; intro w hSw; (try dsimp only at hSw); obtain ⟨⟨x0, x1, x2, x3, x4, x5, x6, x7, x8⟩, ⟨n0, n1, nf0, nf1, nlt⟩, hb7⟩ := hSw; dsimp only at x0 x1 x2 x3 x4 x5 x6 x7 x8; have hln := hlen _ hb7; have b0 := (hb7.cell (p := ⟨b, 0, none⟩) hblt).trans hc0; have b2 := (hb7.cell (p := ⟨b, 2, none⟩) hblt).trans hc2; go_simp <;> (try with_reducible rfl))
  try simp only [Act.put, List.setIfInBounds_toArray, List.set_cons_zero, List.set_cons_succ]
  refine wpAnyH_done (by kernel_rfl) ?_ _
  go_wp2
  go_ret
  exact ⟨(by rw [HE.out]; rfl), by rw [HS.out]; exact Buf.kept HH.out HBB.out hHeld.bel, FrF.of hHeld.bel⟩
set_option maxHeartbeats 8000000 in
theorem offer_due {w : World} {B b : Nat} {mv : Option Nat} {ov : Value} {S : CS} {F : Nat → Prop} (h : CbAt w B b mv ov S F) (hB : B ≤ w.heap.size) (x : Rd) (hN : Ns w x.dv x.r.d) (hf : x.r.fits) (hdl : x.r.d.length ≤ 1000000) (hx : x.r.ok = true) (hq : ¬ x.r.st.q < atL S.out x.r.st.s + 1) (hh : hasB S.L x.r.st.s x.r.st.q = false) (hr : S.room ≤ (S.L.length : Int)) (hd : dueB S x.r = true) : Calls Try.prog 16 #[.pointer (some ⟨b, 0, none⟩), recV x.r x.dv] w (OfferDone w B b S F x.r) := by
  have hal := (Below.refl w.heap.size w).alloc (Nat.le_refl _) (box9 x)
  have hh1 := R9.new w x
  have HE := Lib.hid (show offE S x.r = 0 from offE_held hx (Bool.or_eq_false_iff.2 ⟨decide_eq_false hq, hh⟩) (fun k => by rw [hd] at k; exact absurd k.2 (by decide)))
  have HS := Lib.hid (show offS S x.r = ⟨S.room, S.out, S.L ++ [x.r]⟩ from offS_yes (by rw [HE.out]))
  have HG := Lib.hid (by have := h.good.off x.r; rw [HS.out] at this; exact this)
  have HNO := Lib.hid hh
  have hc0 := h.c0
  have hc2 := h.c2
  have hblt := h.lt
  have kck := check6_is x.r x.dv _ (Ns.later hN hal) hf
  rw [Rec.err_ok.2 hx] at kck
  have HH := Lib.hid h
  have HN := Lib.hid hN
  have HX := Lib.hid hx
  have HDL := Lib.hid hdl
  have HBB := Lib.hid hB
  have HAL := Lib.hid hal
  have HH1 := Lib.hid hh1
  have hlen := fun (W : World) (hb : Below w.heap.size w W) => fun T => (h.rb.later hb).lenrun T
  obtain ⟨i1, i2⟩ := okI hx
  have kf := fun (W : World) (hb : Below w.heap.size w W) => follows_is (h.rb.later hb) x.r.st.s i1
  have kh := fun (W : World) (hb : Below w.heap.size w W) => has_is (h.rb.later hb) x.r.st.s x.r.st.q i1 i2
  have kd := fun (W : World) (hb : Below w.heap.size w W) => due_is (h.later hb) x (Ns.later hN hb) i1
  obtain ⟨ln, hln⟩ : ∃ z, S.L.length = z := ⟨_, rfl⟩
  rw [hln] at hlen
  have HLN := Lib.hid hln
  obtain ⟨nx, hnx⟩ : ∃ z, atL S.out x.r.st.s + 1 = z := ⟨_, rfl⟩
  obtain ⟨rm, hrm⟩ : ∃ z, S.room = z := ⟨_, rfl⟩
  rw [hrm] at hc0
  rw [hnx] at kf
  have hfl := field_k x.r.st.s nx
  unfold kV at kf kh
  have hq1 : ¬ x.r.st.q < nx := by rw [← hnx]; exact hq
  rw [hh] at kh
  have hdz := hd
  rw [hd] at kd
  have hr1 : decide (rm ≤ (ln : Int)) = true := decide_eq_true (by rw [← hrm, ← hln]; exact hr)
  clear hq
  obtain ⟨⟨rk, rs, rt, rv, rtier, ⟨rc, rst, rq⟩, rd⟩, ra, rcc⟩ := x
  unfold recV Rd.dv at *
  dsimp only at *
  unfold box9 at *
  dsimp only at *
  clear h hN hx hdl hB hal hh1 hln hf hnx hrm i1 i2 hh hr hd hdz
  go_enter Try.func16, Try.ntmps16
  go_upto_region 4 with (go_at_call 38; (with_reducible refine kck.mono ?_); rintro e w2 ⟨rfl, hb2⟩; (have HB2 := Lib.hid hb2); (obtain ⟨x0, x1, x2, x3, x4, x5, x6, x7, x8⟩ := HH1.out.later hb2); (dsimp only at x0 x1 x2 x3 x4 x5 x6 x7 x8); clear hb2)
  have HHO : HO w w.heap.size w2.heap.size ⟨⟨rk, rs, rt, rv, rtier, ⟨rc, rst, rq⟩, rd⟩, ra, rcc⟩ rst rq (w2.alloc (nbox rst rq)) := ⟨(HH1.out.later HB2.out).later ((Below.refl _ _).alloc (Nat.le_refl _) _), N2.of (new_block (Below.refl _ _)), bel_new (bel_next HAL.out HB2.out) _⟩
  unfold nbox at HHO
  obtain ⟨N, hN9⟩ : ∃ z, w2.heap.size = z := ⟨_, rfl⟩
  rw [hN9] at HHO ⊢
  clear hN9 x0 x1 x2 x3 x4 x5 x6 x7 x8
  refine wp_region_held_drew (S := (HO w w.heap.size N ⟨⟨rk, rs, rt, rv, rtier, ⟨rc, rst, rq⟩, rd⟩, ra, rcc⟩ rst rq)) (by kernel_rfl) HHO.drew (fun hHeld => ?_)
  refine wpAnyH_take (i := 0) (oi := ?a1o) (v := ?a1v) ?a1h (by kernel_rfl) (by kernel_rfl) (by kernel_rfl) ?a1q ?a1y hHeld ?a1r
  case a1h => (simp only [List.getElem?_toArray, List.getElem?_cons_zero]; rfl)
  case a1q => exact fun _ _ _ h => h
  case a1y => (refine Or.inl ⟨by first | kernel_rfl | rfl, ?_⟩; intro w hSw; (try dsimp only at hSw); obtain ⟨⟨x0, x1, x2, x3, x4, x5, x6, x7, x8⟩, ⟨n0, n1, nf0, nf1, nlt⟩, hb7⟩ := hSw; dsimp only at x0 x1 x2 x3 x4 x5 x6 x7 x8; have hln := hlen _ hb7; have b0 := (hb7.cell (p := ⟨b, 0, none⟩) hblt).trans hc0; have b2 := (hb7.cell (p := ⟨b, 2, none⟩) hblt).trans hc2; go_simp <;> (try with_reducible rfl))
  try simp only [Act.put, List.setIfInBounds_toArray, List.set_cons_zero, List.set_cons_succ]
  refine wpAnyH_take (i := 1) (oi := ?a2o) (v := ?a2v) ?a2h (by kernel_rfl) (by kernel_rfl) (by kernel_rfl) ?a2q ?a2y hHeld ?a2r
  case a2h => (simp only [List.getElem?_toArray, List.getElem?_cons_succ, List.getElem?_cons_zero]; rfl)
  case a2q => exact fun _ _ _ h => h
  case a2y => (refine Or.inl ⟨by first | kernel_rfl | rfl, ?_⟩; intro w hSw; (try dsimp only at hSw); obtain ⟨⟨x0, x1, x2, x3, x4, x5, x6, x7, x8⟩, ⟨n0, n1, nf0, nf1, nlt⟩, hb7⟩ := hSw; dsimp only at x0 x1 x2 x3 x4 x5 x6 x7 x8; have hln := hlen _ hb7; have b0 := (hb7.cell (p := ⟨b, 0, none⟩) hblt).trans hc0; have b2 := (hb7.cell (p := ⟨b, 2, none⟩) hblt).trans hc2; go_simp <;> (try with_reducible rfl))
  try simp only [Act.put, List.setIfInBounds_toArray, List.set_cons_zero, List.set_cons_succ]
  refine wpAnyH_take (i := 2) (oi := ?a3o) (v := ?a3v) ?a3h (by kernel_rfl) (by kernel_rfl) (by kernel_rfl) ?a3q ?a3y hHeld ?a3r
  case a3h => (simp only [List.getElem?_toArray, List.getElem?_cons_succ, List.getElem?_cons_zero]; rfl)
  case a3q => exact fun _ _ _ h => h
  case a3y => (refine Or.inl ⟨by first | kernel_rfl | rfl, ?_⟩; intro w hSw; (try dsimp only at hSw); obtain ⟨⟨x0, x1, x2, x3, x4, x5, x6, x7, x8⟩, ⟨n0, n1, nf0, nf1, nlt⟩, hb7⟩ := hSw; dsimp only at x0 x1 x2 x3 x4 x5 x6 x7 x8; have hln := hlen _ hb7; have b0 := (hb7.cell (p := ⟨b, 0, none⟩) hblt).trans hc0; have b2 := (hb7.cell (p := ⟨b, 2, none⟩) hblt).trans hc2; go_simp <;> (try with_reducible rfl))
  try simp only [Act.put, List.setIfInBounds_toArray, List.set_cons_zero, List.set_cons_succ]
  refine wpAnyH_take (i := 3) (oi := ?a4o) (v := ?a4v) ?a4h (by kernel_rfl) (by kernel_rfl) (by kernel_rfl) ?a4q ?a4y hHeld ?a4r
  case a4h => (simp only [List.getElem?_toArray, List.getElem?_cons_succ, List.getElem?_cons_zero]; rfl)
  case a4q => exact fun _ _ _ h => h
  case a4y => (refine Or.inl ⟨by first | kernel_rfl | rfl, ?_⟩; intro w hSw; (try dsimp only at hSw); obtain ⟨⟨x0, x1, x2, x3, x4, x5, x6, x7, x8⟩, ⟨n0, n1, nf0, nf1, nlt⟩, hb7⟩ := hSw; dsimp only at x0 x1 x2 x3 x4 x5 x6 x7 x8; have hln := hlen _ hb7; have b0 := (hb7.cell (p := ⟨b, 0, none⟩) hblt).trans hc0; have b2 := (hb7.cell (p := ⟨b, 2, none⟩) hblt).trans hc2; go_simp <;> (try with_reducible rfl))
  try simp only [Act.put, List.setIfInBounds_toArray, List.set_cons_zero, List.set_cons_succ]
  refine wpAnyH_take (i := 4) (oi := ?a5o) (v := ?a5v) ?a5h (by kernel_rfl) (by kernel_rfl) (by kernel_rfl) ?a5q ?a5y hHeld ?a5r
  case a5h => (simp only [List.getElem?_toArray, List.getElem?_cons_succ, List.getElem?_cons_zero]; rfl)
  case a5q => exact fun _ _ _ h => h
  case a5y => (refine Or.inl ⟨by first | kernel_rfl | rfl, ?_⟩; intro w hSw; (try dsimp only at hSw); obtain ⟨⟨x0, x1, x2, x3, x4, x5, x6, x7, x8⟩, ⟨n0, n1, nf0, nf1, nlt⟩, hb7⟩ := hSw; dsimp only at x0 x1 x2 x3 x4 x5 x6 x7 x8; have hln := hlen _ hb7; have b0 := (hb7.cell (p := ⟨b, 0, none⟩) hblt).trans hc0; have b2 := (hb7.cell (p := ⟨b, 2, none⟩) hblt).trans hc2; go_simp <;> (try with_reducible rfl))
  try simp only [Act.put, List.setIfInBounds_toArray, List.set_cons_zero, List.set_cons_succ]
  refine wpAnyH_ready (rs := [5]) (by kernel_rfl) (by simp) ?_
  refine (AllReadyH.cons rfl (fun K hK => ?_) AllReadyH.nil)
  go_simp
  (go_at_call 32; (with_reducible refine (kf _ hHeld.bel).mono ?_); rintro e w4 ⟨rfl, hb4⟩; (have hHeld := hHeld.later hb4); clear hb4)
  refine hK.out _ _ (hHeld) (fun hHeld => ?_)
  clear hK K
  try simp only [Act.put, List.setIfInBounds_toArray, List.set_cons_zero, List.set_cons_succ]
  refine wpAnyH_take (i := 6) (oi := ?a6o) (v := ?a6v) ?a6h (by kernel_rfl) (by kernel_rfl) (by kernel_rfl) ?a6q ?a6y hHeld ?a6r
  case a6h => (simp only [List.getElem?_toArray, List.getElem?_cons_succ, List.getElem?_cons_zero]; rfl)
  case a6q => exact fun _ _ _ h => h
  case a6y => (refine Or.inl ⟨by first | kernel_rfl | rfl, ?_⟩; intro w hSw; (try dsimp only at hSw); obtain ⟨⟨x0, x1, x2, x3, x4, x5, x6, x7, x8⟩, ⟨n0, n1, nf0, nf1, nlt⟩, hb7⟩ := hSw; dsimp only at x0 x1 x2 x3 x4 x5 x6 x7 x8; have hln := hlen _ hb7; have b0 := (hb7.cell (p := ⟨b, 0, none⟩) hblt).trans hc0; have b2 := (hb7.cell (p := ⟨b, 2, none⟩) hblt).trans hc2; go_simp <;> (try with_reducible rfl))
  try simp only [Act.put, List.setIfInBounds_toArray, List.set_cons_zero, List.set_cons_succ]
  refine wpAnyH_take (i := 7) (oi := ?a7o) (v := ?a7v) ?a7h (by kernel_rfl) (by kernel_rfl) (by kernel_rfl) ?a7q ?a7y hHeld ?a7r
  case a7h => (simp only [List.getElem?_toArray, List.getElem?_cons_succ, List.getElem?_cons_zero]; rfl)
  case a7q => exact fun _ _ _ h => h
  case a7y => (refine Or.inl ⟨by first | kernel_rfl | rfl, ?_⟩; intro w hSw; (try dsimp only at hSw); obtain ⟨⟨x0, x1, x2, x3, x4, x5, x6, x7, x8⟩, ⟨n0, n1, nf0, nf1, nlt⟩, hb7⟩ := hSw; dsimp only at x0 x1 x2 x3 x4 x5 x6 x7 x8; have hln := hlen _ hb7; have b0 := (hb7.cell (p := ⟨b, 0, none⟩) hblt).trans hc0; have b2 := (hb7.cell (p := ⟨b, 2, none⟩) hblt).trans hc2; go_simp <;> (try with_reducible rfl))
  try simp only [Act.put, List.setIfInBounds_toArray, List.set_cons_zero, List.set_cons_succ]
  refine wpAnyH_take (i := 8) (oi := ?a8o) (v := ?a8v) ?a8h (by kernel_rfl) (by kernel_rfl) (by kernel_rfl) ?a8q ?a8y hHeld ?a8r
  case a8h => (simp only [List.getElem?_toArray, List.getElem?_cons_succ, List.getElem?_cons_zero]; rfl)
  case a8q => exact fun _ _ _ h => h
  case a8y => (refine Or.inl ⟨by first | kernel_rfl | rfl, ?_⟩; intro w hSw; (try dsimp only at hSw); obtain ⟨⟨x0, x1, x2, x3, x4, x5, x6, x7, x8⟩, ⟨n0, n1, nf0, nf1, nlt⟩, hb7⟩ := hSw; dsimp only at x0 x1 x2 x3 x4 x5 x6 x7 x8; have hln := hlen _ hb7; have b0 := (hb7.cell (p := ⟨b, 0, none⟩) hblt).trans hc0; have b2 := (hb7.cell (p := ⟨b, 2, none⟩) hblt).trans hc2; go_simp <;> (try with_reducible rfl))
  try simp only [Act.put, List.setIfInBounds_toArray, List.set_cons_zero, List.set_cons_succ]
  refine wpAnyH_done (by kernel_rfl) ?_ _
  obtain ⟨⟨x0, x1, x2, x3, x4, x5, x6, x7, x8⟩, ⟨n0, n1, nf0, nf1, nlt⟩, hb7⟩ := id hHeld
  dsimp only at x0 x1 x2 x3 x4 x5 x6 x7 x8
  clear hb7
  go_wp2_with (go_at_call 39; (with_reducible refine (kh _ hHeld.bel).mono ?_); rintro e w5 ⟨rfl, hb5⟩; (have hHeld := hHeld.later hb5); clear hb5)
  clear x0 x1 x2 x3 x4 x5 x6 x7 x8 n0 n1 nf0 nf1 nlt
  refine wp_region_held_drew (S := (HO w w.heap.size N ⟨⟨rk, rs, rt, rv, rtier, ⟨rc, rst, rq⟩, rd⟩, ra, rcc⟩ rst rq)) (by kernel_rfl) hHeld.drew (fun hHeld => ?_)
  refine wpAnyH_take (i := 0) (oi := ?c1o) (v := ?c1v) ?c1h (by kernel_rfl) (by kernel_rfl) (by kernel_rfl) ?c1q ?c1y hHeld ?c1r
  case c1h => (simp only [List.getElem?_toArray, List.getElem?_cons_zero]; rfl)
  case c1q => exact fun _ _ _ h => h
  case c1y => (refine Or.inl ⟨by first | kernel_rfl | rfl, ?_⟩; intro w hSw; (try dsimp only at hSw); obtain ⟨⟨x0, x1, x2, x3, x4, x5, x6, x7, x8⟩, ⟨n0, n1, nf0, nf1, nlt⟩, hb7⟩ := hSw; dsimp only at x0 x1 x2 x3 x4 x5 x6 x7 x8; have hln := hlen _ hb7; have b0 := (hb7.cell (p := ⟨b, 0, none⟩) hblt).trans hc0; have b2 := (hb7.cell (p := ⟨b, 2, none⟩) hblt).trans hc2; go_simp <;> (try with_reducible rfl))
  try simp only [Act.put, List.setIfInBounds_toArray, List.set_cons_zero, List.set_cons_succ]
  refine wpAnyH_take (i := 1) (oi := ?c2o) (v := ?c2v) ?c2h (by kernel_rfl) (by kernel_rfl) (by kernel_rfl) ?c2q ?c2y hHeld ?c2r
  case c2h => (simp only [List.getElem?_toArray, List.getElem?_cons_succ, List.getElem?_cons_zero]; rfl)
  case c2q => exact fun _ _ _ h => h
  case c2y => (refine Or.inl ⟨by first | kernel_rfl | rfl, ?_⟩; intro w hSw; (try dsimp only at hSw); obtain ⟨⟨x0, x1, x2, x3, x4, x5, x6, x7, x8⟩, ⟨n0, n1, nf0, nf1, nlt⟩, hb7⟩ := hSw; dsimp only at x0 x1 x2 x3 x4 x5 x6 x7 x8; have hln := hlen _ hb7; have b0 := (hb7.cell (p := ⟨b, 0, none⟩) hblt).trans hc0; have b2 := (hb7.cell (p := ⟨b, 2, none⟩) hblt).trans hc2; go_simp <;> (try with_reducible rfl))
  try simp only [Act.put, List.setIfInBounds_toArray, List.set_cons_zero, List.set_cons_succ]
  refine wpAnyH_take (i := 2) (oi := ?c3o) (v := ?c3v) ?c3h (by kernel_rfl) (by kernel_rfl) (by kernel_rfl) ?c3q ?c3y hHeld ?c3r
  case c3h => (simp only [List.getElem?_toArray, List.getElem?_cons_succ, List.getElem?_cons_zero]; rfl)
  case c3q => exact fun _ _ _ h => h
  case c3y => (refine Or.inl ⟨by first | kernel_rfl | rfl, ?_⟩; intro w hSw; (try dsimp only at hSw); obtain ⟨⟨x0, x1, x2, x3, x4, x5, x6, x7, x8⟩, ⟨n0, n1, nf0, nf1, nlt⟩, hb7⟩ := hSw; dsimp only at x0 x1 x2 x3 x4 x5 x6 x7 x8; have hln := hlen _ hb7; have b0 := (hb7.cell (p := ⟨b, 0, none⟩) hblt).trans hc0; have b2 := (hb7.cell (p := ⟨b, 2, none⟩) hblt).trans hc2; go_simp <;> (try with_reducible rfl))
  try simp only [Act.put, List.setIfInBounds_toArray, List.set_cons_zero, List.set_cons_succ]
  refine wpAnyH_take (i := 3) (oi := ?c4o) (v := ?c4v) ?c4h (by kernel_rfl) (by kernel_rfl) (by kernel_rfl) ?c4q ?c4y hHeld ?c4r
  case c4h => (simp only [List.getElem?_toArray, List.getElem?_cons_succ, List.getElem?_cons_zero]; rfl)
  case c4q => exact fun _ _ _ h => h
  case c4y => (refine Or.inl ⟨by first | kernel_rfl | rfl, ?_⟩; intro w hSw; (try dsimp only at hSw); obtain ⟨⟨x0, x1, x2, x3, x4, x5, x6, x7, x8⟩, ⟨n0, n1, nf0, nf1, nlt⟩, hb7⟩ := hSw; dsimp only at x0 x1 x2 x3 x4 x5 x6 x7 x8; have hln := hlen _ hb7; have b0 := (hb7.cell (p := ⟨b, 0, none⟩) hblt).trans hc0; have b2 := (hb7.cell (p := ⟨b, 2, none⟩) hblt).trans hc2; go_simp <;> (try with_reducible rfl))
  try simp only [Act.put, List.setIfInBounds_toArray, List.set_cons_zero, List.set_cons_succ]
  refine wpAnyH_take (i := 4) (oi := ?c5o) (v := ?c5v) ?c5h (by kernel_rfl) (by kernel_rfl) (by kernel_rfl) ?c5q ?c5y hHeld ?c5r
  case c5h => (simp only [List.getElem?_toArray, List.getElem?_cons_succ, List.getElem?_cons_zero]; rfl)
  case c5q => exact fun _ _ _ h => h
  case c5y => (refine Or.inl ⟨by first | kernel_rfl | rfl, ?_⟩; intro w hSw; (try dsimp only at hSw); obtain ⟨⟨x0, x1, x2, x3, x4, x5, x6, x7, x8⟩, ⟨n0, n1, nf0, nf1, nlt⟩, hb7⟩ := hSw; dsimp only at x0 x1 x2 x3 x4 x5 x6 x7 x8; have hln := hlen _ hb7; have b0 := (hb7.cell (p := ⟨b, 0, none⟩) hblt).trans hc0; have b2 := (hb7.cell (p := ⟨b, 2, none⟩) hblt).trans hc2; go_simp <;> (try with_reducible rfl))
  try simp only [Act.put, List.setIfInBounds_toArray, List.set_cons_zero, List.set_cons_succ]
  refine wpAnyH_take (i := 5) (oi := ?c6o) (v := ?c6v) ?c6h (by kernel_rfl) (by kernel_rfl) (by kernel_rfl) ?c6q ?c6y hHeld ?c6r
  case c6h => (simp only [List.getElem?_toArray, List.getElem?_cons_succ, List.getElem?_cons_zero]; rfl)
  case c6q => exact fun _ _ _ h => h
  case c6y => (refine Or.inl ⟨by first | kernel_rfl | rfl, ?_⟩; intro w hSw; (try dsimp only at hSw); obtain ⟨⟨x0, x1, x2, x3, x4, x5, x6, x7, x8⟩, ⟨n0, n1, nf0, nf1, nlt⟩, hb7⟩ := hSw; dsimp only at x0 x1 x2 x3 x4 x5 x6 x7 x8; have hln := hlen _ hb7; have b0 := (hb7.cell (p := ⟨b, 0, none⟩) hblt).trans hc0; have b2 := (hb7.cell (p := ⟨b, 2, none⟩) hblt).trans hc2; go_simp <;> (try with_reducible rfl))
  try simp only [Act.put, List.setIfInBounds_toArray, List.set_cons_zero, List.set_cons_succ]
  refine wpAnyH_take (i := 6) (oi := ?c7o) (v := ?c7v) ?c7h (by kernel_rfl) (by kernel_rfl) (by kernel_rfl) ?c7q ?c7y hHeld ?c7r
  case c7h => (simp only [List.getElem?_toArray, List.getElem?_cons_succ, List.getElem?_cons_zero]; rfl)
  case c7q => exact fun _ _ _ h => h
  case c7y => (refine Or.inl ⟨by first | kernel_rfl | rfl, ?_⟩; intro w hSw; (try dsimp only at hSw); obtain ⟨⟨x0, x1, x2, x3, x4, x5, x6, x7, x8⟩, ⟨n0, n1, nf0, nf1, nlt⟩, hb7⟩ := hSw; dsimp only at x0 x1 x2 x3 x4 x5 x6 x7 x8; have hln := hlen _ hb7; have b0 := (hb7.cell (p := ⟨b, 0, none⟩) hblt).trans hc0; have b2 := (hb7.cell (p := ⟨b, 2, none⟩) hblt).trans hc2; go_simp <;> (try with_reducible rfl))
  try simp only [Act.put, List.setIfInBounds_toArray, List.set_cons_zero, List.set_cons_succ]
  refine wpAnyH_take (i := 7) (oi := ?c8o) (v := ?c8v) ?c8h (by kernel_rfl) (by kernel_rfl) (by kernel_rfl) ?c8q ?c8y hHeld ?c8r
  case c8h => (simp only [List.getElem?_toArray, List.getElem?_cons_succ, List.getElem?_cons_zero]; rfl)
  case c8q => exact fun _ _ _ h => h
  case c8y => (refine Or.inl ⟨by first | kernel_rfl | rfl, ?_⟩; intro w hSw; (try dsimp only at hSw); obtain ⟨⟨x0, x1, x2, x3, x4, x5, x6, x7, x8⟩, ⟨n0, n1, nf0, nf1, nlt⟩, hb7⟩ := hSw; dsimp only at x0 x1 x2 x3 x4 x5 x6 x7 x8; have hln := hlen _ hb7; have b0 := (hb7.cell (p := ⟨b, 0, none⟩) hblt).trans hc0; have b2 := (hb7.cell (p := ⟨b, 2, none⟩) hblt).trans hc2; go_simp <;> (try with_reducible rfl))
  try simp only [Act.put, List.setIfInBounds_toArray, List.set_cons_zero, List.set_cons_succ]
  refine wpAnyH_take (i := 8) (oi := ?c9o) (v := ?c9v) ?c9h (by kernel_rfl) (by kernel_rfl) (by kernel_rfl) ?c9q ?c9y hHeld ?c9r
  case c9h => (simp only [List.getElem?_toArray, List.getElem?_cons_succ, List.getElem?_cons_zero]; rfl)
  case c9q => exact fun _ _ _ h => h
  case c9y => (refine Or.inl ⟨by first | kernel_rfl | rfl, ?_⟩; intro w hSw; (try dsimp only at hSw); obtain ⟨⟨x0, x1, x2, x3, x4, x5, x6, x7, x8⟩, ⟨n0, n1, nf0, nf1, nlt⟩, hb7⟩ := hSw; dsimp only at x0 x1 x2 x3 x4 x5 x6 x7 x8; have hln := hlen _ hb7; have b0 := (hb7.cell (p := ⟨b, 0, none⟩) hblt).trans hc0; have b2 := (hb7.cell (p := ⟨b, 2, none⟩) hblt).trans hc2; go_simp <;> (try with_reducible rfl))
  try simp only [Act.put, List.setIfInBounds_toArray, List.set_cons_zero, List.set_cons_succ]
  refine wpAnyH_take (i := 9) (oi := ?c10o) (v := ?c10v) ?c10h (by kernel_rfl) (by kernel_rfl) (by kernel_rfl) ?c10q ?c10y hHeld ?c10r
  case c10h => (simp only [List.getElem?_toArray, List.getElem?_cons_succ, List.getElem?_cons_zero]; rfl)
  case c10q => exact fun _ _ _ h => h
  case c10y => (refine Or.inl ⟨by first | kernel_rfl | rfl, ?_⟩; intro w hSw; (try dsimp only at hSw); obtain ⟨⟨x0, x1, x2, x3, x4, x5, x6, x7, x8⟩, ⟨n0, n1, nf0, nf1, nlt⟩, hb7⟩ := hSw; dsimp only at x0 x1 x2 x3 x4 x5 x6 x7 x8; have hln := hlen _ hb7; have b0 := (hb7.cell (p := ⟨b, 0, none⟩) hblt).trans hc0; have b2 := (hb7.cell (p := ⟨b, 2, none⟩) hblt).trans hc2; go_simp <;> (try with_reducible rfl))
  try simp only [Act.put, List.setIfInBounds_toArray, List.set_cons_zero, List.set_cons_succ]
  refine wpAnyH_take (i := 10) (oi := ?c11o) (v := ?c11v) ?c11h (by kernel_rfl) (by kernel_rfl) (by kernel_rfl) ?c11q ?c11y hHeld ?c11r
  case c11h => (simp only [List.getElem?_toArray, List.getElem?_cons_succ, List.getElem?_cons_zero]; rfl)
  case c11q => exact fun _ _ _ h => h
  case c11y => (refine Or.inl ⟨by first | kernel_rfl | rfl, ?_⟩; intro w hSw; (try dsimp only at hSw); obtain ⟨⟨x0, x1, x2, x3, x4, x5, x6, x7, x8⟩, ⟨n0, n1, nf0, nf1, nlt⟩, hb7⟩ := hSw; dsimp only at x0 x1 x2 x3 x4 x5 x6 x7 x8; have hln := hlen _ hb7; have b0 := (hb7.cell (p := ⟨b, 0, none⟩) hblt).trans hc0; have b2 := (hb7.cell (p := ⟨b, 2, none⟩) hblt).trans hc2; go_simp <;> (try with_reducible rfl))
  try simp only [Act.put, List.setIfInBounds_toArray, List.set_cons_zero, List.set_cons_succ]
  refine wpAnyH_take (i := 11) (oi := ?c12o) (v := ?c12v) ?c12h (by kernel_rfl) (by kernel_rfl) (by kernel_rfl) ?c12q ?c12y hHeld ?c12r
  case c12h => (simp only [List.getElem?_toArray, List.getElem?_cons_succ, List.getElem?_cons_zero]; rfl)
  case c12q => exact fun _ _ _ h => h
  case c12y => (refine Or.inl ⟨by first | kernel_rfl | rfl, ?_⟩; intro w hSw; (try dsimp only at hSw); obtain ⟨⟨x0, x1, x2, x3, x4, x5, x6, x7, x8⟩, ⟨n0, n1, nf0, nf1, nlt⟩, hb7⟩ := hSw; dsimp only at x0 x1 x2 x3 x4 x5 x6 x7 x8; have hln := hlen _ hb7; have b0 := (hb7.cell (p := ⟨b, 0, none⟩) hblt).trans hc0; have b2 := (hb7.cell (p := ⟨b, 2, none⟩) hblt).trans hc2; go_simp <;> (try with_reducible rfl))
  try simp only [Act.put, List.setIfInBounds_toArray, List.set_cons_zero, List.set_cons_succ]
  refine wpAnyH_take (i := 12) (oi := ?c13o) (v := ?c13v) ?c13h (by kernel_rfl) (by kernel_rfl) (by kernel_rfl) ?c13q ?c13y hHeld ?c13r
  case c13h => (simp only [List.getElem?_toArray, List.getElem?_cons_succ, List.getElem?_cons_zero]; rfl)
  case c13q => exact fun _ _ _ h => h
  case c13y => (refine Or.inl ⟨by first | kernel_rfl | rfl, ?_⟩; intro w hSw; (try dsimp only at hSw); obtain ⟨⟨x0, x1, x2, x3, x4, x5, x6, x7, x8⟩, ⟨n0, n1, nf0, nf1, nlt⟩, hb7⟩ := hSw; dsimp only at x0 x1 x2 x3 x4 x5 x6 x7 x8; have hln := hlen _ hb7; have b0 := (hb7.cell (p := ⟨b, 0, none⟩) hblt).trans hc0; have b2 := (hb7.cell (p := ⟨b, 2, none⟩) hblt).trans hc2; go_simp <;> (try with_reducible rfl))
  try simp only [Act.put, List.setIfInBounds_toArray, List.set_cons_zero, List.set_cons_succ]
  refine wpAnyH_ready (rs := [13]) (by kernel_rfl) (by simp) ?_
  refine (AllReadyH.cons rfl (fun K hK => ?_) AllReadyH.nil)
  go_simp
  (go_at_call 34; (with_reducible refine (kd _ hHeld.bel).mono ?_); rintro e w6 ⟨rfl, hb6⟩; (have hHeld := hHeld.later hb6); clear hb6)
  refine hK.out _ _ (hHeld) (fun hHeld => ?_)
  clear hK K
  try simp only [Act.put, List.setIfInBounds_toArray, List.set_cons_zero, List.set_cons_succ]
  refine wpAnyH_take (i := 14) (oi := ?c14o) (v := ?c14v) ?c14h (by kernel_rfl) (by kernel_rfl) (by kernel_rfl) ?c14q ?c14y hHeld ?c14r
  case c14h => (simp only [List.getElem?_toArray, List.getElem?_cons_succ, List.getElem?_cons_zero]; rfl)
  case c14q => exact fun _ _ _ h => h
  case c14y => (refine Or.inl ⟨by first | kernel_rfl | rfl, ?_⟩; intro w hSw; (try dsimp only at hSw); obtain ⟨⟨x0, x1, x2, x3, x4, x5, x6, x7, x8⟩, ⟨n0, n1, nf0, nf1, nlt⟩, hb7⟩ := hSw; dsimp only at x0 x1 x2 x3 x4 x5 x6 x7 x8; have hln := hlen _ hb7; have b0 := (hb7.cell (p := ⟨b, 0, none⟩) hblt).trans hc0; have b2 := (hb7.cell (p := ⟨b, 2, none⟩) hblt).trans hc2; go_simp <;> (try with_reducible rfl))
  try simp only [Act.put, List.setIfInBounds_toArray, List.set_cons_zero, List.set_cons_succ]
  refine wpAnyH_take (i := 15) (oi := ?c15o) (v := ?c15v) ?c15h (by kernel_rfl) (by kernel_rfl) (by kernel_rfl) ?c15q ?c15y hHeld ?c15r
  case c15h => (simp only [List.getElem?_toArray, List.getElem?_cons_succ, List.getElem?_cons_zero]; rfl)
  case c15q => exact fun _ _ _ h => h
  case c15y => (refine Or.inl ⟨by first | kernel_rfl | rfl, ?_⟩; intro w hSw; (try dsimp only at hSw); obtain ⟨⟨x0, x1, x2, x3, x4, x5, x6, x7, x8⟩, ⟨n0, n1, nf0, nf1, nlt⟩, hb7⟩ := hSw; dsimp only at x0 x1 x2 x3 x4 x5 x6 x7 x8; have hln := hlen _ hb7; have b0 := (hb7.cell (p := ⟨b, 0, none⟩) hblt).trans hc0; have b2 := (hb7.cell (p := ⟨b, 2, none⟩) hblt).trans hc2; go_simp <;> (try with_reducible rfl))
  try simp only [Act.put, List.setIfInBounds_toArray, List.set_cons_zero, List.set_cons_succ]
  refine wpAnyH_take (i := 16) (oi := ?c16o) (v := ?c16v) ?c16h (by kernel_rfl) (by kernel_rfl) (by kernel_rfl) ?c16q ?c16y hHeld ?c16r
  case c16h => (simp only [List.getElem?_toArray, List.getElem?_cons_succ, List.getElem?_cons_zero]; rfl)
  case c16q => exact fun _ _ _ h => h
  case c16y => (refine Or.inl ⟨by first | kernel_rfl | rfl, ?_⟩; intro w hSw; (try dsimp only at hSw); obtain ⟨⟨x0, x1, x2, x3, x4, x5, x6, x7, x8⟩, ⟨n0, n1, nf0, nf1, nlt⟩, hb7⟩ := hSw; dsimp only at x0 x1 x2 x3 x4 x5 x6 x7 x8; have hln := hlen _ hb7; have b0 := (hb7.cell (p := ⟨b, 0, none⟩) hblt).trans hc0; have b2 := (hb7.cell (p := ⟨b, 2, none⟩) hblt).trans hc2; go_simp <;> (try with_reducible rfl))
  try simp only [Act.put, List.setIfInBounds_toArray, List.set_cons_zero, List.set_cons_succ]
  refine wpAnyH_done (by kernel_rfl) ?_ _
  obtain ⟨⟨x0, x1, x2, x3, x4, x5, x6, x7, x8⟩, ⟨n0, n1, nf0, nf1, nlt⟩, hb7⟩ := id hHeld
  dsimp only at x0 x1 x2 x3 x4 x5 x6 x7 x8
  have kho := hold_is (HH.out.later hHeld.bel) (Nat.le_trans HBB.out hHeld.bel.size) ⟨⟨rk, rs, rt, rv, rtier, ⟨rc, rst, rq⟩, rd⟩, ra, rcc⟩ (Ns.later HN.out hHeld.bel) HX.out HNO.out HG.out HDL.out
  have HBL := Lib.hid hHeld.bel
  unfold recV Rd.dv kV at kho
  dsimp only at kho
  clear hb7 hHeld
  go_wp2_with (go_at_call 40; (with_reducible refine kho.mono ?_); rintro e w9 ⟨rfl, hbuf9, hfr9⟩; (have HBF := Lib.hid hbuf9); (have HFR := Lib.hid hfr9); clear hbuf9 hfr9)
  go_ret
  exact ⟨(by rw [HE.out]; rfl), by rw [HS.out]; exact HBF.out.next9 HBB.out HBL.out HFR.out.size, (FrF.of HBL.out).next HFR.out fun _ _ h => h⟩
set_option maxHeartbeats 8000000 in
theorem offer_room {w : World} {B b : Nat} {mv : Option Nat} {ov : Value} {S : CS} {F : Nat → Prop} (h : CbAt w B b mv ov S F) (hB : B ≤ w.heap.size) (x : Rd) (hN : Ns w x.dv x.r.d) (hf : x.r.fits) (hdl : x.r.d.length ≤ 1000000) (hx : x.r.ok = true) (hq : ¬ x.r.st.q < atL S.out x.r.st.s + 1) (hh : hasB S.L x.r.st.s x.r.st.q = false) (hr : ¬ S.room ≤ (S.L.length : Int)) : Calls Try.prog 16 #[.pointer (some ⟨b, 0, none⟩), recV x.r x.dv] w (OfferDone w B b S F x.r) := by
  have hal := (Below.refl w.heap.size w).alloc (Nat.le_refl _) (box9 x)
  have hh1 := R9.new w x
  have HE := Lib.hid (show offE S x.r = 0 from offE_held hx (Bool.or_eq_false_iff.2 ⟨decide_eq_false hq, hh⟩) (fun k => hr k.1))
  have HS := Lib.hid (show offS S x.r = ⟨S.room, S.out, S.L ++ [x.r]⟩ from offS_yes (by rw [HE.out]))
  have HG := Lib.hid (by have := h.good.off x.r; rw [HS.out] at this; exact this)
  have HNO := Lib.hid hh
  have hc0 := h.c0
  have hc2 := h.c2
  have hblt := h.lt
  have kck := check6_is x.r x.dv _ (Ns.later hN hal) hf
  rw [Rec.err_ok.2 hx] at kck
  have HH := Lib.hid h
  have HN := Lib.hid hN
  have HX := Lib.hid hx
  have HDL := Lib.hid hdl
  have HBB := Lib.hid hB
  have HAL := Lib.hid hal
  have HH1 := Lib.hid hh1
  have hlen := fun (W : World) (hb : Below w.heap.size w W) => fun T => (h.rb.later hb).lenrun T
  obtain ⟨i1, i2⟩ := okI hx
  have kf := fun (W : World) (hb : Below w.heap.size w W) => follows_is (h.rb.later hb) x.r.st.s i1
  have kh := fun (W : World) (hb : Below w.heap.size w W) => has_is (h.rb.later hb) x.r.st.s x.r.st.q i1 i2
  have kd := fun (W : World) (hb : Below w.heap.size w W) => due_is (h.later hb) x (Ns.later hN hb) i1
  obtain ⟨ln, hln⟩ : ∃ z, S.L.length = z := ⟨_, rfl⟩
  rw [hln] at hlen
  have HLN := Lib.hid hln
  obtain ⟨nx, hnx⟩ : ∃ z, atL S.out x.r.st.s + 1 = z := ⟨_, rfl⟩
  obtain ⟨rm, hrm⟩ : ∃ z, S.room = z := ⟨_, rfl⟩
  rw [hrm] at hc0
  rw [hnx] at kf
  have hfl := field_k x.r.st.s nx
  unfold kV at kf kh
  have hq1 : ¬ x.r.st.q < nx := by rw [← hnx]; exact hq
  rw [hh] at kh
  have hr1 : decide (rm ≤ (ln : Int)) = false := decide_eq_false (by rw [← hrm, ← hln]; exact hr)
  clear hq kd
  obtain ⟨⟨rk, rs, rt, rv, rtier, ⟨rc, rst, rq⟩, rd⟩, ra, rcc⟩ := x
  unfold recV Rd.dv at *
  dsimp only at *
  unfold box9 at *
  dsimp only at *
  clear h hN hx hdl hB hal hh1 hln hf hnx hrm i1 i2 hh hr
  go_enter Try.func16, Try.ntmps16
  go_upto_region 4 with (go_at_call 38; (with_reducible refine kck.mono ?_); rintro e w2 ⟨rfl, hb2⟩; (have HB2 := Lib.hid hb2); (obtain ⟨x0, x1, x2, x3, x4, x5, x6, x7, x8⟩ := HH1.out.later hb2); (dsimp only at x0 x1 x2 x3 x4 x5 x6 x7 x8); clear hb2)
  have HHO : HO w w.heap.size w2.heap.size ⟨⟨rk, rs, rt, rv, rtier, ⟨rc, rst, rq⟩, rd⟩, ra, rcc⟩ rst rq (w2.alloc (nbox rst rq)) := ⟨(HH1.out.later HB2.out).later ((Below.refl _ _).alloc (Nat.le_refl _) _), N2.of (new_block (Below.refl _ _)), bel_new (bel_next HAL.out HB2.out) _⟩
  unfold nbox at HHO
  obtain ⟨N, hN9⟩ : ∃ z, w2.heap.size = z := ⟨_, rfl⟩
  rw [hN9] at HHO ⊢
  clear hN9 x0 x1 x2 x3 x4 x5 x6 x7 x8
  refine wp_region_held_drew (S := (HO w w.heap.size N ⟨⟨rk, rs, rt, rv, rtier, ⟨rc, rst, rq⟩, rd⟩, ra, rcc⟩ rst rq)) (by kernel_rfl) HHO.drew (fun hHeld => ?_)
  refine wpAnyH_take (i := 0) (oi := ?a1o) (v := ?a1v) ?a1h (by kernel_rfl) (by kernel_rfl) (by kernel_rfl) ?a1q ?a1y hHeld ?a1r
  case a1h => (simp only [List.getElem?_toArray, List.getElem?_cons_zero]; rfl)
  case a1q => exact fun _ _ _ h => h
  case a1y => (refine Or.inl ⟨by first | kernel_rfl | rfl, ?_⟩; intro w hSw; (try dsimp only at hSw); obtain ⟨⟨x0, x1, x2, x3, x4, x5, x6, x7, x8⟩, ⟨n0, n1, nf0, nf1, nlt⟩, hb7⟩ := hSw; dsimp only at x0 x1 x2 x3 x4 x5 x6 x7 x8; have hln := hlen _ hb7; have b0 := (hb7.cell (p := ⟨b, 0, none⟩) hblt).trans hc0; have b2 := (hb7.cell (p := ⟨b, 2, none⟩) hblt).trans hc2; go_simp <;> (try with_reducible rfl))
  try simp only [Act.put, List.setIfInBounds_toArray, List.set_cons_zero, List.set_cons_succ]
  refine wpAnyH_take (i := 1) (oi := ?a2o) (v := ?a2v) ?a2h (by kernel_rfl) (by kernel_rfl) (by kernel_rfl) ?a2q ?a2y hHeld ?a2r
  case a2h => (simp only [List.getElem?_toArray, List.getElem?_cons_succ, List.getElem?_cons_zero]; rfl)
  case a2q => exact fun _ _ _ h => h
  case a2y => (refine Or.inl ⟨by first | kernel_rfl | rfl, ?_⟩; intro w hSw; (try dsimp only at hSw); obtain ⟨⟨x0, x1, x2, x3, x4, x5, x6, x7, x8⟩, ⟨n0, n1, nf0, nf1, nlt⟩, hb7⟩ := hSw; dsimp only at x0 x1 x2 x3 x4 x5 x6 x7 x8; have hln := hlen _ hb7; have b0 := (hb7.cell (p := ⟨b, 0, none⟩) hblt).trans hc0; have b2 := (hb7.cell (p := ⟨b, 2, none⟩) hblt).trans hc2; go_simp <;> (try with_reducible rfl))
  try simp only [Act.put, List.setIfInBounds_toArray, List.set_cons_zero, List.set_cons_succ]
  refine wpAnyH_take (i := 2) (oi := ?a3o) (v := ?a3v) ?a3h (by kernel_rfl) (by kernel_rfl) (by kernel_rfl) ?a3q ?a3y hHeld ?a3r
  case a3h => (simp only [List.getElem?_toArray, List.getElem?_cons_succ, List.getElem?_cons_zero]; rfl)
  case a3q => exact fun _ _ _ h => h
  case a3y => (refine Or.inl ⟨by first | kernel_rfl | rfl, ?_⟩; intro w hSw; (try dsimp only at hSw); obtain ⟨⟨x0, x1, x2, x3, x4, x5, x6, x7, x8⟩, ⟨n0, n1, nf0, nf1, nlt⟩, hb7⟩ := hSw; dsimp only at x0 x1 x2 x3 x4 x5 x6 x7 x8; have hln := hlen _ hb7; have b0 := (hb7.cell (p := ⟨b, 0, none⟩) hblt).trans hc0; have b2 := (hb7.cell (p := ⟨b, 2, none⟩) hblt).trans hc2; go_simp <;> (try with_reducible rfl))
  try simp only [Act.put, List.setIfInBounds_toArray, List.set_cons_zero, List.set_cons_succ]
  refine wpAnyH_take (i := 3) (oi := ?a4o) (v := ?a4v) ?a4h (by kernel_rfl) (by kernel_rfl) (by kernel_rfl) ?a4q ?a4y hHeld ?a4r
  case a4h => (simp only [List.getElem?_toArray, List.getElem?_cons_succ, List.getElem?_cons_zero]; rfl)
  case a4q => exact fun _ _ _ h => h
  case a4y => (refine Or.inl ⟨by first | kernel_rfl | rfl, ?_⟩; intro w hSw; (try dsimp only at hSw); obtain ⟨⟨x0, x1, x2, x3, x4, x5, x6, x7, x8⟩, ⟨n0, n1, nf0, nf1, nlt⟩, hb7⟩ := hSw; dsimp only at x0 x1 x2 x3 x4 x5 x6 x7 x8; have hln := hlen _ hb7; have b0 := (hb7.cell (p := ⟨b, 0, none⟩) hblt).trans hc0; have b2 := (hb7.cell (p := ⟨b, 2, none⟩) hblt).trans hc2; go_simp <;> (try with_reducible rfl))
  try simp only [Act.put, List.setIfInBounds_toArray, List.set_cons_zero, List.set_cons_succ]
  refine wpAnyH_take (i := 4) (oi := ?a5o) (v := ?a5v) ?a5h (by kernel_rfl) (by kernel_rfl) (by kernel_rfl) ?a5q ?a5y hHeld ?a5r
  case a5h => (simp only [List.getElem?_toArray, List.getElem?_cons_succ, List.getElem?_cons_zero]; rfl)
  case a5q => exact fun _ _ _ h => h
  case a5y => (refine Or.inl ⟨by first | kernel_rfl | rfl, ?_⟩; intro w hSw; (try dsimp only at hSw); obtain ⟨⟨x0, x1, x2, x3, x4, x5, x6, x7, x8⟩, ⟨n0, n1, nf0, nf1, nlt⟩, hb7⟩ := hSw; dsimp only at x0 x1 x2 x3 x4 x5 x6 x7 x8; have hln := hlen _ hb7; have b0 := (hb7.cell (p := ⟨b, 0, none⟩) hblt).trans hc0; have b2 := (hb7.cell (p := ⟨b, 2, none⟩) hblt).trans hc2; go_simp <;> (try with_reducible rfl))
  try simp only [Act.put, List.setIfInBounds_toArray, List.set_cons_zero, List.set_cons_succ]
  refine wpAnyH_ready (rs := [5]) (by kernel_rfl) (by simp) ?_
  refine (AllReadyH.cons rfl (fun K hK => ?_) AllReadyH.nil)
  go_simp
  (go_at_call 32; (with_reducible refine (kf _ hHeld.bel).mono ?_); rintro e w4 ⟨rfl, hb4⟩; (have hHeld := hHeld.later hb4); clear hb4)
  refine hK.out _ _ (hHeld) (fun hHeld => ?_)
  clear hK K
  try simp only [Act.put, List.setIfInBounds_toArray, List.set_cons_zero, List.set_cons_succ]
  refine wpAnyH_take (i := 6) (oi := ?a6o) (v := ?a6v) ?a6h (by kernel_rfl) (by kernel_rfl) (by kernel_rfl) ?a6q ?a6y hHeld ?a6r
  case a6h => (simp only [List.getElem?_toArray, List.getElem?_cons_succ, List.getElem?_cons_zero]; rfl)
  case a6q => exact fun _ _ _ h => h
  case a6y => (refine Or.inl ⟨by first | kernel_rfl | rfl, ?_⟩; intro w hSw; (try dsimp only at hSw); obtain ⟨⟨x0, x1, x2, x3, x4, x5, x6, x7, x8⟩, ⟨n0, n1, nf0, nf1, nlt⟩, hb7⟩ := hSw; dsimp only at x0 x1 x2 x3 x4 x5 x6 x7 x8; have hln := hlen _ hb7; have b0 := (hb7.cell (p := ⟨b, 0, none⟩) hblt).trans hc0; have b2 := (hb7.cell (p := ⟨b, 2, none⟩) hblt).trans hc2; go_simp <;> (try with_reducible rfl))
  try simp only [Act.put, List.setIfInBounds_toArray, List.set_cons_zero, List.set_cons_succ]
  refine wpAnyH_take (i := 7) (oi := ?a7o) (v := ?a7v) ?a7h (by kernel_rfl) (by kernel_rfl) (by kernel_rfl) ?a7q ?a7y hHeld ?a7r
  case a7h => (simp only [List.getElem?_toArray, List.getElem?_cons_succ, List.getElem?_cons_zero]; rfl)
  case a7q => exact fun _ _ _ h => h
  case a7y => (refine Or.inl ⟨by first | kernel_rfl | rfl, ?_⟩; intro w hSw; (try dsimp only at hSw); obtain ⟨⟨x0, x1, x2, x3, x4, x5, x6, x7, x8⟩, ⟨n0, n1, nf0, nf1, nlt⟩, hb7⟩ := hSw; dsimp only at x0 x1 x2 x3 x4 x5 x6 x7 x8; have hln := hlen _ hb7; have b0 := (hb7.cell (p := ⟨b, 0, none⟩) hblt).trans hc0; have b2 := (hb7.cell (p := ⟨b, 2, none⟩) hblt).trans hc2; go_simp <;> (try with_reducible rfl))
  try simp only [Act.put, List.setIfInBounds_toArray, List.set_cons_zero, List.set_cons_succ]
  refine wpAnyH_take (i := 8) (oi := ?a8o) (v := ?a8v) ?a8h (by kernel_rfl) (by kernel_rfl) (by kernel_rfl) ?a8q ?a8y hHeld ?a8r
  case a8h => (simp only [List.getElem?_toArray, List.getElem?_cons_succ, List.getElem?_cons_zero]; rfl)
  case a8q => exact fun _ _ _ h => h
  case a8y => (refine Or.inl ⟨by first | kernel_rfl | rfl, ?_⟩; intro w hSw; (try dsimp only at hSw); obtain ⟨⟨x0, x1, x2, x3, x4, x5, x6, x7, x8⟩, ⟨n0, n1, nf0, nf1, nlt⟩, hb7⟩ := hSw; dsimp only at x0 x1 x2 x3 x4 x5 x6 x7 x8; have hln := hlen _ hb7; have b0 := (hb7.cell (p := ⟨b, 0, none⟩) hblt).trans hc0; have b2 := (hb7.cell (p := ⟨b, 2, none⟩) hblt).trans hc2; go_simp <;> (try with_reducible rfl))
  try simp only [Act.put, List.setIfInBounds_toArray, List.set_cons_zero, List.set_cons_succ]
  refine wpAnyH_done (by kernel_rfl) ?_ _
  obtain ⟨⟨x0, x1, x2, x3, x4, x5, x6, x7, x8⟩, ⟨n0, n1, nf0, nf1, nlt⟩, hb7⟩ := id hHeld
  dsimp only at x0 x1 x2 x3 x4 x5 x6 x7 x8
  clear hb7
  go_wp2_with (go_at_call 39; (with_reducible refine (kh _ hHeld.bel).mono ?_); rintro e w5 ⟨rfl, hb5⟩; (have hHeld := hHeld.later hb5); clear hb5)
  clear x0 x1 x2 x3 x4 x5 x6 x7 x8 n0 n1 nf0 nf1 nlt
  refine wp_region_held_drew (S := (HO w w.heap.size N ⟨⟨rk, rs, rt, rv, rtier, ⟨rc, rst, rq⟩, rd⟩, ra, rcc⟩ rst rq)) (by kernel_rfl) hHeld.drew (fun hHeld => ?_)
  refine wpAnyH_take (i := 0) (oi := ?c1o) (v := ?c1v) ?c1h (by kernel_rfl) (by kernel_rfl) (by kernel_rfl) ?c1q ?c1y hHeld ?c1r
  case c1h => (simp only [List.getElem?_toArray, List.getElem?_cons_zero]; rfl)
  case c1q => exact fun _ _ _ h => h
  case c1y => (refine Or.inl ⟨by first | kernel_rfl | rfl, ?_⟩; intro w hSw; (try dsimp only at hSw); obtain ⟨⟨x0, x1, x2, x3, x4, x5, x6, x7, x8⟩, ⟨n0, n1, nf0, nf1, nlt⟩, hb7⟩ := hSw; dsimp only at x0 x1 x2 x3 x4 x5 x6 x7 x8; have hln := hlen _ hb7; have b0 := (hb7.cell (p := ⟨b, 0, none⟩) hblt).trans hc0; have b2 := (hb7.cell (p := ⟨b, 2, none⟩) hblt).trans hc2; go_simp <;> (try with_reducible rfl))
  try simp only [Act.put, List.setIfInBounds_toArray, List.set_cons_zero, List.set_cons_succ]
  refine wpAnyH_take (i := 1) (oi := ?c2o) (v := ?c2v) ?c2h (by kernel_rfl) (by kernel_rfl) (by kernel_rfl) ?c2q ?c2y hHeld ?c2r
  case c2h => (simp only [List.getElem?_toArray, List.getElem?_cons_succ, List.getElem?_cons_zero]; rfl)
  case c2q => exact fun _ _ _ h => h
  case c2y => (refine Or.inl ⟨by first | kernel_rfl | rfl, ?_⟩; intro w hSw; (try dsimp only at hSw); obtain ⟨⟨x0, x1, x2, x3, x4, x5, x6, x7, x8⟩, ⟨n0, n1, nf0, nf1, nlt⟩, hb7⟩ := hSw; dsimp only at x0 x1 x2 x3 x4 x5 x6 x7 x8; have hln := hlen _ hb7; have b0 := (hb7.cell (p := ⟨b, 0, none⟩) hblt).trans hc0; have b2 := (hb7.cell (p := ⟨b, 2, none⟩) hblt).trans hc2; go_simp <;> (try with_reducible rfl))
  try simp only [Act.put, List.setIfInBounds_toArray, List.set_cons_zero, List.set_cons_succ]
  refine wpAnyH_take (i := 2) (oi := ?c3o) (v := ?c3v) ?c3h (by kernel_rfl) (by kernel_rfl) (by kernel_rfl) ?c3q ?c3y hHeld ?c3r
  case c3h => (simp only [List.getElem?_toArray, List.getElem?_cons_succ, List.getElem?_cons_zero]; rfl)
  case c3q => exact fun _ _ _ h => h
  case c3y => (refine Or.inl ⟨by first | kernel_rfl | rfl, ?_⟩; intro w hSw; (try dsimp only at hSw); obtain ⟨⟨x0, x1, x2, x3, x4, x5, x6, x7, x8⟩, ⟨n0, n1, nf0, nf1, nlt⟩, hb7⟩ := hSw; dsimp only at x0 x1 x2 x3 x4 x5 x6 x7 x8; have hln := hlen _ hb7; have b0 := (hb7.cell (p := ⟨b, 0, none⟩) hblt).trans hc0; have b2 := (hb7.cell (p := ⟨b, 2, none⟩) hblt).trans hc2; go_simp <;> (try with_reducible rfl))
  try simp only [Act.put, List.setIfInBounds_toArray, List.set_cons_zero, List.set_cons_succ]
  refine wpAnyH_take (i := 3) (oi := ?c4o) (v := ?c4v) ?c4h (by kernel_rfl) (by kernel_rfl) (by kernel_rfl) ?c4q ?c4y hHeld ?c4r
  case c4h => (simp only [List.getElem?_toArray, List.getElem?_cons_succ, List.getElem?_cons_zero]; rfl)
  case c4q => exact fun _ _ _ h => h
  case c4y => (refine Or.inl ⟨by first | kernel_rfl | rfl, ?_⟩; intro w hSw; (try dsimp only at hSw); obtain ⟨⟨x0, x1, x2, x3, x4, x5, x6, x7, x8⟩, ⟨n0, n1, nf0, nf1, nlt⟩, hb7⟩ := hSw; dsimp only at x0 x1 x2 x3 x4 x5 x6 x7 x8; have hln := hlen _ hb7; have b0 := (hb7.cell (p := ⟨b, 0, none⟩) hblt).trans hc0; have b2 := (hb7.cell (p := ⟨b, 2, none⟩) hblt).trans hc2; go_simp <;> (try with_reducible rfl))
  try simp only [Act.put, List.setIfInBounds_toArray, List.set_cons_zero, List.set_cons_succ]
  refine wpAnyH_take (i := 4) (oi := ?c5o) (v := ?c5v) ?c5h (by kernel_rfl) (by kernel_rfl) (by kernel_rfl) ?c5q ?c5y hHeld ?c5r
  case c5h => (simp only [List.getElem?_toArray, List.getElem?_cons_succ, List.getElem?_cons_zero]; rfl)
  case c5q => exact fun _ _ _ h => h
  case c5y => (refine Or.inl ⟨by first | kernel_rfl | rfl, ?_⟩; intro w hSw; (try dsimp only at hSw); obtain ⟨⟨x0, x1, x2, x3, x4, x5, x6, x7, x8⟩, ⟨n0, n1, nf0, nf1, nlt⟩, hb7⟩ := hSw; dsimp only at x0 x1 x2 x3 x4 x5 x6 x7 x8; have hln := hlen _ hb7; have b0 := (hb7.cell (p := ⟨b, 0, none⟩) hblt).trans hc0; have b2 := (hb7.cell (p := ⟨b, 2, none⟩) hblt).trans hc2; go_simp <;> (try with_reducible rfl))
  try simp only [Act.put, List.setIfInBounds_toArray, List.set_cons_zero, List.set_cons_succ]
  refine wpAnyH_take (i := 5) (oi := ?c6o) (v := ?c6v) ?c6h (by kernel_rfl) (by kernel_rfl) (by kernel_rfl) ?c6q ?c6y hHeld ?c6r
  case c6h => (simp only [List.getElem?_toArray, List.getElem?_cons_succ, List.getElem?_cons_zero]; rfl)
  case c6q => exact fun _ _ _ h => h
  case c6y => (refine Or.inl ⟨by first | kernel_rfl | rfl, ?_⟩; intro w hSw; (try dsimp only at hSw); obtain ⟨⟨x0, x1, x2, x3, x4, x5, x6, x7, x8⟩, ⟨n0, n1, nf0, nf1, nlt⟩, hb7⟩ := hSw; dsimp only at x0 x1 x2 x3 x4 x5 x6 x7 x8; have hln := hlen _ hb7; have b0 := (hb7.cell (p := ⟨b, 0, none⟩) hblt).trans hc0; have b2 := (hb7.cell (p := ⟨b, 2, none⟩) hblt).trans hc2; go_simp <;> (try with_reducible rfl))
  try simp only [Act.put, List.setIfInBounds_toArray, List.set_cons_zero, List.set_cons_succ]
  refine wpAnyH_take (i := 6) (oi := ?c7o) (v := ?c7v) ?c7h (by kernel_rfl) (by kernel_rfl) (by kernel_rfl) ?c7q ?c7y hHeld ?c7r
  case c7h => (simp only [List.getElem?_toArray, List.getElem?_cons_succ, List.getElem?_cons_zero]; rfl)
  case c7q => exact fun _ _ _ h => h
  case c7y => (refine Or.inl ⟨by first | kernel_rfl | rfl, ?_⟩; intro w hSw; (try dsimp only at hSw); obtain ⟨⟨x0, x1, x2, x3, x4, x5, x6, x7, x8⟩, ⟨n0, n1, nf0, nf1, nlt⟩, hb7⟩ := hSw; dsimp only at x0 x1 x2 x3 x4 x5 x6 x7 x8; have hln := hlen _ hb7; have b0 := (hb7.cell (p := ⟨b, 0, none⟩) hblt).trans hc0; have b2 := (hb7.cell (p := ⟨b, 2, none⟩) hblt).trans hc2; go_simp <;> (try with_reducible rfl))
  try simp only [Act.put, List.setIfInBounds_toArray, List.set_cons_zero, List.set_cons_succ]
  refine wpAnyH_take (i := 7) (oi := ?c8o) (v := ?c8v) ?c8h (by kernel_rfl) (by kernel_rfl) (by kernel_rfl) ?c8q ?c8y hHeld ?c8r
  case c8h => (simp only [List.getElem?_toArray, List.getElem?_cons_succ, List.getElem?_cons_zero]; rfl)
  case c8q => exact fun _ _ _ h => h
  case c8y => (refine Or.inl ⟨by first | kernel_rfl | rfl, ?_⟩; intro w hSw; (try dsimp only at hSw); obtain ⟨⟨x0, x1, x2, x3, x4, x5, x6, x7, x8⟩, ⟨n0, n1, nf0, nf1, nlt⟩, hb7⟩ := hSw; dsimp only at x0 x1 x2 x3 x4 x5 x6 x7 x8; have hln := hlen _ hb7; have b0 := (hb7.cell (p := ⟨b, 0, none⟩) hblt).trans hc0; have b2 := (hb7.cell (p := ⟨b, 2, none⟩) hblt).trans hc2; go_simp <;> (try with_reducible rfl))
  try simp only [Act.put, List.setIfInBounds_toArray, List.set_cons_zero, List.set_cons_succ]
  refine wpAnyH_take (i := 8) (oi := ?c9o) (v := ?c9v) ?c9h (by kernel_rfl) (by kernel_rfl) (by kernel_rfl) ?c9q ?c9y hHeld ?c9r
  case c9h => (simp only [List.getElem?_toArray, List.getElem?_cons_succ, List.getElem?_cons_zero]; rfl)
  case c9q => exact fun _ _ _ h => h
  case c9y => (refine Or.inl ⟨by first | kernel_rfl | rfl, ?_⟩; intro w hSw; (try dsimp only at hSw); obtain ⟨⟨x0, x1, x2, x3, x4, x5, x6, x7, x8⟩, ⟨n0, n1, nf0, nf1, nlt⟩, hb7⟩ := hSw; dsimp only at x0 x1 x2 x3 x4 x5 x6 x7 x8; have hln := hlen _ hb7; have b0 := (hb7.cell (p := ⟨b, 0, none⟩) hblt).trans hc0; have b2 := (hb7.cell (p := ⟨b, 2, none⟩) hblt).trans hc2; go_simp <;> (try with_reducible rfl))
  try simp only [Act.put, List.setIfInBounds_toArray, List.set_cons_zero, List.set_cons_succ]
  refine wpAnyH_take (i := 9) (oi := ?c10o) (v := ?c10v) ?c10h (by kernel_rfl) (by kernel_rfl) (by kernel_rfl) ?c10q ?c10y hHeld ?c10r
  case c10h => (simp only [List.getElem?_toArray, List.getElem?_cons_succ, List.getElem?_cons_zero]; rfl)
  case c10q => exact fun _ _ _ h => h
  case c10y => (refine Or.inl ⟨by first | kernel_rfl | rfl, ?_⟩; intro w hSw; (try dsimp only at hSw); obtain ⟨⟨x0, x1, x2, x3, x4, x5, x6, x7, x8⟩, ⟨n0, n1, nf0, nf1, nlt⟩, hb7⟩ := hSw; dsimp only at x0 x1 x2 x3 x4 x5 x6 x7 x8; have hln := hlen _ hb7; have b0 := (hb7.cell (p := ⟨b, 0, none⟩) hblt).trans hc0; have b2 := (hb7.cell (p := ⟨b, 2, none⟩) hblt).trans hc2; go_simp <;> (try with_reducible rfl))
  try simp only [Act.put, List.setIfInBounds_toArray, List.set_cons_zero, List.set_cons_succ]
  refine wpAnyH_take (i := 10) (oi := ?c11o) (v := ?c11v) ?c11h (by kernel_rfl) (by kernel_rfl) (by kernel_rfl) ?c11q ?c11y hHeld ?c11r
  case c11h => (simp only [List.getElem?_toArray, List.getElem?_cons_succ, List.getElem?_cons_zero]; rfl)
  case c11q => exact fun _ _ _ h => h
  case c11y => (refine Or.inl ⟨by first | kernel_rfl | rfl, ?_⟩; intro w hSw; (try dsimp only at hSw); obtain ⟨⟨x0, x1, x2, x3, x4, x5, x6, x7, x8⟩, ⟨n0, n1, nf0, nf1, nlt⟩, hb7⟩ := hSw; dsimp only at x0 x1 x2 x3 x4 x5 x6 x7 x8; have hln := hlen _ hb7; have b0 := (hb7.cell (p := ⟨b, 0, none⟩) hblt).trans hc0; have b2 := (hb7.cell (p := ⟨b, 2, none⟩) hblt).trans hc2; go_simp <;> (try with_reducible rfl))
  try simp only [Act.put, List.setIfInBounds_toArray, List.set_cons_zero, List.set_cons_succ]
  refine wpAnyH_take (i := 11) (oi := ?c12o) (v := undef) ?c12h (by kernel_rfl) (by kernel_rfl) (by kernel_rfl) ?c12q ?c12y hHeld ?c12r
  case c12h => (simp only [List.getElem?_toArray, List.getElem?_cons_succ, List.getElem?_cons_zero]; rfl)
  case c12q => exact fun _ _ _ h => h
  case c12y => exact Or.inr ⟨by first | kernel_rfl | rfl, rfl⟩
  try simp only [Act.put, List.setIfInBounds_toArray, List.set_cons_zero, List.set_cons_succ]
  refine wpAnyH_take (i := 12) (oi := ?c13o) (v := undef) ?c13h (by kernel_rfl) (by kernel_rfl) (by kernel_rfl) ?c13q ?c13y hHeld ?c13r
  case c13h => (simp only [List.getElem?_toArray, List.getElem?_cons_succ, List.getElem?_cons_zero]; rfl)
  case c13q => exact fun _ _ _ h => h
  case c13y => exact Or.inr ⟨by first | kernel_rfl | rfl, rfl⟩
  try simp only [Act.put, List.setIfInBounds_toArray, List.set_cons_zero, List.set_cons_succ]
  refine wpAnyH_take (i := 13) (oi := ?c14o) (v := undef) ?c14h (by kernel_rfl) (by kernel_rfl) (by kernel_rfl) ?c14q ?c14y hHeld ?c14r
  case c14h => (simp only [List.getElem?_toArray, List.getElem?_cons_succ, List.getElem?_cons_zero]; rfl)
  case c14q => exact fun _ _ _ h => h
  case c14y => exact Or.inr ⟨by first | kernel_rfl | rfl, rfl⟩
  try simp only [Act.put, List.setIfInBounds_toArray, List.set_cons_zero, List.set_cons_succ]
  refine wpAnyH_take (i := 14) (oi := ?c15o) (v := undef) ?c15h (by kernel_rfl) (by kernel_rfl) (by kernel_rfl) ?c15q ?c15y hHeld ?c15r
  case c15h => (simp only [List.getElem?_toArray, List.getElem?_cons_succ, List.getElem?_cons_zero]; rfl)
  case c15q => exact fun _ _ _ h => h
  case c15y => exact Or.inr ⟨by first | kernel_rfl | rfl, rfl⟩
  try simp only [Act.put, List.setIfInBounds_toArray, List.set_cons_zero, List.set_cons_succ]
  refine wpAnyH_take (i := 15) (oi := ?c16o) (v := ?c16v) ?c16h (by kernel_rfl) (by kernel_rfl) (by kernel_rfl) ?c16q ?c16y hHeld ?c16r
  case c16h => (simp only [List.getElem?_toArray, List.getElem?_cons_succ, List.getElem?_cons_zero]; rfl)
  case c16q => exact fun _ _ _ h => h
  case c16y => (refine Or.inl ⟨by first | kernel_rfl | rfl, ?_⟩; intro w hSw; (try dsimp only at hSw); obtain ⟨⟨x0, x1, x2, x3, x4, x5, x6, x7, x8⟩, ⟨n0, n1, nf0, nf1, nlt⟩, hb7⟩ := hSw; dsimp only at x0 x1 x2 x3 x4 x5 x6 x7 x8; have hln := hlen _ hb7; have b0 := (hb7.cell (p := ⟨b, 0, none⟩) hblt).trans hc0; have b2 := (hb7.cell (p := ⟨b, 2, none⟩) hblt).trans hc2; go_simp <;> (try with_reducible rfl))
  try simp only [Act.put, List.setIfInBounds_toArray, List.set_cons_zero, List.set_cons_succ]
  refine wpAnyH_take (i := 16) (oi := ?c17o) (v := ?c17v) ?c17h (by kernel_rfl) (by kernel_rfl) (by kernel_rfl) ?c17q ?c17y hHeld ?c17r
  case c17h => (simp only [List.getElem?_toArray, List.getElem?_cons_succ, List.getElem?_cons_zero]; rfl)
  case c17q => exact fun _ _ _ h => h
  case c17y => (refine Or.inl ⟨by first | kernel_rfl | rfl, ?_⟩; intro w hSw; (try dsimp only at hSw); obtain ⟨⟨x0, x1, x2, x3, x4, x5, x6, x7, x8⟩, ⟨n0, n1, nf0, nf1, nlt⟩, hb7⟩ := hSw; dsimp only at x0 x1 x2 x3 x4 x5 x6 x7 x8; have hln := hlen _ hb7; have b0 := (hb7.cell (p := ⟨b, 0, none⟩) hblt).trans hc0; have b2 := (hb7.cell (p := ⟨b, 2, none⟩) hblt).trans hc2; go_simp <;> (try with_reducible rfl))
  try simp only [Act.put, List.setIfInBounds_toArray, List.set_cons_zero, List.set_cons_succ]
  refine wpAnyH_done (by kernel_rfl) ?_ _
  obtain ⟨⟨x0, x1, x2, x3, x4, x5, x6, x7, x8⟩, ⟨n0, n1, nf0, nf1, nlt⟩, hb7⟩ := id hHeld
  dsimp only at x0 x1 x2 x3 x4 x5 x6 x7 x8
  have kho := hold_is (HH.out.later hHeld.bel) (Nat.le_trans HBB.out hHeld.bel.size) ⟨⟨rk, rs, rt, rv, rtier, ⟨rc, rst, rq⟩, rd⟩, ra, rcc⟩ (Ns.later HN.out hHeld.bel) HX.out HNO.out HG.out HDL.out
  have HBL := Lib.hid hHeld.bel
  unfold recV Rd.dv kV at kho
  dsimp only at kho
  clear hb7 hHeld
  go_wp2_with (go_at_call 40; (with_reducible refine kho.mono ?_); rintro e w9 ⟨rfl, hbuf9, hfr9⟩; (have HBF := Lib.hid hbuf9); (have HFR := Lib.hid hfr9); clear hbuf9 hfr9)
  go_ret
  exact ⟨(by rw [HE.out]; rfl), by rw [HS.out]; exact HBF.out.next9 HBB.out HBL.out HFR.out.size, (FrF.of HBL.out).next HFR.out fun _ _ h => h⟩
theorem offer_is {w : World} {B b : Nat} {S : CS} {F : Nat → Prop} (h : Buf w B b S F) (hB : B ≤ w.heap.size) (x : Rd) (hN : Ns w x.dv x.r.d) (hf : x.r.fits) (hdl : x.r.d.length ≤ 1000000) : Calls Try.prog 16 #[.pointer (some ⟨b, 0, none⟩), recV x.r x.dv] w (OfferDone w B b S F x.r) := by
  obtain ⟨mv, ov, h⟩ := h
  cases hx : x.r.ok with
  | false => exact offer_bad h hB x hN hf hdl hx
  | true =>
    by_cases hq : x.r.st.q < atL S.out x.r.st.s + 1
    · exact offer_seq h hB x hN hf hdl hx hq
    · cases hh : hasB S.L x.r.st.s x.r.st.q with
      | true => exact offer_has h hB x hN hf hdl hx hq hh
      | false =>
        by_cases hr : S.room ≤ (S.L.length : Int)
        · cases hd : dueB S x.r with
          | false => exact offer_full h hB x hN hf hdl hx hq hh hr hd
          | true => exact offer_due h hB x hN hf hdl hx hq hh hr hd
        · exact offer_room h hB x hN hf hdl hx hq hh hr
set_option maxHeartbeats 1000000 in
theorem offer_nil (x : Rd) (w : World) : Calls Try.prog 16 #[.pointer none, recV x.r x.dv] w fun e w' => e = .returned (.int .i64 3) ∧ Below w.heap.size w w' := by
  have hal := (Below.refl w.heap.size w).alloc (Nat.le_refl _) (box9 x)
  obtain ⟨⟨rk, rs, rt, rv, rtier, ⟨rc, rst, rq⟩, rd⟩, ra, rcc⟩ := x
  unfold recV Rd.dv box9 at *
  dsimp only at *
  have HAL := Lib.hid hal
  clear hal
  go_enter Try.func16, Try.ntmps16
  go_wp2
  go_ret
  exact ⟨rfl, HAL.out⟩
end Go.Proofs.Ythifmfgnblecbaa.Og.Cb
