/- The contract of taken's closure that reads a point. -/
import Derived.Test.YtkomfenjeoaelaaDoorBlockLRow
import Derived.Test.YtkomfenjeoaelaaDoorBlockOwnX
import Derived.Test.YtkomfenjeoaelaaDoorBlockSizes
import Derived.Test.YtkomfenjeoaelaaDoorBlockReadMath
import Derived.Test.YtkomfenjeoaelaaDoorSampleG
set_option maxRecDepth 20000
set_option linter.unusedSimpArgs false
set_option linter.unusedVariables false
namespace Go.Proofs.YtkomfenjeoaelaaDoor
open Go.RowKit Go.Proofs.YtkomfenjeoaelaaDoor.Vi Go.Proofs.YtkomfenjeoaelaaDoor.Mk

/-- Where the closures' variables stand, apart from the reader and the point. -/
structure NeX (d x zs zi zr : Nat) : Prop where
  xd : x ≠ d
  sd : zs ≠ d
  sx : zs ≠ x
  id : zi ≠ d
  ix : zi ≠ x
  rd : zr ≠ d
  rx : zr ≠ x
/-- The reader, the point that is read, the methods' variables; nothing else has turned. -/
structure TX (w wr : World) (d x zs zi zr : Nat) (r : ByteArray) (b : Bool) (p : Pt) : Prop where
  ra : RA wr d r b
  at_ : PtW wr x p
  out : PtW wr w.heap.size Pt.zero
  s : wr.cell? ⟨zs, 0, none⟩ = some (.func (.func 85) #[.pointer (some ⟨d, 0, none⟩)] #[])
  i : wr.cell? ⟨zi, 0, none⟩ = some (.func (.func 86) #[.pointer (some ⟨d, 0, none⟩)] #[])
  r : wr.cell? ⟨zr, 0, none⟩ = some (.pointer (some ⟨d, 0, none⟩))
  far : d < w.heap.size ∧ x < w.heap.size
  bel : ButP (fun k => k = d ∨ k = x) w wr
theorem TX.but {w wr w' : World} {d x zs zi zr : Nat} {r r' : ByteArray} {b b' : Bool} {p : Pt} (h : TX w wr d x zs zi zr r b p) (n : NeX d x zs zi zr) (k : But d wr w') (hr : RA w' d r' b') : TX w w' d x zs zi zr r' b' p :=
  ⟨hr, h.at_.but k n.xd, h.out.but k (by have := h.far; omega), (k.cell (p := ⟨zs, 0, none⟩) n.sd (World.block_lt_of_cell? _ _ h.s)).trans h.s, (k.cell (p := ⟨zi, 0, none⟩) n.id (World.block_lt_of_cell? _ _ h.i)).trans h.i, (k.cell (p := ⟨zr, 0, none⟩) n.rd (World.block_lt_of_cell? _ _ h.r)).trans h.r, h.far, h.bel.but k (Or.inl (Or.inl rfl))⟩
theorem TX.later {w wr w' : World} {d x zs zi zr : Nat} {r : ByteArray} {b : Bool} {p : Pt} (h : TX w wr d x zs zi zr r b p) (k : Below wr.heap.size wr w') : TX w w' d x zs zi zr r b p :=
  ⟨h.ra.below k, h.at_.below k, h.out.below k, (k.cell (p := ⟨zs, 0, none⟩) (World.block_lt_of_cell? _ _ h.s)).trans h.s, (k.cell (p := ⟨zi, 0, none⟩) (World.block_lt_of_cell? _ _ h.i)).trans h.i, (k.cell (p := ⟨zr, 0, none⟩) (World.block_lt_of_cell? _ _ h.r)).trans h.r, h.far, h.bel.ofB k h.bel.size⟩
theorem TX.drew {w wr : World} {d x zs zi zr : Nat} {r : ByteArray} {b : Bool} {p : Pt} (h : TX w wr d x zs zi zr r b p) : TX w wr.drew d x zs zi zr r b p := h.later ((Below.refl _ _).drew)
theorem PtW.farB12 {w w' : World} {b B : Nat} {p : Pt} (h : PtW w b p) (k : Below B w w') (hb : b < B) : PtW w' b p :=
  h.same (k.block b hb)
theorem TX.first {w : World} {d x zs zi zr : Nat} {r : ByteArray} {b : Bool} {p : Pt} (h : RA w d r b) (hp : PtW w x p) (hs : w.cell? ⟨zs, 0, none⟩ = some (.func (.func 85) #[.pointer (some ⟨d, 0, none⟩)] #[])) (hi : w.cell? ⟨zi, 0, none⟩ = some (.func (.func 86) #[.pointer (some ⟨d, 0, none⟩)] #[])) (hr : w.cell? ⟨zr, 0, none⟩ = some (.pointer (some ⟨d, 0, none⟩))) : TX w (w.alloc (.cells #[.string ⟨#[]⟩, .int .i64 0, .int .i64 0, .int .i64 0, .int .i64 0, .int .i64 0] 32)) d x zs zi zr r b p := by
  have k := (Below.refl w.heap.size w).alloc (Nat.le_refl _) (.cells #[.string ⟨#[]⟩, .int .i64 0, .int .i64 0, .int .i64 0, .int .i64 0, .int .i64 0] 32)
  exact ⟨h.below k, hp.below k, PtW.new w Pt.zero, (k.cell (p := ⟨zs, 0, none⟩) (World.block_lt_of_cell? _ _ hs)).trans hs, (k.cell (p := ⟨zi, 0, none⟩) (World.block_lt_of_cell? _ _ hi)).trans hi, (k.cell (p := ⟨zr, 0, none⟩) (World.block_lt_of_cell? _ _ hr)).trans hr, ⟨h.room, hp.at_.room⟩, (ButP.refl _ w).alloc _⟩
theorem TX.set1 {w wr : World} {d x zs zi zr : Nat} {r : ByteArray} {b : Bool} {p : Pt} (h : TX w wr d x zs zi zr r b p) (n : NeX d x zs zi zr) (z : Int) : TX w (wr.setCell ⟨x, 1, none⟩ (.int .i64 z)) d x zs zi zr r b { p with t := z } := by
  have hf := h.far
  have hsx := n.sx
  have hix := n.ix
  have hrx := n.rx
  refine ⟨?_, h.at_.set1 z, ?_, ?_, ?_, ?_, hf, ?_⟩
  · refine RA.other ?_ _ _ n.xd; exact h.ra
  · refine PtW.other ?_ _ _ (show x ≠ w.heap.size by omega); exact h.out
  · rw [World.cell?_setCell_far _ _ _ _ (show x ≠ zs from Ne.symm hsx)]; exact h.s
  · rw [World.cell?_setCell_far _ _ _ _ (show x ≠ zi from Ne.symm hix)]; exact h.i
  · rw [World.cell?_setCell_far _ _ _ _ (show x ≠ zr from Ne.symm hrx)]; exact h.r
  · exact (ButP.setCell h.bel x 1 (.int .i64 z) (Or.inl (Or.inr rfl)))
theorem TX.set2 {w wr : World} {d x zs zi zr : Nat} {r : ByteArray} {b : Bool} {p : Pt} (h : TX w wr d x zs zi zr r b p) (n : NeX d x zs zi zr) (z : Int) : TX w (wr.setCell ⟨x, 2, none⟩ (.int .i64 z)) d x zs zi zr r b { p with v := z } := by
  have hf := h.far
  have hsx := n.sx
  have hix := n.ix
  have hrx := n.rx
  refine ⟨?_, h.at_.set2 z, ?_, ?_, ?_, ?_, hf, ?_⟩
  · refine RA.other ?_ _ _ n.xd; exact h.ra
  · refine PtW.other ?_ _ _ (show x ≠ w.heap.size by omega); exact h.out
  · rw [World.cell?_setCell_far _ _ _ _ (show x ≠ zs from Ne.symm hsx)]; exact h.s
  · rw [World.cell?_setCell_far _ _ _ _ (show x ≠ zi from Ne.symm hix)]; exact h.i
  · rw [World.cell?_setCell_far _ _ _ _ (show x ≠ zr from Ne.symm hrx)]; exact h.r
  · exact (ButP.setCell h.bel x 2 (.int .i64 z) (Or.inl (Or.inr rfl)))
theorem TX.set3 {w wr : World} {d x zs zi zr : Nat} {r : ByteArray} {b : Bool} {p : Pt} (h : TX w wr d x zs zi zr r b p) (n : NeX d x zs zi zr) (z : St) : TX w (((wr.setCell ⟨x, 3, none⟩ (.int .i64 z.c)).setCell ⟨x, 4, none⟩ (.int .i64 z.s)).setCell ⟨x, 5, none⟩ (.int .i64 z.q)) d x zs zi zr r b { p with st := z } := by
  have hf := h.far
  have hsx := n.sx
  have hix := n.ix
  have hrx := n.rx
  refine ⟨?_, h.at_.set3 z, ?_, ?_, ?_, ?_, hf, ?_⟩
  · refine RA.other ?_ _ _ n.xd; refine RA.other ?_ _ _ n.xd; refine RA.other ?_ _ _ n.xd; exact h.ra
  · refine PtW.other ?_ _ _ (show x ≠ w.heap.size by omega); refine PtW.other ?_ _ _ (show x ≠ w.heap.size by omega); refine PtW.other ?_ _ _ (show x ≠ w.heap.size by omega); exact h.out
  · rw [World.cell?_setCell_far _ _ _ _ (show x ≠ zs from Ne.symm hsx), World.cell?_setCell_far _ _ _ _ (show x ≠ zs from Ne.symm hsx), World.cell?_setCell_far _ _ _ _ (show x ≠ zs from Ne.symm hsx)]; exact h.s
  · rw [World.cell?_setCell_far _ _ _ _ (show x ≠ zi from Ne.symm hix), World.cell?_setCell_far _ _ _ _ (show x ≠ zi from Ne.symm hix), World.cell?_setCell_far _ _ _ _ (show x ≠ zi from Ne.symm hix)]; exact h.i
  · rw [World.cell?_setCell_far _ _ _ _ (show x ≠ zr from Ne.symm hrx), World.cell?_setCell_far _ _ _ _ (show x ≠ zr from Ne.symm hrx), World.cell?_setCell_far _ _ _ _ (show x ≠ zr from Ne.symm hrx)]; exact h.r
  · exact (ButP.setCell (ButP.setCell (ButP.setCell h.bel x 3 (.int .i64 z.c) (Or.inl (Or.inr rfl))) x 4 (.int .i64 z.s) (Or.inl (Or.inr rfl))) x 5 (.int .i64 z.q) (Or.inl (Or.inr rfl)))

set_option maxHeartbeats 8000000 in
theorem takeb_is (d x zs zi zr : Nat) (p q : Pt) (r r' : ByteArray) (b b' : Bool) (w : World) (hr : r.size ≤ 100000) (H : Hid (ptB p r b = (q, r', b'))) (hi : b = true → r = ⟨#[]⟩) (n : NeX d x zs zi zr) (h : RA w d r b) (hp : PtW w x p)
    (hs : w.cell? ⟨zs, 0, none⟩ = some (.func (.func 85) #[.pointer (some ⟨d, 0, none⟩)] #[])) (hI : w.cell? ⟨zi, 0, none⟩ = some (.func (.func 86) #[.pointer (some ⟨d, 0, none⟩)] #[])) (hR : w.cell? ⟨zr, 0, none⟩ = some (.pointer (some ⟨d, 0, none⟩))) :
    Calls Tryd.prog 92 #[.pointer (some ⟨x, 0, none⟩), .pointer (some ⟨zs, 0, none⟩), .pointer (some ⟨zi, 0, none⟩), .pointer (some ⟨zr, 0, none⟩)] w (fun e w' => e = .returned (ptV q) ∧ RA w' d r' b' ∧ PtW w' x q ∧ ButP (fun k => k = d ∨ k = x) w w') := by
  have hmf := makeFunc_run
  obtain ⟨ti, r1, b1, v, r2, b2, a, h1, h2, h3, rfl⟩ := ptB_parts H.out
  obtain ⟨i1, -, j1⟩ := smallQ_inv h1 hi
  obtain ⟨i2, j2, -, -⟩ := num_inv6 h2 fun e => (i1 e).1
  obtain ⟨z, hz⟩ : ∃ z, zag v = z := ⟨_, rfl⟩
  have k2 := fun w hA => small_is d r r1 b b1 ti 1099511627776 w (by unfold maxLen; omega) (by omega) (Lib.hid h1) hA
  have k3 := fun w hA => int_is d r1 r2 b1 b2 v z w (by unfold maxLen; omega) (Lib.hid h2) (Lib.hid hz) hA
  have k4 := fun w hA => take_is d r2 r' b2 b' a w (by omega) (Lib.hid h3) i2 hA
  rw [hz]
  obtain ⟨t1, ht1⟩ : ∃ y, IntKind.i64.wrap (p.t + ti) = y := ⟨_, rfl⟩
  obtain ⟨v1, hv1⟩ : ∃ y, IntKind.i64.wrap (p.v + z) = y := ⟨_, rfl⟩
  rw [ht1, hv1]
  have hR0 := TX.first h hp hs hI hR
  obtain ⟨ps, pt, pv, pst⟩ := p
  dsimp only at ht1 hv1 ⊢
  clear h1 h2 h3 i1 i2 j1 j2 hr hz h hp hs hI hR H hi
  go_enter Tryd.func92, Tryd.ntmps92
  go_wp2
  have Hx := hR0.at_
  obtain ⟨⟨x0, x1, x2, x3, x4, x5⟩, f0, f1, f2, f3, f4, f5⟩ := Hx
  dsimp only at x0 x1 x2 x3 x4 x5
  have hfs := hR0.s
  have hfi := hR0.i
  have hfr := hR0.r
  have Ho := hR0.out
  obtain ⟨⟨z0, z1, z2, z3, z4, z5⟩, g0, g1, g2, g3, g4, g5⟩ := Ho
  dsimp only [Pt.zero] at z0 z1 z2 z3 z4 z5
  refine wp_region_held_drew (S := (fun W => W.cell? ⟨zs, 0, none⟩ = some (.func (.func 85) #[.pointer (some ⟨d, 0, none⟩)] #[]))) (by kernel_rfl) hR0.drew.s (fun hHeld => ?_)
  refine wpAnyH_take (i := 0) (oi := ?o1o) (v := ?o1v) ?o1h (by kernel_rfl) (by kernel_rfl) (by kernel_rfl) ?o1q ?o1y hHeld ?o1r
  case o1h => (simp only [List.getElem?_toArray, List.getElem?_cons_zero]; rfl)
  case o1q => exact fun _ _ _ h => h
  case o1y => (refine Or.inl ⟨by first | kernel_rfl | rfl, ?_⟩; intro w hSw; (try dsimp only at hSw); go_simp <;> (try with_reducible rfl))
  try simp only [Act.put, List.setIfInBounds_toArray, List.set_cons_zero, List.set_cons_succ]
  refine wpAnyH_take (i := 2) (oi := ?o2o) (v := ?o2v) ?o2h (by kernel_rfl) (by kernel_rfl) (by kernel_rfl) ?o2q ?o2y hHeld ?o2r
  case o2h => (simp only [List.getElem?_toArray, List.getElem?_cons_succ, List.getElem?_cons_zero]; rfl)
  case o2q => exact fun _ _ _ h => h
  case o2y => (refine Or.inl ⟨by first | kernel_rfl | rfl, ?_⟩; intro w hSw; (try dsimp only at hSw); go_simp <;> (try with_reducible rfl))
  try simp only [Act.put, List.setIfInBounds_toArray, List.set_cons_zero, List.set_cons_succ]
  refine wpAnyH_ready (rs := [1, 3]) (by kernel_rfl) (by simp) ?_
  refine (AllReadyH.cons rfl (fun K hK => ?_) (AllReadyH.cons rfl (fun K hK => ?_) AllReadyH.nil))
  ·
    go_simp
    skip
    refine hK.out _ _ ((by first | exact R2.s | exact hR0.drew.s | exact hR0.s)) (fun hHeld => ?_)
    clear hK K
    try simp only [Act.put, List.setIfInBounds_toArray, List.set_cons_zero, List.set_cons_succ]
    refine wpAnyH_ready (rs := [3]) (by kernel_rfl) (by simp) ?_
    refine (AllReadyH.cons rfl (fun K hK => ?_) AllReadyH.nil)
    go_simp
    ((with_reducible refine (k2 _ hR0.drew.ra).mono ?_); rintro e w2 ⟨rfl, hA2, hB2⟩; have R2 := hR0.drew.but n hB2 hA2; have Hx := R2.at_; obtain ⟨⟨x0, x1, x2, x3, x4, x5⟩, f0, f1, f2, f3, f4, f5⟩ := Hx; dsimp only at x0 x1 x2 x3 x4 x5; have hfs := R2.s; have hfi := R2.i; have hfr := R2.r; have Ho := R2.out; obtain ⟨⟨z0, z1, z2, z3, z4, z5⟩, g0, g1, g2, g3, g4, g5⟩ := Ho; dsimp only [Pt.zero] at z0 z1 z2 z3 z4 z5)
    refine hK.out _ _ (R2.s) (fun hHeld => ?_)
    clear hK K
    try simp only [Act.put, List.setIfInBounds_toArray, List.set_cons_zero, List.set_cons_succ]
    refine wpAnyH_take (i := 4) (oi := ?o3o) (v := ?o3v) ?o3h (by kernel_rfl) (by kernel_rfl) (by kernel_rfl) ?o3q ?o3y hHeld ?o3r
    case o3h => (simp only [List.getElem?_toArray, List.getElem?_cons_succ, List.getElem?_cons_zero]; rfl)
    case o3q => exact fun _ _ _ h => h
    case o3y => (refine Or.inl ⟨by first | kernel_rfl | rfl, ?_⟩; intro w hSw; (try dsimp only at hSw); go_simp <;> (try with_reducible rfl))
    try simp only [Act.put, List.setIfInBounds_toArray, List.set_cons_zero, List.set_cons_succ]
    refine wpAnyH_take (i := 5) (oi := ?o4o) (v := ?o4v) ?o4h (by kernel_rfl) (by kernel_rfl) (by kernel_rfl) ?o4q ?o4y hHeld ?o4r
    case o4h => (simp only [List.getElem?_toArray, List.getElem?_cons_succ, List.getElem?_cons_zero]; rfl)
    case o4q => exact fun _ _ _ h => h
    case o4y => (refine Or.inl ⟨by first | kernel_rfl | rfl, ?_⟩; intro w hSw; (try dsimp only at hSw); go_simp <;> (try with_reducible rfl))
    try simp only [Act.put, List.setIfInBounds_toArray, List.set_cons_zero, List.set_cons_succ]
    refine wpAnyH_ready (rs := [6]) (by kernel_rfl) (by simp) ?_
    refine (AllReadyH.cons rfl (fun K hK => ?_) AllReadyH.nil)
    go_simp
    skip
    refine hK.out _ _ ((R2.set1 n t1).s) (fun hHeld => ?_)
    clear hK K
    try simp only [Act.put]
    refine wpAnyH_done (by kernel_rfl) ?_ _
    have R3 := R2.set1 n t1
    have Hx := R3.at_
    obtain ⟨⟨x0, x1, x2, x3, x4, x5⟩, f0, f1, f2, f3, f4, f5⟩ := Hx
    dsimp only at x0 x1 x2 x3 x4 x5
    have hfs := R3.s
    have hfi := R3.i
    have hfr := R3.r
    have Ho := R3.out
    obtain ⟨⟨z0, z1, z2, z3, z4, z5⟩, g0, g1, g2, g3, g4, g5⟩ := Ho
    dsimp only [Pt.zero] at z0 z1 z2 z3 z4 z5
    go_wp2_with fail
    refine wp_region_held_drew (S := (fun W => W.cell? ⟨zi, 0, none⟩ = some (.func (.func 86) #[.pointer (some ⟨d, 0, none⟩)] #[]))) (by kernel_rfl) R3.drew.i (fun hHeld => ?_)
    refine wpAnyH_take (i := 0) (oi := ?qa1o) (v := ?qa1v) ?qa1h (by kernel_rfl) (by kernel_rfl) (by kernel_rfl) ?qa1q ?qa1y hHeld ?qa1r
    case qa1h => (simp only [List.getElem?_toArray, List.getElem?_cons_zero]; rfl)
    case qa1q => exact fun _ _ _ h => h
    case qa1y => (refine Or.inl ⟨by first | kernel_rfl | rfl, ?_⟩; intro w hSw; (try dsimp only at hSw); go_simp <;> (try with_reducible rfl))
    try simp only [Act.put, List.setIfInBounds_toArray, List.set_cons_zero, List.set_cons_succ]
    refine wpAnyH_take (i := 2) (oi := ?qa2o) (v := ?qa2v) ?qa2h (by kernel_rfl) (by kernel_rfl) (by kernel_rfl) ?qa2q ?qa2y hHeld ?qa2r
    case qa2h => (simp only [List.getElem?_toArray, List.getElem?_cons_succ, List.getElem?_cons_zero]; rfl)
    case qa2q => exact fun _ _ _ h => h
    case qa2y => (refine Or.inl ⟨by first | kernel_rfl | rfl, ?_⟩; intro w hSw; (try dsimp only at hSw); go_simp <;> (try with_reducible rfl))
    try simp only [Act.put, List.setIfInBounds_toArray, List.set_cons_zero, List.set_cons_succ]
    refine wpAnyH_ready (rs := [1, 3]) (by kernel_rfl) (by simp) ?_
    refine (AllReadyH.cons rfl (fun K hK => ?_) (AllReadyH.cons rfl (fun K hK => ?_) AllReadyH.nil))
    ·
      go_simp
      skip
      refine hK.out _ _ ((by first | exact R4.i | exact R3.drew.i | exact R3.i)) (fun hHeld => ?_)
      clear hK K
      try simp only [Act.put, List.setIfInBounds_toArray, List.set_cons_zero, List.set_cons_succ]
      refine wpAnyH_ready (rs := [3]) (by kernel_rfl) (by simp) ?_
      refine (AllReadyH.cons rfl (fun K hK => ?_) AllReadyH.nil)
      go_simp
      ((with_reducible refine (k3 _ R3.drew.ra).mono ?_); rintro e w3 ⟨rfl, hA3, hB3⟩; have R4 := R3.drew.but n hB3 hA3; have Hx := R4.at_; obtain ⟨⟨x0, x1, x2, x3, x4, x5⟩, f0, f1, f2, f3, f4, f5⟩ := Hx; dsimp only at x0 x1 x2 x3 x4 x5; have hfs := R4.s; have hfi := R4.i; have hfr := R4.r; have Ho := R4.out; obtain ⟨⟨z0, z1, z2, z3, z4, z5⟩, g0, g1, g2, g3, g4, g5⟩ := Ho; dsimp only [Pt.zero] at z0 z1 z2 z3 z4 z5)
      refine hK.out _ _ (R4.i) (fun hHeld => ?_)
      clear hK K
      try simp only [Act.put, List.setIfInBounds_toArray, List.set_cons_zero, List.set_cons_succ]
      refine wpAnyH_take (i := 4) (oi := ?qa3o) (v := ?qa3v) ?qa3h (by kernel_rfl) (by kernel_rfl) (by kernel_rfl) ?qa3q ?qa3y hHeld ?qa3r
      case qa3h => (simp only [List.getElem?_toArray, List.getElem?_cons_succ, List.getElem?_cons_zero]; rfl)
      case qa3q => exact fun _ _ _ h => h
      case qa3y => (refine Or.inl ⟨by first | kernel_rfl | rfl, ?_⟩; intro w hSw; (try dsimp only at hSw); go_simp <;> (try with_reducible rfl))
      try simp only [Act.put, List.setIfInBounds_toArray, List.set_cons_zero, List.set_cons_succ]
      refine wpAnyH_take (i := 5) (oi := ?qa4o) (v := ?qa4v) ?qa4h (by kernel_rfl) (by kernel_rfl) (by kernel_rfl) ?qa4q ?qa4y hHeld ?qa4r
      case qa4h => (simp only [List.getElem?_toArray, List.getElem?_cons_succ, List.getElem?_cons_zero]; rfl)
      case qa4q => exact fun _ _ _ h => h
      case qa4y => (refine Or.inl ⟨by first | kernel_rfl | rfl, ?_⟩; intro w hSw; (try dsimp only at hSw); go_simp <;> (try with_reducible rfl))
      try simp only [Act.put, List.setIfInBounds_toArray, List.set_cons_zero, List.set_cons_succ]
      refine wpAnyH_ready (rs := [6]) (by kernel_rfl) (by simp) ?_
      refine (AllReadyH.cons rfl (fun K hK => ?_) AllReadyH.nil)
      go_simp
      skip
      refine hK.out _ _ ((R4.set2 n v1).i) (fun hHeld => ?_)
      clear hK K
      try simp only [Act.put]
      refine wpAnyH_done (by kernel_rfl) ?_ _
      have R5 := R4.set2 n v1
      have hxq : ¬ x = w.heap.size := by have := R4.far; omega
      have hqx : ¬ w.heap.size = x := by have := R4.far; omega
      have Hx := R5.at_
      obtain ⟨⟨x0, x1, x2, x3, x4, x5⟩, f0, f1, f2, f3, f4, f5⟩ := Hx
      dsimp only at x0 x1 x2 x3 x4 x5
      have hfs := R5.s
      have hfi := R5.i
      have hfr := R5.r
      have Ho := R5.out
      obtain ⟨⟨z0, z1, z2, z3, z4, z5⟩, g0, g1, g2, g3, g4, g5⟩ := Ho
      dsimp only [Pt.zero] at z0 z1 z2 z3 z4 z5
      go_wp2_with (first
        | (go_at_call 93; (with_reducible refine (k4 _ R5.ra).mono ?_); rintro e w4 ⟨rfl, hA4, hB4⟩; have R6 := R5.but n hB4 hA4; have R7 := R6.set3 n a; have Hx := R6.at_; obtain ⟨⟨x0, x1, x2, x3, x4, x5⟩, f0, f1, f2, f3, f4, f5⟩ := Hx; dsimp only at x0 x1 x2 x3 x4 x5; have hfs := R6.s; have hfi := R6.i; have hfr := R6.r; have Ho := R6.out; obtain ⟨⟨z0, z1, z2, z3, z4, z5⟩, g0, g1, g2, g3, g4, g5⟩ := Ho; dsimp only [Pt.zero] at z0 z1 z2 z3 z4 z5; skip))
      have R8 := R7.bel.ofB (six_at (Below.refl w.heap.size _) w.heap.size (Nat.le_refl _) (.string ps) (.int .i64 t1) (.int .i64 v1) (.int .i64 a.c) (.int .i64 a.s) (.int .i64 a.q)) (Nat.le_refl _)
      have R9 := R7.ra.farB (six_at (Below.refl w.heap.size _) w.heap.size (Nat.le_refl _) (.string ps) (.int .i64 t1) (.int .i64 v1) (.int .i64 a.c) (.int .i64 a.s) (.int .i64 a.q)) R7.far.1
      have R10 := R7.at_.farB12 (six_at (Below.refl w.heap.size _) w.heap.size (Nat.le_refl _) (.string ps) (.int .i64 t1) (.int .i64 v1) (.int .i64 a.c) (.int .i64 a.s) (.int .i64 a.q)) R7.far.2
      refine bodyPost_ret (v := .agg #[.string ps, .int .i64 t1, .int .i64 v1, .int .i64 a.c, .int .i64 a.s, .int .i64 a.q]) (by simp [results, Tryd.results92, go_sem, z0, z1, z2, z3, z4, z5]; try rfl) rfl ⟨rfl, R9, R10, R8⟩
    ·
      go_simp
      ((with_reducible refine (k3 _ R3.drew.ra).mono ?_); rintro e w3 ⟨rfl, hA3, hB3⟩; have R4 := R3.drew.but n hB3 hA3; have Hx := R4.at_; obtain ⟨⟨x0, x1, x2, x3, x4, x5⟩, f0, f1, f2, f3, f4, f5⟩ := Hx; dsimp only at x0 x1 x2 x3 x4 x5; have hfs := R4.s; have hfi := R4.i; have hfr := R4.r; have Ho := R4.out; obtain ⟨⟨z0, z1, z2, z3, z4, z5⟩, g0, g1, g2, g3, g4, g5⟩ := Ho; dsimp only [Pt.zero] at z0 z1 z2 z3 z4 z5)
      refine hK.out _ _ (R4.i) (fun hHeld => ?_)
      clear hK K
      try simp only [Act.put, List.setIfInBounds_toArray, List.set_cons_zero, List.set_cons_succ]
      refine wpAnyH_ready (rs := [1]) (by kernel_rfl) (by simp) ?_
      refine (AllReadyH.cons rfl (fun K hK => ?_) AllReadyH.nil)
      go_simp
      skip
      refine hK.out _ _ ((by first | exact R4.i | exact R3.drew.i | exact R3.i)) (fun hHeld => ?_)
      clear hK K
      try simp only [Act.put, List.setIfInBounds_toArray, List.set_cons_zero, List.set_cons_succ]
      refine wpAnyH_take (i := 4) (oi := ?qa5o) (v := ?qa5v) ?qa5h (by kernel_rfl) (by kernel_rfl) (by kernel_rfl) ?qa5q ?qa5y hHeld ?qa5r
      case qa5h => (simp only [List.getElem?_toArray, List.getElem?_cons_succ, List.getElem?_cons_zero]; rfl)
      case qa5q => exact fun _ _ _ h => h
      case qa5y => (refine Or.inl ⟨by first | kernel_rfl | rfl, ?_⟩; intro w hSw; (try dsimp only at hSw); go_simp <;> (try with_reducible rfl))
      try simp only [Act.put, List.setIfInBounds_toArray, List.set_cons_zero, List.set_cons_succ]
      refine wpAnyH_take (i := 5) (oi := ?qa6o) (v := ?qa6v) ?qa6h (by kernel_rfl) (by kernel_rfl) (by kernel_rfl) ?qa6q ?qa6y hHeld ?qa6r
      case qa6h => (simp only [List.getElem?_toArray, List.getElem?_cons_succ, List.getElem?_cons_zero]; rfl)
      case qa6q => exact fun _ _ _ h => h
      case qa6y => (refine Or.inl ⟨by first | kernel_rfl | rfl, ?_⟩; intro w hSw; (try dsimp only at hSw); go_simp <;> (try with_reducible rfl))
      try simp only [Act.put, List.setIfInBounds_toArray, List.set_cons_zero, List.set_cons_succ]
      refine wpAnyH_ready (rs := [6]) (by kernel_rfl) (by simp) ?_
      refine (AllReadyH.cons rfl (fun K hK => ?_) AllReadyH.nil)
      go_simp
      skip
      refine hK.out _ _ ((R4.set2 n v1).i) (fun hHeld => ?_)
      clear hK K
      try simp only [Act.put]
      refine wpAnyH_done (by kernel_rfl) ?_ _
      have R5 := R4.set2 n v1
      have hxq : ¬ x = w.heap.size := by have := R4.far; omega
      have hqx : ¬ w.heap.size = x := by have := R4.far; omega
      have Hx := R5.at_
      obtain ⟨⟨x0, x1, x2, x3, x4, x5⟩, f0, f1, f2, f3, f4, f5⟩ := Hx
      dsimp only at x0 x1 x2 x3 x4 x5
      have hfs := R5.s
      have hfi := R5.i
      have hfr := R5.r
      have Ho := R5.out
      obtain ⟨⟨z0, z1, z2, z3, z4, z5⟩, g0, g1, g2, g3, g4, g5⟩ := Ho
      dsimp only [Pt.zero] at z0 z1 z2 z3 z4 z5
      go_wp2_with (first
        | (go_at_call 93; (with_reducible refine (k4 _ R5.ra).mono ?_); rintro e w4 ⟨rfl, hA4, hB4⟩; have R6 := R5.but n hB4 hA4; have R7 := R6.set3 n a; have Hx := R6.at_; obtain ⟨⟨x0, x1, x2, x3, x4, x5⟩, f0, f1, f2, f3, f4, f5⟩ := Hx; dsimp only at x0 x1 x2 x3 x4 x5; have hfs := R6.s; have hfi := R6.i; have hfr := R6.r; have Ho := R6.out; obtain ⟨⟨z0, z1, z2, z3, z4, z5⟩, g0, g1, g2, g3, g4, g5⟩ := Ho; dsimp only [Pt.zero] at z0 z1 z2 z3 z4 z5; skip))
      have R8 := R7.bel.ofB (six_at (Below.refl w.heap.size _) w.heap.size (Nat.le_refl _) (.string ps) (.int .i64 t1) (.int .i64 v1) (.int .i64 a.c) (.int .i64 a.s) (.int .i64 a.q)) (Nat.le_refl _)
      have R9 := R7.ra.farB (six_at (Below.refl w.heap.size _) w.heap.size (Nat.le_refl _) (.string ps) (.int .i64 t1) (.int .i64 v1) (.int .i64 a.c) (.int .i64 a.s) (.int .i64 a.q)) R7.far.1
      have R10 := R7.at_.farB12 (six_at (Below.refl w.heap.size _) w.heap.size (Nat.le_refl _) (.string ps) (.int .i64 t1) (.int .i64 v1) (.int .i64 a.c) (.int .i64 a.s) (.int .i64 a.q)) R7.far.2
      refine bodyPost_ret (v := .agg #[.string ps, .int .i64 t1, .int .i64 v1, .int .i64 a.c, .int .i64 a.s, .int .i64 a.q]) (by simp [results, Tryd.results92, go_sem, z0, z1, z2, z3, z4, z5]; try rfl) rfl ⟨rfl, R9, R10, R8⟩
  ·
    go_simp
    ((with_reducible refine (k2 _ hR0.drew.ra).mono ?_); rintro e w2 ⟨rfl, hA2, hB2⟩; have R2 := hR0.drew.but n hB2 hA2; have Hx := R2.at_; obtain ⟨⟨x0, x1, x2, x3, x4, x5⟩, f0, f1, f2, f3, f4, f5⟩ := Hx; dsimp only at x0 x1 x2 x3 x4 x5; have hfs := R2.s; have hfi := R2.i; have hfr := R2.r; have Ho := R2.out; obtain ⟨⟨z0, z1, z2, z3, z4, z5⟩, g0, g1, g2, g3, g4, g5⟩ := Ho; dsimp only [Pt.zero] at z0 z1 z2 z3 z4 z5)
    refine hK.out _ _ (R2.s) (fun hHeld => ?_)
    clear hK K
    try simp only [Act.put, List.setIfInBounds_toArray, List.set_cons_zero, List.set_cons_succ]
    refine wpAnyH_ready (rs := [1]) (by kernel_rfl) (by simp) ?_
    refine (AllReadyH.cons rfl (fun K hK => ?_) AllReadyH.nil)
    go_simp
    skip
    refine hK.out _ _ ((by first | exact R2.s | exact hR0.drew.s | exact hR0.s)) (fun hHeld => ?_)
    clear hK K
    try simp only [Act.put, List.setIfInBounds_toArray, List.set_cons_zero, List.set_cons_succ]
    refine wpAnyH_take (i := 4) (oi := ?o5o) (v := ?o5v) ?o5h (by kernel_rfl) (by kernel_rfl) (by kernel_rfl) ?o5q ?o5y hHeld ?o5r
    case o5h => (simp only [List.getElem?_toArray, List.getElem?_cons_succ, List.getElem?_cons_zero]; rfl)
    case o5q => exact fun _ _ _ h => h
    case o5y => (refine Or.inl ⟨by first | kernel_rfl | rfl, ?_⟩; intro w hSw; (try dsimp only at hSw); go_simp <;> (try with_reducible rfl))
    try simp only [Act.put, List.setIfInBounds_toArray, List.set_cons_zero, List.set_cons_succ]
    refine wpAnyH_take (i := 5) (oi := ?o6o) (v := ?o6v) ?o6h (by kernel_rfl) (by kernel_rfl) (by kernel_rfl) ?o6q ?o6y hHeld ?o6r
    case o6h => (simp only [List.getElem?_toArray, List.getElem?_cons_succ, List.getElem?_cons_zero]; rfl)
    case o6q => exact fun _ _ _ h => h
    case o6y => (refine Or.inl ⟨by first | kernel_rfl | rfl, ?_⟩; intro w hSw; (try dsimp only at hSw); go_simp <;> (try with_reducible rfl))
    try simp only [Act.put, List.setIfInBounds_toArray, List.set_cons_zero, List.set_cons_succ]
    refine wpAnyH_ready (rs := [6]) (by kernel_rfl) (by simp) ?_
    refine (AllReadyH.cons rfl (fun K hK => ?_) AllReadyH.nil)
    go_simp
    skip
    refine hK.out _ _ ((R2.set1 n t1).s) (fun hHeld => ?_)
    clear hK K
    try simp only [Act.put]
    refine wpAnyH_done (by kernel_rfl) ?_ _
    have R3 := R2.set1 n t1
    have Hx := R3.at_
    obtain ⟨⟨x0, x1, x2, x3, x4, x5⟩, f0, f1, f2, f3, f4, f5⟩ := Hx
    dsimp only at x0 x1 x2 x3 x4 x5
    have hfs := R3.s
    have hfi := R3.i
    have hfr := R3.r
    have Ho := R3.out
    obtain ⟨⟨z0, z1, z2, z3, z4, z5⟩, g0, g1, g2, g3, g4, g5⟩ := Ho
    dsimp only [Pt.zero] at z0 z1 z2 z3 z4 z5
    go_wp2_with fail
    refine wp_region_held_drew (S := (fun W => W.cell? ⟨zi, 0, none⟩ = some (.func (.func 86) #[.pointer (some ⟨d, 0, none⟩)] #[]))) (by kernel_rfl) R3.drew.i (fun hHeld => ?_)
    refine wpAnyH_take (i := 0) (oi := ?qb1o) (v := ?qb1v) ?qb1h (by kernel_rfl) (by kernel_rfl) (by kernel_rfl) ?qb1q ?qb1y hHeld ?qb1r
    case qb1h => (simp only [List.getElem?_toArray, List.getElem?_cons_zero]; rfl)
    case qb1q => exact fun _ _ _ h => h
    case qb1y => (refine Or.inl ⟨by first | kernel_rfl | rfl, ?_⟩; intro w hSw; (try dsimp only at hSw); go_simp <;> (try with_reducible rfl))
    try simp only [Act.put, List.setIfInBounds_toArray, List.set_cons_zero, List.set_cons_succ]
    refine wpAnyH_take (i := 2) (oi := ?qb2o) (v := ?qb2v) ?qb2h (by kernel_rfl) (by kernel_rfl) (by kernel_rfl) ?qb2q ?qb2y hHeld ?qb2r
    case qb2h => (simp only [List.getElem?_toArray, List.getElem?_cons_succ, List.getElem?_cons_zero]; rfl)
    case qb2q => exact fun _ _ _ h => h
    case qb2y => (refine Or.inl ⟨by first | kernel_rfl | rfl, ?_⟩; intro w hSw; (try dsimp only at hSw); go_simp <;> (try with_reducible rfl))
    try simp only [Act.put, List.setIfInBounds_toArray, List.set_cons_zero, List.set_cons_succ]
    refine wpAnyH_ready (rs := [1, 3]) (by kernel_rfl) (by simp) ?_
    refine (AllReadyH.cons rfl (fun K hK => ?_) (AllReadyH.cons rfl (fun K hK => ?_) AllReadyH.nil))
    ·
      go_simp
      skip
      refine hK.out _ _ ((by first | exact R4.i | exact R3.drew.i | exact R3.i)) (fun hHeld => ?_)
      clear hK K
      try simp only [Act.put, List.setIfInBounds_toArray, List.set_cons_zero, List.set_cons_succ]
      refine wpAnyH_ready (rs := [3]) (by kernel_rfl) (by simp) ?_
      refine (AllReadyH.cons rfl (fun K hK => ?_) AllReadyH.nil)
      go_simp
      ((with_reducible refine (k3 _ R3.drew.ra).mono ?_); rintro e w3 ⟨rfl, hA3, hB3⟩; have R4 := R3.drew.but n hB3 hA3; have Hx := R4.at_; obtain ⟨⟨x0, x1, x2, x3, x4, x5⟩, f0, f1, f2, f3, f4, f5⟩ := Hx; dsimp only at x0 x1 x2 x3 x4 x5; have hfs := R4.s; have hfi := R4.i; have hfr := R4.r; have Ho := R4.out; obtain ⟨⟨z0, z1, z2, z3, z4, z5⟩, g0, g1, g2, g3, g4, g5⟩ := Ho; dsimp only [Pt.zero] at z0 z1 z2 z3 z4 z5)
      refine hK.out _ _ (R4.i) (fun hHeld => ?_)
      clear hK K
      try simp only [Act.put, List.setIfInBounds_toArray, List.set_cons_zero, List.set_cons_succ]
      refine wpAnyH_take (i := 4) (oi := ?qb3o) (v := ?qb3v) ?qb3h (by kernel_rfl) (by kernel_rfl) (by kernel_rfl) ?qb3q ?qb3y hHeld ?qb3r
      case qb3h => (simp only [List.getElem?_toArray, List.getElem?_cons_succ, List.getElem?_cons_zero]; rfl)
      case qb3q => exact fun _ _ _ h => h
      case qb3y => (refine Or.inl ⟨by first | kernel_rfl | rfl, ?_⟩; intro w hSw; (try dsimp only at hSw); go_simp <;> (try with_reducible rfl))
      try simp only [Act.put, List.setIfInBounds_toArray, List.set_cons_zero, List.set_cons_succ]
      refine wpAnyH_take (i := 5) (oi := ?qb4o) (v := ?qb4v) ?qb4h (by kernel_rfl) (by kernel_rfl) (by kernel_rfl) ?qb4q ?qb4y hHeld ?qb4r
      case qb4h => (simp only [List.getElem?_toArray, List.getElem?_cons_succ, List.getElem?_cons_zero]; rfl)
      case qb4q => exact fun _ _ _ h => h
      case qb4y => (refine Or.inl ⟨by first | kernel_rfl | rfl, ?_⟩; intro w hSw; (try dsimp only at hSw); go_simp <;> (try with_reducible rfl))
      try simp only [Act.put, List.setIfInBounds_toArray, List.set_cons_zero, List.set_cons_succ]
      refine wpAnyH_ready (rs := [6]) (by kernel_rfl) (by simp) ?_
      refine (AllReadyH.cons rfl (fun K hK => ?_) AllReadyH.nil)
      go_simp
      skip
      refine hK.out _ _ ((R4.set2 n v1).i) (fun hHeld => ?_)
      clear hK K
      try simp only [Act.put]
      refine wpAnyH_done (by kernel_rfl) ?_ _
      have R5 := R4.set2 n v1
      have hxq : ¬ x = w.heap.size := by have := R4.far; omega
      have hqx : ¬ w.heap.size = x := by have := R4.far; omega
      have Hx := R5.at_
      obtain ⟨⟨x0, x1, x2, x3, x4, x5⟩, f0, f1, f2, f3, f4, f5⟩ := Hx
      dsimp only at x0 x1 x2 x3 x4 x5
      have hfs := R5.s
      have hfi := R5.i
      have hfr := R5.r
      have Ho := R5.out
      obtain ⟨⟨z0, z1, z2, z3, z4, z5⟩, g0, g1, g2, g3, g4, g5⟩ := Ho
      dsimp only [Pt.zero] at z0 z1 z2 z3 z4 z5
      go_wp2_with (first
        | (go_at_call 93; (with_reducible refine (k4 _ R5.ra).mono ?_); rintro e w4 ⟨rfl, hA4, hB4⟩; have R6 := R5.but n hB4 hA4; have R7 := R6.set3 n a; have Hx := R6.at_; obtain ⟨⟨x0, x1, x2, x3, x4, x5⟩, f0, f1, f2, f3, f4, f5⟩ := Hx; dsimp only at x0 x1 x2 x3 x4 x5; have hfs := R6.s; have hfi := R6.i; have hfr := R6.r; have Ho := R6.out; obtain ⟨⟨z0, z1, z2, z3, z4, z5⟩, g0, g1, g2, g3, g4, g5⟩ := Ho; dsimp only [Pt.zero] at z0 z1 z2 z3 z4 z5; skip))
      have R8 := R7.bel.ofB (six_at (Below.refl w.heap.size _) w.heap.size (Nat.le_refl _) (.string ps) (.int .i64 t1) (.int .i64 v1) (.int .i64 a.c) (.int .i64 a.s) (.int .i64 a.q)) (Nat.le_refl _)
      have R9 := R7.ra.farB (six_at (Below.refl w.heap.size _) w.heap.size (Nat.le_refl _) (.string ps) (.int .i64 t1) (.int .i64 v1) (.int .i64 a.c) (.int .i64 a.s) (.int .i64 a.q)) R7.far.1
      have R10 := R7.at_.farB12 (six_at (Below.refl w.heap.size _) w.heap.size (Nat.le_refl _) (.string ps) (.int .i64 t1) (.int .i64 v1) (.int .i64 a.c) (.int .i64 a.s) (.int .i64 a.q)) R7.far.2
      refine bodyPost_ret (v := .agg #[.string ps, .int .i64 t1, .int .i64 v1, .int .i64 a.c, .int .i64 a.s, .int .i64 a.q]) (by simp [results, Tryd.results92, go_sem, z0, z1, z2, z3, z4, z5]; try rfl) rfl ⟨rfl, R9, R10, R8⟩
    ·
      go_simp
      ((with_reducible refine (k3 _ R3.drew.ra).mono ?_); rintro e w3 ⟨rfl, hA3, hB3⟩; have R4 := R3.drew.but n hB3 hA3; have Hx := R4.at_; obtain ⟨⟨x0, x1, x2, x3, x4, x5⟩, f0, f1, f2, f3, f4, f5⟩ := Hx; dsimp only at x0 x1 x2 x3 x4 x5; have hfs := R4.s; have hfi := R4.i; have hfr := R4.r; have Ho := R4.out; obtain ⟨⟨z0, z1, z2, z3, z4, z5⟩, g0, g1, g2, g3, g4, g5⟩ := Ho; dsimp only [Pt.zero] at z0 z1 z2 z3 z4 z5)
      refine hK.out _ _ (R4.i) (fun hHeld => ?_)
      clear hK K
      try simp only [Act.put, List.setIfInBounds_toArray, List.set_cons_zero, List.set_cons_succ]
      refine wpAnyH_ready (rs := [1]) (by kernel_rfl) (by simp) ?_
      refine (AllReadyH.cons rfl (fun K hK => ?_) AllReadyH.nil)
      go_simp
      skip
      refine hK.out _ _ ((by first | exact R4.i | exact R3.drew.i | exact R3.i)) (fun hHeld => ?_)
      clear hK K
      try simp only [Act.put, List.setIfInBounds_toArray, List.set_cons_zero, List.set_cons_succ]
      refine wpAnyH_take (i := 4) (oi := ?qb5o) (v := ?qb5v) ?qb5h (by kernel_rfl) (by kernel_rfl) (by kernel_rfl) ?qb5q ?qb5y hHeld ?qb5r
      case qb5h => (simp only [List.getElem?_toArray, List.getElem?_cons_succ, List.getElem?_cons_zero]; rfl)
      case qb5q => exact fun _ _ _ h => h
      case qb5y => (refine Or.inl ⟨by first | kernel_rfl | rfl, ?_⟩; intro w hSw; (try dsimp only at hSw); go_simp <;> (try with_reducible rfl))
      try simp only [Act.put, List.setIfInBounds_toArray, List.set_cons_zero, List.set_cons_succ]
      refine wpAnyH_take (i := 5) (oi := ?qb6o) (v := ?qb6v) ?qb6h (by kernel_rfl) (by kernel_rfl) (by kernel_rfl) ?qb6q ?qb6y hHeld ?qb6r
      case qb6h => (simp only [List.getElem?_toArray, List.getElem?_cons_succ, List.getElem?_cons_zero]; rfl)
      case qb6q => exact fun _ _ _ h => h
      case qb6y => (refine Or.inl ⟨by first | kernel_rfl | rfl, ?_⟩; intro w hSw; (try dsimp only at hSw); go_simp <;> (try with_reducible rfl))
      try simp only [Act.put, List.setIfInBounds_toArray, List.set_cons_zero, List.set_cons_succ]
      refine wpAnyH_ready (rs := [6]) (by kernel_rfl) (by simp) ?_
      refine (AllReadyH.cons rfl (fun K hK => ?_) AllReadyH.nil)
      go_simp
      skip
      refine hK.out _ _ ((R4.set2 n v1).i) (fun hHeld => ?_)
      clear hK K
      try simp only [Act.put]
      refine wpAnyH_done (by kernel_rfl) ?_ _
      have R5 := R4.set2 n v1
      have hxq : ¬ x = w.heap.size := by have := R4.far; omega
      have hqx : ¬ w.heap.size = x := by have := R4.far; omega
      have Hx := R5.at_
      obtain ⟨⟨x0, x1, x2, x3, x4, x5⟩, f0, f1, f2, f3, f4, f5⟩ := Hx
      dsimp only at x0 x1 x2 x3 x4 x5
      have hfs := R5.s
      have hfi := R5.i
      have hfr := R5.r
      have Ho := R5.out
      obtain ⟨⟨z0, z1, z2, z3, z4, z5⟩, g0, g1, g2, g3, g4, g5⟩ := Ho
      dsimp only [Pt.zero] at z0 z1 z2 z3 z4 z5
      go_wp2_with (first
        | (go_at_call 93; (with_reducible refine (k4 _ R5.ra).mono ?_); rintro e w4 ⟨rfl, hA4, hB4⟩; have R6 := R5.but n hB4 hA4; have R7 := R6.set3 n a; have Hx := R6.at_; obtain ⟨⟨x0, x1, x2, x3, x4, x5⟩, f0, f1, f2, f3, f4, f5⟩ := Hx; dsimp only at x0 x1 x2 x3 x4 x5; have hfs := R6.s; have hfi := R6.i; have hfr := R6.r; have Ho := R6.out; obtain ⟨⟨z0, z1, z2, z3, z4, z5⟩, g0, g1, g2, g3, g4, g5⟩ := Ho; dsimp only [Pt.zero] at z0 z1 z2 z3 z4 z5; skip))
      have R8 := R7.bel.ofB (six_at (Below.refl w.heap.size _) w.heap.size (Nat.le_refl _) (.string ps) (.int .i64 t1) (.int .i64 v1) (.int .i64 a.c) (.int .i64 a.s) (.int .i64 a.q)) (Nat.le_refl _)
      have R9 := R7.ra.farB (six_at (Below.refl w.heap.size _) w.heap.size (Nat.le_refl _) (.string ps) (.int .i64 t1) (.int .i64 v1) (.int .i64 a.c) (.int .i64 a.s) (.int .i64 a.q)) R7.far.1
      have R10 := R7.at_.farB12 (six_at (Below.refl w.heap.size _) w.heap.size (Nat.le_refl _) (.string ps) (.int .i64 t1) (.int .i64 v1) (.int .i64 a.c) (.int .i64 a.s) (.int .i64 a.q)) R7.far.2
      refine bodyPost_ret (v := .agg #[.string ps, .int .i64 t1, .int .i64 v1, .int .i64 a.c, .int .i64 a.s, .int .i64 a.q]) (by simp [results, Tryd.results92, go_sem, z0, z1, z2, z3, z4, z5]; try rfl) rfl ⟨rfl, R9, R10, R8⟩
end Go.Proofs.YtkomfenjeoaelaaDoor
