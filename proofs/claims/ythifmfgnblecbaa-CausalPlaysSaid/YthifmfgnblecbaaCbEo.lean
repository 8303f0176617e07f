/- The document's Offer. -/
import Derived.Test.YthifmfgnblecbaaCbEs
import Derived.Test.YthifmfgnblecbaaCbOffer
import Derived.Test.YthifmfgnblecbaaSampleG
import Derived.Lib.AppendZeros
import Derived.Deep.CutRange
set_option maxRecDepth 200000
set_option linter.unusedSimpArgs false
set_option linter.unusedVariables false
namespace Go.Proofs.Ythifmfgnblecbaa.Og.Cb
open Go.RowKit Go.Maps Go.Proofs.Ythifmfgnblecbaa.Vi Go.Proofs.Ythifmfgnblecbaa.Mk

def EOffDone (w : World) (B b : Nat) (ov : Value) (S : CS) (F : Nat → Prop) (r : Rec) (e : Ending) (w' : World) : Prop := e = .returned (.int .i64 (offE S r)) ∧ (∃ v zs, EbAt w' B b ov v zs (offS S r) (grow F w w')) ∧ FrF F w w'
/-- One record more. -/
theorem EbAt.put {w W w5 : World} {B b : Nat} {ov v v' : Value} {zs : List Rd} {S : CS} {F : Nat → Prop} (h : EbAt w B b ov v zs S F) (hB : B ≤ w.heap.size) (x : Rd) (hG : CGood ⟨S.room, S.out, S.L ++ [x.r]⟩) (hb : Below w.heap.size w W) (hrow : ORow w5 B v' (zs ++ [x])) (hg : W.grownBy w5 v.ownBlock) (hnew : ∀ k, v'.ownBlock = some k → v.ownBlock = some k ∨ W.heap.size ≤ k) (hN : Ns W x.dv x.r.d) (ho : x.r.d ≠ [] → ∀ q, x.dv.ownBlock = some q → q < B) :
    w5.heap[b]? = some (.cells #[.int .i64 S.room, ov, v] 45 (0, 0)) ∧ EbAt (w5.setCell ⟨b, 2, none⟩ v') B b ov v' (zs ++ [x]) ⟨S.room, S.out, S.L ++ [x.r]⟩ (grow F w (w5.setCell ⟨b, 2, none⟩ v')) ∧ FrF F w (w5.setCell ⟨b, 2, none⟩ v') := by
  have hW := h.later hb
  have hsW := hb.size
  have hs5 := hg.size
  have kk : ∀ q, q < W.heap.size → v.ownBlock ≠ some q → w5.heap[q]? = W.heap[q]? := fun q hq hn => hg.block q hq fun e => hn e.symm
  have hob : w5.heap[b]? = some (.cells #[.int .i64 S.room, ov, v] 45 (0, 0)) := (kk b hW.lt (fun e => (h.vF b e).2 rfl)).trans hW.obj
  have hvb : ∀ q, v'.ownBlock = some q → q ≠ b ∧ (F q ∨ (w.heap.size ≤ q ∧ q < w5.heap.size)) := fun q hq => by
    have h1 := (hrow.lt hq).2
    rcases hnew q hq with e | e
    · exact ⟨(h.vF q e).2, Or.inl (h.vF q e).1⟩
    · exact ⟨by have := hW.lt; omega, Or.inr ⟨by omega, h1⟩⟩
  have hfr : FrF F w (w5.setCell ⟨b, 2, none⟩ v') := by
    have h1 : FrF F W w5 := ⟨hg.os, hg.tape, hg.output, hg.size, fun k hk hn => hg.block k hk fun e => hn (h.vF k e.symm).1⟩
    exact ((FrF.of hb : FrF F w W).next h1 fun _ _ e => e).next (⟨rfl, rfl, rfl, by simp, fun k _ hn => World.heap_setCell_off _ _ _ _ _ fun e => hn (e ▸ h.bF)⟩ : FrF F w5 (w5.setCell ⟨b, 2, none⟩ v')) fun _ _ e => e
  have hof : ∀ q, q < W.heap.size → v.ownBlock ≠ some q → q ≠ b → (w5.setCell ⟨b, 2, none⟩ v').heap[q]? = W.heap[q]? := fun q hq hn hne => (World.heap_setCell_off _ _ _ _ _ hne).trans (kk q hq hn)
  refine ⟨hob, ⟨?_, Ns.off hW.ns (by simp; omega) fun hn q hq hl => hof q hl (h.ovF hn q hq).2.2 (h.ovF hn q hq).2.1, fun hn q hq => ⟨Or.inl (h.ovF hn q hq).1, (h.ovF hn q hq).2.1, fun e => ?_⟩, hrow.other fun g hg' => World.heap_setCell_off _ _ _ _ _ (hvb g hg').1, fun q hq => ⟨(hvb q hq).2.imp id fun e => ⟨e.1, by simpa using e.2⟩, (hvb q hq).1⟩, fun y hy => ?_, grow_fp h.fp hB (by simp; omega), Or.inl h.bF, by rw [List.map_append, h.rs]; rfl, hG⟩, hfr⟩
  · have := Joins.block_setCell (i := 2) hob v'
    rw [this]; rfl
  · rcases hnew q e with e2 | e2
    · exact (h.ovF hn q hq).2.2 e2
    · have := (h.fp q (h.ovF hn q hq).1).2; omega
  · rcases List.mem_append.1 hy with hy | hy
    · obtain ⟨g1, g2⟩ := hW.deps y hy
      exact ⟨Ns.off g1 (by simp; omega) fun hn q hq hl => hof q hl (fun e => by have := g2 hn q hq; have := (h.fp q (h.vF q e).1).1; omega) (fun e => by have := g2 hn q hq; have := (h.fp b h.bF).1; omega), g2⟩
    · rw [List.mem_singleton] at hy
      subst hy
      exact ⟨Ns.off hN (by simp; omega) fun hn q hq hl => hof q hl (fun e => by have := ho hn q hq; have := (h.fp q (h.vF q e).1).1; omega) (fun e => by have := ho hn q hq; have := (h.fp b h.bF).1; omega), ho⟩
set_option maxHeartbeats 8000000 in
theorem eoffer_bad {w : World} {B b : Nat} {ov v : Value} {zs : List Rd} {S : CS} {F : Nat → Prop} (h : EbAt w B b ov v zs S F) (hB : B ≤ w.heap.size) (x : Rd) (hN : Ns w x.dv x.r.d) (hf : x.r.fits) (ho : x.r.d ≠ [] → ∀ q, x.dv.ownBlock = some q → q < B) (hx : x.r.ok = false) : Calls Try.prog 17 #[.pointer (some ⟨b, 0, none⟩), recV x.r x.dv] w (EOffDone w B b ov S F x.r) := by
  have hal := (Below.refl w.heap.size w).alloc (Nat.le_refl _) (box9 x)
  have hh1 := R9.new w x
  have HE := Lib.hid (show offE S x.r = 3 from offE_bad hx)
  have HS := Lib.hid (show offS S x.r = S from offS_no (by rw [HE.out]; decide))
  obtain ⟨oa, oc, eo⟩ := h.ns.slice
  subst eo
  obtain ⟨a2, c2, e2⟩ := h.row.slice
  subst e2
  have hc0 := h.c0
  have hc1 := h.c1
  have hc2 := h.c2
  have hblt := h.lt
  have kck := rcheck6_is x.r x.dv _ (Ns.later hN hal) hf
  rw [show x.r.err = 1 from by unfold Rec.err; rw [hx]; rfl] at kck
  have HH := Lib.hid h
  have HN := Lib.hid hN
  have HOWN := Lib.hid ho
  have HBB := Lib.hid hB
  have HAL := Lib.hid hal
  have HH1 := Lib.hid hh1
  clear hc0 hc1 hc2
  obtain ⟨⟨rk, rs, rt, rv, rtier, ⟨rc, rst, rq⟩, rd⟩, ra, rcc⟩ := x
  unfold recV Rd.dv at *
  dsimp only at *
  unfold box9 at *
  dsimp only at *
  clear h hN hx ho hB hal hh1 hf
  go_enter Try.func17, Try.ntmps17
  go_wp2_with (go_at_call 41; (with_reducible refine kck.mono ?_); rintro e w2 ⟨rfl, hb2⟩; (have HB2 := Lib.hid hb2); clear hb2)
  go_ret
  exact ⟨(by rw [HE.out]; rfl), by rw [HS.out]; exact ⟨_, zs, (HH.out.later (bel_next HAL.out HB2.out)).wide (fun q hq => Or.inl hq) (grow_fp HH.out.fp HBB.out (bel_next HAL.out HB2.out).size)⟩, FrF.of (bel_next HAL.out HB2.out)⟩
set_option maxHeartbeats 8000000 in
theorem eoffer_seq {w : World} {B b : Nat} {ov v : Value} {zs : List Rd} {S : CS} {F : Nat → Prop} (h : EbAt w B b ov v zs S F) (hB : B ≤ w.heap.size) (x : Rd) (hN : Ns w x.dv x.r.d) (hf : x.r.fits) (ho : x.r.d ≠ [] → ∀ q, x.dv.ownBlock = some q → q < B) (hx : x.r.ok = true) (hq : x.r.st.q < atL S.out x.r.st.s + 1) : Calls Try.prog 17 #[.pointer (some ⟨b, 0, none⟩), recV x.r x.dv] w (EOffDone w B b ov S F x.r) := by
  have hal := (Below.refl w.heap.size w).alloc (Nat.le_refl _) (box9 x)
  have hh1 := R9.new w x
  have HE := Lib.hid (show offE S x.r = 1 from offE_known hx (by unfold knownB; rw [decide_eq_true hq]; rfl))
  have HS := Lib.hid (show offS S x.r = S from offS_no (by rw [HE.out]; decide))
  obtain ⟨oa, oc, eo⟩ := h.ns.slice
  subst eo
  obtain ⟨a2, c2, e2⟩ := h.row.slice
  subst e2
  have hc0 := h.c0
  have hc1 := h.c1
  have hc2 := h.c2
  have hblt := h.lt
  have kck := rcheck6_is x.r x.dv _ (Ns.later hN hal) hf
  rw [Rec.err_ok.2 hx] at kck
  have HH := Lib.hid h
  have HN := Lib.hid hN
  have HOWN := Lib.hid ho
  have HBB := Lib.hid hB
  have HAL := Lib.hid hal
  have HH1 := Lib.hid hh1
  have ka := fun (W : World) (hb : Below w.heap.size w W) => rat_is (.slice oa S.out.length oc) S.out x.r.st.s W (Ns.later h.ns hb)
  have kfd := fun (W : World) (hb : Below w.heap.size w W) => find_is (h.later hb) x.r.st.s x.r.st.q
  have kd := fun (W : World) (hb : Below w.heap.size w W) => edue_is (h.later hb) x (Ns.later hN hb)
  have hlz := h.len
  have hl4 := h.good.l408
  obtain ⟨ln, hln⟩ : ∃ z, zs.length = z := ⟨_, rfl⟩
  rw [hln] at hc2 hlz
  have HLZ := Lib.hid hln
  have HL4 := Lib.hid (show ln ≤ 408 by omega)
  obtain ⟨y, hy⟩ : ∃ z, atL S.out x.r.st.s = z := ⟨_, rfl⟩
  obtain ⟨rm, hrm⟩ : ∃ z, S.room = z := ⟨_, rfl⟩
  rw [hrm] at hc0
  rw [hy] at ka
  have hq1 : decide (x.r.st.q ≤ y) = true := decide_eq_true (by omega)
  clear kd kfd hq
  obtain ⟨⟨rk, rs, rt, rv, rtier, ⟨rc, rst, rq⟩, rd⟩, ra, rcc⟩ := x
  unfold recV Rd.dv at *
  dsimp only at *
  unfold box9 at *
  dsimp only at *
  clear h hN hx ho hB hal hh1 hf hln hlz hl4 hrm hy
  go_enter Try.func17, Try.ntmps17
  go_upto_region 3 with (go_at_call 41; (with_reducible refine kck.mono ?_); rintro e w2 ⟨rfl, hb2⟩; (have HB2 := Lib.hid hb2); clear hb2)
  have HHO : HR w w.heap.size ⟨⟨rk, rs, rt, rv, rtier, ⟨rc, rst, rq⟩, rd⟩, ra, rcc⟩ w2 := ⟨HH1.out.later HB2.out, bel_next HAL.out HB2.out⟩
  refine wp_region_held_drew (S := (HR w w.heap.size ⟨⟨rk, rs, rt, rv, rtier, ⟨rc, rst, rq⟩, rd⟩, ra, rcc⟩)) (by kernel_rfl) HHO.drew (fun hHeld => ?_)
  refine wpAnyH_take (i := 0) (oi := ?a1o) (v := ?a1v) ?a1h (by kernel_rfl) (by kernel_rfl) (by kernel_rfl) ?a1q ?a1y hHeld ?a1r
  case a1h => (simp only [List.getElem?_toArray, List.getElem?_cons_zero]; rfl)
  case a1q => exact fun _ _ _ h => h
  case a1y => (refine Or.inl ⟨by first | kernel_rfl | rfl, ?_⟩; intro w hSw; (try dsimp only at hSw); obtain ⟨⟨x0, x1, x2, x3, x4, x5, x6, x7, x8⟩, hb7⟩ := hSw; dsimp only at x0 x1 x2 x3 x4 x5 x6 x7 x8; have b0 := (hb7.cell (p := ⟨b, 0, none⟩) hblt).trans hc0; have b1 := (hb7.cell (p := ⟨b, 1, none⟩) hblt).trans hc1; have b2 := (hb7.cell (p := ⟨b, 2, none⟩) hblt).trans hc2; go_simp <;> (try with_reducible rfl))
  try simp only [Act.put, List.setIfInBounds_toArray, List.set_cons_zero, List.set_cons_succ]
  refine wpAnyH_take (i := 1) (oi := ?a2o) (v := ?a2v) ?a2h (by kernel_rfl) (by kernel_rfl) (by kernel_rfl) ?a2q ?a2y hHeld ?a2r
  case a2h => (simp only [List.getElem?_toArray, List.getElem?_cons_succ, List.getElem?_cons_zero]; rfl)
  case a2q => exact fun _ _ _ h => h
  case a2y => (refine Or.inl ⟨by first | kernel_rfl | rfl, ?_⟩; intro w hSw; (try dsimp only at hSw); obtain ⟨⟨x0, x1, x2, x3, x4, x5, x6, x7, x8⟩, hb7⟩ := hSw; dsimp only at x0 x1 x2 x3 x4 x5 x6 x7 x8; have b0 := (hb7.cell (p := ⟨b, 0, none⟩) hblt).trans hc0; have b1 := (hb7.cell (p := ⟨b, 1, none⟩) hblt).trans hc1; have b2 := (hb7.cell (p := ⟨b, 2, none⟩) hblt).trans hc2; go_simp <;> (try with_reducible rfl))
  try simp only [Act.put, List.setIfInBounds_toArray, List.set_cons_zero, List.set_cons_succ]
  refine wpAnyH_take (i := 2) (oi := ?a3o) (v := ?a3v) ?a3h (by kernel_rfl) (by kernel_rfl) (by kernel_rfl) ?a3q ?a3y hHeld ?a3r
  case a3h => (simp only [List.getElem?_toArray, List.getElem?_cons_succ, List.getElem?_cons_zero]; rfl)
  case a3q => exact fun _ _ _ h => h
  case a3y => (refine Or.inl ⟨by first | kernel_rfl | rfl, ?_⟩; intro w hSw; (try dsimp only at hSw); obtain ⟨⟨x0, x1, x2, x3, x4, x5, x6, x7, x8⟩, hb7⟩ := hSw; dsimp only at x0 x1 x2 x3 x4 x5 x6 x7 x8; have b0 := (hb7.cell (p := ⟨b, 0, none⟩) hblt).trans hc0; have b1 := (hb7.cell (p := ⟨b, 1, none⟩) hblt).trans hc1; have b2 := (hb7.cell (p := ⟨b, 2, none⟩) hblt).trans hc2; go_simp <;> (try with_reducible rfl))
  try simp only [Act.put, List.setIfInBounds_toArray, List.set_cons_zero, List.set_cons_succ]
  refine wpAnyH_take (i := 3) (oi := ?a4o) (v := ?a4v) ?a4h (by kernel_rfl) (by kernel_rfl) (by kernel_rfl) ?a4q ?a4y hHeld ?a4r
  case a4h => (simp only [List.getElem?_toArray, List.getElem?_cons_succ, List.getElem?_cons_zero]; rfl)
  case a4q => exact fun _ _ _ h => h
  case a4y => (refine Or.inl ⟨by first | kernel_rfl | rfl, ?_⟩; intro w hSw; (try dsimp only at hSw); obtain ⟨⟨x0, x1, x2, x3, x4, x5, x6, x7, x8⟩, hb7⟩ := hSw; dsimp only at x0 x1 x2 x3 x4 x5 x6 x7 x8; have b0 := (hb7.cell (p := ⟨b, 0, none⟩) hblt).trans hc0; have b1 := (hb7.cell (p := ⟨b, 1, none⟩) hblt).trans hc1; have b2 := (hb7.cell (p := ⟨b, 2, none⟩) hblt).trans hc2; go_simp <;> (try with_reducible rfl))
  try simp only [Act.put, List.setIfInBounds_toArray, List.set_cons_zero, List.set_cons_succ]
  refine wpAnyH_take (i := 4) (oi := ?a5o) (v := ?a5v) ?a5h (by kernel_rfl) (by kernel_rfl) (by kernel_rfl) ?a5q ?a5y hHeld ?a5r
  case a5h => (simp only [List.getElem?_toArray, List.getElem?_cons_succ, List.getElem?_cons_zero]; rfl)
  case a5q => exact fun _ _ _ h => h
  case a5y => (refine Or.inl ⟨by first | kernel_rfl | rfl, ?_⟩; intro w hSw; (try dsimp only at hSw); obtain ⟨⟨x0, x1, x2, x3, x4, x5, x6, x7, x8⟩, hb7⟩ := hSw; dsimp only at x0 x1 x2 x3 x4 x5 x6 x7 x8; have b0 := (hb7.cell (p := ⟨b, 0, none⟩) hblt).trans hc0; have b1 := (hb7.cell (p := ⟨b, 1, none⟩) hblt).trans hc1; have b2 := (hb7.cell (p := ⟨b, 2, none⟩) hblt).trans hc2; go_simp <;> (try with_reducible rfl))
  try simp only [Act.put, List.setIfInBounds_toArray, List.set_cons_zero, List.set_cons_succ]
  refine wpAnyH_take (i := 5) (oi := ?a6o) (v := ?a6v) ?a6h (by kernel_rfl) (by kernel_rfl) (by kernel_rfl) ?a6q ?a6y hHeld ?a6r
  case a6h => (simp only [List.getElem?_toArray, List.getElem?_cons_succ, List.getElem?_cons_zero]; rfl)
  case a6q => exact fun _ _ _ h => h
  case a6y => (refine Or.inl ⟨by first | kernel_rfl | rfl, ?_⟩; intro w hSw; (try dsimp only at hSw); obtain ⟨⟨x0, x1, x2, x3, x4, x5, x6, x7, x8⟩, hb7⟩ := hSw; dsimp only at x0 x1 x2 x3 x4 x5 x6 x7 x8; have b0 := (hb7.cell (p := ⟨b, 0, none⟩) hblt).trans hc0; have b1 := (hb7.cell (p := ⟨b, 1, none⟩) hblt).trans hc1; have b2 := (hb7.cell (p := ⟨b, 2, none⟩) hblt).trans hc2; go_simp <;> (try with_reducible rfl))
  try simp only [Act.put, List.setIfInBounds_toArray, List.set_cons_zero, List.set_cons_succ]
  refine wpAnyH_take (i := 6) (oi := ?a7o) (v := ?a7v) ?a7h (by kernel_rfl) (by kernel_rfl) (by kernel_rfl) ?a7q ?a7y hHeld ?a7r
  case a7h => (simp only [List.getElem?_toArray, List.getElem?_cons_succ, List.getElem?_cons_zero]; rfl)
  case a7q => exact fun _ _ _ h => h
  case a7y => (refine Or.inl ⟨by first | kernel_rfl | rfl, ?_⟩; intro w hSw; (try dsimp only at hSw); obtain ⟨⟨x0, x1, x2, x3, x4, x5, x6, x7, x8⟩, hb7⟩ := hSw; dsimp only at x0 x1 x2 x3 x4 x5 x6 x7 x8; have b0 := (hb7.cell (p := ⟨b, 0, none⟩) hblt).trans hc0; have b1 := (hb7.cell (p := ⟨b, 1, none⟩) hblt).trans hc1; have b2 := (hb7.cell (p := ⟨b, 2, none⟩) hblt).trans hc2; go_simp <;> (try with_reducible rfl))
  try simp only [Act.put, List.setIfInBounds_toArray, List.set_cons_zero, List.set_cons_succ]
  refine wpAnyH_take (i := 7) (oi := ?a8o) (v := ?a8v) ?a8h (by kernel_rfl) (by kernel_rfl) (by kernel_rfl) ?a8q ?a8y hHeld ?a8r
  case a8h => (simp only [List.getElem?_toArray, List.getElem?_cons_succ, List.getElem?_cons_zero]; rfl)
  case a8q => exact fun _ _ _ h => h
  case a8y => (refine Or.inl ⟨by first | kernel_rfl | rfl, ?_⟩; intro w hSw; (try dsimp only at hSw); obtain ⟨⟨x0, x1, x2, x3, x4, x5, x6, x7, x8⟩, hb7⟩ := hSw; dsimp only at x0 x1 x2 x3 x4 x5 x6 x7 x8; have b0 := (hb7.cell (p := ⟨b, 0, none⟩) hblt).trans hc0; have b1 := (hb7.cell (p := ⟨b, 1, none⟩) hblt).trans hc1; have b2 := (hb7.cell (p := ⟨b, 2, none⟩) hblt).trans hc2; go_simp <;> (try with_reducible rfl))
  try simp only [Act.put, List.setIfInBounds_toArray, List.set_cons_zero, List.set_cons_succ]
  refine wpAnyH_take (i := 8) (oi := ?a9o) (v := ?a9v) ?a9h (by kernel_rfl) (by kernel_rfl) (by kernel_rfl) ?a9q ?a9y hHeld ?a9r
  case a9h => (simp only [List.getElem?_toArray, List.getElem?_cons_succ, List.getElem?_cons_zero]; rfl)
  case a9q => exact fun _ _ _ h => h
  case a9y => (refine Or.inl ⟨by first | kernel_rfl | rfl, ?_⟩; intro w hSw; (try dsimp only at hSw); obtain ⟨⟨x0, x1, x2, x3, x4, x5, x6, x7, x8⟩, hb7⟩ := hSw; dsimp only at x0 x1 x2 x3 x4 x5 x6 x7 x8; have b0 := (hb7.cell (p := ⟨b, 0, none⟩) hblt).trans hc0; have b1 := (hb7.cell (p := ⟨b, 1, none⟩) hblt).trans hc1; have b2 := (hb7.cell (p := ⟨b, 2, none⟩) hblt).trans hc2; go_simp <;> (try with_reducible rfl))
  try simp only [Act.put, List.setIfInBounds_toArray, List.set_cons_zero, List.set_cons_succ]
  refine wpAnyH_take (i := 9) (oi := ?a10o) (v := ?a10v) ?a10h (by kernel_rfl) (by kernel_rfl) (by kernel_rfl) ?a10q ?a10y hHeld ?a10r
  case a10h => (simp only [List.getElem?_toArray, List.getElem?_cons_succ, List.getElem?_cons_zero]; rfl)
  case a10q => exact fun _ _ _ h => h
  case a10y => (refine Or.inl ⟨by first | kernel_rfl | rfl, ?_⟩; intro w hSw; (try dsimp only at hSw); obtain ⟨⟨x0, x1, x2, x3, x4, x5, x6, x7, x8⟩, hb7⟩ := hSw; dsimp only at x0 x1 x2 x3 x4 x5 x6 x7 x8; have b0 := (hb7.cell (p := ⟨b, 0, none⟩) hblt).trans hc0; have b1 := (hb7.cell (p := ⟨b, 1, none⟩) hblt).trans hc1; have b2 := (hb7.cell (p := ⟨b, 2, none⟩) hblt).trans hc2; go_simp <;> (try with_reducible rfl))
  try simp only [Act.put, List.setIfInBounds_toArray, List.set_cons_zero, List.set_cons_succ]
  refine wpAnyH_ready (rs := [10]) (by kernel_rfl) (by simp) ?_
  refine (AllReadyH.cons rfl (fun K hK => ?_) AllReadyH.nil)
  go_simp
  (go_at_call 27; (with_reducible refine (ka _ hHeld.bel).mono ?_); rintro e w3 ⟨rfl, hb3⟩; (have hHeld := hHeld.later hb3); clear hb3)
  refine hK.out _ _ (hHeld) (fun hHeld => ?_)
  clear hK K
  try simp only [Act.put, List.setIfInBounds_toArray, List.set_cons_zero, List.set_cons_succ]
  refine wpAnyH_take (i := 11) (oi := ?a11o) (v := ?a11v) ?a11h (by kernel_rfl) (by kernel_rfl) (by kernel_rfl) ?a11q ?a11y hHeld ?a11r
  case a11h => (simp only [List.getElem?_toArray, List.getElem?_cons_succ, List.getElem?_cons_zero]; rfl)
  case a11q => exact fun _ _ _ h => h
  case a11y => (refine Or.inl ⟨by first | kernel_rfl | rfl, ?_⟩; intro w hSw; (try dsimp only at hSw); obtain ⟨⟨x0, x1, x2, x3, x4, x5, x6, x7, x8⟩, hb7⟩ := hSw; dsimp only at x0 x1 x2 x3 x4 x5 x6 x7 x8; have b0 := (hb7.cell (p := ⟨b, 0, none⟩) hblt).trans hc0; have b1 := (hb7.cell (p := ⟨b, 1, none⟩) hblt).trans hc1; have b2 := (hb7.cell (p := ⟨b, 2, none⟩) hblt).trans hc2; go_simp <;> (try with_reducible rfl))
  try simp only [Act.put, List.setIfInBounds_toArray, List.set_cons_zero, List.set_cons_succ]
  refine wpAnyH_take (i := 12) (oi := ?a12o) (v := ?a12v) ?a12h (by kernel_rfl) (by kernel_rfl) (by kernel_rfl) ?a12q ?a12y hHeld ?a12r
  case a12h => (simp only [List.getElem?_toArray, List.getElem?_cons_succ, List.getElem?_cons_zero]; rfl)
  case a12q => exact fun _ _ _ h => h
  case a12y => (refine Or.inl ⟨by first | kernel_rfl | rfl, ?_⟩; intro w hSw; (try dsimp only at hSw); obtain ⟨⟨x0, x1, x2, x3, x4, x5, x6, x7, x8⟩, hb7⟩ := hSw; dsimp only at x0 x1 x2 x3 x4 x5 x6 x7 x8; have b0 := (hb7.cell (p := ⟨b, 0, none⟩) hblt).trans hc0; have b1 := (hb7.cell (p := ⟨b, 1, none⟩) hblt).trans hc1; have b2 := (hb7.cell (p := ⟨b, 2, none⟩) hblt).trans hc2; go_simp <;> (try with_reducible rfl))
  try simp only [Act.put, List.setIfInBounds_toArray, List.set_cons_zero, List.set_cons_succ]
  refine wpAnyH_take (i := 13) (oi := ?a13o) (v := undef) ?a13h (by kernel_rfl) (by kernel_rfl) (by kernel_rfl) ?a13q ?a13y hHeld ?a13r
  case a13h => (simp only [List.getElem?_toArray, List.getElem?_cons_succ, List.getElem?_cons_zero]; rfl)
  case a13q => exact fun _ _ _ h => h
  case a13y => exact Or.inr ⟨by first | kernel_rfl | rfl, rfl⟩
  try simp only [Act.put, List.setIfInBounds_toArray, List.set_cons_zero, List.set_cons_succ]
  refine wpAnyH_take (i := 14) (oi := ?a14o) (v := undef) ?a14h (by kernel_rfl) (by kernel_rfl) (by kernel_rfl) ?a14q ?a14y hHeld ?a14r
  case a14h => (simp only [List.getElem?_toArray, List.getElem?_cons_succ, List.getElem?_cons_zero]; rfl)
  case a14q => exact fun _ _ _ h => h
  case a14y => exact Or.inr ⟨by first | kernel_rfl | rfl, rfl⟩
  try simp only [Act.put, List.setIfInBounds_toArray, List.set_cons_zero, List.set_cons_succ]
  refine wpAnyH_take (i := 15) (oi := ?a15o) (v := undef) ?a15h (by kernel_rfl) (by kernel_rfl) (by kernel_rfl) ?a15q ?a15y hHeld ?a15r
  case a15h => (simp only [List.getElem?_toArray, List.getElem?_cons_succ, List.getElem?_cons_zero]; rfl)
  case a15q => exact fun _ _ _ h => h
  case a15y => exact Or.inr ⟨by first | kernel_rfl | rfl, rfl⟩
  try simp only [Act.put, List.setIfInBounds_toArray, List.set_cons_zero, List.set_cons_succ]
  refine wpAnyH_take (i := 16) (oi := ?a16o) (v := undef) ?a16h (by kernel_rfl) (by kernel_rfl) (by kernel_rfl) ?a16q ?a16y hHeld ?a16r
  case a16h => (simp only [List.getElem?_toArray, List.getElem?_cons_succ, List.getElem?_cons_zero]; rfl)
  case a16q => exact fun _ _ _ h => h
  case a16y => exact Or.inr ⟨by first | kernel_rfl | rfl, rfl⟩
  try simp only [Act.put, List.setIfInBounds_toArray, List.set_cons_zero, List.set_cons_succ]
  refine wpAnyH_take (i := 17) (oi := ?a17o) (v := undef) ?a17h (by kernel_rfl) (by kernel_rfl) (by kernel_rfl) ?a17q ?a17y hHeld ?a17r
  case a17h => (simp only [List.getElem?_toArray, List.getElem?_cons_succ, List.getElem?_cons_zero]; rfl)
  case a17q => exact fun _ _ _ h => h
  case a17y => exact Or.inr ⟨by first | kernel_rfl | rfl, rfl⟩
  try simp only [Act.put, List.setIfInBounds_toArray, List.set_cons_zero, List.set_cons_succ]
  refine wpAnyH_take (i := 18) (oi := ?a18o) (v := undef) ?a18h (by kernel_rfl) (by kernel_rfl) (by kernel_rfl) ?a18q ?a18y hHeld ?a18r
  case a18h => (simp only [List.getElem?_toArray, List.getElem?_cons_succ, List.getElem?_cons_zero]; rfl)
  case a18q => exact fun _ _ _ h => h
  case a18y => exact Or.inr ⟨by first | kernel_rfl | rfl, rfl⟩
  try simp only [Act.put, List.setIfInBounds_toArray, List.set_cons_zero, List.set_cons_succ]
  refine wpAnyH_take (i := 19) (oi := ?a19o) (v := undef) ?a19h (by kernel_rfl) (by kernel_rfl) (by kernel_rfl) ?a19q ?a19y hHeld ?a19r
  case a19h => (simp only [List.getElem?_toArray, List.getElem?_cons_succ, List.getElem?_cons_zero]; rfl)
  case a19q => exact fun _ _ _ h => h
  case a19y => exact Or.inr ⟨by first | kernel_rfl | rfl, rfl⟩
  try simp only [Act.put, List.setIfInBounds_toArray, List.set_cons_zero, List.set_cons_succ]
  refine wpAnyH_take (i := 20) (oi := ?a20o) (v := undef) ?a20h (by kernel_rfl) (by kernel_rfl) (by kernel_rfl) ?a20q ?a20y hHeld ?a20r
  case a20h => (simp only [List.getElem?_toArray, List.getElem?_cons_succ, List.getElem?_cons_zero]; rfl)
  case a20q => exact fun _ _ _ h => h
  case a20y => exact Or.inr ⟨by first | kernel_rfl | rfl, rfl⟩
  try simp only [Act.put, List.setIfInBounds_toArray, List.set_cons_zero, List.set_cons_succ]
  refine wpAnyH_take (i := 21) (oi := ?a21o) (v := undef) ?a21h (by kernel_rfl) (by kernel_rfl) (by kernel_rfl) ?a21q ?a21y hHeld ?a21r
  case a21h => (simp only [List.getElem?_toArray, List.getElem?_cons_succ, List.getElem?_cons_zero]; rfl)
  case a21q => exact fun _ _ _ h => h
  case a21y => exact Or.inr ⟨by first | kernel_rfl | rfl, rfl⟩
  try simp only [Act.put, List.setIfInBounds_toArray, List.set_cons_zero, List.set_cons_succ]
  refine wpAnyH_take (i := 22) (oi := ?a22o) (v := ?a22v) ?a22h (by kernel_rfl) (by kernel_rfl) (by kernel_rfl) ?a22q ?a22y hHeld ?a22r
  case a22h => (simp only [List.getElem?_toArray, List.getElem?_cons_succ, List.getElem?_cons_zero]; rfl)
  case a22q => exact fun _ _ _ h => h
  case a22y => (refine Or.inl ⟨by first | kernel_rfl | rfl, ?_⟩; intro w hSw; (try dsimp only at hSw); obtain ⟨⟨x0, x1, x2, x3, x4, x5, x6, x7, x8⟩, hb7⟩ := hSw; dsimp only at x0 x1 x2 x3 x4 x5 x6 x7 x8; have b0 := (hb7.cell (p := ⟨b, 0, none⟩) hblt).trans hc0; have b1 := (hb7.cell (p := ⟨b, 1, none⟩) hblt).trans hc1; have b2 := (hb7.cell (p := ⟨b, 2, none⟩) hblt).trans hc2; go_simp <;> (try with_reducible rfl))
  try simp only [Act.put, List.setIfInBounds_toArray, List.set_cons_zero, List.set_cons_succ]
  refine wpAnyH_done (by kernel_rfl) ?_ _
  go_wp2
  go_ret
  exact ⟨(by rw [HE.out]; rfl), by rw [HS.out]; exact ⟨_, zs, (HH.out.later hHeld.bel).wide (fun q hq => Or.inl hq) (grow_fp HH.out.fp HBB.out hHeld.bel.size)⟩, FrF.of hHeld.bel⟩
set_option maxHeartbeats 8000000 in
theorem eoffer_has {w : World} {B b : Nat} {ov v : Value} {zs : List Rd} {S : CS} {F : Nat → Prop} (h : EbAt w B b ov v zs S F) (hB : B ≤ w.heap.size) (x : Rd) (hN : Ns w x.dv x.r.d) (hf : x.r.fits) (ho : x.r.d ≠ [] → ∀ q, x.dv.ownBlock = some q → q < B) (hx : x.r.ok = true) (hq : ¬ x.r.st.q < atL S.out x.r.st.s + 1) (hh : hasB S.L x.r.st.s x.r.st.q = true) : Calls Try.prog 17 #[.pointer (some ⟨b, 0, none⟩), recV x.r x.dv] w (EOffDone w B b ov S F x.r) := by
  have hal := (Below.refl w.heap.size w).alloc (Nat.le_refl _) (box9 x)
  have hh1 := R9.new w x
  have HE := Lib.hid (show offE S x.r = 1 from offE_known hx (by unfold knownB; rw [hh, Bool.or_true]))
  have HS := Lib.hid (show offS S x.r = S from offS_no (by rw [HE.out]; decide))
  obtain ⟨oa, oc, eo⟩ := h.ns.slice
  subst eo
  obtain ⟨a2, c2, e2⟩ := h.row.slice
  subst e2
  have hc0 := h.c0
  have hc1 := h.c1
  have hc2 := h.c2
  have hblt := h.lt
  have kck := rcheck6_is x.r x.dv _ (Ns.later hN hal) hf
  rw [Rec.err_ok.2 hx] at kck
  have HH := Lib.hid h
  have HN := Lib.hid hN
  have HOWN := Lib.hid ho
  have HBB := Lib.hid hB
  have HAL := Lib.hid hal
  have HH1 := Lib.hid hh1
  have ka := fun (W : World) (hb : Below w.heap.size w W) => rat_is (.slice oa S.out.length oc) S.out x.r.st.s W (Ns.later h.ns hb)
  have kfd := fun (W : World) (hb : Below w.heap.size w W) => find_is (h.later hb) x.r.st.s x.r.st.q
  have kd := fun (W : World) (hb : Below w.heap.size w W) => edue_is (h.later hb) x (Ns.later hN hb)
  have hlz := h.len
  have hl4 := h.good.l408
  obtain ⟨ln, hln⟩ : ∃ z, zs.length = z := ⟨_, rfl⟩
  rw [hln] at hc2 hlz
  have HLZ := Lib.hid hln
  have HL4 := Lib.hid (show ln ≤ 408 by omega)
  obtain ⟨y, hy⟩ : ∃ z, atL S.out x.r.st.s = z := ⟨_, rfl⟩
  obtain ⟨rm, hrm⟩ : ∃ z, S.room = z := ⟨_, rfl⟩
  rw [hrm] at hc0
  rw [hy] at ka
  have hq1 : decide (x.r.st.q ≤ y) = false := decide_eq_false (by omega)
  obtain ⟨p, hp⟩ := find_yes hh
  rw [hp] at kfd
  clear hp
  clear kd hq hh
  obtain ⟨⟨rk, rs, rt, rv, rtier, ⟨rc, rst, rq⟩, rd⟩, ra, rcc⟩ := x
  unfold recV Rd.dv at *
  dsimp only at *
  unfold box9 at *
  dsimp only at *
  clear h hN hx ho hB hal hh1 hf hln hlz hl4 hrm hy
  go_enter Try.func17, Try.ntmps17
  go_upto_region 3 with (go_at_call 41; (with_reducible refine kck.mono ?_); rintro e w2 ⟨rfl, hb2⟩; (have HB2 := Lib.hid hb2); clear hb2)
  have HHO : HR w w.heap.size ⟨⟨rk, rs, rt, rv, rtier, ⟨rc, rst, rq⟩, rd⟩, ra, rcc⟩ w2 := ⟨HH1.out.later HB2.out, bel_next HAL.out HB2.out⟩
  refine wp_region_held_drew (S := (HR w w.heap.size ⟨⟨rk, rs, rt, rv, rtier, ⟨rc, rst, rq⟩, rd⟩, ra, rcc⟩)) (by kernel_rfl) HHO.drew (fun hHeld => ?_)
  refine wpAnyH_take (i := 0) (oi := ?a1o) (v := ?a1v) ?a1h (by kernel_rfl) (by kernel_rfl) (by kernel_rfl) ?a1q ?a1y hHeld ?a1r
  case a1h => (simp only [List.getElem?_toArray, List.getElem?_cons_zero]; rfl)
  case a1q => exact fun _ _ _ h => h
  case a1y => (refine Or.inl ⟨by first | kernel_rfl | rfl, ?_⟩; intro w hSw; (try dsimp only at hSw); obtain ⟨⟨x0, x1, x2, x3, x4, x5, x6, x7, x8⟩, hb7⟩ := hSw; dsimp only at x0 x1 x2 x3 x4 x5 x6 x7 x8; have b0 := (hb7.cell (p := ⟨b, 0, none⟩) hblt).trans hc0; have b1 := (hb7.cell (p := ⟨b, 1, none⟩) hblt).trans hc1; have b2 := (hb7.cell (p := ⟨b, 2, none⟩) hblt).trans hc2; go_simp <;> (try with_reducible rfl))
  try simp only [Act.put, List.setIfInBounds_toArray, List.set_cons_zero, List.set_cons_succ]
  refine wpAnyH_take (i := 1) (oi := ?a2o) (v := ?a2v) ?a2h (by kernel_rfl) (by kernel_rfl) (by kernel_rfl) ?a2q ?a2y hHeld ?a2r
  case a2h => (simp only [List.getElem?_toArray, List.getElem?_cons_succ, List.getElem?_cons_zero]; rfl)
  case a2q => exact fun _ _ _ h => h
  case a2y => (refine Or.inl ⟨by first | kernel_rfl | rfl, ?_⟩; intro w hSw; (try dsimp only at hSw); obtain ⟨⟨x0, x1, x2, x3, x4, x5, x6, x7, x8⟩, hb7⟩ := hSw; dsimp only at x0 x1 x2 x3 x4 x5 x6 x7 x8; have b0 := (hb7.cell (p := ⟨b, 0, none⟩) hblt).trans hc0; have b1 := (hb7.cell (p := ⟨b, 1, none⟩) hblt).trans hc1; have b2 := (hb7.cell (p := ⟨b, 2, none⟩) hblt).trans hc2; go_simp <;> (try with_reducible rfl))
  try simp only [Act.put, List.setIfInBounds_toArray, List.set_cons_zero, List.set_cons_succ]
  refine wpAnyH_take (i := 2) (oi := ?a3o) (v := ?a3v) ?a3h (by kernel_rfl) (by kernel_rfl) (by kernel_rfl) ?a3q ?a3y hHeld ?a3r
  case a3h => (simp only [List.getElem?_toArray, List.getElem?_cons_succ, List.getElem?_cons_zero]; rfl)
  case a3q => exact fun _ _ _ h => h
  case a3y => (refine Or.inl ⟨by first | kernel_rfl | rfl, ?_⟩; intro w hSw; (try dsimp only at hSw); obtain ⟨⟨x0, x1, x2, x3, x4, x5, x6, x7, x8⟩, hb7⟩ := hSw; dsimp only at x0 x1 x2 x3 x4 x5 x6 x7 x8; have b0 := (hb7.cell (p := ⟨b, 0, none⟩) hblt).trans hc0; have b1 := (hb7.cell (p := ⟨b, 1, none⟩) hblt).trans hc1; have b2 := (hb7.cell (p := ⟨b, 2, none⟩) hblt).trans hc2; go_simp <;> (try with_reducible rfl))
  try simp only [Act.put, List.setIfInBounds_toArray, List.set_cons_zero, List.set_cons_succ]
  refine wpAnyH_take (i := 3) (oi := ?a4o) (v := ?a4v) ?a4h (by kernel_rfl) (by kernel_rfl) (by kernel_rfl) ?a4q ?a4y hHeld ?a4r
  case a4h => (simp only [List.getElem?_toArray, List.getElem?_cons_succ, List.getElem?_cons_zero]; rfl)
  case a4q => exact fun _ _ _ h => h
  case a4y => (refine Or.inl ⟨by first | kernel_rfl | rfl, ?_⟩; intro w hSw; (try dsimp only at hSw); obtain ⟨⟨x0, x1, x2, x3, x4, x5, x6, x7, x8⟩, hb7⟩ := hSw; dsimp only at x0 x1 x2 x3 x4 x5 x6 x7 x8; have b0 := (hb7.cell (p := ⟨b, 0, none⟩) hblt).trans hc0; have b1 := (hb7.cell (p := ⟨b, 1, none⟩) hblt).trans hc1; have b2 := (hb7.cell (p := ⟨b, 2, none⟩) hblt).trans hc2; go_simp <;> (try with_reducible rfl))
  try simp only [Act.put, List.setIfInBounds_toArray, List.set_cons_zero, List.set_cons_succ]
  refine wpAnyH_take (i := 4) (oi := ?a5o) (v := ?a5v) ?a5h (by kernel_rfl) (by kernel_rfl) (by kernel_rfl) ?a5q ?a5y hHeld ?a5r
  case a5h => (simp only [List.getElem?_toArray, List.getElem?_cons_succ, List.getElem?_cons_zero]; rfl)
  case a5q => exact fun _ _ _ h => h
  case a5y => (refine Or.inl ⟨by first | kernel_rfl | rfl, ?_⟩; intro w hSw; (try dsimp only at hSw); obtain ⟨⟨x0, x1, x2, x3, x4, x5, x6, x7, x8⟩, hb7⟩ := hSw; dsimp only at x0 x1 x2 x3 x4 x5 x6 x7 x8; have b0 := (hb7.cell (p := ⟨b, 0, none⟩) hblt).trans hc0; have b1 := (hb7.cell (p := ⟨b, 1, none⟩) hblt).trans hc1; have b2 := (hb7.cell (p := ⟨b, 2, none⟩) hblt).trans hc2; go_simp <;> (try with_reducible rfl))
  try simp only [Act.put, List.setIfInBounds_toArray, List.set_cons_zero, List.set_cons_succ]
  refine wpAnyH_take (i := 5) (oi := ?a6o) (v := ?a6v) ?a6h (by kernel_rfl) (by kernel_rfl) (by kernel_rfl) ?a6q ?a6y hHeld ?a6r
  case a6h => (simp only [List.getElem?_toArray, List.getElem?_cons_succ, List.getElem?_cons_zero]; rfl)
  case a6q => exact fun _ _ _ h => h
  case a6y => (refine Or.inl ⟨by first | kernel_rfl | rfl, ?_⟩; intro w hSw; (try dsimp only at hSw); obtain ⟨⟨x0, x1, x2, x3, x4, x5, x6, x7, x8⟩, hb7⟩ := hSw; dsimp only at x0 x1 x2 x3 x4 x5 x6 x7 x8; have b0 := (hb7.cell (p := ⟨b, 0, none⟩) hblt).trans hc0; have b1 := (hb7.cell (p := ⟨b, 1, none⟩) hblt).trans hc1; have b2 := (hb7.cell (p := ⟨b, 2, none⟩) hblt).trans hc2; go_simp <;> (try with_reducible rfl))
  try simp only [Act.put, List.setIfInBounds_toArray, List.set_cons_zero, List.set_cons_succ]
  refine wpAnyH_take (i := 6) (oi := ?a7o) (v := ?a7v) ?a7h (by kernel_rfl) (by kernel_rfl) (by kernel_rfl) ?a7q ?a7y hHeld ?a7r
  case a7h => (simp only [List.getElem?_toArray, List.getElem?_cons_succ, List.getElem?_cons_zero]; rfl)
  case a7q => exact fun _ _ _ h => h
  case a7y => (refine Or.inl ⟨by first | kernel_rfl | rfl, ?_⟩; intro w hSw; (try dsimp only at hSw); obtain ⟨⟨x0, x1, x2, x3, x4, x5, x6, x7, x8⟩, hb7⟩ := hSw; dsimp only at x0 x1 x2 x3 x4 x5 x6 x7 x8; have b0 := (hb7.cell (p := ⟨b, 0, none⟩) hblt).trans hc0; have b1 := (hb7.cell (p := ⟨b, 1, none⟩) hblt).trans hc1; have b2 := (hb7.cell (p := ⟨b, 2, none⟩) hblt).trans hc2; go_simp <;> (try with_reducible rfl))
  try simp only [Act.put, List.setIfInBounds_toArray, List.set_cons_zero, List.set_cons_succ]
  refine wpAnyH_take (i := 7) (oi := ?a8o) (v := ?a8v) ?a8h (by kernel_rfl) (by kernel_rfl) (by kernel_rfl) ?a8q ?a8y hHeld ?a8r
  case a8h => (simp only [List.getElem?_toArray, List.getElem?_cons_succ, List.getElem?_cons_zero]; rfl)
  case a8q => exact fun _ _ _ h => h
  case a8y => (refine Or.inl ⟨by first | kernel_rfl | rfl, ?_⟩; intro w hSw; (try dsimp only at hSw); obtain ⟨⟨x0, x1, x2, x3, x4, x5, x6, x7, x8⟩, hb7⟩ := hSw; dsimp only at x0 x1 x2 x3 x4 x5 x6 x7 x8; have b0 := (hb7.cell (p := ⟨b, 0, none⟩) hblt).trans hc0; have b1 := (hb7.cell (p := ⟨b, 1, none⟩) hblt).trans hc1; have b2 := (hb7.cell (p := ⟨b, 2, none⟩) hblt).trans hc2; go_simp <;> (try with_reducible rfl))
  try simp only [Act.put, List.setIfInBounds_toArray, List.set_cons_zero, List.set_cons_succ]
  refine wpAnyH_take (i := 8) (oi := ?a9o) (v := ?a9v) ?a9h (by kernel_rfl) (by kernel_rfl) (by kernel_rfl) ?a9q ?a9y hHeld ?a9r
  case a9h => (simp only [List.getElem?_toArray, List.getElem?_cons_succ, List.getElem?_cons_zero]; rfl)
  case a9q => exact fun _ _ _ h => h
  case a9y => (refine Or.inl ⟨by first | kernel_rfl | rfl, ?_⟩; intro w hSw; (try dsimp only at hSw); obtain ⟨⟨x0, x1, x2, x3, x4, x5, x6, x7, x8⟩, hb7⟩ := hSw; dsimp only at x0 x1 x2 x3 x4 x5 x6 x7 x8; have b0 := (hb7.cell (p := ⟨b, 0, none⟩) hblt).trans hc0; have b1 := (hb7.cell (p := ⟨b, 1, none⟩) hblt).trans hc1; have b2 := (hb7.cell (p := ⟨b, 2, none⟩) hblt).trans hc2; go_simp <;> (try with_reducible rfl))
  try simp only [Act.put, List.setIfInBounds_toArray, List.set_cons_zero, List.set_cons_succ]
  refine wpAnyH_take (i := 9) (oi := ?a10o) (v := ?a10v) ?a10h (by kernel_rfl) (by kernel_rfl) (by kernel_rfl) ?a10q ?a10y hHeld ?a10r
  case a10h => (simp only [List.getElem?_toArray, List.getElem?_cons_succ, List.getElem?_cons_zero]; rfl)
  case a10q => exact fun _ _ _ h => h
  case a10y => (refine Or.inl ⟨by first | kernel_rfl | rfl, ?_⟩; intro w hSw; (try dsimp only at hSw); obtain ⟨⟨x0, x1, x2, x3, x4, x5, x6, x7, x8⟩, hb7⟩ := hSw; dsimp only at x0 x1 x2 x3 x4 x5 x6 x7 x8; have b0 := (hb7.cell (p := ⟨b, 0, none⟩) hblt).trans hc0; have b1 := (hb7.cell (p := ⟨b, 1, none⟩) hblt).trans hc1; have b2 := (hb7.cell (p := ⟨b, 2, none⟩) hblt).trans hc2; go_simp <;> (try with_reducible rfl))
  try simp only [Act.put, List.setIfInBounds_toArray, List.set_cons_zero, List.set_cons_succ]
  refine wpAnyH_ready (rs := [10]) (by kernel_rfl) (by simp) ?_
  refine (AllReadyH.cons rfl (fun K hK => ?_) AllReadyH.nil)
  go_simp
  (go_at_call 27; (with_reducible refine (ka _ hHeld.bel).mono ?_); rintro e w3 ⟨rfl, hb3⟩; (have hHeld := hHeld.later hb3); clear hb3)
  refine hK.out _ _ (hHeld) (fun hHeld => ?_)
  clear hK K
  try simp only [Act.put, List.setIfInBounds_toArray, List.set_cons_zero, List.set_cons_succ]
  refine wpAnyH_take (i := 11) (oi := ?a11o) (v := ?a11v) ?a11h (by kernel_rfl) (by kernel_rfl) (by kernel_rfl) ?a11q ?a11y hHeld ?a11r
  case a11h => (simp only [List.getElem?_toArray, List.getElem?_cons_succ, List.getElem?_cons_zero]; rfl)
  case a11q => exact fun _ _ _ h => h
  case a11y => (refine Or.inl ⟨by first | kernel_rfl | rfl, ?_⟩; intro w hSw; (try dsimp only at hSw); obtain ⟨⟨x0, x1, x2, x3, x4, x5, x6, x7, x8⟩, hb7⟩ := hSw; dsimp only at x0 x1 x2 x3 x4 x5 x6 x7 x8; have b0 := (hb7.cell (p := ⟨b, 0, none⟩) hblt).trans hc0; have b1 := (hb7.cell (p := ⟨b, 1, none⟩) hblt).trans hc1; have b2 := (hb7.cell (p := ⟨b, 2, none⟩) hblt).trans hc2; go_simp <;> (try with_reducible rfl))
  try simp only [Act.put, List.setIfInBounds_toArray, List.set_cons_zero, List.set_cons_succ]
  refine wpAnyH_take (i := 12) (oi := ?a12o) (v := ?a12v) ?a12h (by kernel_rfl) (by kernel_rfl) (by kernel_rfl) ?a12q ?a12y hHeld ?a12r
  case a12h => (simp only [List.getElem?_toArray, List.getElem?_cons_succ, List.getElem?_cons_zero]; rfl)
  case a12q => exact fun _ _ _ h => h
  case a12y => (refine Or.inl ⟨by first | kernel_rfl | rfl, ?_⟩; intro w hSw; (try dsimp only at hSw); obtain ⟨⟨x0, x1, x2, x3, x4, x5, x6, x7, x8⟩, hb7⟩ := hSw; dsimp only at x0 x1 x2 x3 x4 x5 x6 x7 x8; have b0 := (hb7.cell (p := ⟨b, 0, none⟩) hblt).trans hc0; have b1 := (hb7.cell (p := ⟨b, 1, none⟩) hblt).trans hc1; have b2 := (hb7.cell (p := ⟨b, 2, none⟩) hblt).trans hc2; go_simp <;> (try with_reducible rfl))
  try simp only [Act.put, List.setIfInBounds_toArray, List.set_cons_zero, List.set_cons_succ]
  refine wpAnyH_take (i := 13) (oi := ?a13o) (v := ?a13v) ?a13h (by kernel_rfl) (by kernel_rfl) (by kernel_rfl) ?a13q ?a13y hHeld ?a13r
  case a13h => (simp only [List.getElem?_toArray, List.getElem?_cons_succ, List.getElem?_cons_zero]; rfl)
  case a13q => exact fun _ _ _ h => h
  case a13y => (refine Or.inl ⟨by first | kernel_rfl | rfl, ?_⟩; intro w hSw; (try dsimp only at hSw); obtain ⟨⟨x0, x1, x2, x3, x4, x5, x6, x7, x8⟩, hb7⟩ := hSw; dsimp only at x0 x1 x2 x3 x4 x5 x6 x7 x8; have b0 := (hb7.cell (p := ⟨b, 0, none⟩) hblt).trans hc0; have b1 := (hb7.cell (p := ⟨b, 1, none⟩) hblt).trans hc1; have b2 := (hb7.cell (p := ⟨b, 2, none⟩) hblt).trans hc2; go_simp <;> (try with_reducible rfl))
  try simp only [Act.put, List.setIfInBounds_toArray, List.set_cons_zero, List.set_cons_succ]
  refine wpAnyH_take (i := 14) (oi := ?a14o) (v := ?a14v) ?a14h (by kernel_rfl) (by kernel_rfl) (by kernel_rfl) ?a14q ?a14y hHeld ?a14r
  case a14h => (simp only [List.getElem?_toArray, List.getElem?_cons_succ, List.getElem?_cons_zero]; rfl)
  case a14q => exact fun _ _ _ h => h
  case a14y => (refine Or.inl ⟨by first | kernel_rfl | rfl, ?_⟩; intro w hSw; (try dsimp only at hSw); obtain ⟨⟨x0, x1, x2, x3, x4, x5, x6, x7, x8⟩, hb7⟩ := hSw; dsimp only at x0 x1 x2 x3 x4 x5 x6 x7 x8; have b0 := (hb7.cell (p := ⟨b, 0, none⟩) hblt).trans hc0; have b1 := (hb7.cell (p := ⟨b, 1, none⟩) hblt).trans hc1; have b2 := (hb7.cell (p := ⟨b, 2, none⟩) hblt).trans hc2; go_simp <;> (try with_reducible rfl))
  try simp only [Act.put, List.setIfInBounds_toArray, List.set_cons_zero, List.set_cons_succ]
  refine wpAnyH_take (i := 15) (oi := ?a15o) (v := ?a15v) ?a15h (by kernel_rfl) (by kernel_rfl) (by kernel_rfl) ?a15q ?a15y hHeld ?a15r
  case a15h => (simp only [List.getElem?_toArray, List.getElem?_cons_succ, List.getElem?_cons_zero]; rfl)
  case a15q => exact fun _ _ _ h => h
  case a15y => (refine Or.inl ⟨by first | kernel_rfl | rfl, ?_⟩; intro w hSw; (try dsimp only at hSw); obtain ⟨⟨x0, x1, x2, x3, x4, x5, x6, x7, x8⟩, hb7⟩ := hSw; dsimp only at x0 x1 x2 x3 x4 x5 x6 x7 x8; have b0 := (hb7.cell (p := ⟨b, 0, none⟩) hblt).trans hc0; have b1 := (hb7.cell (p := ⟨b, 1, none⟩) hblt).trans hc1; have b2 := (hb7.cell (p := ⟨b, 2, none⟩) hblt).trans hc2; go_simp <;> (try with_reducible rfl))
  try simp only [Act.put, List.setIfInBounds_toArray, List.set_cons_zero, List.set_cons_succ]
  refine wpAnyH_take (i := 16) (oi := ?a16o) (v := ?a16v) ?a16h (by kernel_rfl) (by kernel_rfl) (by kernel_rfl) ?a16q ?a16y hHeld ?a16r
  case a16h => (simp only [List.getElem?_toArray, List.getElem?_cons_succ, List.getElem?_cons_zero]; rfl)
  case a16q => exact fun _ _ _ h => h
  case a16y => (refine Or.inl ⟨by first | kernel_rfl | rfl, ?_⟩; intro w hSw; (try dsimp only at hSw); obtain ⟨⟨x0, x1, x2, x3, x4, x5, x6, x7, x8⟩, hb7⟩ := hSw; dsimp only at x0 x1 x2 x3 x4 x5 x6 x7 x8; have b0 := (hb7.cell (p := ⟨b, 0, none⟩) hblt).trans hc0; have b1 := (hb7.cell (p := ⟨b, 1, none⟩) hblt).trans hc1; have b2 := (hb7.cell (p := ⟨b, 2, none⟩) hblt).trans hc2; go_simp <;> (try with_reducible rfl))
  try simp only [Act.put, List.setIfInBounds_toArray, List.set_cons_zero, List.set_cons_succ]
  refine wpAnyH_take (i := 17) (oi := ?a17o) (v := ?a17v) ?a17h (by kernel_rfl) (by kernel_rfl) (by kernel_rfl) ?a17q ?a17y hHeld ?a17r
  case a17h => (simp only [List.getElem?_toArray, List.getElem?_cons_succ, List.getElem?_cons_zero]; rfl)
  case a17q => exact fun _ _ _ h => h
  case a17y => (refine Or.inl ⟨by first | kernel_rfl | rfl, ?_⟩; intro w hSw; (try dsimp only at hSw); obtain ⟨⟨x0, x1, x2, x3, x4, x5, x6, x7, x8⟩, hb7⟩ := hSw; dsimp only at x0 x1 x2 x3 x4 x5 x6 x7 x8; have b0 := (hb7.cell (p := ⟨b, 0, none⟩) hblt).trans hc0; have b1 := (hb7.cell (p := ⟨b, 1, none⟩) hblt).trans hc1; have b2 := (hb7.cell (p := ⟨b, 2, none⟩) hblt).trans hc2; go_simp <;> (try with_reducible rfl))
  try simp only [Act.put, List.setIfInBounds_toArray, List.set_cons_zero, List.set_cons_succ]
  refine wpAnyH_take (i := 18) (oi := ?a18o) (v := ?a18v) ?a18h (by kernel_rfl) (by kernel_rfl) (by kernel_rfl) ?a18q ?a18y hHeld ?a18r
  case a18h => (simp only [List.getElem?_toArray, List.getElem?_cons_succ, List.getElem?_cons_zero]; rfl)
  case a18q => exact fun _ _ _ h => h
  case a18y => (refine Or.inl ⟨by first | kernel_rfl | rfl, ?_⟩; intro w hSw; (try dsimp only at hSw); obtain ⟨⟨x0, x1, x2, x3, x4, x5, x6, x7, x8⟩, hb7⟩ := hSw; dsimp only at x0 x1 x2 x3 x4 x5 x6 x7 x8; have b0 := (hb7.cell (p := ⟨b, 0, none⟩) hblt).trans hc0; have b1 := (hb7.cell (p := ⟨b, 1, none⟩) hblt).trans hc1; have b2 := (hb7.cell (p := ⟨b, 2, none⟩) hblt).trans hc2; go_simp <;> (try with_reducible rfl))
  try simp only [Act.put, List.setIfInBounds_toArray, List.set_cons_zero, List.set_cons_succ]
  refine wpAnyH_take (i := 19) (oi := ?a19o) (v := ?a19v) ?a19h (by kernel_rfl) (by kernel_rfl) (by kernel_rfl) ?a19q ?a19y hHeld ?a19r
  case a19h => (simp only [List.getElem?_toArray, List.getElem?_cons_succ, List.getElem?_cons_zero]; rfl)
  case a19q => exact fun _ _ _ h => h
  case a19y => (refine Or.inl ⟨by first | kernel_rfl | rfl, ?_⟩; intro w hSw; (try dsimp only at hSw); obtain ⟨⟨x0, x1, x2, x3, x4, x5, x6, x7, x8⟩, hb7⟩ := hSw; dsimp only at x0 x1 x2 x3 x4 x5 x6 x7 x8; have b0 := (hb7.cell (p := ⟨b, 0, none⟩) hblt).trans hc0; have b1 := (hb7.cell (p := ⟨b, 1, none⟩) hblt).trans hc1; have b2 := (hb7.cell (p := ⟨b, 2, none⟩) hblt).trans hc2; go_simp <;> (try with_reducible rfl))
  try simp only [Act.put, List.setIfInBounds_toArray, List.set_cons_zero, List.set_cons_succ]
  refine wpAnyH_ready (rs := [20]) (by kernel_rfl) (by simp) ?_
  refine (AllReadyH.cons rfl (fun K hK => ?_) AllReadyH.nil)
  go_simp
  (go_at_call 36; (with_reducible refine (kfd _ hHeld.bel).mono ?_); rintro e w4 ⟨rfl, rfl⟩)
  refine hK.out _ _ (hHeld) (fun hHeld => ?_)
  clear hK K
  try simp only [Act.put, List.setIfInBounds_toArray, List.set_cons_zero, List.set_cons_succ]
  refine wpAnyH_take (i := 21) (oi := ?a20o) (v := ?a20v) ?a20h (by kernel_rfl) (by kernel_rfl) (by kernel_rfl) ?a20q ?a20y hHeld ?a20r
  case a20h => (simp only [List.getElem?_toArray, List.getElem?_cons_succ, List.getElem?_cons_zero]; rfl)
  case a20q => exact fun _ _ _ h => h
  case a20y => (refine Or.inl ⟨by first | kernel_rfl | rfl, ?_⟩; intro w hSw; (try dsimp only at hSw); obtain ⟨⟨x0, x1, x2, x3, x4, x5, x6, x7, x8⟩, hb7⟩ := hSw; dsimp only at x0 x1 x2 x3 x4 x5 x6 x7 x8; have b0 := (hb7.cell (p := ⟨b, 0, none⟩) hblt).trans hc0; have b1 := (hb7.cell (p := ⟨b, 1, none⟩) hblt).trans hc1; have b2 := (hb7.cell (p := ⟨b, 2, none⟩) hblt).trans hc2; go_simp <;> (try with_reducible rfl))
  try simp only [Act.put, List.setIfInBounds_toArray, List.set_cons_zero, List.set_cons_succ]
  refine wpAnyH_take (i := 22) (oi := ?a21o) (v := ?a21v) ?a21h (by kernel_rfl) (by kernel_rfl) (by kernel_rfl) ?a21q ?a21y hHeld ?a21r
  case a21h => (simp only [List.getElem?_toArray, List.getElem?_cons_succ, List.getElem?_cons_zero]; rfl)
  case a21q => exact fun _ _ _ h => h
  case a21y => (refine Or.inl ⟨by first | kernel_rfl | rfl, ?_⟩; intro w hSw; (try dsimp only at hSw); obtain ⟨⟨x0, x1, x2, x3, x4, x5, x6, x7, x8⟩, hb7⟩ := hSw; dsimp only at x0 x1 x2 x3 x4 x5 x6 x7 x8; have b0 := (hb7.cell (p := ⟨b, 0, none⟩) hblt).trans hc0; have b1 := (hb7.cell (p := ⟨b, 1, none⟩) hblt).trans hc1; have b2 := (hb7.cell (p := ⟨b, 2, none⟩) hblt).trans hc2; go_simp <;> (try with_reducible rfl))
  try simp only [Act.put, List.setIfInBounds_toArray, List.set_cons_zero, List.set_cons_succ]
  refine wpAnyH_done (by kernel_rfl) ?_ _
  go_wp2
  go_ret
  exact ⟨(by rw [HE.out]; rfl), by rw [HS.out]; exact ⟨_, zs, (HH.out.later hHeld.bel).wide (fun q hq => Or.inl hq) (grow_fp HH.out.fp HBB.out hHeld.bel.size)⟩, FrF.of hHeld.bel⟩
set_option maxHeartbeats 8000000 in
theorem eoffer_full {w : World} {B b : Nat} {ov v : Value} {zs : List Rd} {S : CS} {F : Nat → Prop} (h : EbAt w B b ov v zs S F) (hB : B ≤ w.heap.size) (x : Rd) (hN : Ns w x.dv x.r.d) (hf : x.r.fits) (ho : x.r.d ≠ [] → ∀ q, x.dv.ownBlock = some q → q < B) (hx : x.r.ok = true) (hq : ¬ x.r.st.q < atL S.out x.r.st.s + 1) (hh : hasB S.L x.r.st.s x.r.st.q = false) (hr : S.room ≤ (S.L.length : Int)) (hd : dueB S x.r = false) : Calls Try.prog 17 #[.pointer (some ⟨b, 0, none⟩), recV x.r x.dv] w (EOffDone w B b ov S F x.r) := by
  have hal := (Below.refl w.heap.size w).alloc (Nat.le_refl _) (box9 x)
  have hh1 := R9.new w x
  have HE := Lib.hid (show offE S x.r = 2 from offE_full hx (Bool.or_eq_false_iff.2 ⟨decide_eq_false hq, hh⟩) ⟨hr, hd⟩)
  have HS := Lib.hid (show offS S x.r = S from offS_no (by rw [HE.out]; decide))
  obtain ⟨oa, oc, eo⟩ := h.ns.slice
  subst eo
  obtain ⟨a2, c2, e2⟩ := h.row.slice
  subst e2
  have hc0 := h.c0
  have hc1 := h.c1
  have hc2 := h.c2
  have hblt := h.lt
  have kck := rcheck6_is x.r x.dv _ (Ns.later hN hal) hf
  rw [Rec.err_ok.2 hx] at kck
  have HH := Lib.hid h
  have HN := Lib.hid hN
  have HOWN := Lib.hid ho
  have HBB := Lib.hid hB
  have HAL := Lib.hid hal
  have HH1 := Lib.hid hh1
  have ka := fun (W : World) (hb : Below w.heap.size w W) => rat_is (.slice oa S.out.length oc) S.out x.r.st.s W (Ns.later h.ns hb)
  have kfd := fun (W : World) (hb : Below w.heap.size w W) => find_is (h.later hb) x.r.st.s x.r.st.q
  have kd := fun (W : World) (hb : Below w.heap.size w W) => edue_is (h.later hb) x (Ns.later hN hb)
  have hlz := h.len
  have hl4 := h.good.l408
  obtain ⟨ln, hln⟩ : ∃ z, zs.length = z := ⟨_, rfl⟩
  rw [hln] at hc2 hlz
  have HLZ := Lib.hid hln
  have HL4 := Lib.hid (show ln ≤ 408 by omega)
  obtain ⟨y, hy⟩ : ∃ z, atL S.out x.r.st.s = z := ⟨_, rfl⟩
  obtain ⟨rm, hrm⟩ : ∃ z, S.room = z := ⟨_, rfl⟩
  rw [hrm] at hc0
  rw [hy] at ka
  have hq1 : decide (x.r.st.q ≤ y) = false := decide_eq_false (by omega)
  rw [find_no hh] at kfd
  rw [hd] at kd
  have hr1 : decide (rm ≤ (ln : Int)) = true := decide_eq_true (by rw [← hrm, hlz]; exact hr)
  clear hq hh
  obtain ⟨⟨rk, rs, rt, rv, rtier, ⟨rc, rst, rq⟩, rd⟩, ra, rcc⟩ := x
  unfold recV Rd.dv at *
  dsimp only at *
  unfold box9 at *
  dsimp only at *
  clear h hN hx ho hB hal hh1 hf hln hlz hl4 hrm hy hr hd
  go_enter Try.func17, Try.ntmps17
  go_upto_region 3 with (go_at_call 41; (with_reducible refine kck.mono ?_); rintro e w2 ⟨rfl, hb2⟩; (have HB2 := Lib.hid hb2); clear hb2)
  have HHO : HR w w.heap.size ⟨⟨rk, rs, rt, rv, rtier, ⟨rc, rst, rq⟩, rd⟩, ra, rcc⟩ w2 := ⟨HH1.out.later HB2.out, bel_next HAL.out HB2.out⟩
  refine wp_region_held_drew (S := (HR w w.heap.size ⟨⟨rk, rs, rt, rv, rtier, ⟨rc, rst, rq⟩, rd⟩, ra, rcc⟩)) (by kernel_rfl) HHO.drew (fun hHeld => ?_)
  refine wpAnyH_take (i := 0) (oi := ?a1o) (v := ?a1v) ?a1h (by kernel_rfl) (by kernel_rfl) (by kernel_rfl) ?a1q ?a1y hHeld ?a1r
  case a1h => (simp only [List.getElem?_toArray, List.getElem?_cons_zero]; rfl)
  case a1q => exact fun _ _ _ h => h
  case a1y => (refine Or.inl ⟨by first | kernel_rfl | rfl, ?_⟩; intro w hSw; (try dsimp only at hSw); obtain ⟨⟨x0, x1, x2, x3, x4, x5, x6, x7, x8⟩, hb7⟩ := hSw; dsimp only at x0 x1 x2 x3 x4 x5 x6 x7 x8; have b0 := (hb7.cell (p := ⟨b, 0, none⟩) hblt).trans hc0; have b1 := (hb7.cell (p := ⟨b, 1, none⟩) hblt).trans hc1; have b2 := (hb7.cell (p := ⟨b, 2, none⟩) hblt).trans hc2; go_simp <;> (try with_reducible rfl))
  try simp only [Act.put, List.setIfInBounds_toArray, List.set_cons_zero, List.set_cons_succ]
  refine wpAnyH_take (i := 1) (oi := ?a2o) (v := ?a2v) ?a2h (by kernel_rfl) (by kernel_rfl) (by kernel_rfl) ?a2q ?a2y hHeld ?a2r
  case a2h => (simp only [List.getElem?_toArray, List.getElem?_cons_succ, List.getElem?_cons_zero]; rfl)
  case a2q => exact fun _ _ _ h => h
  case a2y => (refine Or.inl ⟨by first | kernel_rfl | rfl, ?_⟩; intro w hSw; (try dsimp only at hSw); obtain ⟨⟨x0, x1, x2, x3, x4, x5, x6, x7, x8⟩, hb7⟩ := hSw; dsimp only at x0 x1 x2 x3 x4 x5 x6 x7 x8; have b0 := (hb7.cell (p := ⟨b, 0, none⟩) hblt).trans hc0; have b1 := (hb7.cell (p := ⟨b, 1, none⟩) hblt).trans hc1; have b2 := (hb7.cell (p := ⟨b, 2, none⟩) hblt).trans hc2; go_simp <;> (try with_reducible rfl))
  try simp only [Act.put, List.setIfInBounds_toArray, List.set_cons_zero, List.set_cons_succ]
  refine wpAnyH_take (i := 2) (oi := ?a3o) (v := ?a3v) ?a3h (by kernel_rfl) (by kernel_rfl) (by kernel_rfl) ?a3q ?a3y hHeld ?a3r
  case a3h => (simp only [List.getElem?_toArray, List.getElem?_cons_succ, List.getElem?_cons_zero]; rfl)
  case a3q => exact fun _ _ _ h => h
  case a3y => (refine Or.inl ⟨by first | kernel_rfl | rfl, ?_⟩; intro w hSw; (try dsimp only at hSw); obtain ⟨⟨x0, x1, x2, x3, x4, x5, x6, x7, x8⟩, hb7⟩ := hSw; dsimp only at x0 x1 x2 x3 x4 x5 x6 x7 x8; have b0 := (hb7.cell (p := ⟨b, 0, none⟩) hblt).trans hc0; have b1 := (hb7.cell (p := ⟨b, 1, none⟩) hblt).trans hc1; have b2 := (hb7.cell (p := ⟨b, 2, none⟩) hblt).trans hc2; go_simp <;> (try with_reducible rfl))
  try simp only [Act.put, List.setIfInBounds_toArray, List.set_cons_zero, List.set_cons_succ]
  refine wpAnyH_take (i := 3) (oi := ?a4o) (v := ?a4v) ?a4h (by kernel_rfl) (by kernel_rfl) (by kernel_rfl) ?a4q ?a4y hHeld ?a4r
  case a4h => (simp only [List.getElem?_toArray, List.getElem?_cons_succ, List.getElem?_cons_zero]; rfl)
  case a4q => exact fun _ _ _ h => h
  case a4y => (refine Or.inl ⟨by first | kernel_rfl | rfl, ?_⟩; intro w hSw; (try dsimp only at hSw); obtain ⟨⟨x0, x1, x2, x3, x4, x5, x6, x7, x8⟩, hb7⟩ := hSw; dsimp only at x0 x1 x2 x3 x4 x5 x6 x7 x8; have b0 := (hb7.cell (p := ⟨b, 0, none⟩) hblt).trans hc0; have b1 := (hb7.cell (p := ⟨b, 1, none⟩) hblt).trans hc1; have b2 := (hb7.cell (p := ⟨b, 2, none⟩) hblt).trans hc2; go_simp <;> (try with_reducible rfl))
  try simp only [Act.put, List.setIfInBounds_toArray, List.set_cons_zero, List.set_cons_succ]
  refine wpAnyH_take (i := 4) (oi := ?a5o) (v := ?a5v) ?a5h (by kernel_rfl) (by kernel_rfl) (by kernel_rfl) ?a5q ?a5y hHeld ?a5r
  case a5h => (simp only [List.getElem?_toArray, List.getElem?_cons_succ, List.getElem?_cons_zero]; rfl)
  case a5q => exact fun _ _ _ h => h
  case a5y => (refine Or.inl ⟨by first | kernel_rfl | rfl, ?_⟩; intro w hSw; (try dsimp only at hSw); obtain ⟨⟨x0, x1, x2, x3, x4, x5, x6, x7, x8⟩, hb7⟩ := hSw; dsimp only at x0 x1 x2 x3 x4 x5 x6 x7 x8; have b0 := (hb7.cell (p := ⟨b, 0, none⟩) hblt).trans hc0; have b1 := (hb7.cell (p := ⟨b, 1, none⟩) hblt).trans hc1; have b2 := (hb7.cell (p := ⟨b, 2, none⟩) hblt).trans hc2; go_simp <;> (try with_reducible rfl))
  try simp only [Act.put, List.setIfInBounds_toArray, List.set_cons_zero, List.set_cons_succ]
  refine wpAnyH_take (i := 5) (oi := ?a6o) (v := ?a6v) ?a6h (by kernel_rfl) (by kernel_rfl) (by kernel_rfl) ?a6q ?a6y hHeld ?a6r
  case a6h => (simp only [List.getElem?_toArray, List.getElem?_cons_succ, List.getElem?_cons_zero]; rfl)
  case a6q => exact fun _ _ _ h => h
  case a6y => (refine Or.inl ⟨by first | kernel_rfl | rfl, ?_⟩; intro w hSw; (try dsimp only at hSw); obtain ⟨⟨x0, x1, x2, x3, x4, x5, x6, x7, x8⟩, hb7⟩ := hSw; dsimp only at x0 x1 x2 x3 x4 x5 x6 x7 x8; have b0 := (hb7.cell (p := ⟨b, 0, none⟩) hblt).trans hc0; have b1 := (hb7.cell (p := ⟨b, 1, none⟩) hblt).trans hc1; have b2 := (hb7.cell (p := ⟨b, 2, none⟩) hblt).trans hc2; go_simp <;> (try with_reducible rfl))
  try simp only [Act.put, List.setIfInBounds_toArray, List.set_cons_zero, List.set_cons_succ]
  refine wpAnyH_take (i := 6) (oi := ?a7o) (v := ?a7v) ?a7h (by kernel_rfl) (by kernel_rfl) (by kernel_rfl) ?a7q ?a7y hHeld ?a7r
  case a7h => (simp only [List.getElem?_toArray, List.getElem?_cons_succ, List.getElem?_cons_zero]; rfl)
  case a7q => exact fun _ _ _ h => h
  case a7y => (refine Or.inl ⟨by first | kernel_rfl | rfl, ?_⟩; intro w hSw; (try dsimp only at hSw); obtain ⟨⟨x0, x1, x2, x3, x4, x5, x6, x7, x8⟩, hb7⟩ := hSw; dsimp only at x0 x1 x2 x3 x4 x5 x6 x7 x8; have b0 := (hb7.cell (p := ⟨b, 0, none⟩) hblt).trans hc0; have b1 := (hb7.cell (p := ⟨b, 1, none⟩) hblt).trans hc1; have b2 := (hb7.cell (p := ⟨b, 2, none⟩) hblt).trans hc2; go_simp <;> (try with_reducible rfl))
  try simp only [Act.put, List.setIfInBounds_toArray, List.set_cons_zero, List.set_cons_succ]
  refine wpAnyH_take (i := 7) (oi := ?a8o) (v := ?a8v) ?a8h (by kernel_rfl) (by kernel_rfl) (by kernel_rfl) ?a8q ?a8y hHeld ?a8r
  case a8h => (simp only [List.getElem?_toArray, List.getElem?_cons_succ, List.getElem?_cons_zero]; rfl)
  case a8q => exact fun _ _ _ h => h
  case a8y => (refine Or.inl ⟨by first | kernel_rfl | rfl, ?_⟩; intro w hSw; (try dsimp only at hSw); obtain ⟨⟨x0, x1, x2, x3, x4, x5, x6, x7, x8⟩, hb7⟩ := hSw; dsimp only at x0 x1 x2 x3 x4 x5 x6 x7 x8; have b0 := (hb7.cell (p := ⟨b, 0, none⟩) hblt).trans hc0; have b1 := (hb7.cell (p := ⟨b, 1, none⟩) hblt).trans hc1; have b2 := (hb7.cell (p := ⟨b, 2, none⟩) hblt).trans hc2; go_simp <;> (try with_reducible rfl))
  try simp only [Act.put, List.setIfInBounds_toArray, List.set_cons_zero, List.set_cons_succ]
  refine wpAnyH_take (i := 8) (oi := ?a9o) (v := ?a9v) ?a9h (by kernel_rfl) (by kernel_rfl) (by kernel_rfl) ?a9q ?a9y hHeld ?a9r
  case a9h => (simp only [List.getElem?_toArray, List.getElem?_cons_succ, List.getElem?_cons_zero]; rfl)
  case a9q => exact fun _ _ _ h => h
  case a9y => (refine Or.inl ⟨by first | kernel_rfl | rfl, ?_⟩; intro w hSw; (try dsimp only at hSw); obtain ⟨⟨x0, x1, x2, x3, x4, x5, x6, x7, x8⟩, hb7⟩ := hSw; dsimp only at x0 x1 x2 x3 x4 x5 x6 x7 x8; have b0 := (hb7.cell (p := ⟨b, 0, none⟩) hblt).trans hc0; have b1 := (hb7.cell (p := ⟨b, 1, none⟩) hblt).trans hc1; have b2 := (hb7.cell (p := ⟨b, 2, none⟩) hblt).trans hc2; go_simp <;> (try with_reducible rfl))
  try simp only [Act.put, List.setIfInBounds_toArray, List.set_cons_zero, List.set_cons_succ]
  refine wpAnyH_take (i := 9) (oi := ?a10o) (v := ?a10v) ?a10h (by kernel_rfl) (by kernel_rfl) (by kernel_rfl) ?a10q ?a10y hHeld ?a10r
  case a10h => (simp only [List.getElem?_toArray, List.getElem?_cons_succ, List.getElem?_cons_zero]; rfl)
  case a10q => exact fun _ _ _ h => h
  case a10y => (refine Or.inl ⟨by first | kernel_rfl | rfl, ?_⟩; intro w hSw; (try dsimp only at hSw); obtain ⟨⟨x0, x1, x2, x3, x4, x5, x6, x7, x8⟩, hb7⟩ := hSw; dsimp only at x0 x1 x2 x3 x4 x5 x6 x7 x8; have b0 := (hb7.cell (p := ⟨b, 0, none⟩) hblt).trans hc0; have b1 := (hb7.cell (p := ⟨b, 1, none⟩) hblt).trans hc1; have b2 := (hb7.cell (p := ⟨b, 2, none⟩) hblt).trans hc2; go_simp <;> (try with_reducible rfl))
  try simp only [Act.put, List.setIfInBounds_toArray, List.set_cons_zero, List.set_cons_succ]
  refine wpAnyH_ready (rs := [10]) (by kernel_rfl) (by simp) ?_
  refine (AllReadyH.cons rfl (fun K hK => ?_) AllReadyH.nil)
  go_simp
  (go_at_call 27; (with_reducible refine (ka _ hHeld.bel).mono ?_); rintro e w3 ⟨rfl, hb3⟩; (have hHeld := hHeld.later hb3); clear hb3)
  refine hK.out _ _ (hHeld) (fun hHeld => ?_)
  clear hK K
  try simp only [Act.put, List.setIfInBounds_toArray, List.set_cons_zero, List.set_cons_succ]
  refine wpAnyH_take (i := 11) (oi := ?a11o) (v := ?a11v) ?a11h (by kernel_rfl) (by kernel_rfl) (by kernel_rfl) ?a11q ?a11y hHeld ?a11r
  case a11h => (simp only [List.getElem?_toArray, List.getElem?_cons_succ, List.getElem?_cons_zero]; rfl)
  case a11q => exact fun _ _ _ h => h
  case a11y => (refine Or.inl ⟨by first | kernel_rfl | rfl, ?_⟩; intro w hSw; (try dsimp only at hSw); obtain ⟨⟨x0, x1, x2, x3, x4, x5, x6, x7, x8⟩, hb7⟩ := hSw; dsimp only at x0 x1 x2 x3 x4 x5 x6 x7 x8; have b0 := (hb7.cell (p := ⟨b, 0, none⟩) hblt).trans hc0; have b1 := (hb7.cell (p := ⟨b, 1, none⟩) hblt).trans hc1; have b2 := (hb7.cell (p := ⟨b, 2, none⟩) hblt).trans hc2; go_simp <;> (try with_reducible rfl))
  try simp only [Act.put, List.setIfInBounds_toArray, List.set_cons_zero, List.set_cons_succ]
  refine wpAnyH_take (i := 12) (oi := ?a12o) (v := ?a12v) ?a12h (by kernel_rfl) (by kernel_rfl) (by kernel_rfl) ?a12q ?a12y hHeld ?a12r
  case a12h => (simp only [List.getElem?_toArray, List.getElem?_cons_succ, List.getElem?_cons_zero]; rfl)
  case a12q => exact fun _ _ _ h => h
  case a12y => (refine Or.inl ⟨by first | kernel_rfl | rfl, ?_⟩; intro w hSw; (try dsimp only at hSw); obtain ⟨⟨x0, x1, x2, x3, x4, x5, x6, x7, x8⟩, hb7⟩ := hSw; dsimp only at x0 x1 x2 x3 x4 x5 x6 x7 x8; have b0 := (hb7.cell (p := ⟨b, 0, none⟩) hblt).trans hc0; have b1 := (hb7.cell (p := ⟨b, 1, none⟩) hblt).trans hc1; have b2 := (hb7.cell (p := ⟨b, 2, none⟩) hblt).trans hc2; go_simp <;> (try with_reducible rfl))
  try simp only [Act.put, List.setIfInBounds_toArray, List.set_cons_zero, List.set_cons_succ]
  refine wpAnyH_take (i := 13) (oi := ?a13o) (v := ?a13v) ?a13h (by kernel_rfl) (by kernel_rfl) (by kernel_rfl) ?a13q ?a13y hHeld ?a13r
  case a13h => (simp only [List.getElem?_toArray, List.getElem?_cons_succ, List.getElem?_cons_zero]; rfl)
  case a13q => exact fun _ _ _ h => h
  case a13y => (refine Or.inl ⟨by first | kernel_rfl | rfl, ?_⟩; intro w hSw; (try dsimp only at hSw); obtain ⟨⟨x0, x1, x2, x3, x4, x5, x6, x7, x8⟩, hb7⟩ := hSw; dsimp only at x0 x1 x2 x3 x4 x5 x6 x7 x8; have b0 := (hb7.cell (p := ⟨b, 0, none⟩) hblt).trans hc0; have b1 := (hb7.cell (p := ⟨b, 1, none⟩) hblt).trans hc1; have b2 := (hb7.cell (p := ⟨b, 2, none⟩) hblt).trans hc2; go_simp <;> (try with_reducible rfl))
  try simp only [Act.put, List.setIfInBounds_toArray, List.set_cons_zero, List.set_cons_succ]
  refine wpAnyH_take (i := 14) (oi := ?a14o) (v := ?a14v) ?a14h (by kernel_rfl) (by kernel_rfl) (by kernel_rfl) ?a14q ?a14y hHeld ?a14r
  case a14h => (simp only [List.getElem?_toArray, List.getElem?_cons_succ, List.getElem?_cons_zero]; rfl)
  case a14q => exact fun _ _ _ h => h
  case a14y => (refine Or.inl ⟨by first | kernel_rfl | rfl, ?_⟩; intro w hSw; (try dsimp only at hSw); obtain ⟨⟨x0, x1, x2, x3, x4, x5, x6, x7, x8⟩, hb7⟩ := hSw; dsimp only at x0 x1 x2 x3 x4 x5 x6 x7 x8; have b0 := (hb7.cell (p := ⟨b, 0, none⟩) hblt).trans hc0; have b1 := (hb7.cell (p := ⟨b, 1, none⟩) hblt).trans hc1; have b2 := (hb7.cell (p := ⟨b, 2, none⟩) hblt).trans hc2; go_simp <;> (try with_reducible rfl))
  try simp only [Act.put, List.setIfInBounds_toArray, List.set_cons_zero, List.set_cons_succ]
  refine wpAnyH_take (i := 15) (oi := ?a15o) (v := ?a15v) ?a15h (by kernel_rfl) (by kernel_rfl) (by kernel_rfl) ?a15q ?a15y hHeld ?a15r
  case a15h => (simp only [List.getElem?_toArray, List.getElem?_cons_succ, List.getElem?_cons_zero]; rfl)
  case a15q => exact fun _ _ _ h => h
  case a15y => (refine Or.inl ⟨by first | kernel_rfl | rfl, ?_⟩; intro w hSw; (try dsimp only at hSw); obtain ⟨⟨x0, x1, x2, x3, x4, x5, x6, x7, x8⟩, hb7⟩ := hSw; dsimp only at x0 x1 x2 x3 x4 x5 x6 x7 x8; have b0 := (hb7.cell (p := ⟨b, 0, none⟩) hblt).trans hc0; have b1 := (hb7.cell (p := ⟨b, 1, none⟩) hblt).trans hc1; have b2 := (hb7.cell (p := ⟨b, 2, none⟩) hblt).trans hc2; go_simp <;> (try with_reducible rfl))
  try simp only [Act.put, List.setIfInBounds_toArray, List.set_cons_zero, List.set_cons_succ]
  refine wpAnyH_take (i := 16) (oi := ?a16o) (v := ?a16v) ?a16h (by kernel_rfl) (by kernel_rfl) (by kernel_rfl) ?a16q ?a16y hHeld ?a16r
  case a16h => (simp only [List.getElem?_toArray, List.getElem?_cons_succ, List.getElem?_cons_zero]; rfl)
  case a16q => exact fun _ _ _ h => h
  case a16y => (refine Or.inl ⟨by first | kernel_rfl | rfl, ?_⟩; intro w hSw; (try dsimp only at hSw); obtain ⟨⟨x0, x1, x2, x3, x4, x5, x6, x7, x8⟩, hb7⟩ := hSw; dsimp only at x0 x1 x2 x3 x4 x5 x6 x7 x8; have b0 := (hb7.cell (p := ⟨b, 0, none⟩) hblt).trans hc0; have b1 := (hb7.cell (p := ⟨b, 1, none⟩) hblt).trans hc1; have b2 := (hb7.cell (p := ⟨b, 2, none⟩) hblt).trans hc2; go_simp <;> (try with_reducible rfl))
  try simp only [Act.put, List.setIfInBounds_toArray, List.set_cons_zero, List.set_cons_succ]
  refine wpAnyH_take (i := 17) (oi := ?a17o) (v := ?a17v) ?a17h (by kernel_rfl) (by kernel_rfl) (by kernel_rfl) ?a17q ?a17y hHeld ?a17r
  case a17h => (simp only [List.getElem?_toArray, List.getElem?_cons_succ, List.getElem?_cons_zero]; rfl)
  case a17q => exact fun _ _ _ h => h
  case a17y => (refine Or.inl ⟨by first | kernel_rfl | rfl, ?_⟩; intro w hSw; (try dsimp only at hSw); obtain ⟨⟨x0, x1, x2, x3, x4, x5, x6, x7, x8⟩, hb7⟩ := hSw; dsimp only at x0 x1 x2 x3 x4 x5 x6 x7 x8; have b0 := (hb7.cell (p := ⟨b, 0, none⟩) hblt).trans hc0; have b1 := (hb7.cell (p := ⟨b, 1, none⟩) hblt).trans hc1; have b2 := (hb7.cell (p := ⟨b, 2, none⟩) hblt).trans hc2; go_simp <;> (try with_reducible rfl))
  try simp only [Act.put, List.setIfInBounds_toArray, List.set_cons_zero, List.set_cons_succ]
  refine wpAnyH_take (i := 18) (oi := ?a18o) (v := ?a18v) ?a18h (by kernel_rfl) (by kernel_rfl) (by kernel_rfl) ?a18q ?a18y hHeld ?a18r
  case a18h => (simp only [List.getElem?_toArray, List.getElem?_cons_succ, List.getElem?_cons_zero]; rfl)
  case a18q => exact fun _ _ _ h => h
  case a18y => (refine Or.inl ⟨by first | kernel_rfl | rfl, ?_⟩; intro w hSw; (try dsimp only at hSw); obtain ⟨⟨x0, x1, x2, x3, x4, x5, x6, x7, x8⟩, hb7⟩ := hSw; dsimp only at x0 x1 x2 x3 x4 x5 x6 x7 x8; have b0 := (hb7.cell (p := ⟨b, 0, none⟩) hblt).trans hc0; have b1 := (hb7.cell (p := ⟨b, 1, none⟩) hblt).trans hc1; have b2 := (hb7.cell (p := ⟨b, 2, none⟩) hblt).trans hc2; go_simp <;> (try with_reducible rfl))
  try simp only [Act.put, List.setIfInBounds_toArray, List.set_cons_zero, List.set_cons_succ]
  refine wpAnyH_take (i := 19) (oi := ?a19o) (v := ?a19v) ?a19h (by kernel_rfl) (by kernel_rfl) (by kernel_rfl) ?a19q ?a19y hHeld ?a19r
  case a19h => (simp only [List.getElem?_toArray, List.getElem?_cons_succ, List.getElem?_cons_zero]; rfl)
  case a19q => exact fun _ _ _ h => h
  case a19y => (refine Or.inl ⟨by first | kernel_rfl | rfl, ?_⟩; intro w hSw; (try dsimp only at hSw); obtain ⟨⟨x0, x1, x2, x3, x4, x5, x6, x7, x8⟩, hb7⟩ := hSw; dsimp only at x0 x1 x2 x3 x4 x5 x6 x7 x8; have b0 := (hb7.cell (p := ⟨b, 0, none⟩) hblt).trans hc0; have b1 := (hb7.cell (p := ⟨b, 1, none⟩) hblt).trans hc1; have b2 := (hb7.cell (p := ⟨b, 2, none⟩) hblt).trans hc2; go_simp <;> (try with_reducible rfl))
  try simp only [Act.put, List.setIfInBounds_toArray, List.set_cons_zero, List.set_cons_succ]
  refine wpAnyH_ready (rs := [20]) (by kernel_rfl) (by simp) ?_
  refine (AllReadyH.cons rfl (fun K hK => ?_) AllReadyH.nil)
  go_simp
  (go_at_call 36; (with_reducible refine (kfd _ hHeld.bel).mono ?_); rintro e w4 ⟨rfl, rfl⟩)
  refine hK.out _ _ (hHeld) (fun hHeld => ?_)
  clear hK K
  try simp only [Act.put, List.setIfInBounds_toArray, List.set_cons_zero, List.set_cons_succ]
  refine wpAnyH_take (i := 21) (oi := ?a20o) (v := ?a20v) ?a20h (by kernel_rfl) (by kernel_rfl) (by kernel_rfl) ?a20q ?a20y hHeld ?a20r
  case a20h => (simp only [List.getElem?_toArray, List.getElem?_cons_succ, List.getElem?_cons_zero]; rfl)
  case a20q => exact fun _ _ _ h => h
  case a20y => (refine Or.inl ⟨by first | kernel_rfl | rfl, ?_⟩; intro w hSw; (try dsimp only at hSw); obtain ⟨⟨x0, x1, x2, x3, x4, x5, x6, x7, x8⟩, hb7⟩ := hSw; dsimp only at x0 x1 x2 x3 x4 x5 x6 x7 x8; have b0 := (hb7.cell (p := ⟨b, 0, none⟩) hblt).trans hc0; have b1 := (hb7.cell (p := ⟨b, 1, none⟩) hblt).trans hc1; have b2 := (hb7.cell (p := ⟨b, 2, none⟩) hblt).trans hc2; go_simp <;> (try with_reducible rfl))
  try simp only [Act.put, List.setIfInBounds_toArray, List.set_cons_zero, List.set_cons_succ]
  refine wpAnyH_take (i := 22) (oi := ?a21o) (v := ?a21v) ?a21h (by kernel_rfl) (by kernel_rfl) (by kernel_rfl) ?a21q ?a21y hHeld ?a21r
  case a21h => (simp only [List.getElem?_toArray, List.getElem?_cons_succ, List.getElem?_cons_zero]; rfl)
  case a21q => exact fun _ _ _ h => h
  case a21y => (refine Or.inl ⟨by first | kernel_rfl | rfl, ?_⟩; intro w hSw; (try dsimp only at hSw); obtain ⟨⟨x0, x1, x2, x3, x4, x5, x6, x7, x8⟩, hb7⟩ := hSw; dsimp only at x0 x1 x2 x3 x4 x5 x6 x7 x8; have b0 := (hb7.cell (p := ⟨b, 0, none⟩) hblt).trans hc0; have b1 := (hb7.cell (p := ⟨b, 1, none⟩) hblt).trans hc1; have b2 := (hb7.cell (p := ⟨b, 2, none⟩) hblt).trans hc2; go_simp <;> (try with_reducible rfl))
  try simp only [Act.put, List.setIfInBounds_toArray, List.set_cons_zero, List.set_cons_succ]
  refine wpAnyH_done (by kernel_rfl) ?_ _
  obtain ⟨⟨x0, x1, x2, x3, x4, x5, x6, x7, x8⟩, hb7⟩ := id hHeld
  dsimp only at x0 x1 x2 x3 x4 x5 x6 x7 x8
  clear hb7
  go_wp2_with (go_at_call 37; (with_reducible refine (kd _ hHeld.bel).mono ?_); rintro e w6 ⟨rfl, hb6⟩; (have hHeld := hHeld.later hb6); clear hb6)
  clear x0 x1 x2 x3 x4 x5 x6 x7 x8
  refine wp_region_held_drew (S := (HR w w.heap.size ⟨⟨rk, rs, rt, rv, rtier, ⟨rc, rst, rq⟩, rd⟩, ra, rcc⟩)) (by kernel_rfl) hHeld.drew (fun hHeld => ?_)
  refine wpAnyH_take (i := 0) (oi := ?c1o) (v := ?c1v) ?c1h (by kernel_rfl) (by kernel_rfl) (by kernel_rfl) ?c1q ?c1y hHeld ?c1r
  case c1h => (simp only [List.getElem?_toArray, List.getElem?_cons_zero]; rfl)
  case c1q => exact fun _ _ _ h => h
  case c1y => (refine Or.inl ⟨by first | kernel_rfl | rfl, ?_⟩; intro w hSw; (try dsimp only at hSw); obtain ⟨⟨x0, x1, x2, x3, x4, x5, x6, x7, x8⟩, hb7⟩ := hSw; dsimp only at x0 x1 x2 x3 x4 x5 x6 x7 x8; have b0 := (hb7.cell (p := ⟨b, 0, none⟩) hblt).trans hc0; have b1 := (hb7.cell (p := ⟨b, 1, none⟩) hblt).trans hc1; have b2 := (hb7.cell (p := ⟨b, 2, none⟩) hblt).trans hc2; go_simp <;> (try with_reducible rfl))
  try simp only [Act.put, List.setIfInBounds_toArray, List.set_cons_zero, List.set_cons_succ]
  refine wpAnyH_take (i := 1) (oi := ?c2o) (v := ?c2v) ?c2h (by kernel_rfl) (by kernel_rfl) (by kernel_rfl) ?c2q ?c2y hHeld ?c2r
  case c2h => (simp only [List.getElem?_toArray, List.getElem?_cons_succ, List.getElem?_cons_zero]; rfl)
  case c2q => exact fun _ _ _ h => h
  case c2y => (refine Or.inl ⟨by first | kernel_rfl | rfl, ?_⟩; intro w hSw; (try dsimp only at hSw); obtain ⟨⟨x0, x1, x2, x3, x4, x5, x6, x7, x8⟩, hb7⟩ := hSw; dsimp only at x0 x1 x2 x3 x4 x5 x6 x7 x8; have b0 := (hb7.cell (p := ⟨b, 0, none⟩) hblt).trans hc0; have b1 := (hb7.cell (p := ⟨b, 1, none⟩) hblt).trans hc1; have b2 := (hb7.cell (p := ⟨b, 2, none⟩) hblt).trans hc2; go_simp <;> (try with_reducible rfl))
  try simp only [Act.put, List.setIfInBounds_toArray, List.set_cons_zero, List.set_cons_succ]
  refine wpAnyH_take (i := 2) (oi := ?c3o) (v := ?c3v) ?c3h (by kernel_rfl) (by kernel_rfl) (by kernel_rfl) ?c3q ?c3y hHeld ?c3r
  case c3h => (simp only [List.getElem?_toArray, List.getElem?_cons_succ, List.getElem?_cons_zero]; rfl)
  case c3q => exact fun _ _ _ h => h
  case c3y => (refine Or.inl ⟨by first | kernel_rfl | rfl, ?_⟩; intro w hSw; (try dsimp only at hSw); obtain ⟨⟨x0, x1, x2, x3, x4, x5, x6, x7, x8⟩, hb7⟩ := hSw; dsimp only at x0 x1 x2 x3 x4 x5 x6 x7 x8; have b0 := (hb7.cell (p := ⟨b, 0, none⟩) hblt).trans hc0; have b1 := (hb7.cell (p := ⟨b, 1, none⟩) hblt).trans hc1; have b2 := (hb7.cell (p := ⟨b, 2, none⟩) hblt).trans hc2; go_simp <;> (try with_reducible rfl))
  try simp only [Act.put, List.setIfInBounds_toArray, List.set_cons_zero, List.set_cons_succ]
  refine wpAnyH_take (i := 3) (oi := ?c4o) (v := ?c4v) ?c4h (by kernel_rfl) (by kernel_rfl) (by kernel_rfl) ?c4q ?c4y hHeld ?c4r
  case c4h => (simp only [List.getElem?_toArray, List.getElem?_cons_succ, List.getElem?_cons_zero]; rfl)
  case c4q => exact fun _ _ _ h => h
  case c4y => (refine Or.inl ⟨by first | kernel_rfl | rfl, ?_⟩; intro w hSw; (try dsimp only at hSw); obtain ⟨⟨x0, x1, x2, x3, x4, x5, x6, x7, x8⟩, hb7⟩ := hSw; dsimp only at x0 x1 x2 x3 x4 x5 x6 x7 x8; have b0 := (hb7.cell (p := ⟨b, 0, none⟩) hblt).trans hc0; have b1 := (hb7.cell (p := ⟨b, 1, none⟩) hblt).trans hc1; have b2 := (hb7.cell (p := ⟨b, 2, none⟩) hblt).trans hc2; go_simp <;> (try with_reducible rfl))
  try simp only [Act.put, List.setIfInBounds_toArray, List.set_cons_zero, List.set_cons_succ]
  refine wpAnyH_take (i := 4) (oi := ?c5o) (v := ?c5v) ?c5h (by kernel_rfl) (by kernel_rfl) (by kernel_rfl) ?c5q ?c5y hHeld ?c5r
  case c5h => (simp only [List.getElem?_toArray, List.getElem?_cons_succ, List.getElem?_cons_zero]; rfl)
  case c5q => exact fun _ _ _ h => h
  case c5y => (refine Or.inl ⟨by first | kernel_rfl | rfl, ?_⟩; intro w hSw; (try dsimp only at hSw); obtain ⟨⟨x0, x1, x2, x3, x4, x5, x6, x7, x8⟩, hb7⟩ := hSw; dsimp only at x0 x1 x2 x3 x4 x5 x6 x7 x8; have b0 := (hb7.cell (p := ⟨b, 0, none⟩) hblt).trans hc0; have b1 := (hb7.cell (p := ⟨b, 1, none⟩) hblt).trans hc1; have b2 := (hb7.cell (p := ⟨b, 2, none⟩) hblt).trans hc2; go_simp <;> (try with_reducible rfl))
  try simp only [Act.put, List.setIfInBounds_toArray, List.set_cons_zero, List.set_cons_succ]
  refine wpAnyH_take (i := 5) (oi := ?c6o) (v := ?c6v) ?c6h (by kernel_rfl) (by kernel_rfl) (by kernel_rfl) ?c6q ?c6y hHeld ?c6r
  case c6h => (simp only [List.getElem?_toArray, List.getElem?_cons_succ, List.getElem?_cons_zero]; rfl)
  case c6q => exact fun _ _ _ h => h
  case c6y => (refine Or.inl ⟨by first | kernel_rfl | rfl, ?_⟩; intro w hSw; (try dsimp only at hSw); obtain ⟨⟨x0, x1, x2, x3, x4, x5, x6, x7, x8⟩, hb7⟩ := hSw; dsimp only at x0 x1 x2 x3 x4 x5 x6 x7 x8; have b0 := (hb7.cell (p := ⟨b, 0, none⟩) hblt).trans hc0; have b1 := (hb7.cell (p := ⟨b, 1, none⟩) hblt).trans hc1; have b2 := (hb7.cell (p := ⟨b, 2, none⟩) hblt).trans hc2; go_simp <;> (try with_reducible rfl))
  try simp only [Act.put, List.setIfInBounds_toArray, List.set_cons_zero, List.set_cons_succ]
  refine wpAnyH_take (i := 6) (oi := ?c7o) (v := ?c7v) ?c7h (by kernel_rfl) (by kernel_rfl) (by kernel_rfl) ?c7q ?c7y hHeld ?c7r
  case c7h => (simp only [List.getElem?_toArray, List.getElem?_cons_succ, List.getElem?_cons_zero]; rfl)
  case c7q => exact fun _ _ _ h => h
  case c7y => (refine Or.inl ⟨by first | kernel_rfl | rfl, ?_⟩; intro w hSw; (try dsimp only at hSw); obtain ⟨⟨x0, x1, x2, x3, x4, x5, x6, x7, x8⟩, hb7⟩ := hSw; dsimp only at x0 x1 x2 x3 x4 x5 x6 x7 x8; have b0 := (hb7.cell (p := ⟨b, 0, none⟩) hblt).trans hc0; have b1 := (hb7.cell (p := ⟨b, 1, none⟩) hblt).trans hc1; have b2 := (hb7.cell (p := ⟨b, 2, none⟩) hblt).trans hc2; go_simp <;> (try with_reducible rfl))
  try simp only [Act.put, List.setIfInBounds_toArray, List.set_cons_zero, List.set_cons_succ]
  refine wpAnyH_take (i := 7) (oi := ?c8o) (v := ?c8v) ?c8h (by kernel_rfl) (by kernel_rfl) (by kernel_rfl) ?c8q ?c8y hHeld ?c8r
  case c8h => (simp only [List.getElem?_toArray, List.getElem?_cons_succ, List.getElem?_cons_zero]; rfl)
  case c8q => exact fun _ _ _ h => h
  case c8y => (refine Or.inl ⟨by first | kernel_rfl | rfl, ?_⟩; intro w hSw; (try dsimp only at hSw); obtain ⟨⟨x0, x1, x2, x3, x4, x5, x6, x7, x8⟩, hb7⟩ := hSw; dsimp only at x0 x1 x2 x3 x4 x5 x6 x7 x8; have b0 := (hb7.cell (p := ⟨b, 0, none⟩) hblt).trans hc0; have b1 := (hb7.cell (p := ⟨b, 1, none⟩) hblt).trans hc1; have b2 := (hb7.cell (p := ⟨b, 2, none⟩) hblt).trans hc2; go_simp <;> (try with_reducible rfl))
  try simp only [Act.put, List.setIfInBounds_toArray, List.set_cons_zero, List.set_cons_succ]
  refine wpAnyH_take (i := 8) (oi := ?c9o) (v := ?c9v) ?c9h (by kernel_rfl) (by kernel_rfl) (by kernel_rfl) ?c9q ?c9y hHeld ?c9r
  case c9h => (simp only [List.getElem?_toArray, List.getElem?_cons_succ, List.getElem?_cons_zero]; rfl)
  case c9q => exact fun _ _ _ h => h
  case c9y => (refine Or.inl ⟨by first | kernel_rfl | rfl, ?_⟩; intro w hSw; (try dsimp only at hSw); obtain ⟨⟨x0, x1, x2, x3, x4, x5, x6, x7, x8⟩, hb7⟩ := hSw; dsimp only at x0 x1 x2 x3 x4 x5 x6 x7 x8; have b0 := (hb7.cell (p := ⟨b, 0, none⟩) hblt).trans hc0; have b1 := (hb7.cell (p := ⟨b, 1, none⟩) hblt).trans hc1; have b2 := (hb7.cell (p := ⟨b, 2, none⟩) hblt).trans hc2; go_simp <;> (try with_reducible rfl))
  try simp only [Act.put, List.setIfInBounds_toArray, List.set_cons_zero, List.set_cons_succ]
  refine wpAnyH_take (i := 9) (oi := ?c10o) (v := ?c10v) ?c10h (by kernel_rfl) (by kernel_rfl) (by kernel_rfl) ?c10q ?c10y hHeld ?c10r
  case c10h => (simp only [List.getElem?_toArray, List.getElem?_cons_succ, List.getElem?_cons_zero]; rfl)
  case c10q => exact fun _ _ _ h => h
  case c10y => (refine Or.inl ⟨by first | kernel_rfl | rfl, ?_⟩; intro w hSw; (try dsimp only at hSw); obtain ⟨⟨x0, x1, x2, x3, x4, x5, x6, x7, x8⟩, hb7⟩ := hSw; dsimp only at x0 x1 x2 x3 x4 x5 x6 x7 x8; have b0 := (hb7.cell (p := ⟨b, 0, none⟩) hblt).trans hc0; have b1 := (hb7.cell (p := ⟨b, 1, none⟩) hblt).trans hc1; have b2 := (hb7.cell (p := ⟨b, 2, none⟩) hblt).trans hc2; go_simp <;> (try with_reducible rfl))
  try simp only [Act.put, List.setIfInBounds_toArray, List.set_cons_zero, List.set_cons_succ]
  refine wpAnyH_take (i := 10) (oi := ?c11o) (v := ?c11v) ?c11h (by kernel_rfl) (by kernel_rfl) (by kernel_rfl) ?c11q ?c11y hHeld ?c11r
  case c11h => (simp only [List.getElem?_toArray, List.getElem?_cons_succ, List.getElem?_cons_zero]; rfl)
  case c11q => exact fun _ _ _ h => h
  case c11y => (refine Or.inl ⟨by first | kernel_rfl | rfl, ?_⟩; intro w hSw; (try dsimp only at hSw); obtain ⟨⟨x0, x1, x2, x3, x4, x5, x6, x7, x8⟩, hb7⟩ := hSw; dsimp only at x0 x1 x2 x3 x4 x5 x6 x7 x8; have b0 := (hb7.cell (p := ⟨b, 0, none⟩) hblt).trans hc0; have b1 := (hb7.cell (p := ⟨b, 1, none⟩) hblt).trans hc1; have b2 := (hb7.cell (p := ⟨b, 2, none⟩) hblt).trans hc2; go_simp <;> (try with_reducible rfl))
  try simp only [Act.put, List.setIfInBounds_toArray, List.set_cons_zero, List.set_cons_succ]
  refine wpAnyH_take (i := 11) (oi := ?c12o) (v := ?c12v) ?c12h (by kernel_rfl) (by kernel_rfl) (by kernel_rfl) ?c12q ?c12y hHeld ?c12r
  case c12h => (simp only [List.getElem?_toArray, List.getElem?_cons_succ, List.getElem?_cons_zero]; rfl)
  case c12q => exact fun _ _ _ h => h
  case c12y => (refine Or.inl ⟨by first | kernel_rfl | rfl, ?_⟩; intro w hSw; (try dsimp only at hSw); obtain ⟨⟨x0, x1, x2, x3, x4, x5, x6, x7, x8⟩, hb7⟩ := hSw; dsimp only at x0 x1 x2 x3 x4 x5 x6 x7 x8; have b0 := (hb7.cell (p := ⟨b, 0, none⟩) hblt).trans hc0; have b1 := (hb7.cell (p := ⟨b, 1, none⟩) hblt).trans hc1; have b2 := (hb7.cell (p := ⟨b, 2, none⟩) hblt).trans hc2; go_simp <;> (try with_reducible rfl))
  try simp only [Act.put, List.setIfInBounds_toArray, List.set_cons_zero, List.set_cons_succ]
  refine wpAnyH_take (i := 12) (oi := ?c13o) (v := ?c13v) ?c13h (by kernel_rfl) (by kernel_rfl) (by kernel_rfl) ?c13q ?c13y hHeld ?c13r
  case c13h => (simp only [List.getElem?_toArray, List.getElem?_cons_succ, List.getElem?_cons_zero]; rfl)
  case c13q => exact fun _ _ _ h => h
  case c13y => (refine Or.inl ⟨by first | kernel_rfl | rfl, ?_⟩; intro w hSw; (try dsimp only at hSw); obtain ⟨⟨x0, x1, x2, x3, x4, x5, x6, x7, x8⟩, hb7⟩ := hSw; dsimp only at x0 x1 x2 x3 x4 x5 x6 x7 x8; have b0 := (hb7.cell (p := ⟨b, 0, none⟩) hblt).trans hc0; have b1 := (hb7.cell (p := ⟨b, 1, none⟩) hblt).trans hc1; have b2 := (hb7.cell (p := ⟨b, 2, none⟩) hblt).trans hc2; go_simp <;> (try with_reducible rfl))
  try simp only [Act.put, List.setIfInBounds_toArray, List.set_cons_zero, List.set_cons_succ]
  refine wpAnyH_take (i := 13) (oi := ?c14o) (v := ?c14v) ?c14h (by kernel_rfl) (by kernel_rfl) (by kernel_rfl) ?c14q ?c14y hHeld ?c14r
  case c14h => (simp only [List.getElem?_toArray, List.getElem?_cons_succ, List.getElem?_cons_zero]; rfl)
  case c14q => exact fun _ _ _ h => h
  case c14y => (refine Or.inl ⟨by first | kernel_rfl | rfl, ?_⟩; intro w hSw; (try dsimp only at hSw); obtain ⟨⟨x0, x1, x2, x3, x4, x5, x6, x7, x8⟩, hb7⟩ := hSw; dsimp only at x0 x1 x2 x3 x4 x5 x6 x7 x8; have b0 := (hb7.cell (p := ⟨b, 0, none⟩) hblt).trans hc0; have b1 := (hb7.cell (p := ⟨b, 1, none⟩) hblt).trans hc1; have b2 := (hb7.cell (p := ⟨b, 2, none⟩) hblt).trans hc2; go_simp <;> (try with_reducible rfl))
  try simp only [Act.put, List.setIfInBounds_toArray, List.set_cons_zero, List.set_cons_succ]
  refine wpAnyH_done (by kernel_rfl) ?_ _
  go_wp2
  go_ret
  exact ⟨(by rw [HE.out]; rfl), by rw [HS.out]; exact ⟨_, zs, (HH.out.later hHeld.bel).wide (fun q hq => Or.inl hq) (grow_fp HH.out.fp HBB.out hHeld.bel.size)⟩, FrF.of hHeld.bel⟩
set_option maxHeartbeats 8000000 in
theorem eoffer_due {w : World} {B b : Nat} {ov v : Value} {zs : List Rd} {S : CS} {F : Nat → Prop} (h : EbAt w B b ov v zs S F) (hB : B ≤ w.heap.size) (x : Rd) (hN : Ns w x.dv x.r.d) (hf : x.r.fits) (ho : x.r.d ≠ [] → ∀ q, x.dv.ownBlock = some q → q < B) (hx : x.r.ok = true) (hq : ¬ x.r.st.q < atL S.out x.r.st.s + 1) (hh : hasB S.L x.r.st.s x.r.st.q = false) (hr : S.room ≤ (S.L.length : Int)) (hd : dueB S x.r = true) : Calls Try.prog 17 #[.pointer (some ⟨b, 0, none⟩), recV x.r x.dv] w (EOffDone w B b ov S F x.r) := by
  have hal := (Below.refl w.heap.size w).alloc (Nat.le_refl _) (box9 x)
  have hh1 := R9.new w x
  have HE := Lib.hid (show offE S x.r = 0 from offE_held hx (Bool.or_eq_false_iff.2 ⟨decide_eq_false hq, hh⟩) (fun k => by rw [hd] at k; exact absurd k.2 (by decide)))
  have HS := Lib.hid (show offS S x.r = ⟨S.room, S.out, S.L ++ [x.r]⟩ from offS_yes (by rw [HE.out]))
  have HGD := Lib.hid (by have := h.good.off x.r; rw [HS.out] at this; exact this)
  obtain ⟨oa, oc, eo⟩ := h.ns.slice
  subst eo
  obtain ⟨a2, c2, e2⟩ := h.row.slice
  subst e2
  have hc0 := h.c0
  have hc1 := h.c1
  have hc2 := h.c2
  have hblt := h.lt
  have kck := rcheck6_is x.r x.dv _ (Ns.later hN hal) hf
  rw [Rec.err_ok.2 hx] at kck
  have HH := Lib.hid h
  have HN := Lib.hid hN
  have HOWN := Lib.hid ho
  have HBB := Lib.hid hB
  have HAL := Lib.hid hal
  have HH1 := Lib.hid hh1
  have ka := fun (W : World) (hb : Below w.heap.size w W) => rat_is (.slice oa S.out.length oc) S.out x.r.st.s W (Ns.later h.ns hb)
  have kfd := fun (W : World) (hb : Below w.heap.size w W) => find_is (h.later hb) x.r.st.s x.r.st.q
  have kd := fun (W : World) (hb : Below w.heap.size w W) => edue_is (h.later hb) x (Ns.later hN hb)
  have hlz := h.len
  have hl4 := h.good.l408
  obtain ⟨ln, hln⟩ : ∃ z, zs.length = z := ⟨_, rfl⟩
  rw [hln] at hc2 hlz
  have HLZ := Lib.hid hln
  have HL4 := Lib.hid (show ln ≤ 408 by omega)
  obtain ⟨y, hy⟩ : ∃ z, atL S.out x.r.st.s = z := ⟨_, rfl⟩
  obtain ⟨rm, hrm⟩ : ∃ z, S.room = z := ⟨_, rfl⟩
  rw [hrm] at hc0
  rw [hy] at ka
  have hq1 : decide (x.r.st.q ≤ y) = false := decide_eq_false (by omega)
  rw [find_no hh] at kfd
  rw [hd] at kd
  have hr1 : decide (rm ≤ (ln : Int)) = true := decide_eq_true (by rw [← hrm, hlz]; exact hr)
  clear hq hh
  obtain ⟨⟨rk, rs, rt, rv, rtier, ⟨rc, rst, rq⟩, rd⟩, ra, rcc⟩ := x
  unfold recV Rd.dv at *
  dsimp only at *
  unfold box9 at *
  dsimp only at *
  clear h hN hx ho hB hal hh1 hf hln hlz hl4 hrm hy hr hd
  go_enter Try.func17, Try.ntmps17
  go_upto_region 3 with (go_at_call 41; (with_reducible refine kck.mono ?_); rintro e w2 ⟨rfl, hb2⟩; (have HB2 := Lib.hid hb2); clear hb2)
  have HHO : HR w w.heap.size ⟨⟨rk, rs, rt, rv, rtier, ⟨rc, rst, rq⟩, rd⟩, ra, rcc⟩ w2 := ⟨HH1.out.later HB2.out, bel_next HAL.out HB2.out⟩
  refine wp_region_held_drew (S := (HR w w.heap.size ⟨⟨rk, rs, rt, rv, rtier, ⟨rc, rst, rq⟩, rd⟩, ra, rcc⟩)) (by kernel_rfl) HHO.drew (fun hHeld => ?_)
  refine wpAnyH_take (i := 0) (oi := ?a1o) (v := ?a1v) ?a1h (by kernel_rfl) (by kernel_rfl) (by kernel_rfl) ?a1q ?a1y hHeld ?a1r
  case a1h => (simp only [List.getElem?_toArray, List.getElem?_cons_zero]; rfl)
  case a1q => exact fun _ _ _ h => h
  case a1y => (refine Or.inl ⟨by first | kernel_rfl | rfl, ?_⟩; intro w hSw; (try dsimp only at hSw); obtain ⟨⟨x0, x1, x2, x3, x4, x5, x6, x7, x8⟩, hb7⟩ := hSw; dsimp only at x0 x1 x2 x3 x4 x5 x6 x7 x8; have b0 := (hb7.cell (p := ⟨b, 0, none⟩) hblt).trans hc0; have b1 := (hb7.cell (p := ⟨b, 1, none⟩) hblt).trans hc1; have b2 := (hb7.cell (p := ⟨b, 2, none⟩) hblt).trans hc2; go_simp <;> (try with_reducible rfl))
  try simp only [Act.put, List.setIfInBounds_toArray, List.set_cons_zero, List.set_cons_succ]
  refine wpAnyH_take (i := 1) (oi := ?a2o) (v := ?a2v) ?a2h (by kernel_rfl) (by kernel_rfl) (by kernel_rfl) ?a2q ?a2y hHeld ?a2r
  case a2h => (simp only [List.getElem?_toArray, List.getElem?_cons_succ, List.getElem?_cons_zero]; rfl)
  case a2q => exact fun _ _ _ h => h
  case a2y => (refine Or.inl ⟨by first | kernel_rfl | rfl, ?_⟩; intro w hSw; (try dsimp only at hSw); obtain ⟨⟨x0, x1, x2, x3, x4, x5, x6, x7, x8⟩, hb7⟩ := hSw; dsimp only at x0 x1 x2 x3 x4 x5 x6 x7 x8; have b0 := (hb7.cell (p := ⟨b, 0, none⟩) hblt).trans hc0; have b1 := (hb7.cell (p := ⟨b, 1, none⟩) hblt).trans hc1; have b2 := (hb7.cell (p := ⟨b, 2, none⟩) hblt).trans hc2; go_simp <;> (try with_reducible rfl))
  try simp only [Act.put, List.setIfInBounds_toArray, List.set_cons_zero, List.set_cons_succ]
  refine wpAnyH_take (i := 2) (oi := ?a3o) (v := ?a3v) ?a3h (by kernel_rfl) (by kernel_rfl) (by kernel_rfl) ?a3q ?a3y hHeld ?a3r
  case a3h => (simp only [List.getElem?_toArray, List.getElem?_cons_succ, List.getElem?_cons_zero]; rfl)
  case a3q => exact fun _ _ _ h => h
  case a3y => (refine Or.inl ⟨by first | kernel_rfl | rfl, ?_⟩; intro w hSw; (try dsimp only at hSw); obtain ⟨⟨x0, x1, x2, x3, x4, x5, x6, x7, x8⟩, hb7⟩ := hSw; dsimp only at x0 x1 x2 x3 x4 x5 x6 x7 x8; have b0 := (hb7.cell (p := ⟨b, 0, none⟩) hblt).trans hc0; have b1 := (hb7.cell (p := ⟨b, 1, none⟩) hblt).trans hc1; have b2 := (hb7.cell (p := ⟨b, 2, none⟩) hblt).trans hc2; go_simp <;> (try with_reducible rfl))
  try simp only [Act.put, List.setIfInBounds_toArray, List.set_cons_zero, List.set_cons_succ]
  refine wpAnyH_take (i := 3) (oi := ?a4o) (v := ?a4v) ?a4h (by kernel_rfl) (by kernel_rfl) (by kernel_rfl) ?a4q ?a4y hHeld ?a4r
  case a4h => (simp only [List.getElem?_toArray, List.getElem?_cons_succ, List.getElem?_cons_zero]; rfl)
  case a4q => exact fun _ _ _ h => h
  case a4y => (refine Or.inl ⟨by first | kernel_rfl | rfl, ?_⟩; intro w hSw; (try dsimp only at hSw); obtain ⟨⟨x0, x1, x2, x3, x4, x5, x6, x7, x8⟩, hb7⟩ := hSw; dsimp only at x0 x1 x2 x3 x4 x5 x6 x7 x8; have b0 := (hb7.cell (p := ⟨b, 0, none⟩) hblt).trans hc0; have b1 := (hb7.cell (p := ⟨b, 1, none⟩) hblt).trans hc1; have b2 := (hb7.cell (p := ⟨b, 2, none⟩) hblt).trans hc2; go_simp <;> (try with_reducible rfl))
  try simp only [Act.put, List.setIfInBounds_toArray, List.set_cons_zero, List.set_cons_succ]
  refine wpAnyH_take (i := 4) (oi := ?a5o) (v := ?a5v) ?a5h (by kernel_rfl) (by kernel_rfl) (by kernel_rfl) ?a5q ?a5y hHeld ?a5r
  case a5h => (simp only [List.getElem?_toArray, List.getElem?_cons_succ, List.getElem?_cons_zero]; rfl)
  case a5q => exact fun _ _ _ h => h
  case a5y => (refine Or.inl ⟨by first | kernel_rfl | rfl, ?_⟩; intro w hSw; (try dsimp only at hSw); obtain ⟨⟨x0, x1, x2, x3, x4, x5, x6, x7, x8⟩, hb7⟩ := hSw; dsimp only at x0 x1 x2 x3 x4 x5 x6 x7 x8; have b0 := (hb7.cell (p := ⟨b, 0, none⟩) hblt).trans hc0; have b1 := (hb7.cell (p := ⟨b, 1, none⟩) hblt).trans hc1; have b2 := (hb7.cell (p := ⟨b, 2, none⟩) hblt).trans hc2; go_simp <;> (try with_reducible rfl))
  try simp only [Act.put, List.setIfInBounds_toArray, List.set_cons_zero, List.set_cons_succ]
  refine wpAnyH_take (i := 5) (oi := ?a6o) (v := ?a6v) ?a6h (by kernel_rfl) (by kernel_rfl) (by kernel_rfl) ?a6q ?a6y hHeld ?a6r
  case a6h => (simp only [List.getElem?_toArray, List.getElem?_cons_succ, List.getElem?_cons_zero]; rfl)
  case a6q => exact fun _ _ _ h => h
  case a6y => (refine Or.inl ⟨by first | kernel_rfl | rfl, ?_⟩; intro w hSw; (try dsimp only at hSw); obtain ⟨⟨x0, x1, x2, x3, x4, x5, x6, x7, x8⟩, hb7⟩ := hSw; dsimp only at x0 x1 x2 x3 x4 x5 x6 x7 x8; have b0 := (hb7.cell (p := ⟨b, 0, none⟩) hblt).trans hc0; have b1 := (hb7.cell (p := ⟨b, 1, none⟩) hblt).trans hc1; have b2 := (hb7.cell (p := ⟨b, 2, none⟩) hblt).trans hc2; go_simp <;> (try with_reducible rfl))
  try simp only [Act.put, List.setIfInBounds_toArray, List.set_cons_zero, List.set_cons_succ]
  refine wpAnyH_take (i := 6) (oi := ?a7o) (v := ?a7v) ?a7h (by kernel_rfl) (by kernel_rfl) (by kernel_rfl) ?a7q ?a7y hHeld ?a7r
  case a7h => (simp only [List.getElem?_toArray, List.getElem?_cons_succ, List.getElem?_cons_zero]; rfl)
  case a7q => exact fun _ _ _ h => h
  case a7y => (refine Or.inl ⟨by first | kernel_rfl | rfl, ?_⟩; intro w hSw; (try dsimp only at hSw); obtain ⟨⟨x0, x1, x2, x3, x4, x5, x6, x7, x8⟩, hb7⟩ := hSw; dsimp only at x0 x1 x2 x3 x4 x5 x6 x7 x8; have b0 := (hb7.cell (p := ⟨b, 0, none⟩) hblt).trans hc0; have b1 := (hb7.cell (p := ⟨b, 1, none⟩) hblt).trans hc1; have b2 := (hb7.cell (p := ⟨b, 2, none⟩) hblt).trans hc2; go_simp <;> (try with_reducible rfl))
  try simp only [Act.put, List.setIfInBounds_toArray, List.set_cons_zero, List.set_cons_succ]
  refine wpAnyH_take (i := 7) (oi := ?a8o) (v := ?a8v) ?a8h (by kernel_rfl) (by kernel_rfl) (by kernel_rfl) ?a8q ?a8y hHeld ?a8r
  case a8h => (simp only [List.getElem?_toArray, List.getElem?_cons_succ, List.getElem?_cons_zero]; rfl)
  case a8q => exact fun _ _ _ h => h
  case a8y => (refine Or.inl ⟨by first | kernel_rfl | rfl, ?_⟩; intro w hSw; (try dsimp only at hSw); obtain ⟨⟨x0, x1, x2, x3, x4, x5, x6, x7, x8⟩, hb7⟩ := hSw; dsimp only at x0 x1 x2 x3 x4 x5 x6 x7 x8; have b0 := (hb7.cell (p := ⟨b, 0, none⟩) hblt).trans hc0; have b1 := (hb7.cell (p := ⟨b, 1, none⟩) hblt).trans hc1; have b2 := (hb7.cell (p := ⟨b, 2, none⟩) hblt).trans hc2; go_simp <;> (try with_reducible rfl))
  try simp only [Act.put, List.setIfInBounds_toArray, List.set_cons_zero, List.set_cons_succ]
  refine wpAnyH_take (i := 8) (oi := ?a9o) (v := ?a9v) ?a9h (by kernel_rfl) (by kernel_rfl) (by kernel_rfl) ?a9q ?a9y hHeld ?a9r
  case a9h => (simp only [List.getElem?_toArray, List.getElem?_cons_succ, List.getElem?_cons_zero]; rfl)
  case a9q => exact fun _ _ _ h => h
  case a9y => (refine Or.inl ⟨by first | kernel_rfl | rfl, ?_⟩; intro w hSw; (try dsimp only at hSw); obtain ⟨⟨x0, x1, x2, x3, x4, x5, x6, x7, x8⟩, hb7⟩ := hSw; dsimp only at x0 x1 x2 x3 x4 x5 x6 x7 x8; have b0 := (hb7.cell (p := ⟨b, 0, none⟩) hblt).trans hc0; have b1 := (hb7.cell (p := ⟨b, 1, none⟩) hblt).trans hc1; have b2 := (hb7.cell (p := ⟨b, 2, none⟩) hblt).trans hc2; go_simp <;> (try with_reducible rfl))
  try simp only [Act.put, List.setIfInBounds_toArray, List.set_cons_zero, List.set_cons_succ]
  refine wpAnyH_take (i := 9) (oi := ?a10o) (v := ?a10v) ?a10h (by kernel_rfl) (by kernel_rfl) (by kernel_rfl) ?a10q ?a10y hHeld ?a10r
  case a10h => (simp only [List.getElem?_toArray, List.getElem?_cons_succ, List.getElem?_cons_zero]; rfl)
  case a10q => exact fun _ _ _ h => h
  case a10y => (refine Or.inl ⟨by first | kernel_rfl | rfl, ?_⟩; intro w hSw; (try dsimp only at hSw); obtain ⟨⟨x0, x1, x2, x3, x4, x5, x6, x7, x8⟩, hb7⟩ := hSw; dsimp only at x0 x1 x2 x3 x4 x5 x6 x7 x8; have b0 := (hb7.cell (p := ⟨b, 0, none⟩) hblt).trans hc0; have b1 := (hb7.cell (p := ⟨b, 1, none⟩) hblt).trans hc1; have b2 := (hb7.cell (p := ⟨b, 2, none⟩) hblt).trans hc2; go_simp <;> (try with_reducible rfl))
  try simp only [Act.put, List.setIfInBounds_toArray, List.set_cons_zero, List.set_cons_succ]
  refine wpAnyH_ready (rs := [10]) (by kernel_rfl) (by simp) ?_
  refine (AllReadyH.cons rfl (fun K hK => ?_) AllReadyH.nil)
  go_simp
  (go_at_call 27; (with_reducible refine (ka _ hHeld.bel).mono ?_); rintro e w3 ⟨rfl, hb3⟩; (have hHeld := hHeld.later hb3); clear hb3)
  refine hK.out _ _ (hHeld) (fun hHeld => ?_)
  clear hK K
  try simp only [Act.put, List.setIfInBounds_toArray, List.set_cons_zero, List.set_cons_succ]
  refine wpAnyH_take (i := 11) (oi := ?a11o) (v := ?a11v) ?a11h (by kernel_rfl) (by kernel_rfl) (by kernel_rfl) ?a11q ?a11y hHeld ?a11r
  case a11h => (simp only [List.getElem?_toArray, List.getElem?_cons_succ, List.getElem?_cons_zero]; rfl)
  case a11q => exact fun _ _ _ h => h
  case a11y => (refine Or.inl ⟨by first | kernel_rfl | rfl, ?_⟩; intro w hSw; (try dsimp only at hSw); obtain ⟨⟨x0, x1, x2, x3, x4, x5, x6, x7, x8⟩, hb7⟩ := hSw; dsimp only at x0 x1 x2 x3 x4 x5 x6 x7 x8; have b0 := (hb7.cell (p := ⟨b, 0, none⟩) hblt).trans hc0; have b1 := (hb7.cell (p := ⟨b, 1, none⟩) hblt).trans hc1; have b2 := (hb7.cell (p := ⟨b, 2, none⟩) hblt).trans hc2; go_simp <;> (try with_reducible rfl))
  try simp only [Act.put, List.setIfInBounds_toArray, List.set_cons_zero, List.set_cons_succ]
  refine wpAnyH_take (i := 12) (oi := ?a12o) (v := ?a12v) ?a12h (by kernel_rfl) (by kernel_rfl) (by kernel_rfl) ?a12q ?a12y hHeld ?a12r
  case a12h => (simp only [List.getElem?_toArray, List.getElem?_cons_succ, List.getElem?_cons_zero]; rfl)
  case a12q => exact fun _ _ _ h => h
  case a12y => (refine Or.inl ⟨by first | kernel_rfl | rfl, ?_⟩; intro w hSw; (try dsimp only at hSw); obtain ⟨⟨x0, x1, x2, x3, x4, x5, x6, x7, x8⟩, hb7⟩ := hSw; dsimp only at x0 x1 x2 x3 x4 x5 x6 x7 x8; have b0 := (hb7.cell (p := ⟨b, 0, none⟩) hblt).trans hc0; have b1 := (hb7.cell (p := ⟨b, 1, none⟩) hblt).trans hc1; have b2 := (hb7.cell (p := ⟨b, 2, none⟩) hblt).trans hc2; go_simp <;> (try with_reducible rfl))
  try simp only [Act.put, List.setIfInBounds_toArray, List.set_cons_zero, List.set_cons_succ]
  refine wpAnyH_take (i := 13) (oi := ?a13o) (v := ?a13v) ?a13h (by kernel_rfl) (by kernel_rfl) (by kernel_rfl) ?a13q ?a13y hHeld ?a13r
  case a13h => (simp only [List.getElem?_toArray, List.getElem?_cons_succ, List.getElem?_cons_zero]; rfl)
  case a13q => exact fun _ _ _ h => h
  case a13y => (refine Or.inl ⟨by first | kernel_rfl | rfl, ?_⟩; intro w hSw; (try dsimp only at hSw); obtain ⟨⟨x0, x1, x2, x3, x4, x5, x6, x7, x8⟩, hb7⟩ := hSw; dsimp only at x0 x1 x2 x3 x4 x5 x6 x7 x8; have b0 := (hb7.cell (p := ⟨b, 0, none⟩) hblt).trans hc0; have b1 := (hb7.cell (p := ⟨b, 1, none⟩) hblt).trans hc1; have b2 := (hb7.cell (p := ⟨b, 2, none⟩) hblt).trans hc2; go_simp <;> (try with_reducible rfl))
  try simp only [Act.put, List.setIfInBounds_toArray, List.set_cons_zero, List.set_cons_succ]
  refine wpAnyH_take (i := 14) (oi := ?a14o) (v := ?a14v) ?a14h (by kernel_rfl) (by kernel_rfl) (by kernel_rfl) ?a14q ?a14y hHeld ?a14r
  case a14h => (simp only [List.getElem?_toArray, List.getElem?_cons_succ, List.getElem?_cons_zero]; rfl)
  case a14q => exact fun _ _ _ h => h
  case a14y => (refine Or.inl ⟨by first | kernel_rfl | rfl, ?_⟩; intro w hSw; (try dsimp only at hSw); obtain ⟨⟨x0, x1, x2, x3, x4, x5, x6, x7, x8⟩, hb7⟩ := hSw; dsimp only at x0 x1 x2 x3 x4 x5 x6 x7 x8; have b0 := (hb7.cell (p := ⟨b, 0, none⟩) hblt).trans hc0; have b1 := (hb7.cell (p := ⟨b, 1, none⟩) hblt).trans hc1; have b2 := (hb7.cell (p := ⟨b, 2, none⟩) hblt).trans hc2; go_simp <;> (try with_reducible rfl))
  try simp only [Act.put, List.setIfInBounds_toArray, List.set_cons_zero, List.set_cons_succ]
  refine wpAnyH_take (i := 15) (oi := ?a15o) (v := ?a15v) ?a15h (by kernel_rfl) (by kernel_rfl) (by kernel_rfl) ?a15q ?a15y hHeld ?a15r
  case a15h => (simp only [List.getElem?_toArray, List.getElem?_cons_succ, List.getElem?_cons_zero]; rfl)
  case a15q => exact fun _ _ _ h => h
  case a15y => (refine Or.inl ⟨by first | kernel_rfl | rfl, ?_⟩; intro w hSw; (try dsimp only at hSw); obtain ⟨⟨x0, x1, x2, x3, x4, x5, x6, x7, x8⟩, hb7⟩ := hSw; dsimp only at x0 x1 x2 x3 x4 x5 x6 x7 x8; have b0 := (hb7.cell (p := ⟨b, 0, none⟩) hblt).trans hc0; have b1 := (hb7.cell (p := ⟨b, 1, none⟩) hblt).trans hc1; have b2 := (hb7.cell (p := ⟨b, 2, none⟩) hblt).trans hc2; go_simp <;> (try with_reducible rfl))
  try simp only [Act.put, List.setIfInBounds_toArray, List.set_cons_zero, List.set_cons_succ]
  refine wpAnyH_take (i := 16) (oi := ?a16o) (v := ?a16v) ?a16h (by kernel_rfl) (by kernel_rfl) (by kernel_rfl) ?a16q ?a16y hHeld ?a16r
  case a16h => (simp only [List.getElem?_toArray, List.getElem?_cons_succ, List.getElem?_cons_zero]; rfl)
  case a16q => exact fun _ _ _ h => h
  case a16y => (refine Or.inl ⟨by first | kernel_rfl | rfl, ?_⟩; intro w hSw; (try dsimp only at hSw); obtain ⟨⟨x0, x1, x2, x3, x4, x5, x6, x7, x8⟩, hb7⟩ := hSw; dsimp only at x0 x1 x2 x3 x4 x5 x6 x7 x8; have b0 := (hb7.cell (p := ⟨b, 0, none⟩) hblt).trans hc0; have b1 := (hb7.cell (p := ⟨b, 1, none⟩) hblt).trans hc1; have b2 := (hb7.cell (p := ⟨b, 2, none⟩) hblt).trans hc2; go_simp <;> (try with_reducible rfl))
  try simp only [Act.put, List.setIfInBounds_toArray, List.set_cons_zero, List.set_cons_succ]
  refine wpAnyH_take (i := 17) (oi := ?a17o) (v := ?a17v) ?a17h (by kernel_rfl) (by kernel_rfl) (by kernel_rfl) ?a17q ?a17y hHeld ?a17r
  case a17h => (simp only [List.getElem?_toArray, List.getElem?_cons_succ, List.getElem?_cons_zero]; rfl)
  case a17q => exact fun _ _ _ h => h
  case a17y => (refine Or.inl ⟨by first | kernel_rfl | rfl, ?_⟩; intro w hSw; (try dsimp only at hSw); obtain ⟨⟨x0, x1, x2, x3, x4, x5, x6, x7, x8⟩, hb7⟩ := hSw; dsimp only at x0 x1 x2 x3 x4 x5 x6 x7 x8; have b0 := (hb7.cell (p := ⟨b, 0, none⟩) hblt).trans hc0; have b1 := (hb7.cell (p := ⟨b, 1, none⟩) hblt).trans hc1; have b2 := (hb7.cell (p := ⟨b, 2, none⟩) hblt).trans hc2; go_simp <;> (try with_reducible rfl))
  try simp only [Act.put, List.setIfInBounds_toArray, List.set_cons_zero, List.set_cons_succ]
  refine wpAnyH_take (i := 18) (oi := ?a18o) (v := ?a18v) ?a18h (by kernel_rfl) (by kernel_rfl) (by kernel_rfl) ?a18q ?a18y hHeld ?a18r
  case a18h => (simp only [List.getElem?_toArray, List.getElem?_cons_succ, List.getElem?_cons_zero]; rfl)
  case a18q => exact fun _ _ _ h => h
  case a18y => (refine Or.inl ⟨by first | kernel_rfl | rfl, ?_⟩; intro w hSw; (try dsimp only at hSw); obtain ⟨⟨x0, x1, x2, x3, x4, x5, x6, x7, x8⟩, hb7⟩ := hSw; dsimp only at x0 x1 x2 x3 x4 x5 x6 x7 x8; have b0 := (hb7.cell (p := ⟨b, 0, none⟩) hblt).trans hc0; have b1 := (hb7.cell (p := ⟨b, 1, none⟩) hblt).trans hc1; have b2 := (hb7.cell (p := ⟨b, 2, none⟩) hblt).trans hc2; go_simp <;> (try with_reducible rfl))
  try simp only [Act.put, List.setIfInBounds_toArray, List.set_cons_zero, List.set_cons_succ]
  refine wpAnyH_take (i := 19) (oi := ?a19o) (v := ?a19v) ?a19h (by kernel_rfl) (by kernel_rfl) (by kernel_rfl) ?a19q ?a19y hHeld ?a19r
  case a19h => (simp only [List.getElem?_toArray, List.getElem?_cons_succ, List.getElem?_cons_zero]; rfl)
  case a19q => exact fun _ _ _ h => h
  case a19y => (refine Or.inl ⟨by first | kernel_rfl | rfl, ?_⟩; intro w hSw; (try dsimp only at hSw); obtain ⟨⟨x0, x1, x2, x3, x4, x5, x6, x7, x8⟩, hb7⟩ := hSw; dsimp only at x0 x1 x2 x3 x4 x5 x6 x7 x8; have b0 := (hb7.cell (p := ⟨b, 0, none⟩) hblt).trans hc0; have b1 := (hb7.cell (p := ⟨b, 1, none⟩) hblt).trans hc1; have b2 := (hb7.cell (p := ⟨b, 2, none⟩) hblt).trans hc2; go_simp <;> (try with_reducible rfl))
  try simp only [Act.put, List.setIfInBounds_toArray, List.set_cons_zero, List.set_cons_succ]
  refine wpAnyH_ready (rs := [20]) (by kernel_rfl) (by simp) ?_
  refine (AllReadyH.cons rfl (fun K hK => ?_) AllReadyH.nil)
  go_simp
  (go_at_call 36; (with_reducible refine (kfd _ hHeld.bel).mono ?_); rintro e w4 ⟨rfl, rfl⟩)
  refine hK.out _ _ (hHeld) (fun hHeld => ?_)
  clear hK K
  try simp only [Act.put, List.setIfInBounds_toArray, List.set_cons_zero, List.set_cons_succ]
  refine wpAnyH_take (i := 21) (oi := ?a20o) (v := ?a20v) ?a20h (by kernel_rfl) (by kernel_rfl) (by kernel_rfl) ?a20q ?a20y hHeld ?a20r
  case a20h => (simp only [List.getElem?_toArray, List.getElem?_cons_succ, List.getElem?_cons_zero]; rfl)
  case a20q => exact fun _ _ _ h => h
  case a20y => (refine Or.inl ⟨by first | kernel_rfl | rfl, ?_⟩; intro w hSw; (try dsimp only at hSw); obtain ⟨⟨x0, x1, x2, x3, x4, x5, x6, x7, x8⟩, hb7⟩ := hSw; dsimp only at x0 x1 x2 x3 x4 x5 x6 x7 x8; have b0 := (hb7.cell (p := ⟨b, 0, none⟩) hblt).trans hc0; have b1 := (hb7.cell (p := ⟨b, 1, none⟩) hblt).trans hc1; have b2 := (hb7.cell (p := ⟨b, 2, none⟩) hblt).trans hc2; go_simp <;> (try with_reducible rfl))
  try simp only [Act.put, List.setIfInBounds_toArray, List.set_cons_zero, List.set_cons_succ]
  refine wpAnyH_take (i := 22) (oi := ?a21o) (v := ?a21v) ?a21h (by kernel_rfl) (by kernel_rfl) (by kernel_rfl) ?a21q ?a21y hHeld ?a21r
  case a21h => (simp only [List.getElem?_toArray, List.getElem?_cons_succ, List.getElem?_cons_zero]; rfl)
  case a21q => exact fun _ _ _ h => h
  case a21y => (refine Or.inl ⟨by first | kernel_rfl | rfl, ?_⟩; intro w hSw; (try dsimp only at hSw); obtain ⟨⟨x0, x1, x2, x3, x4, x5, x6, x7, x8⟩, hb7⟩ := hSw; dsimp only at x0 x1 x2 x3 x4 x5 x6 x7 x8; have b0 := (hb7.cell (p := ⟨b, 0, none⟩) hblt).trans hc0; have b1 := (hb7.cell (p := ⟨b, 1, none⟩) hblt).trans hc1; have b2 := (hb7.cell (p := ⟨b, 2, none⟩) hblt).trans hc2; go_simp <;> (try with_reducible rfl))
  try simp only [Act.put, List.setIfInBounds_toArray, List.set_cons_zero, List.set_cons_succ]
  refine wpAnyH_done (by kernel_rfl) ?_ _
  obtain ⟨⟨x0, x1, x2, x3, x4, x5, x6, x7, x8⟩, hb7⟩ := id hHeld
  dsimp only at x0 x1 x2 x3 x4 x5 x6 x7 x8
  clear hb7
  go_wp2_with (go_at_call 37; (with_reducible refine (kd _ hHeld.bel).mono ?_); rintro e w6 ⟨rfl, hb6⟩; (have hHeld := hHeld.later hb6); clear hb6)
  clear x0 x1 x2 x3 x4 x5 x6 x7 x8
  refine wp_region_held_drew (S := (HR w w.heap.size ⟨⟨rk, rs, rt, rv, rtier, ⟨rc, rst, rq⟩, rd⟩, ra, rcc⟩)) (by kernel_rfl) hHeld.drew (fun hHeld => ?_)
  refine wpAnyH_take (i := 0) (oi := ?c1o) (v := ?c1v) ?c1h (by kernel_rfl) (by kernel_rfl) (by kernel_rfl) ?c1q ?c1y hHeld ?c1r
  case c1h => (simp only [List.getElem?_toArray, List.getElem?_cons_zero]; rfl)
  case c1q => exact fun _ _ _ h => h
  case c1y => (refine Or.inl ⟨by first | kernel_rfl | rfl, ?_⟩; intro w hSw; (try dsimp only at hSw); obtain ⟨⟨x0, x1, x2, x3, x4, x5, x6, x7, x8⟩, hb7⟩ := hSw; dsimp only at x0 x1 x2 x3 x4 x5 x6 x7 x8; have b0 := (hb7.cell (p := ⟨b, 0, none⟩) hblt).trans hc0; have b1 := (hb7.cell (p := ⟨b, 1, none⟩) hblt).trans hc1; have b2 := (hb7.cell (p := ⟨b, 2, none⟩) hblt).trans hc2; go_simp <;> (try with_reducible rfl))
  try simp only [Act.put, List.setIfInBounds_toArray, List.set_cons_zero, List.set_cons_succ]
  refine wpAnyH_take (i := 1) (oi := ?c2o) (v := ?c2v) ?c2h (by kernel_rfl) (by kernel_rfl) (by kernel_rfl) ?c2q ?c2y hHeld ?c2r
  case c2h => (simp only [List.getElem?_toArray, List.getElem?_cons_succ, List.getElem?_cons_zero]; rfl)
  case c2q => exact fun _ _ _ h => h
  case c2y => (refine Or.inl ⟨by first | kernel_rfl | rfl, ?_⟩; intro w hSw; (try dsimp only at hSw); obtain ⟨⟨x0, x1, x2, x3, x4, x5, x6, x7, x8⟩, hb7⟩ := hSw; dsimp only at x0 x1 x2 x3 x4 x5 x6 x7 x8; have b0 := (hb7.cell (p := ⟨b, 0, none⟩) hblt).trans hc0; have b1 := (hb7.cell (p := ⟨b, 1, none⟩) hblt).trans hc1; have b2 := (hb7.cell (p := ⟨b, 2, none⟩) hblt).trans hc2; go_simp <;> (try with_reducible rfl))
  try simp only [Act.put, List.setIfInBounds_toArray, List.set_cons_zero, List.set_cons_succ]
  refine wpAnyH_take (i := 2) (oi := ?c3o) (v := ?c3v) ?c3h (by kernel_rfl) (by kernel_rfl) (by kernel_rfl) ?c3q ?c3y hHeld ?c3r
  case c3h => (simp only [List.getElem?_toArray, List.getElem?_cons_succ, List.getElem?_cons_zero]; rfl)
  case c3q => exact fun _ _ _ h => h
  case c3y => (refine Or.inl ⟨by first | kernel_rfl | rfl, ?_⟩; intro w hSw; (try dsimp only at hSw); obtain ⟨⟨x0, x1, x2, x3, x4, x5, x6, x7, x8⟩, hb7⟩ := hSw; dsimp only at x0 x1 x2 x3 x4 x5 x6 x7 x8; have b0 := (hb7.cell (p := ⟨b, 0, none⟩) hblt).trans hc0; have b1 := (hb7.cell (p := ⟨b, 1, none⟩) hblt).trans hc1; have b2 := (hb7.cell (p := ⟨b, 2, none⟩) hblt).trans hc2; go_simp <;> (try with_reducible rfl))
  try simp only [Act.put, List.setIfInBounds_toArray, List.set_cons_zero, List.set_cons_succ]
  refine wpAnyH_take (i := 3) (oi := ?c4o) (v := ?c4v) ?c4h (by kernel_rfl) (by kernel_rfl) (by kernel_rfl) ?c4q ?c4y hHeld ?c4r
  case c4h => (simp only [List.getElem?_toArray, List.getElem?_cons_succ, List.getElem?_cons_zero]; rfl)
  case c4q => exact fun _ _ _ h => h
  case c4y => (refine Or.inl ⟨by first | kernel_rfl | rfl, ?_⟩; intro w hSw; (try dsimp only at hSw); obtain ⟨⟨x0, x1, x2, x3, x4, x5, x6, x7, x8⟩, hb7⟩ := hSw; dsimp only at x0 x1 x2 x3 x4 x5 x6 x7 x8; have b0 := (hb7.cell (p := ⟨b, 0, none⟩) hblt).trans hc0; have b1 := (hb7.cell (p := ⟨b, 1, none⟩) hblt).trans hc1; have b2 := (hb7.cell (p := ⟨b, 2, none⟩) hblt).trans hc2; go_simp <;> (try with_reducible rfl))
  try simp only [Act.put, List.setIfInBounds_toArray, List.set_cons_zero, List.set_cons_succ]
  refine wpAnyH_take (i := 4) (oi := ?c5o) (v := ?c5v) ?c5h (by kernel_rfl) (by kernel_rfl) (by kernel_rfl) ?c5q ?c5y hHeld ?c5r
  case c5h => (simp only [List.getElem?_toArray, List.getElem?_cons_succ, List.getElem?_cons_zero]; rfl)
  case c5q => exact fun _ _ _ h => h
  case c5y => (refine Or.inl ⟨by first | kernel_rfl | rfl, ?_⟩; intro w hSw; (try dsimp only at hSw); obtain ⟨⟨x0, x1, x2, x3, x4, x5, x6, x7, x8⟩, hb7⟩ := hSw; dsimp only at x0 x1 x2 x3 x4 x5 x6 x7 x8; have b0 := (hb7.cell (p := ⟨b, 0, none⟩) hblt).trans hc0; have b1 := (hb7.cell (p := ⟨b, 1, none⟩) hblt).trans hc1; have b2 := (hb7.cell (p := ⟨b, 2, none⟩) hblt).trans hc2; go_simp <;> (try with_reducible rfl))
  try simp only [Act.put, List.setIfInBounds_toArray, List.set_cons_zero, List.set_cons_succ]
  refine wpAnyH_take (i := 5) (oi := ?c6o) (v := ?c6v) ?c6h (by kernel_rfl) (by kernel_rfl) (by kernel_rfl) ?c6q ?c6y hHeld ?c6r
  case c6h => (simp only [List.getElem?_toArray, List.getElem?_cons_succ, List.getElem?_cons_zero]; rfl)
  case c6q => exact fun _ _ _ h => h
  case c6y => (refine Or.inl ⟨by first | kernel_rfl | rfl, ?_⟩; intro w hSw; (try dsimp only at hSw); obtain ⟨⟨x0, x1, x2, x3, x4, x5, x6, x7, x8⟩, hb7⟩ := hSw; dsimp only at x0 x1 x2 x3 x4 x5 x6 x7 x8; have b0 := (hb7.cell (p := ⟨b, 0, none⟩) hblt).trans hc0; have b1 := (hb7.cell (p := ⟨b, 1, none⟩) hblt).trans hc1; have b2 := (hb7.cell (p := ⟨b, 2, none⟩) hblt).trans hc2; go_simp <;> (try with_reducible rfl))
  try simp only [Act.put, List.setIfInBounds_toArray, List.set_cons_zero, List.set_cons_succ]
  refine wpAnyH_take (i := 6) (oi := ?c7o) (v := ?c7v) ?c7h (by kernel_rfl) (by kernel_rfl) (by kernel_rfl) ?c7q ?c7y hHeld ?c7r
  case c7h => (simp only [List.getElem?_toArray, List.getElem?_cons_succ, List.getElem?_cons_zero]; rfl)
  case c7q => exact fun _ _ _ h => h
  case c7y => (refine Or.inl ⟨by first | kernel_rfl | rfl, ?_⟩; intro w hSw; (try dsimp only at hSw); obtain ⟨⟨x0, x1, x2, x3, x4, x5, x6, x7, x8⟩, hb7⟩ := hSw; dsimp only at x0 x1 x2 x3 x4 x5 x6 x7 x8; have b0 := (hb7.cell (p := ⟨b, 0, none⟩) hblt).trans hc0; have b1 := (hb7.cell (p := ⟨b, 1, none⟩) hblt).trans hc1; have b2 := (hb7.cell (p := ⟨b, 2, none⟩) hblt).trans hc2; go_simp <;> (try with_reducible rfl))
  try simp only [Act.put, List.setIfInBounds_toArray, List.set_cons_zero, List.set_cons_succ]
  refine wpAnyH_take (i := 7) (oi := ?c8o) (v := ?c8v) ?c8h (by kernel_rfl) (by kernel_rfl) (by kernel_rfl) ?c8q ?c8y hHeld ?c8r
  case c8h => (simp only [List.getElem?_toArray, List.getElem?_cons_succ, List.getElem?_cons_zero]; rfl)
  case c8q => exact fun _ _ _ h => h
  case c8y => (refine Or.inl ⟨by first | kernel_rfl | rfl, ?_⟩; intro w hSw; (try dsimp only at hSw); obtain ⟨⟨x0, x1, x2, x3, x4, x5, x6, x7, x8⟩, hb7⟩ := hSw; dsimp only at x0 x1 x2 x3 x4 x5 x6 x7 x8; have b0 := (hb7.cell (p := ⟨b, 0, none⟩) hblt).trans hc0; have b1 := (hb7.cell (p := ⟨b, 1, none⟩) hblt).trans hc1; have b2 := (hb7.cell (p := ⟨b, 2, none⟩) hblt).trans hc2; go_simp <;> (try with_reducible rfl))
  try simp only [Act.put, List.setIfInBounds_toArray, List.set_cons_zero, List.set_cons_succ]
  refine wpAnyH_take (i := 8) (oi := ?c9o) (v := ?c9v) ?c9h (by kernel_rfl) (by kernel_rfl) (by kernel_rfl) ?c9q ?c9y hHeld ?c9r
  case c9h => (simp only [List.getElem?_toArray, List.getElem?_cons_succ, List.getElem?_cons_zero]; rfl)
  case c9q => exact fun _ _ _ h => h
  case c9y => (refine Or.inl ⟨by first | kernel_rfl | rfl, ?_⟩; intro w hSw; (try dsimp only at hSw); obtain ⟨⟨x0, x1, x2, x3, x4, x5, x6, x7, x8⟩, hb7⟩ := hSw; dsimp only at x0 x1 x2 x3 x4 x5 x6 x7 x8; have b0 := (hb7.cell (p := ⟨b, 0, none⟩) hblt).trans hc0; have b1 := (hb7.cell (p := ⟨b, 1, none⟩) hblt).trans hc1; have b2 := (hb7.cell (p := ⟨b, 2, none⟩) hblt).trans hc2; go_simp <;> (try with_reducible rfl))
  try simp only [Act.put, List.setIfInBounds_toArray, List.set_cons_zero, List.set_cons_succ]
  refine wpAnyH_take (i := 9) (oi := ?c10o) (v := ?c10v) ?c10h (by kernel_rfl) (by kernel_rfl) (by kernel_rfl) ?c10q ?c10y hHeld ?c10r
  case c10h => (simp only [List.getElem?_toArray, List.getElem?_cons_succ, List.getElem?_cons_zero]; rfl)
  case c10q => exact fun _ _ _ h => h
  case c10y => (refine Or.inl ⟨by first | kernel_rfl | rfl, ?_⟩; intro w hSw; (try dsimp only at hSw); obtain ⟨⟨x0, x1, x2, x3, x4, x5, x6, x7, x8⟩, hb7⟩ := hSw; dsimp only at x0 x1 x2 x3 x4 x5 x6 x7 x8; have b0 := (hb7.cell (p := ⟨b, 0, none⟩) hblt).trans hc0; have b1 := (hb7.cell (p := ⟨b, 1, none⟩) hblt).trans hc1; have b2 := (hb7.cell (p := ⟨b, 2, none⟩) hblt).trans hc2; go_simp <;> (try with_reducible rfl))
  try simp only [Act.put, List.setIfInBounds_toArray, List.set_cons_zero, List.set_cons_succ]
  refine wpAnyH_take (i := 10) (oi := ?c11o) (v := ?c11v) ?c11h (by kernel_rfl) (by kernel_rfl) (by kernel_rfl) ?c11q ?c11y hHeld ?c11r
  case c11h => (simp only [List.getElem?_toArray, List.getElem?_cons_succ, List.getElem?_cons_zero]; rfl)
  case c11q => exact fun _ _ _ h => h
  case c11y => (refine Or.inl ⟨by first | kernel_rfl | rfl, ?_⟩; intro w hSw; (try dsimp only at hSw); obtain ⟨⟨x0, x1, x2, x3, x4, x5, x6, x7, x8⟩, hb7⟩ := hSw; dsimp only at x0 x1 x2 x3 x4 x5 x6 x7 x8; have b0 := (hb7.cell (p := ⟨b, 0, none⟩) hblt).trans hc0; have b1 := (hb7.cell (p := ⟨b, 1, none⟩) hblt).trans hc1; have b2 := (hb7.cell (p := ⟨b, 2, none⟩) hblt).trans hc2; go_simp <;> (try with_reducible rfl))
  try simp only [Act.put, List.setIfInBounds_toArray, List.set_cons_zero, List.set_cons_succ]
  refine wpAnyH_take (i := 11) (oi := ?c12o) (v := ?c12v) ?c12h (by kernel_rfl) (by kernel_rfl) (by kernel_rfl) ?c12q ?c12y hHeld ?c12r
  case c12h => (simp only [List.getElem?_toArray, List.getElem?_cons_succ, List.getElem?_cons_zero]; rfl)
  case c12q => exact fun _ _ _ h => h
  case c12y => (refine Or.inl ⟨by first | kernel_rfl | rfl, ?_⟩; intro w hSw; (try dsimp only at hSw); obtain ⟨⟨x0, x1, x2, x3, x4, x5, x6, x7, x8⟩, hb7⟩ := hSw; dsimp only at x0 x1 x2 x3 x4 x5 x6 x7 x8; have b0 := (hb7.cell (p := ⟨b, 0, none⟩) hblt).trans hc0; have b1 := (hb7.cell (p := ⟨b, 1, none⟩) hblt).trans hc1; have b2 := (hb7.cell (p := ⟨b, 2, none⟩) hblt).trans hc2; go_simp <;> (try with_reducible rfl))
  try simp only [Act.put, List.setIfInBounds_toArray, List.set_cons_zero, List.set_cons_succ]
  refine wpAnyH_take (i := 12) (oi := ?c13o) (v := ?c13v) ?c13h (by kernel_rfl) (by kernel_rfl) (by kernel_rfl) ?c13q ?c13y hHeld ?c13r
  case c13h => (simp only [List.getElem?_toArray, List.getElem?_cons_succ, List.getElem?_cons_zero]; rfl)
  case c13q => exact fun _ _ _ h => h
  case c13y => (refine Or.inl ⟨by first | kernel_rfl | rfl, ?_⟩; intro w hSw; (try dsimp only at hSw); obtain ⟨⟨x0, x1, x2, x3, x4, x5, x6, x7, x8⟩, hb7⟩ := hSw; dsimp only at x0 x1 x2 x3 x4 x5 x6 x7 x8; have b0 := (hb7.cell (p := ⟨b, 0, none⟩) hblt).trans hc0; have b1 := (hb7.cell (p := ⟨b, 1, none⟩) hblt).trans hc1; have b2 := (hb7.cell (p := ⟨b, 2, none⟩) hblt).trans hc2; go_simp <;> (try with_reducible rfl))
  try simp only [Act.put, List.setIfInBounds_toArray, List.set_cons_zero, List.set_cons_succ]
  refine wpAnyH_take (i := 13) (oi := ?c14o) (v := ?c14v) ?c14h (by kernel_rfl) (by kernel_rfl) (by kernel_rfl) ?c14q ?c14y hHeld ?c14r
  case c14h => (simp only [List.getElem?_toArray, List.getElem?_cons_succ, List.getElem?_cons_zero]; rfl)
  case c14q => exact fun _ _ _ h => h
  case c14y => (refine Or.inl ⟨by first | kernel_rfl | rfl, ?_⟩; intro w hSw; (try dsimp only at hSw); obtain ⟨⟨x0, x1, x2, x3, x4, x5, x6, x7, x8⟩, hb7⟩ := hSw; dsimp only at x0 x1 x2 x3 x4 x5 x6 x7 x8; have b0 := (hb7.cell (p := ⟨b, 0, none⟩) hblt).trans hc0; have b1 := (hb7.cell (p := ⟨b, 1, none⟩) hblt).trans hc1; have b2 := (hb7.cell (p := ⟨b, 2, none⟩) hblt).trans hc2; go_simp <;> (try with_reducible rfl))
  try simp only [Act.put, List.setIfInBounds_toArray, List.set_cons_zero, List.set_cons_succ]
  refine wpAnyH_done (by kernel_rfl) ?_ _
  go_upto_region 8 with fail
  obtain ⟨wD, hwD⟩ : ∃ x, x = w6.drew := ⟨_, rfl⟩
  rw [← hwD] at hHeld ⊢
  clear hwD
  obtain ⟨⟨x0, x1, x2, x3, x4, x5, x6, x7, x8⟩, hb7⟩ := id hHeld
  dsimp only at x0 x1 x2 x3 x4 x5 x6 x7 x8
  have hH9 := HH.out.later hb7.drew
  have hal := (Below.refl _ wD.drew).alloc (Nat.le_refl _) (.cells #[.int .i64 rk, .string rs, .int .i64 rt, .int .i64 rv, .int .i64 rtier, .int .i64 rc, .int .i64 rst, .int .i64 rq, .slice ra rd.length rcc] 33)
  obtain ⟨a5, c5, w5, hrun, hrow, hgr, hnew⟩ := ORow.app (w := wD.drew.alloc (.cells #[.int .i64 rk, .string rs, .int .i64 rt, .int .i64 rv, .int .i64 rtier, .int .i64 rc, .int .i64 rst, .int .i64 rq, .slice ra rd.length rcc] 33)) (B := B) (r := ln) (N := wD.drew.heap.size) (zs := zs) (v := .slice a2 ln c2) (y := ⟨⟨rk, rs, rt, rv, rtier, ⟨rc, rst, rq⟩, rd⟩, ra, rcc⟩) 43 HLZ.out (by have h7 := hH9.row.later hal; rw [HLZ.out] at h7; exact h7) (R9.new wD.drew ⟨⟨rk, rs, rt, rv, rtier, ⟨rc, rst, rq⟩, rd⟩, ra, rcc⟩) (by have h1 := HL4.out; omega) (by have h1 := HBB.out; have h2 := hb7.size; simp; omega)
  have b2 := (hb7.cell (p := ⟨b, 2, none⟩) hblt).trans hc2
  have HD5 := Lib.hid (HH.out.put HBB.out ⟨⟨rk, rs, rt, rv, rtier, ⟨rc, rst, rq⟩, rd⟩, ra, rcc⟩ HGD.out (bel_new hb7.drew (.cells #[.int .i64 rk, .string rs, .int .i64 rt, .int .i64 rv, .int .i64 rtier, .int .i64 rc, .int .i64 rst, .int .i64 rq, .slice ra rd.length rcc] 33)) hrow (by rw [HLZ.out]; exact hgr) (by rw [HLZ.out]; exact hnew) (Ns.later HN.out (bel_new hb7.drew (.cells #[.int .i64 rk, .string rs, .int .i64 rt, .int .i64 rv, .int .i64 rtier, .int .i64 rc, .int .i64 rst, .int .i64 rq, .slice ra rd.length rcc] 33))) HOWN.out)
  have hs5 : b < w5.heap.size := Nat.lt_of_lt_of_le (Nat.lt_of_lt_of_le hblt (bel_new hb7.drew (.cells #[.int .i64 rk, .string rs, .int .i64 rt, .int .i64 rv, .int .i64 rtier, .int .i64 rc, .int .i64 rst, .int .i64 rq, .slice ra rd.length rcc] 33)).size) hgr.size
  have f5 : w5.frozen? ⟨b, 2, none⟩ = false := Joins.unfrozen_of_block HD5.out.1 _
  have hob := HD5.out.1
  have c25 : w5.cell? ⟨b, 2, none⟩ = some (.slice a2 ln c2) := by rw [Joins.cell_of_block hob]; rw [← HLZ.out]; rfl
  have hXd := R9.later hHeld.nine (Below.refl wD.heap.size wD).drew
  have HBw := hb7
  have c23 : wD.drew.cell? ⟨b, 2, none⟩ = some (.slice a2 ln c2) := (HBw.drew.cell (p := ⟨b, 2, none⟩) hblt).trans hc2
  have c24 : (wD.drew.alloc (.cells #[.int .i64 rk, .string rs, .int .i64 rt, .int .i64 rv, .int .i64 rtier, .int .i64 rc, .int .i64 rst, .int .i64 rq, .slice ra rd.length rcc] 33)).cell? ⟨b, 2, none⟩ = some (.slice a2 ln c2) := ((bel_new HBw.drew (.cells #[.int .i64 rk, .string rs, .int .i64 rt, .int .i64 rv, .int .i64 rtier, .int .i64 rc, .int .i64 rst, .int .i64 rq, .slice ra rd.length rcc] 33)).cell (p := ⟨b, 2, none⟩) hblt).trans hc2
  have c27 : (wD.alloc (.cells #[.int .i64 rk, .string rs, .int .i64 rt, .int .i64 rv, .int .i64 rtier, .int .i64 rc, .int .i64 rst, .int .i64 rq, .slice ra rd.length rcc] 33)).cell? ⟨b, 2, none⟩ = some (.slice a2 ln c2) := ((bel_new HBw (.cells #[.int .i64 rk, .string rs, .int .i64 rt, .int .i64 rv, .int .i64 rtier, .int .i64 rc, .int .i64 rst, .int .i64 rq, .slice ra rd.length rcc] 33)).cell (p := ⟨b, 2, none⟩) hblt).trans hc2
  have hv5 : (Value.slice a2 ln c2).ownBlock ≠ some w.heap.size := fun e => by
    have h8 := HH.out.vF w.heap.size (by rw [HLZ.out]; exact e)
    have h9 := (HH.out.fp _ h8.1).2
    omega
  have HXd := Lib.hid hXd
  have HXa := Lib.hid (R9.later hXd hal)
  have hX5 := R9.other (R9.later hXd hal) (hgr.block _ (R9.later hXd hal).room (fun e => hv5 e.symm))
  have HX5 := Lib.hid hX5
  have HX6 := Lib.hid (R9.other hX5 (World.heap_setCell_off w5 b 2 (.slice a5 (ln + 1) c5) w.heap.size (by omega)))
  clear hH9 hal hrow hgr hnew hb7 hHeld hob hXd hX5 hv5 HBw
  refine wp_region_held_drew (S := (fun X : World => R9 X w.heap.size 0 ⟨⟨rk, rs, rt, rv, rtier, ⟨rc, rst, rq⟩, rd⟩, ra, rcc⟩)) (by kernel_rfl) HXd.out (fun hHeld => ?_)
  refine wpAnyH_take (i := 0) (oi := ?h1o) (v := ?h1v) ?h1h (by kernel_rfl) (by kernel_rfl) (by kernel_rfl) ?h1q ?h1y hHeld ?h1r
  case h1h => (simp only [List.getElem?_toArray, List.getElem?_cons_zero]; rfl)
  case h1q => exact fun _ _ _ h => h
  case h1y => (refine Or.inl ⟨by first | kernel_rfl | rfl, ?_⟩; intro w hSw; (try dsimp only at hSw); obtain ⟨q0, q1, q2, q3, q4, q5, q6, q7, q8⟩ := hSw; dsimp only at q0 q1 q2 q3 q4 q5 q6 q7 q8; go_simp <;> (try with_reducible rfl))
  try simp only [Act.put, List.setIfInBounds_toArray, List.set_cons_zero, List.set_cons_succ]
  refine wpAnyH_take (i := 1) (oi := ?h2o) (v := ?h2v) ?h2h (by kernel_rfl) (by kernel_rfl) (by kernel_rfl) ?h2q ?h2y hHeld ?h2r
  case h2h => (simp only [List.getElem?_toArray, List.getElem?_cons_succ, List.getElem?_cons_zero]; rfl)
  case h2q => exact fun _ _ _ h => h
  case h2y => (refine Or.inl ⟨by first | kernel_rfl | rfl, ?_⟩; intro w hSw; (try dsimp only at hSw); obtain ⟨q0, q1, q2, q3, q4, q5, q6, q7, q8⟩ := hSw; dsimp only at q0 q1 q2 q3 q4 q5 q6 q7 q8; go_simp <;> (try with_reducible rfl))
  try simp only [Act.put, List.setIfInBounds_toArray, List.set_cons_zero, List.set_cons_succ]
  refine wpAnyH_take (i := 2) (oi := ?h3o) (v := ?h3v) ?h3h (by kernel_rfl) (by kernel_rfl) (by kernel_rfl) ?h3q ?h3y hHeld ?h3r
  case h3h => (simp only [List.getElem?_toArray, List.getElem?_cons_succ, List.getElem?_cons_zero]; rfl)
  case h3q => exact fun _ _ _ h => h
  case h3y => (refine Or.inl ⟨by first | kernel_rfl | rfl, ?_⟩; intro w hSw; (try dsimp only at hSw); obtain ⟨q0, q1, q2, q3, q4, q5, q6, q7, q8⟩ := hSw; dsimp only at q0 q1 q2 q3 q4 q5 q6 q7 q8; go_simp <;> (try with_reducible rfl))
  try simp only [Act.put, List.setIfInBounds_toArray, List.set_cons_zero, List.set_cons_succ]
  refine wpAnyH_take (i := 3) (oi := ?h4o) (v := ?h4v) ?h4h (by kernel_rfl) (by kernel_rfl) (by kernel_rfl) ?h4q ?h4y hHeld ?h4r
  case h4h => (simp only [List.getElem?_toArray, List.getElem?_cons_succ, List.getElem?_cons_zero]; rfl)
  case h4q => exact fun _ _ _ h => h
  case h4y => (refine Or.inl ⟨by first | kernel_rfl | rfl, ?_⟩; intro w hSw; (try dsimp only at hSw); obtain ⟨q0, q1, q2, q3, q4, q5, q6, q7, q8⟩ := hSw; dsimp only at q0 q1 q2 q3 q4 q5 q6 q7 q8; go_simp <;> (try with_reducible rfl))
  try simp only [Act.put, List.setIfInBounds_toArray, List.set_cons_zero, List.set_cons_succ]
  refine wpAnyH_take (i := 5) (oi := ?h5o) (v := ?h5v) ?h5h (by kernel_rfl) (by kernel_rfl) (by kernel_rfl) ?h5q ?h5y hHeld ?h5r
  case h5h => (simp only [List.getElem?_toArray, List.getElem?_cons_succ, List.getElem?_cons_zero]; rfl)
  case h5q => exact fun _ _ _ h => h
  case h5y => (refine Or.inl ⟨by first | kernel_rfl | rfl, ?_⟩; intro w hSw; (try dsimp only at hSw); obtain ⟨q0, q1, q2, q3, q4, q5, q6, q7, q8⟩ := hSw; dsimp only at q0 q1 q2 q3 q4 q5 q6 q7 q8; go_simp <;> (try with_reducible rfl))
  try simp only [Act.put, List.setIfInBounds_toArray, List.set_cons_zero, List.set_cons_succ]
  refine wpAnyH_ready (rs := [4, 6]) (by kernel_rfl) (by simp) ?_
  refine (AllReadyH.cons rfl (fun K hK => ?_) (AllReadyH.cons rfl (fun K hK => ?_) AllReadyH.nil))
  ·
    go_simp
    skip
    refine hK.out _ _ (hHeld) (fun hHeld => ?_)
    clear hK K
    try simp only [Act.put, List.setIfInBounds_toArray, List.set_cons_zero, List.set_cons_succ]
    refine wpAnyH_ready (rs := [6]) (by kernel_rfl) (by simp) ?_
    refine (AllReadyH.cons rfl (fun K hK => ?_) AllReadyH.nil)
    go_simp
    skip
    refine hK.out _ _ (HXa.out) (fun hHeld => ?_)
    clear hK K
    try simp only [Act.put, List.setIfInBounds_toArray, List.set_cons_zero, List.set_cons_succ]
    refine wpAnyH_ready (rs := [7]) (by kernel_rfl) (by simp) ?_
    refine (AllReadyH.cons rfl (fun K hK => ?_) AllReadyH.nil)
    refine (if_pos (by kernel_rfl)).mpr ?_
    refine Lib.wp_append_run _ _ _ _ _ rfl _ _ rfl rfl _ _ hrun ?_
    refine hK.out _ _ (HX5.out) (fun hHeld => ?_)
    clear hK K
    try simp only [Act.put, List.setIfInBounds_toArray, List.set_cons_zero, List.set_cons_succ]
    refine wpAnyH_take (i := 8) (oi := ?h6o) (v := ?h6v) ?h6h (by kernel_rfl) (by kernel_rfl) (by kernel_rfl) ?h6q ?h6y hHeld ?h6r
    case h6h => (simp only [List.getElem?_toArray, List.getElem?_cons_succ, List.getElem?_cons_zero]; rfl)
    case h6q => exact fun _ _ _ h => h
    case h6y => (refine Or.inl ⟨by first | kernel_rfl | rfl, ?_⟩; intro w hSw; (try dsimp only at hSw); obtain ⟨q0, q1, q2, q3, q4, q5, q6, q7, q8⟩ := hSw; dsimp only at q0 q1 q2 q3 q4 q5 q6 q7 q8; go_simp <;> (try with_reducible rfl))
    try simp only [Act.put, List.setIfInBounds_toArray, List.set_cons_zero, List.set_cons_succ]
    refine wpAnyH_take (i := 9) (oi := ?h7o) (v := ?h7v) ?h7h (by kernel_rfl) (by kernel_rfl) (by kernel_rfl) ?h7q ?h7y hHeld ?h7r
    case h7h => (simp only [List.getElem?_toArray, List.getElem?_cons_succ, List.getElem?_cons_zero]; rfl)
    case h7q => exact fun _ _ _ h => h
    case h7y => (refine Or.inl ⟨by first | kernel_rfl | rfl, ?_⟩; intro w hSw; (try dsimp only at hSw); obtain ⟨q0, q1, q2, q3, q4, q5, q6, q7, q8⟩ := hSw; dsimp only at q0 q1 q2 q3 q4 q5 q6 q7 q8; go_simp <;> (try with_reducible rfl))
    try simp only [Act.put, List.setIfInBounds_toArray, List.set_cons_zero, List.set_cons_succ]
    refine wpAnyH_ready (rs := [10]) (by kernel_rfl) (by simp) ?_
    refine (AllReadyH.cons rfl (fun K hK => ?_) AllReadyH.nil)
    go_simp
    skip
    refine hK.out _ _ (HX6.out) (fun hHeld => ?_)
    clear hK K
    try simp only [Act.put]
    refine wpAnyH_done (by kernel_rfl) ?_ _
    go_wp2
    go_ret
    exact ⟨(by rw [HE.out]; rfl), by rw [HS.out]; exact ⟨_, _, HD5.out.2.1⟩, HD5.out.2.2⟩
  ·
    go_simp
    skip
    refine hK.out _ _ (HXa.out) (fun hHeld => ?_)
    clear hK K
    try simp only [Act.put, List.setIfInBounds_toArray, List.set_cons_zero, List.set_cons_succ]
    refine wpAnyH_ready (rs := [4]) (by kernel_rfl) (by simp) ?_
    refine (AllReadyH.cons rfl (fun K hK => ?_) AllReadyH.nil)
    go_simp
    skip
    refine hK.out _ _ (hHeld) (fun hHeld => ?_)
    clear hK K
    try simp only [Act.put, List.setIfInBounds_toArray, List.set_cons_zero, List.set_cons_succ]
    refine wpAnyH_ready (rs := [7]) (by kernel_rfl) (by simp) ?_
    refine (AllReadyH.cons rfl (fun K hK => ?_) AllReadyH.nil)
    refine (if_pos (by kernel_rfl)).mpr ?_
    refine Lib.wp_append_run _ _ _ _ _ rfl _ _ rfl rfl _ _ hrun ?_
    refine hK.out _ _ (HX5.out) (fun hHeld => ?_)
    clear hK K
    try simp only [Act.put, List.setIfInBounds_toArray, List.set_cons_zero, List.set_cons_succ]
    refine wpAnyH_take (i := 8) (oi := ?h8o) (v := ?h8v) ?h8h (by kernel_rfl) (by kernel_rfl) (by kernel_rfl) ?h8q ?h8y hHeld ?h8r
    case h8h => (simp only [List.getElem?_toArray, List.getElem?_cons_succ, List.getElem?_cons_zero]; rfl)
    case h8q => exact fun _ _ _ h => h
    case h8y => (refine Or.inl ⟨by first | kernel_rfl | rfl, ?_⟩; intro w hSw; (try dsimp only at hSw); obtain ⟨q0, q1, q2, q3, q4, q5, q6, q7, q8⟩ := hSw; dsimp only at q0 q1 q2 q3 q4 q5 q6 q7 q8; go_simp <;> (try with_reducible rfl))
    try simp only [Act.put, List.setIfInBounds_toArray, List.set_cons_zero, List.set_cons_succ]
    refine wpAnyH_take (i := 9) (oi := ?h9o) (v := ?h9v) ?h9h (by kernel_rfl) (by kernel_rfl) (by kernel_rfl) ?h9q ?h9y hHeld ?h9r
    case h9h => (simp only [List.getElem?_toArray, List.getElem?_cons_succ, List.getElem?_cons_zero]; rfl)
    case h9q => exact fun _ _ _ h => h
    case h9y => (refine Or.inl ⟨by first | kernel_rfl | rfl, ?_⟩; intro w hSw; (try dsimp only at hSw); obtain ⟨q0, q1, q2, q3, q4, q5, q6, q7, q8⟩ := hSw; dsimp only at q0 q1 q2 q3 q4 q5 q6 q7 q8; go_simp <;> (try with_reducible rfl))
    try simp only [Act.put, List.setIfInBounds_toArray, List.set_cons_zero, List.set_cons_succ]
    refine wpAnyH_ready (rs := [10]) (by kernel_rfl) (by simp) ?_
    refine (AllReadyH.cons rfl (fun K hK => ?_) AllReadyH.nil)
    go_simp
    skip
    refine hK.out _ _ (HX6.out) (fun hHeld => ?_)
    clear hK K
    try simp only [Act.put]
    refine wpAnyH_done (by kernel_rfl) ?_ _
    go_wp2
    go_ret
    exact ⟨(by rw [HE.out]; rfl), by rw [HS.out]; exact ⟨_, _, HD5.out.2.1⟩, HD5.out.2.2⟩
set_option maxHeartbeats 8000000 in
theorem eoffer_room {w : World} {B b : Nat} {ov v : Value} {zs : List Rd} {S : CS} {F : Nat → Prop} (h : EbAt w B b ov v zs S F) (hB : B ≤ w.heap.size) (x : Rd) (hN : Ns w x.dv x.r.d) (hf : x.r.fits) (ho : x.r.d ≠ [] → ∀ q, x.dv.ownBlock = some q → q < B) (hx : x.r.ok = true) (hq : ¬ x.r.st.q < atL S.out x.r.st.s + 1) (hh : hasB S.L x.r.st.s x.r.st.q = false) (hr : ¬ S.room ≤ (S.L.length : Int)) : Calls Try.prog 17 #[.pointer (some ⟨b, 0, none⟩), recV x.r x.dv] w (EOffDone w B b ov S F x.r) := by
  have hal := (Below.refl w.heap.size w).alloc (Nat.le_refl _) (box9 x)
  have hh1 := R9.new w x
  have HE := Lib.hid (show offE S x.r = 0 from offE_held hx (Bool.or_eq_false_iff.2 ⟨decide_eq_false hq, hh⟩) (fun k => hr k.1))
  have HS := Lib.hid (show offS S x.r = ⟨S.room, S.out, S.L ++ [x.r]⟩ from offS_yes (by rw [HE.out]))
  have HGD := Lib.hid (by have := h.good.off x.r; rw [HS.out] at this; exact this)
  obtain ⟨oa, oc, eo⟩ := h.ns.slice
  subst eo
  obtain ⟨a2, c2, e2⟩ := h.row.slice
  subst e2
  have hc0 := h.c0
  have hc1 := h.c1
  have hc2 := h.c2
  have hblt := h.lt
  have kck := rcheck6_is x.r x.dv _ (Ns.later hN hal) hf
  rw [Rec.err_ok.2 hx] at kck
  have HH := Lib.hid h
  have HN := Lib.hid hN
  have HOWN := Lib.hid ho
  have HBB := Lib.hid hB
  have HAL := Lib.hid hal
  have HH1 := Lib.hid hh1
  have ka := fun (W : World) (hb : Below w.heap.size w W) => rat_is (.slice oa S.out.length oc) S.out x.r.st.s W (Ns.later h.ns hb)
  have kfd := fun (W : World) (hb : Below w.heap.size w W) => find_is (h.later hb) x.r.st.s x.r.st.q
  have kd := fun (W : World) (hb : Below w.heap.size w W) => edue_is (h.later hb) x (Ns.later hN hb)
  have hlz := h.len
  have hl4 := h.good.l408
  obtain ⟨ln, hln⟩ : ∃ z, zs.length = z := ⟨_, rfl⟩
  rw [hln] at hc2 hlz
  have HLZ := Lib.hid hln
  have HL4 := Lib.hid (show ln ≤ 408 by omega)
  obtain ⟨y, hy⟩ : ∃ z, atL S.out x.r.st.s = z := ⟨_, rfl⟩
  obtain ⟨rm, hrm⟩ : ∃ z, S.room = z := ⟨_, rfl⟩
  rw [hrm] at hc0
  rw [hy] at ka
  have hq1 : decide (x.r.st.q ≤ y) = false := decide_eq_false (by omega)
  rw [find_no hh] at kfd
  have hr1 : decide (rm ≤ (ln : Int)) = false := decide_eq_false (by rw [← hrm, hlz]; exact hr)
  obtain ⟨dz, hdz⟩ : ∃ z, dueB S x.r = z := ⟨_, rfl⟩
  rw [hdz] at kd
  clear hdz hq hh
  obtain ⟨⟨rk, rs, rt, rv, rtier, ⟨rc, rst, rq⟩, rd⟩, ra, rcc⟩ := x
  unfold recV Rd.dv at *
  dsimp only at *
  unfold box9 at *
  dsimp only at *
  clear h hN hx ho hB hal hh1 hf hln hlz hl4 hrm hy hr
  go_enter Try.func17, Try.ntmps17
  go_upto_region 3 with (go_at_call 41; (with_reducible refine kck.mono ?_); rintro e w2 ⟨rfl, hb2⟩; (have HB2 := Lib.hid hb2); clear hb2)
  have HHO : HR w w.heap.size ⟨⟨rk, rs, rt, rv, rtier, ⟨rc, rst, rq⟩, rd⟩, ra, rcc⟩ w2 := ⟨HH1.out.later HB2.out, bel_next HAL.out HB2.out⟩
  refine wp_region_held_drew (S := (HR w w.heap.size ⟨⟨rk, rs, rt, rv, rtier, ⟨rc, rst, rq⟩, rd⟩, ra, rcc⟩)) (by kernel_rfl) HHO.drew (fun hHeld => ?_)
  refine wpAnyH_take (i := 0) (oi := ?a1o) (v := ?a1v) ?a1h (by kernel_rfl) (by kernel_rfl) (by kernel_rfl) ?a1q ?a1y hHeld ?a1r
  case a1h => (simp only [List.getElem?_toArray, List.getElem?_cons_zero]; rfl)
  case a1q => exact fun _ _ _ h => h
  case a1y => (refine Or.inl ⟨by first | kernel_rfl | rfl, ?_⟩; intro w hSw; (try dsimp only at hSw); obtain ⟨⟨x0, x1, x2, x3, x4, x5, x6, x7, x8⟩, hb7⟩ := hSw; dsimp only at x0 x1 x2 x3 x4 x5 x6 x7 x8; have b0 := (hb7.cell (p := ⟨b, 0, none⟩) hblt).trans hc0; have b1 := (hb7.cell (p := ⟨b, 1, none⟩) hblt).trans hc1; have b2 := (hb7.cell (p := ⟨b, 2, none⟩) hblt).trans hc2; go_simp <;> (try with_reducible rfl))
  try simp only [Act.put, List.setIfInBounds_toArray, List.set_cons_zero, List.set_cons_succ]
  refine wpAnyH_take (i := 1) (oi := ?a2o) (v := ?a2v) ?a2h (by kernel_rfl) (by kernel_rfl) (by kernel_rfl) ?a2q ?a2y hHeld ?a2r
  case a2h => (simp only [List.getElem?_toArray, List.getElem?_cons_succ, List.getElem?_cons_zero]; rfl)
  case a2q => exact fun _ _ _ h => h
  case a2y => (refine Or.inl ⟨by first | kernel_rfl | rfl, ?_⟩; intro w hSw; (try dsimp only at hSw); obtain ⟨⟨x0, x1, x2, x3, x4, x5, x6, x7, x8⟩, hb7⟩ := hSw; dsimp only at x0 x1 x2 x3 x4 x5 x6 x7 x8; have b0 := (hb7.cell (p := ⟨b, 0, none⟩) hblt).trans hc0; have b1 := (hb7.cell (p := ⟨b, 1, none⟩) hblt).trans hc1; have b2 := (hb7.cell (p := ⟨b, 2, none⟩) hblt).trans hc2; go_simp <;> (try with_reducible rfl))
  try simp only [Act.put, List.setIfInBounds_toArray, List.set_cons_zero, List.set_cons_succ]
  refine wpAnyH_take (i := 2) (oi := ?a3o) (v := ?a3v) ?a3h (by kernel_rfl) (by kernel_rfl) (by kernel_rfl) ?a3q ?a3y hHeld ?a3r
  case a3h => (simp only [List.getElem?_toArray, List.getElem?_cons_succ, List.getElem?_cons_zero]; rfl)
  case a3q => exact fun _ _ _ h => h
  case a3y => (refine Or.inl ⟨by first | kernel_rfl | rfl, ?_⟩; intro w hSw; (try dsimp only at hSw); obtain ⟨⟨x0, x1, x2, x3, x4, x5, x6, x7, x8⟩, hb7⟩ := hSw; dsimp only at x0 x1 x2 x3 x4 x5 x6 x7 x8; have b0 := (hb7.cell (p := ⟨b, 0, none⟩) hblt).trans hc0; have b1 := (hb7.cell (p := ⟨b, 1, none⟩) hblt).trans hc1; have b2 := (hb7.cell (p := ⟨b, 2, none⟩) hblt).trans hc2; go_simp <;> (try with_reducible rfl))
  try simp only [Act.put, List.setIfInBounds_toArray, List.set_cons_zero, List.set_cons_succ]
  refine wpAnyH_take (i := 3) (oi := ?a4o) (v := ?a4v) ?a4h (by kernel_rfl) (by kernel_rfl) (by kernel_rfl) ?a4q ?a4y hHeld ?a4r
  case a4h => (simp only [List.getElem?_toArray, List.getElem?_cons_succ, List.getElem?_cons_zero]; rfl)
  case a4q => exact fun _ _ _ h => h
  case a4y => (refine Or.inl ⟨by first | kernel_rfl | rfl, ?_⟩; intro w hSw; (try dsimp only at hSw); obtain ⟨⟨x0, x1, x2, x3, x4, x5, x6, x7, x8⟩, hb7⟩ := hSw; dsimp only at x0 x1 x2 x3 x4 x5 x6 x7 x8; have b0 := (hb7.cell (p := ⟨b, 0, none⟩) hblt).trans hc0; have b1 := (hb7.cell (p := ⟨b, 1, none⟩) hblt).trans hc1; have b2 := (hb7.cell (p := ⟨b, 2, none⟩) hblt).trans hc2; go_simp <;> (try with_reducible rfl))
  try simp only [Act.put, List.setIfInBounds_toArray, List.set_cons_zero, List.set_cons_succ]
  refine wpAnyH_take (i := 4) (oi := ?a5o) (v := ?a5v) ?a5h (by kernel_rfl) (by kernel_rfl) (by kernel_rfl) ?a5q ?a5y hHeld ?a5r
  case a5h => (simp only [List.getElem?_toArray, List.getElem?_cons_succ, List.getElem?_cons_zero]; rfl)
  case a5q => exact fun _ _ _ h => h
  case a5y => (refine Or.inl ⟨by first | kernel_rfl | rfl, ?_⟩; intro w hSw; (try dsimp only at hSw); obtain ⟨⟨x0, x1, x2, x3, x4, x5, x6, x7, x8⟩, hb7⟩ := hSw; dsimp only at x0 x1 x2 x3 x4 x5 x6 x7 x8; have b0 := (hb7.cell (p := ⟨b, 0, none⟩) hblt).trans hc0; have b1 := (hb7.cell (p := ⟨b, 1, none⟩) hblt).trans hc1; have b2 := (hb7.cell (p := ⟨b, 2, none⟩) hblt).trans hc2; go_simp <;> (try with_reducible rfl))
  try simp only [Act.put, List.setIfInBounds_toArray, List.set_cons_zero, List.set_cons_succ]
  refine wpAnyH_take (i := 5) (oi := ?a6o) (v := ?a6v) ?a6h (by kernel_rfl) (by kernel_rfl) (by kernel_rfl) ?a6q ?a6y hHeld ?a6r
  case a6h => (simp only [List.getElem?_toArray, List.getElem?_cons_succ, List.getElem?_cons_zero]; rfl)
  case a6q => exact fun _ _ _ h => h
  case a6y => (refine Or.inl ⟨by first | kernel_rfl | rfl, ?_⟩; intro w hSw; (try dsimp only at hSw); obtain ⟨⟨x0, x1, x2, x3, x4, x5, x6, x7, x8⟩, hb7⟩ := hSw; dsimp only at x0 x1 x2 x3 x4 x5 x6 x7 x8; have b0 := (hb7.cell (p := ⟨b, 0, none⟩) hblt).trans hc0; have b1 := (hb7.cell (p := ⟨b, 1, none⟩) hblt).trans hc1; have b2 := (hb7.cell (p := ⟨b, 2, none⟩) hblt).trans hc2; go_simp <;> (try with_reducible rfl))
  try simp only [Act.put, List.setIfInBounds_toArray, List.set_cons_zero, List.set_cons_succ]
  refine wpAnyH_take (i := 6) (oi := ?a7o) (v := ?a7v) ?a7h (by kernel_rfl) (by kernel_rfl) (by kernel_rfl) ?a7q ?a7y hHeld ?a7r
  case a7h => (simp only [List.getElem?_toArray, List.getElem?_cons_succ, List.getElem?_cons_zero]; rfl)
  case a7q => exact fun _ _ _ h => h
  case a7y => (refine Or.inl ⟨by first | kernel_rfl | rfl, ?_⟩; intro w hSw; (try dsimp only at hSw); obtain ⟨⟨x0, x1, x2, x3, x4, x5, x6, x7, x8⟩, hb7⟩ := hSw; dsimp only at x0 x1 x2 x3 x4 x5 x6 x7 x8; have b0 := (hb7.cell (p := ⟨b, 0, none⟩) hblt).trans hc0; have b1 := (hb7.cell (p := ⟨b, 1, none⟩) hblt).trans hc1; have b2 := (hb7.cell (p := ⟨b, 2, none⟩) hblt).trans hc2; go_simp <;> (try with_reducible rfl))
  try simp only [Act.put, List.setIfInBounds_toArray, List.set_cons_zero, List.set_cons_succ]
  refine wpAnyH_take (i := 7) (oi := ?a8o) (v := ?a8v) ?a8h (by kernel_rfl) (by kernel_rfl) (by kernel_rfl) ?a8q ?a8y hHeld ?a8r
  case a8h => (simp only [List.getElem?_toArray, List.getElem?_cons_succ, List.getElem?_cons_zero]; rfl)
  case a8q => exact fun _ _ _ h => h
  case a8y => (refine Or.inl ⟨by first | kernel_rfl | rfl, ?_⟩; intro w hSw; (try dsimp only at hSw); obtain ⟨⟨x0, x1, x2, x3, x4, x5, x6, x7, x8⟩, hb7⟩ := hSw; dsimp only at x0 x1 x2 x3 x4 x5 x6 x7 x8; have b0 := (hb7.cell (p := ⟨b, 0, none⟩) hblt).trans hc0; have b1 := (hb7.cell (p := ⟨b, 1, none⟩) hblt).trans hc1; have b2 := (hb7.cell (p := ⟨b, 2, none⟩) hblt).trans hc2; go_simp <;> (try with_reducible rfl))
  try simp only [Act.put, List.setIfInBounds_toArray, List.set_cons_zero, List.set_cons_succ]
  refine wpAnyH_take (i := 8) (oi := ?a9o) (v := ?a9v) ?a9h (by kernel_rfl) (by kernel_rfl) (by kernel_rfl) ?a9q ?a9y hHeld ?a9r
  case a9h => (simp only [List.getElem?_toArray, List.getElem?_cons_succ, List.getElem?_cons_zero]; rfl)
  case a9q => exact fun _ _ _ h => h
  case a9y => (refine Or.inl ⟨by first | kernel_rfl | rfl, ?_⟩; intro w hSw; (try dsimp only at hSw); obtain ⟨⟨x0, x1, x2, x3, x4, x5, x6, x7, x8⟩, hb7⟩ := hSw; dsimp only at x0 x1 x2 x3 x4 x5 x6 x7 x8; have b0 := (hb7.cell (p := ⟨b, 0, none⟩) hblt).trans hc0; have b1 := (hb7.cell (p := ⟨b, 1, none⟩) hblt).trans hc1; have b2 := (hb7.cell (p := ⟨b, 2, none⟩) hblt).trans hc2; go_simp <;> (try with_reducible rfl))
  try simp only [Act.put, List.setIfInBounds_toArray, List.set_cons_zero, List.set_cons_succ]
  refine wpAnyH_take (i := 9) (oi := ?a10o) (v := ?a10v) ?a10h (by kernel_rfl) (by kernel_rfl) (by kernel_rfl) ?a10q ?a10y hHeld ?a10r
  case a10h => (simp only [List.getElem?_toArray, List.getElem?_cons_succ, List.getElem?_cons_zero]; rfl)
  case a10q => exact fun _ _ _ h => h
  case a10y => (refine Or.inl ⟨by first | kernel_rfl | rfl, ?_⟩; intro w hSw; (try dsimp only at hSw); obtain ⟨⟨x0, x1, x2, x3, x4, x5, x6, x7, x8⟩, hb7⟩ := hSw; dsimp only at x0 x1 x2 x3 x4 x5 x6 x7 x8; have b0 := (hb7.cell (p := ⟨b, 0, none⟩) hblt).trans hc0; have b1 := (hb7.cell (p := ⟨b, 1, none⟩) hblt).trans hc1; have b2 := (hb7.cell (p := ⟨b, 2, none⟩) hblt).trans hc2; go_simp <;> (try with_reducible rfl))
  try simp only [Act.put, List.setIfInBounds_toArray, List.set_cons_zero, List.set_cons_succ]
  refine wpAnyH_ready (rs := [10]) (by kernel_rfl) (by simp) ?_
  refine (AllReadyH.cons rfl (fun K hK => ?_) AllReadyH.nil)
  go_simp
  (go_at_call 27; (with_reducible refine (ka _ hHeld.bel).mono ?_); rintro e w3 ⟨rfl, hb3⟩; (have hHeld := hHeld.later hb3); clear hb3)
  refine hK.out _ _ (hHeld) (fun hHeld => ?_)
  clear hK K
  try simp only [Act.put, List.setIfInBounds_toArray, List.set_cons_zero, List.set_cons_succ]
  refine wpAnyH_take (i := 11) (oi := ?a11o) (v := ?a11v) ?a11h (by kernel_rfl) (by kernel_rfl) (by kernel_rfl) ?a11q ?a11y hHeld ?a11r
  case a11h => (simp only [List.getElem?_toArray, List.getElem?_cons_succ, List.getElem?_cons_zero]; rfl)
  case a11q => exact fun _ _ _ h => h
  case a11y => (refine Or.inl ⟨by first | kernel_rfl | rfl, ?_⟩; intro w hSw; (try dsimp only at hSw); obtain ⟨⟨x0, x1, x2, x3, x4, x5, x6, x7, x8⟩, hb7⟩ := hSw; dsimp only at x0 x1 x2 x3 x4 x5 x6 x7 x8; have b0 := (hb7.cell (p := ⟨b, 0, none⟩) hblt).trans hc0; have b1 := (hb7.cell (p := ⟨b, 1, none⟩) hblt).trans hc1; have b2 := (hb7.cell (p := ⟨b, 2, none⟩) hblt).trans hc2; go_simp <;> (try with_reducible rfl))
  try simp only [Act.put, List.setIfInBounds_toArray, List.set_cons_zero, List.set_cons_succ]
  refine wpAnyH_take (i := 12) (oi := ?a12o) (v := ?a12v) ?a12h (by kernel_rfl) (by kernel_rfl) (by kernel_rfl) ?a12q ?a12y hHeld ?a12r
  case a12h => (simp only [List.getElem?_toArray, List.getElem?_cons_succ, List.getElem?_cons_zero]; rfl)
  case a12q => exact fun _ _ _ h => h
  case a12y => (refine Or.inl ⟨by first | kernel_rfl | rfl, ?_⟩; intro w hSw; (try dsimp only at hSw); obtain ⟨⟨x0, x1, x2, x3, x4, x5, x6, x7, x8⟩, hb7⟩ := hSw; dsimp only at x0 x1 x2 x3 x4 x5 x6 x7 x8; have b0 := (hb7.cell (p := ⟨b, 0, none⟩) hblt).trans hc0; have b1 := (hb7.cell (p := ⟨b, 1, none⟩) hblt).trans hc1; have b2 := (hb7.cell (p := ⟨b, 2, none⟩) hblt).trans hc2; go_simp <;> (try with_reducible rfl))
  try simp only [Act.put, List.setIfInBounds_toArray, List.set_cons_zero, List.set_cons_succ]
  refine wpAnyH_take (i := 13) (oi := ?a13o) (v := ?a13v) ?a13h (by kernel_rfl) (by kernel_rfl) (by kernel_rfl) ?a13q ?a13y hHeld ?a13r
  case a13h => (simp only [List.getElem?_toArray, List.getElem?_cons_succ, List.getElem?_cons_zero]; rfl)
  case a13q => exact fun _ _ _ h => h
  case a13y => (refine Or.inl ⟨by first | kernel_rfl | rfl, ?_⟩; intro w hSw; (try dsimp only at hSw); obtain ⟨⟨x0, x1, x2, x3, x4, x5, x6, x7, x8⟩, hb7⟩ := hSw; dsimp only at x0 x1 x2 x3 x4 x5 x6 x7 x8; have b0 := (hb7.cell (p := ⟨b, 0, none⟩) hblt).trans hc0; have b1 := (hb7.cell (p := ⟨b, 1, none⟩) hblt).trans hc1; have b2 := (hb7.cell (p := ⟨b, 2, none⟩) hblt).trans hc2; go_simp <;> (try with_reducible rfl))
  try simp only [Act.put, List.setIfInBounds_toArray, List.set_cons_zero, List.set_cons_succ]
  refine wpAnyH_take (i := 14) (oi := ?a14o) (v := ?a14v) ?a14h (by kernel_rfl) (by kernel_rfl) (by kernel_rfl) ?a14q ?a14y hHeld ?a14r
  case a14h => (simp only [List.getElem?_toArray, List.getElem?_cons_succ, List.getElem?_cons_zero]; rfl)
  case a14q => exact fun _ _ _ h => h
  case a14y => (refine Or.inl ⟨by first | kernel_rfl | rfl, ?_⟩; intro w hSw; (try dsimp only at hSw); obtain ⟨⟨x0, x1, x2, x3, x4, x5, x6, x7, x8⟩, hb7⟩ := hSw; dsimp only at x0 x1 x2 x3 x4 x5 x6 x7 x8; have b0 := (hb7.cell (p := ⟨b, 0, none⟩) hblt).trans hc0; have b1 := (hb7.cell (p := ⟨b, 1, none⟩) hblt).trans hc1; have b2 := (hb7.cell (p := ⟨b, 2, none⟩) hblt).trans hc2; go_simp <;> (try with_reducible rfl))
  try simp only [Act.put, List.setIfInBounds_toArray, List.set_cons_zero, List.set_cons_succ]
  refine wpAnyH_take (i := 15) (oi := ?a15o) (v := ?a15v) ?a15h (by kernel_rfl) (by kernel_rfl) (by kernel_rfl) ?a15q ?a15y hHeld ?a15r
  case a15h => (simp only [List.getElem?_toArray, List.getElem?_cons_succ, List.getElem?_cons_zero]; rfl)
  case a15q => exact fun _ _ _ h => h
  case a15y => (refine Or.inl ⟨by first | kernel_rfl | rfl, ?_⟩; intro w hSw; (try dsimp only at hSw); obtain ⟨⟨x0, x1, x2, x3, x4, x5, x6, x7, x8⟩, hb7⟩ := hSw; dsimp only at x0 x1 x2 x3 x4 x5 x6 x7 x8; have b0 := (hb7.cell (p := ⟨b, 0, none⟩) hblt).trans hc0; have b1 := (hb7.cell (p := ⟨b, 1, none⟩) hblt).trans hc1; have b2 := (hb7.cell (p := ⟨b, 2, none⟩) hblt).trans hc2; go_simp <;> (try with_reducible rfl))
  try simp only [Act.put, List.setIfInBounds_toArray, List.set_cons_zero, List.set_cons_succ]
  refine wpAnyH_take (i := 16) (oi := ?a16o) (v := ?a16v) ?a16h (by kernel_rfl) (by kernel_rfl) (by kernel_rfl) ?a16q ?a16y hHeld ?a16r
  case a16h => (simp only [List.getElem?_toArray, List.getElem?_cons_succ, List.getElem?_cons_zero]; rfl)
  case a16q => exact fun _ _ _ h => h
  case a16y => (refine Or.inl ⟨by first | kernel_rfl | rfl, ?_⟩; intro w hSw; (try dsimp only at hSw); obtain ⟨⟨x0, x1, x2, x3, x4, x5, x6, x7, x8⟩, hb7⟩ := hSw; dsimp only at x0 x1 x2 x3 x4 x5 x6 x7 x8; have b0 := (hb7.cell (p := ⟨b, 0, none⟩) hblt).trans hc0; have b1 := (hb7.cell (p := ⟨b, 1, none⟩) hblt).trans hc1; have b2 := (hb7.cell (p := ⟨b, 2, none⟩) hblt).trans hc2; go_simp <;> (try with_reducible rfl))
  try simp only [Act.put, List.setIfInBounds_toArray, List.set_cons_zero, List.set_cons_succ]
  refine wpAnyH_take (i := 17) (oi := ?a17o) (v := ?a17v) ?a17h (by kernel_rfl) (by kernel_rfl) (by kernel_rfl) ?a17q ?a17y hHeld ?a17r
  case a17h => (simp only [List.getElem?_toArray, List.getElem?_cons_succ, List.getElem?_cons_zero]; rfl)
  case a17q => exact fun _ _ _ h => h
  case a17y => (refine Or.inl ⟨by first | kernel_rfl | rfl, ?_⟩; intro w hSw; (try dsimp only at hSw); obtain ⟨⟨x0, x1, x2, x3, x4, x5, x6, x7, x8⟩, hb7⟩ := hSw; dsimp only at x0 x1 x2 x3 x4 x5 x6 x7 x8; have b0 := (hb7.cell (p := ⟨b, 0, none⟩) hblt).trans hc0; have b1 := (hb7.cell (p := ⟨b, 1, none⟩) hblt).trans hc1; have b2 := (hb7.cell (p := ⟨b, 2, none⟩) hblt).trans hc2; go_simp <;> (try with_reducible rfl))
  try simp only [Act.put, List.setIfInBounds_toArray, List.set_cons_zero, List.set_cons_succ]
  refine wpAnyH_take (i := 18) (oi := ?a18o) (v := ?a18v) ?a18h (by kernel_rfl) (by kernel_rfl) (by kernel_rfl) ?a18q ?a18y hHeld ?a18r
  case a18h => (simp only [List.getElem?_toArray, List.getElem?_cons_succ, List.getElem?_cons_zero]; rfl)
  case a18q => exact fun _ _ _ h => h
  case a18y => (refine Or.inl ⟨by first | kernel_rfl | rfl, ?_⟩; intro w hSw; (try dsimp only at hSw); obtain ⟨⟨x0, x1, x2, x3, x4, x5, x6, x7, x8⟩, hb7⟩ := hSw; dsimp only at x0 x1 x2 x3 x4 x5 x6 x7 x8; have b0 := (hb7.cell (p := ⟨b, 0, none⟩) hblt).trans hc0; have b1 := (hb7.cell (p := ⟨b, 1, none⟩) hblt).trans hc1; have b2 := (hb7.cell (p := ⟨b, 2, none⟩) hblt).trans hc2; go_simp <;> (try with_reducible rfl))
  try simp only [Act.put, List.setIfInBounds_toArray, List.set_cons_zero, List.set_cons_succ]
  refine wpAnyH_take (i := 19) (oi := ?a19o) (v := ?a19v) ?a19h (by kernel_rfl) (by kernel_rfl) (by kernel_rfl) ?a19q ?a19y hHeld ?a19r
  case a19h => (simp only [List.getElem?_toArray, List.getElem?_cons_succ, List.getElem?_cons_zero]; rfl)
  case a19q => exact fun _ _ _ h => h
  case a19y => (refine Or.inl ⟨by first | kernel_rfl | rfl, ?_⟩; intro w hSw; (try dsimp only at hSw); obtain ⟨⟨x0, x1, x2, x3, x4, x5, x6, x7, x8⟩, hb7⟩ := hSw; dsimp only at x0 x1 x2 x3 x4 x5 x6 x7 x8; have b0 := (hb7.cell (p := ⟨b, 0, none⟩) hblt).trans hc0; have b1 := (hb7.cell (p := ⟨b, 1, none⟩) hblt).trans hc1; have b2 := (hb7.cell (p := ⟨b, 2, none⟩) hblt).trans hc2; go_simp <;> (try with_reducible rfl))
  try simp only [Act.put, List.setIfInBounds_toArray, List.set_cons_zero, List.set_cons_succ]
  refine wpAnyH_ready (rs := [20]) (by kernel_rfl) (by simp) ?_
  refine (AllReadyH.cons rfl (fun K hK => ?_) AllReadyH.nil)
  go_simp
  (go_at_call 36; (with_reducible refine (kfd _ hHeld.bel).mono ?_); rintro e w4 ⟨rfl, rfl⟩)
  refine hK.out _ _ (hHeld) (fun hHeld => ?_)
  clear hK K
  try simp only [Act.put, List.setIfInBounds_toArray, List.set_cons_zero, List.set_cons_succ]
  refine wpAnyH_take (i := 21) (oi := ?a20o) (v := ?a20v) ?a20h (by kernel_rfl) (by kernel_rfl) (by kernel_rfl) ?a20q ?a20y hHeld ?a20r
  case a20h => (simp only [List.getElem?_toArray, List.getElem?_cons_succ, List.getElem?_cons_zero]; rfl)
  case a20q => exact fun _ _ _ h => h
  case a20y => (refine Or.inl ⟨by first | kernel_rfl | rfl, ?_⟩; intro w hSw; (try dsimp only at hSw); obtain ⟨⟨x0, x1, x2, x3, x4, x5, x6, x7, x8⟩, hb7⟩ := hSw; dsimp only at x0 x1 x2 x3 x4 x5 x6 x7 x8; have b0 := (hb7.cell (p := ⟨b, 0, none⟩) hblt).trans hc0; have b1 := (hb7.cell (p := ⟨b, 1, none⟩) hblt).trans hc1; have b2 := (hb7.cell (p := ⟨b, 2, none⟩) hblt).trans hc2; go_simp <;> (try with_reducible rfl))
  try simp only [Act.put, List.setIfInBounds_toArray, List.set_cons_zero, List.set_cons_succ]
  refine wpAnyH_take (i := 22) (oi := ?a21o) (v := ?a21v) ?a21h (by kernel_rfl) (by kernel_rfl) (by kernel_rfl) ?a21q ?a21y hHeld ?a21r
  case a21h => (simp only [List.getElem?_toArray, List.getElem?_cons_succ, List.getElem?_cons_zero]; rfl)
  case a21q => exact fun _ _ _ h => h
  case a21y => (refine Or.inl ⟨by first | kernel_rfl | rfl, ?_⟩; intro w hSw; (try dsimp only at hSw); obtain ⟨⟨x0, x1, x2, x3, x4, x5, x6, x7, x8⟩, hb7⟩ := hSw; dsimp only at x0 x1 x2 x3 x4 x5 x6 x7 x8; have b0 := (hb7.cell (p := ⟨b, 0, none⟩) hblt).trans hc0; have b1 := (hb7.cell (p := ⟨b, 1, none⟩) hblt).trans hc1; have b2 := (hb7.cell (p := ⟨b, 2, none⟩) hblt).trans hc2; go_simp <;> (try with_reducible rfl))
  try simp only [Act.put, List.setIfInBounds_toArray, List.set_cons_zero, List.set_cons_succ]
  refine wpAnyH_done (by kernel_rfl) ?_ _
  obtain ⟨⟨x0, x1, x2, x3, x4, x5, x6, x7, x8⟩, hb7⟩ := id hHeld
  dsimp only at x0 x1 x2 x3 x4 x5 x6 x7 x8
  clear hb7
  go_wp2_with (go_at_call 37; (with_reducible refine (kd _ hHeld.bel).mono ?_); rintro e w6 ⟨rfl, hb6⟩; (have hHeld := hHeld.later hb6); clear hb6)
  clear x0 x1 x2 x3 x4 x5 x6 x7 x8
  refine wp_region_held_drew (S := (HR w w.heap.size ⟨⟨rk, rs, rt, rv, rtier, ⟨rc, rst, rq⟩, rd⟩, ra, rcc⟩)) (by kernel_rfl) hHeld.drew (fun hHeld => ?_)
  refine wpAnyH_take (i := 0) (oi := ?c1o) (v := ?c1v) ?c1h (by kernel_rfl) (by kernel_rfl) (by kernel_rfl) ?c1q ?c1y hHeld ?c1r
  case c1h => (simp only [List.getElem?_toArray, List.getElem?_cons_zero]; rfl)
  case c1q => exact fun _ _ _ h => h
  case c1y => (refine Or.inl ⟨by first | kernel_rfl | rfl, ?_⟩; intro w hSw; (try dsimp only at hSw); obtain ⟨⟨x0, x1, x2, x3, x4, x5, x6, x7, x8⟩, hb7⟩ := hSw; dsimp only at x0 x1 x2 x3 x4 x5 x6 x7 x8; have b0 := (hb7.cell (p := ⟨b, 0, none⟩) hblt).trans hc0; have b1 := (hb7.cell (p := ⟨b, 1, none⟩) hblt).trans hc1; have b2 := (hb7.cell (p := ⟨b, 2, none⟩) hblt).trans hc2; go_simp <;> (try with_reducible rfl))
  try simp only [Act.put, List.setIfInBounds_toArray, List.set_cons_zero, List.set_cons_succ]
  refine wpAnyH_take (i := 1) (oi := ?c2o) (v := ?c2v) ?c2h (by kernel_rfl) (by kernel_rfl) (by kernel_rfl) ?c2q ?c2y hHeld ?c2r
  case c2h => (simp only [List.getElem?_toArray, List.getElem?_cons_succ, List.getElem?_cons_zero]; rfl)
  case c2q => exact fun _ _ _ h => h
  case c2y => (refine Or.inl ⟨by first | kernel_rfl | rfl, ?_⟩; intro w hSw; (try dsimp only at hSw); obtain ⟨⟨x0, x1, x2, x3, x4, x5, x6, x7, x8⟩, hb7⟩ := hSw; dsimp only at x0 x1 x2 x3 x4 x5 x6 x7 x8; have b0 := (hb7.cell (p := ⟨b, 0, none⟩) hblt).trans hc0; have b1 := (hb7.cell (p := ⟨b, 1, none⟩) hblt).trans hc1; have b2 := (hb7.cell (p := ⟨b, 2, none⟩) hblt).trans hc2; go_simp <;> (try with_reducible rfl))
  try simp only [Act.put, List.setIfInBounds_toArray, List.set_cons_zero, List.set_cons_succ]
  refine wpAnyH_take (i := 2) (oi := ?c3o) (v := ?c3v) ?c3h (by kernel_rfl) (by kernel_rfl) (by kernel_rfl) ?c3q ?c3y hHeld ?c3r
  case c3h => (simp only [List.getElem?_toArray, List.getElem?_cons_succ, List.getElem?_cons_zero]; rfl)
  case c3q => exact fun _ _ _ h => h
  case c3y => (refine Or.inl ⟨by first | kernel_rfl | rfl, ?_⟩; intro w hSw; (try dsimp only at hSw); obtain ⟨⟨x0, x1, x2, x3, x4, x5, x6, x7, x8⟩, hb7⟩ := hSw; dsimp only at x0 x1 x2 x3 x4 x5 x6 x7 x8; have b0 := (hb7.cell (p := ⟨b, 0, none⟩) hblt).trans hc0; have b1 := (hb7.cell (p := ⟨b, 1, none⟩) hblt).trans hc1; have b2 := (hb7.cell (p := ⟨b, 2, none⟩) hblt).trans hc2; go_simp <;> (try with_reducible rfl))
  try simp only [Act.put, List.setIfInBounds_toArray, List.set_cons_zero, List.set_cons_succ]
  refine wpAnyH_take (i := 3) (oi := ?c4o) (v := ?c4v) ?c4h (by kernel_rfl) (by kernel_rfl) (by kernel_rfl) ?c4q ?c4y hHeld ?c4r
  case c4h => (simp only [List.getElem?_toArray, List.getElem?_cons_succ, List.getElem?_cons_zero]; rfl)
  case c4q => exact fun _ _ _ h => h
  case c4y => (refine Or.inl ⟨by first | kernel_rfl | rfl, ?_⟩; intro w hSw; (try dsimp only at hSw); obtain ⟨⟨x0, x1, x2, x3, x4, x5, x6, x7, x8⟩, hb7⟩ := hSw; dsimp only at x0 x1 x2 x3 x4 x5 x6 x7 x8; have b0 := (hb7.cell (p := ⟨b, 0, none⟩) hblt).trans hc0; have b1 := (hb7.cell (p := ⟨b, 1, none⟩) hblt).trans hc1; have b2 := (hb7.cell (p := ⟨b, 2, none⟩) hblt).trans hc2; go_simp <;> (try with_reducible rfl))
  try simp only [Act.put, List.setIfInBounds_toArray, List.set_cons_zero, List.set_cons_succ]
  refine wpAnyH_take (i := 4) (oi := ?c5o) (v := ?c5v) ?c5h (by kernel_rfl) (by kernel_rfl) (by kernel_rfl) ?c5q ?c5y hHeld ?c5r
  case c5h => (simp only [List.getElem?_toArray, List.getElem?_cons_succ, List.getElem?_cons_zero]; rfl)
  case c5q => exact fun _ _ _ h => h
  case c5y => (refine Or.inl ⟨by first | kernel_rfl | rfl, ?_⟩; intro w hSw; (try dsimp only at hSw); obtain ⟨⟨x0, x1, x2, x3, x4, x5, x6, x7, x8⟩, hb7⟩ := hSw; dsimp only at x0 x1 x2 x3 x4 x5 x6 x7 x8; have b0 := (hb7.cell (p := ⟨b, 0, none⟩) hblt).trans hc0; have b1 := (hb7.cell (p := ⟨b, 1, none⟩) hblt).trans hc1; have b2 := (hb7.cell (p := ⟨b, 2, none⟩) hblt).trans hc2; go_simp <;> (try with_reducible rfl))
  try simp only [Act.put, List.setIfInBounds_toArray, List.set_cons_zero, List.set_cons_succ]
  refine wpAnyH_take (i := 5) (oi := ?c6o) (v := ?c6v) ?c6h (by kernel_rfl) (by kernel_rfl) (by kernel_rfl) ?c6q ?c6y hHeld ?c6r
  case c6h => (simp only [List.getElem?_toArray, List.getElem?_cons_succ, List.getElem?_cons_zero]; rfl)
  case c6q => exact fun _ _ _ h => h
  case c6y => (refine Or.inl ⟨by first | kernel_rfl | rfl, ?_⟩; intro w hSw; (try dsimp only at hSw); obtain ⟨⟨x0, x1, x2, x3, x4, x5, x6, x7, x8⟩, hb7⟩ := hSw; dsimp only at x0 x1 x2 x3 x4 x5 x6 x7 x8; have b0 := (hb7.cell (p := ⟨b, 0, none⟩) hblt).trans hc0; have b1 := (hb7.cell (p := ⟨b, 1, none⟩) hblt).trans hc1; have b2 := (hb7.cell (p := ⟨b, 2, none⟩) hblt).trans hc2; go_simp <;> (try with_reducible rfl))
  try simp only [Act.put, List.setIfInBounds_toArray, List.set_cons_zero, List.set_cons_succ]
  refine wpAnyH_take (i := 6) (oi := ?c7o) (v := ?c7v) ?c7h (by kernel_rfl) (by kernel_rfl) (by kernel_rfl) ?c7q ?c7y hHeld ?c7r
  case c7h => (simp only [List.getElem?_toArray, List.getElem?_cons_succ, List.getElem?_cons_zero]; rfl)
  case c7q => exact fun _ _ _ h => h
  case c7y => (refine Or.inl ⟨by first | kernel_rfl | rfl, ?_⟩; intro w hSw; (try dsimp only at hSw); obtain ⟨⟨x0, x1, x2, x3, x4, x5, x6, x7, x8⟩, hb7⟩ := hSw; dsimp only at x0 x1 x2 x3 x4 x5 x6 x7 x8; have b0 := (hb7.cell (p := ⟨b, 0, none⟩) hblt).trans hc0; have b1 := (hb7.cell (p := ⟨b, 1, none⟩) hblt).trans hc1; have b2 := (hb7.cell (p := ⟨b, 2, none⟩) hblt).trans hc2; go_simp <;> (try with_reducible rfl))
  try simp only [Act.put, List.setIfInBounds_toArray, List.set_cons_zero, List.set_cons_succ]
  refine wpAnyH_take (i := 7) (oi := ?c8o) (v := ?c8v) ?c8h (by kernel_rfl) (by kernel_rfl) (by kernel_rfl) ?c8q ?c8y hHeld ?c8r
  case c8h => (simp only [List.getElem?_toArray, List.getElem?_cons_succ, List.getElem?_cons_zero]; rfl)
  case c8q => exact fun _ _ _ h => h
  case c8y => (refine Or.inl ⟨by first | kernel_rfl | rfl, ?_⟩; intro w hSw; (try dsimp only at hSw); obtain ⟨⟨x0, x1, x2, x3, x4, x5, x6, x7, x8⟩, hb7⟩ := hSw; dsimp only at x0 x1 x2 x3 x4 x5 x6 x7 x8; have b0 := (hb7.cell (p := ⟨b, 0, none⟩) hblt).trans hc0; have b1 := (hb7.cell (p := ⟨b, 1, none⟩) hblt).trans hc1; have b2 := (hb7.cell (p := ⟨b, 2, none⟩) hblt).trans hc2; go_simp <;> (try with_reducible rfl))
  try simp only [Act.put, List.setIfInBounds_toArray, List.set_cons_zero, List.set_cons_succ]
  refine wpAnyH_take (i := 8) (oi := ?c9o) (v := ?c9v) ?c9h (by kernel_rfl) (by kernel_rfl) (by kernel_rfl) ?c9q ?c9y hHeld ?c9r
  case c9h => (simp only [List.getElem?_toArray, List.getElem?_cons_succ, List.getElem?_cons_zero]; rfl)
  case c9q => exact fun _ _ _ h => h
  case c9y => (refine Or.inl ⟨by first | kernel_rfl | rfl, ?_⟩; intro w hSw; (try dsimp only at hSw); obtain ⟨⟨x0, x1, x2, x3, x4, x5, x6, x7, x8⟩, hb7⟩ := hSw; dsimp only at x0 x1 x2 x3 x4 x5 x6 x7 x8; have b0 := (hb7.cell (p := ⟨b, 0, none⟩) hblt).trans hc0; have b1 := (hb7.cell (p := ⟨b, 1, none⟩) hblt).trans hc1; have b2 := (hb7.cell (p := ⟨b, 2, none⟩) hblt).trans hc2; go_simp <;> (try with_reducible rfl))
  try simp only [Act.put, List.setIfInBounds_toArray, List.set_cons_zero, List.set_cons_succ]
  refine wpAnyH_take (i := 9) (oi := ?c10o) (v := ?c10v) ?c10h (by kernel_rfl) (by kernel_rfl) (by kernel_rfl) ?c10q ?c10y hHeld ?c10r
  case c10h => (simp only [List.getElem?_toArray, List.getElem?_cons_succ, List.getElem?_cons_zero]; rfl)
  case c10q => exact fun _ _ _ h => h
  case c10y => (refine Or.inl ⟨by first | kernel_rfl | rfl, ?_⟩; intro w hSw; (try dsimp only at hSw); obtain ⟨⟨x0, x1, x2, x3, x4, x5, x6, x7, x8⟩, hb7⟩ := hSw; dsimp only at x0 x1 x2 x3 x4 x5 x6 x7 x8; have b0 := (hb7.cell (p := ⟨b, 0, none⟩) hblt).trans hc0; have b1 := (hb7.cell (p := ⟨b, 1, none⟩) hblt).trans hc1; have b2 := (hb7.cell (p := ⟨b, 2, none⟩) hblt).trans hc2; go_simp <;> (try with_reducible rfl))
  try simp only [Act.put, List.setIfInBounds_toArray, List.set_cons_zero, List.set_cons_succ]
  refine wpAnyH_take (i := 10) (oi := ?c11o) (v := ?c11v) ?c11h (by kernel_rfl) (by kernel_rfl) (by kernel_rfl) ?c11q ?c11y hHeld ?c11r
  case c11h => (simp only [List.getElem?_toArray, List.getElem?_cons_succ, List.getElem?_cons_zero]; rfl)
  case c11q => exact fun _ _ _ h => h
  case c11y => (refine Or.inl ⟨by first | kernel_rfl | rfl, ?_⟩; intro w hSw; (try dsimp only at hSw); obtain ⟨⟨x0, x1, x2, x3, x4, x5, x6, x7, x8⟩, hb7⟩ := hSw; dsimp only at x0 x1 x2 x3 x4 x5 x6 x7 x8; have b0 := (hb7.cell (p := ⟨b, 0, none⟩) hblt).trans hc0; have b1 := (hb7.cell (p := ⟨b, 1, none⟩) hblt).trans hc1; have b2 := (hb7.cell (p := ⟨b, 2, none⟩) hblt).trans hc2; go_simp <;> (try with_reducible rfl))
  try simp only [Act.put, List.setIfInBounds_toArray, List.set_cons_zero, List.set_cons_succ]
  refine wpAnyH_take (i := 11) (oi := ?c12o) (v := undef) ?c12h (by kernel_rfl) (by kernel_rfl) (by kernel_rfl) ?c12q ?c12y hHeld ?c12r
  case c12h => (simp only [List.getElem?_toArray, List.getElem?_cons_succ, List.getElem?_cons_zero]; rfl)
  case c12q => exact fun _ _ _ h => h
  case c12y => exact Or.inr ⟨by first | kernel_rfl | rfl, rfl⟩
  try simp only [Act.put, List.setIfInBounds_toArray, List.set_cons_zero, List.set_cons_succ]
  refine wpAnyH_take (i := 12) (oi := ?c13o) (v := undef) ?c13h (by kernel_rfl) (by kernel_rfl) (by kernel_rfl) ?c13q ?c13y hHeld ?c13r
  case c13h => (simp only [List.getElem?_toArray, List.getElem?_cons_succ, List.getElem?_cons_zero]; rfl)
  case c13q => exact fun _ _ _ h => h
  case c13y => exact Or.inr ⟨by first | kernel_rfl | rfl, rfl⟩
  try simp only [Act.put, List.setIfInBounds_toArray, List.set_cons_zero, List.set_cons_succ]
  refine wpAnyH_take (i := 13) (oi := ?c14o) (v := ?c14v) ?c14h (by kernel_rfl) (by kernel_rfl) (by kernel_rfl) ?c14q ?c14y hHeld ?c14r
  case c14h => (simp only [List.getElem?_toArray, List.getElem?_cons_succ, List.getElem?_cons_zero]; rfl)
  case c14q => exact fun _ _ _ h => h
  case c14y => (refine Or.inl ⟨by first | kernel_rfl | rfl, ?_⟩; intro w hSw; (try dsimp only at hSw); obtain ⟨⟨x0, x1, x2, x3, x4, x5, x6, x7, x8⟩, hb7⟩ := hSw; dsimp only at x0 x1 x2 x3 x4 x5 x6 x7 x8; have b0 := (hb7.cell (p := ⟨b, 0, none⟩) hblt).trans hc0; have b1 := (hb7.cell (p := ⟨b, 1, none⟩) hblt).trans hc1; have b2 := (hb7.cell (p := ⟨b, 2, none⟩) hblt).trans hc2; go_simp <;> (try with_reducible rfl))
  try simp only [Act.put, List.setIfInBounds_toArray, List.set_cons_zero, List.set_cons_succ]
  refine wpAnyH_done (by kernel_rfl) ?_ _
  go_upto_region 8 with fail
  obtain ⟨wD, hwD⟩ : ∃ x, x = w6.drew := ⟨_, rfl⟩
  rw [← hwD] at hHeld ⊢
  clear hwD
  obtain ⟨⟨x0, x1, x2, x3, x4, x5, x6, x7, x8⟩, hb7⟩ := id hHeld
  dsimp only at x0 x1 x2 x3 x4 x5 x6 x7 x8
  have hH9 := HH.out.later hb7.drew
  have hal := (Below.refl _ wD.drew).alloc (Nat.le_refl _) (.cells #[.int .i64 rk, .string rs, .int .i64 rt, .int .i64 rv, .int .i64 rtier, .int .i64 rc, .int .i64 rst, .int .i64 rq, .slice ra rd.length rcc] 33)
  obtain ⟨a5, c5, w5, hrun, hrow, hgr, hnew⟩ := ORow.app (w := wD.drew.alloc (.cells #[.int .i64 rk, .string rs, .int .i64 rt, .int .i64 rv, .int .i64 rtier, .int .i64 rc, .int .i64 rst, .int .i64 rq, .slice ra rd.length rcc] 33)) (B := B) (r := ln) (N := wD.drew.heap.size) (zs := zs) (v := .slice a2 ln c2) (y := ⟨⟨rk, rs, rt, rv, rtier, ⟨rc, rst, rq⟩, rd⟩, ra, rcc⟩) 43 HLZ.out (by have h7 := hH9.row.later hal; rw [HLZ.out] at h7; exact h7) (R9.new wD.drew ⟨⟨rk, rs, rt, rv, rtier, ⟨rc, rst, rq⟩, rd⟩, ra, rcc⟩) (by have h1 := HL4.out; omega) (by have h1 := HBB.out; have h2 := hb7.size; simp; omega)
  have b2 := (hb7.cell (p := ⟨b, 2, none⟩) hblt).trans hc2
  have HD5 := Lib.hid (HH.out.put HBB.out ⟨⟨rk, rs, rt, rv, rtier, ⟨rc, rst, rq⟩, rd⟩, ra, rcc⟩ HGD.out (bel_new hb7.drew (.cells #[.int .i64 rk, .string rs, .int .i64 rt, .int .i64 rv, .int .i64 rtier, .int .i64 rc, .int .i64 rst, .int .i64 rq, .slice ra rd.length rcc] 33)) hrow (by rw [HLZ.out]; exact hgr) (by rw [HLZ.out]; exact hnew) (Ns.later HN.out (bel_new hb7.drew (.cells #[.int .i64 rk, .string rs, .int .i64 rt, .int .i64 rv, .int .i64 rtier, .int .i64 rc, .int .i64 rst, .int .i64 rq, .slice ra rd.length rcc] 33))) HOWN.out)
  have hs5 : b < w5.heap.size := Nat.lt_of_lt_of_le (Nat.lt_of_lt_of_le hblt (bel_new hb7.drew (.cells #[.int .i64 rk, .string rs, .int .i64 rt, .int .i64 rv, .int .i64 rtier, .int .i64 rc, .int .i64 rst, .int .i64 rq, .slice ra rd.length rcc] 33)).size) hgr.size
  have f5 : w5.frozen? ⟨b, 2, none⟩ = false := Joins.unfrozen_of_block HD5.out.1 _
  have hob := HD5.out.1
  have c25 : w5.cell? ⟨b, 2, none⟩ = some (.slice a2 ln c2) := by rw [Joins.cell_of_block hob]; rw [← HLZ.out]; rfl
  have hXd := R9.later hHeld.nine (Below.refl wD.heap.size wD).drew
  have HBw := hb7
  have c23 : wD.drew.cell? ⟨b, 2, none⟩ = some (.slice a2 ln c2) := (HBw.drew.cell (p := ⟨b, 2, none⟩) hblt).trans hc2
  have c24 : (wD.drew.alloc (.cells #[.int .i64 rk, .string rs, .int .i64 rt, .int .i64 rv, .int .i64 rtier, .int .i64 rc, .int .i64 rst, .int .i64 rq, .slice ra rd.length rcc] 33)).cell? ⟨b, 2, none⟩ = some (.slice a2 ln c2) := ((bel_new HBw.drew (.cells #[.int .i64 rk, .string rs, .int .i64 rt, .int .i64 rv, .int .i64 rtier, .int .i64 rc, .int .i64 rst, .int .i64 rq, .slice ra rd.length rcc] 33)).cell (p := ⟨b, 2, none⟩) hblt).trans hc2
  have c27 : (wD.alloc (.cells #[.int .i64 rk, .string rs, .int .i64 rt, .int .i64 rv, .int .i64 rtier, .int .i64 rc, .int .i64 rst, .int .i64 rq, .slice ra rd.length rcc] 33)).cell? ⟨b, 2, none⟩ = some (.slice a2 ln c2) := ((bel_new HBw (.cells #[.int .i64 rk, .string rs, .int .i64 rt, .int .i64 rv, .int .i64 rtier, .int .i64 rc, .int .i64 rst, .int .i64 rq, .slice ra rd.length rcc] 33)).cell (p := ⟨b, 2, none⟩) hblt).trans hc2
  have hv5 : (Value.slice a2 ln c2).ownBlock ≠ some w.heap.size := fun e => by
    have h8 := HH.out.vF w.heap.size (by rw [HLZ.out]; exact e)
    have h9 := (HH.out.fp _ h8.1).2
    omega
  have HXd := Lib.hid hXd
  have HXa := Lib.hid (R9.later hXd hal)
  have hX5 := R9.other (R9.later hXd hal) (hgr.block _ (R9.later hXd hal).room (fun e => hv5 e.symm))
  have HX5 := Lib.hid hX5
  have HX6 := Lib.hid (R9.other hX5 (World.heap_setCell_off w5 b 2 (.slice a5 (ln + 1) c5) w.heap.size (by omega)))
  clear hH9 hal hrow hgr hnew hb7 hHeld hob hXd hX5 hv5 HBw
  refine wp_region_held_drew (S := (fun X : World => R9 X w.heap.size 0 ⟨⟨rk, rs, rt, rv, rtier, ⟨rc, rst, rq⟩, rd⟩, ra, rcc⟩)) (by kernel_rfl) HXd.out (fun hHeld => ?_)
  refine wpAnyH_take (i := 0) (oi := ?h1o) (v := ?h1v) ?h1h (by kernel_rfl) (by kernel_rfl) (by kernel_rfl) ?h1q ?h1y hHeld ?h1r
  case h1h => (simp only [List.getElem?_toArray, List.getElem?_cons_zero]; rfl)
  case h1q => exact fun _ _ _ h => h
  case h1y => (refine Or.inl ⟨by first | kernel_rfl | rfl, ?_⟩; intro w hSw; (try dsimp only at hSw); obtain ⟨q0, q1, q2, q3, q4, q5, q6, q7, q8⟩ := hSw; dsimp only at q0 q1 q2 q3 q4 q5 q6 q7 q8; go_simp <;> (try with_reducible rfl))
  try simp only [Act.put, List.setIfInBounds_toArray, List.set_cons_zero, List.set_cons_succ]
  refine wpAnyH_take (i := 1) (oi := ?h2o) (v := ?h2v) ?h2h (by kernel_rfl) (by kernel_rfl) (by kernel_rfl) ?h2q ?h2y hHeld ?h2r
  case h2h => (simp only [List.getElem?_toArray, List.getElem?_cons_succ, List.getElem?_cons_zero]; rfl)
  case h2q => exact fun _ _ _ h => h
  case h2y => (refine Or.inl ⟨by first | kernel_rfl | rfl, ?_⟩; intro w hSw; (try dsimp only at hSw); obtain ⟨q0, q1, q2, q3, q4, q5, q6, q7, q8⟩ := hSw; dsimp only at q0 q1 q2 q3 q4 q5 q6 q7 q8; go_simp <;> (try with_reducible rfl))
  try simp only [Act.put, List.setIfInBounds_toArray, List.set_cons_zero, List.set_cons_succ]
  refine wpAnyH_take (i := 2) (oi := ?h3o) (v := ?h3v) ?h3h (by kernel_rfl) (by kernel_rfl) (by kernel_rfl) ?h3q ?h3y hHeld ?h3r
  case h3h => (simp only [List.getElem?_toArray, List.getElem?_cons_succ, List.getElem?_cons_zero]; rfl)
  case h3q => exact fun _ _ _ h => h
  case h3y => (refine Or.inl ⟨by first | kernel_rfl | rfl, ?_⟩; intro w hSw; (try dsimp only at hSw); obtain ⟨q0, q1, q2, q3, q4, q5, q6, q7, q8⟩ := hSw; dsimp only at q0 q1 q2 q3 q4 q5 q6 q7 q8; go_simp <;> (try with_reducible rfl))
  try simp only [Act.put, List.setIfInBounds_toArray, List.set_cons_zero, List.set_cons_succ]
  refine wpAnyH_take (i := 3) (oi := ?h4o) (v := ?h4v) ?h4h (by kernel_rfl) (by kernel_rfl) (by kernel_rfl) ?h4q ?h4y hHeld ?h4r
  case h4h => (simp only [List.getElem?_toArray, List.getElem?_cons_succ, List.getElem?_cons_zero]; rfl)
  case h4q => exact fun _ _ _ h => h
  case h4y => (refine Or.inl ⟨by first | kernel_rfl | rfl, ?_⟩; intro w hSw; (try dsimp only at hSw); obtain ⟨q0, q1, q2, q3, q4, q5, q6, q7, q8⟩ := hSw; dsimp only at q0 q1 q2 q3 q4 q5 q6 q7 q8; go_simp <;> (try with_reducible rfl))
  try simp only [Act.put, List.setIfInBounds_toArray, List.set_cons_zero, List.set_cons_succ]
  refine wpAnyH_take (i := 5) (oi := ?h5o) (v := ?h5v) ?h5h (by kernel_rfl) (by kernel_rfl) (by kernel_rfl) ?h5q ?h5y hHeld ?h5r
  case h5h => (simp only [List.getElem?_toArray, List.getElem?_cons_succ, List.getElem?_cons_zero]; rfl)
  case h5q => exact fun _ _ _ h => h
  case h5y => (refine Or.inl ⟨by first | kernel_rfl | rfl, ?_⟩; intro w hSw; (try dsimp only at hSw); obtain ⟨q0, q1, q2, q3, q4, q5, q6, q7, q8⟩ := hSw; dsimp only at q0 q1 q2 q3 q4 q5 q6 q7 q8; go_simp <;> (try with_reducible rfl))
  try simp only [Act.put, List.setIfInBounds_toArray, List.set_cons_zero, List.set_cons_succ]
  refine wpAnyH_ready (rs := [4, 6]) (by kernel_rfl) (by simp) ?_
  refine (AllReadyH.cons rfl (fun K hK => ?_) (AllReadyH.cons rfl (fun K hK => ?_) AllReadyH.nil))
  ·
    go_simp
    skip
    refine hK.out _ _ (hHeld) (fun hHeld => ?_)
    clear hK K
    try simp only [Act.put, List.setIfInBounds_toArray, List.set_cons_zero, List.set_cons_succ]
    refine wpAnyH_ready (rs := [6]) (by kernel_rfl) (by simp) ?_
    refine (AllReadyH.cons rfl (fun K hK => ?_) AllReadyH.nil)
    go_simp
    skip
    refine hK.out _ _ (HXa.out) (fun hHeld => ?_)
    clear hK K
    try simp only [Act.put, List.setIfInBounds_toArray, List.set_cons_zero, List.set_cons_succ]
    refine wpAnyH_ready (rs := [7]) (by kernel_rfl) (by simp) ?_
    refine (AllReadyH.cons rfl (fun K hK => ?_) AllReadyH.nil)
    refine (if_pos (by kernel_rfl)).mpr ?_
    refine Lib.wp_append_run _ _ _ _ _ rfl _ _ rfl rfl _ _ hrun ?_
    refine hK.out _ _ (HX5.out) (fun hHeld => ?_)
    clear hK K
    try simp only [Act.put, List.setIfInBounds_toArray, List.set_cons_zero, List.set_cons_succ]
    refine wpAnyH_take (i := 8) (oi := ?h6o) (v := ?h6v) ?h6h (by kernel_rfl) (by kernel_rfl) (by kernel_rfl) ?h6q ?h6y hHeld ?h6r
    case h6h => (simp only [List.getElem?_toArray, List.getElem?_cons_succ, List.getElem?_cons_zero]; rfl)
    case h6q => exact fun _ _ _ h => h
    case h6y => (refine Or.inl ⟨by first | kernel_rfl | rfl, ?_⟩; intro w hSw; (try dsimp only at hSw); obtain ⟨q0, q1, q2, q3, q4, q5, q6, q7, q8⟩ := hSw; dsimp only at q0 q1 q2 q3 q4 q5 q6 q7 q8; go_simp <;> (try with_reducible rfl))
    try simp only [Act.put, List.setIfInBounds_toArray, List.set_cons_zero, List.set_cons_succ]
    refine wpAnyH_take (i := 9) (oi := ?h7o) (v := ?h7v) ?h7h (by kernel_rfl) (by kernel_rfl) (by kernel_rfl) ?h7q ?h7y hHeld ?h7r
    case h7h => (simp only [List.getElem?_toArray, List.getElem?_cons_succ, List.getElem?_cons_zero]; rfl)
    case h7q => exact fun _ _ _ h => h
    case h7y => (refine Or.inl ⟨by first | kernel_rfl | rfl, ?_⟩; intro w hSw; (try dsimp only at hSw); obtain ⟨q0, q1, q2, q3, q4, q5, q6, q7, q8⟩ := hSw; dsimp only at q0 q1 q2 q3 q4 q5 q6 q7 q8; go_simp <;> (try with_reducible rfl))
    try simp only [Act.put, List.setIfInBounds_toArray, List.set_cons_zero, List.set_cons_succ]
    refine wpAnyH_ready (rs := [10]) (by kernel_rfl) (by simp) ?_
    refine (AllReadyH.cons rfl (fun K hK => ?_) AllReadyH.nil)
    go_simp
    skip
    refine hK.out _ _ (HX6.out) (fun hHeld => ?_)
    clear hK K
    try simp only [Act.put]
    refine wpAnyH_done (by kernel_rfl) ?_ _
    go_wp2
    go_ret
    exact ⟨(by rw [HE.out]; rfl), by rw [HS.out]; exact ⟨_, _, HD5.out.2.1⟩, HD5.out.2.2⟩
  ·
    go_simp
    skip
    refine hK.out _ _ (HXa.out) (fun hHeld => ?_)
    clear hK K
    try simp only [Act.put, List.setIfInBounds_toArray, List.set_cons_zero, List.set_cons_succ]
    refine wpAnyH_ready (rs := [4]) (by kernel_rfl) (by simp) ?_
    refine (AllReadyH.cons rfl (fun K hK => ?_) AllReadyH.nil)
    go_simp
    skip
    refine hK.out _ _ (hHeld) (fun hHeld => ?_)
    clear hK K
    try simp only [Act.put, List.setIfInBounds_toArray, List.set_cons_zero, List.set_cons_succ]
    refine wpAnyH_ready (rs := [7]) (by kernel_rfl) (by simp) ?_
    refine (AllReadyH.cons rfl (fun K hK => ?_) AllReadyH.nil)
    refine (if_pos (by kernel_rfl)).mpr ?_
    refine Lib.wp_append_run _ _ _ _ _ rfl _ _ rfl rfl _ _ hrun ?_
    refine hK.out _ _ (HX5.out) (fun hHeld => ?_)
    clear hK K
    try simp only [Act.put, List.setIfInBounds_toArray, List.set_cons_zero, List.set_cons_succ]
    refine wpAnyH_take (i := 8) (oi := ?h8o) (v := ?h8v) ?h8h (by kernel_rfl) (by kernel_rfl) (by kernel_rfl) ?h8q ?h8y hHeld ?h8r
    case h8h => (simp only [List.getElem?_toArray, List.getElem?_cons_succ, List.getElem?_cons_zero]; rfl)
    case h8q => exact fun _ _ _ h => h
    case h8y => (refine Or.inl ⟨by first | kernel_rfl | rfl, ?_⟩; intro w hSw; (try dsimp only at hSw); obtain ⟨q0, q1, q2, q3, q4, q5, q6, q7, q8⟩ := hSw; dsimp only at q0 q1 q2 q3 q4 q5 q6 q7 q8; go_simp <;> (try with_reducible rfl))
    try simp only [Act.put, List.setIfInBounds_toArray, List.set_cons_zero, List.set_cons_succ]
    refine wpAnyH_take (i := 9) (oi := ?h9o) (v := ?h9v) ?h9h (by kernel_rfl) (by kernel_rfl) (by kernel_rfl) ?h9q ?h9y hHeld ?h9r
    case h9h => (simp only [List.getElem?_toArray, List.getElem?_cons_succ, List.getElem?_cons_zero]; rfl)
    case h9q => exact fun _ _ _ h => h
    case h9y => (refine Or.inl ⟨by first | kernel_rfl | rfl, ?_⟩; intro w hSw; (try dsimp only at hSw); obtain ⟨q0, q1, q2, q3, q4, q5, q6, q7, q8⟩ := hSw; dsimp only at q0 q1 q2 q3 q4 q5 q6 q7 q8; go_simp <;> (try with_reducible rfl))
    try simp only [Act.put, List.setIfInBounds_toArray, List.set_cons_zero, List.set_cons_succ]
    refine wpAnyH_ready (rs := [10]) (by kernel_rfl) (by simp) ?_
    refine (AllReadyH.cons rfl (fun K hK => ?_) AllReadyH.nil)
    go_simp
    skip
    refine hK.out _ _ (HX6.out) (fun hHeld => ?_)
    clear hK K
    try simp only [Act.put]
    refine wpAnyH_done (by kernel_rfl) ?_ _
    go_wp2
    go_ret
    exact ⟨(by rw [HE.out]; rfl), by rw [HS.out]; exact ⟨_, _, HD5.out.2.1⟩, HD5.out.2.2⟩
theorem eoffer_is {w : World} {B b : Nat} {ov v : Value} {zs : List Rd} {S : CS} {F : Nat → Prop} (h : EbAt w B b ov v zs S F) (hB : B ≤ w.heap.size) (x : Rd) (hN : Ns w x.dv x.r.d) (hf : x.r.fits) (ho : x.r.d ≠ [] → ∀ q, x.dv.ownBlock = some q → q < B) : Calls Try.prog 17 #[.pointer (some ⟨b, 0, none⟩), recV x.r x.dv] w (EOffDone w B b ov S F x.r) := by
  cases hx : x.r.ok with
  | false => exact eoffer_bad h hB x hN hf ho hx
  | true =>
    by_cases hq : x.r.st.q < atL S.out x.r.st.s + 1
    · exact eoffer_seq h hB x hN hf ho hx hq
    · cases hh : hasB S.L x.r.st.s x.r.st.q with
      | true => exact eoffer_has h hB x hN hf ho hx hq hh
      | false =>
        by_cases hr : S.room ≤ (S.L.length : Int)
        · cases hd : dueB S x.r with
          | false => exact eoffer_full h hB x hN hf ho hx hq hh hr hd
          | true => exact eoffer_due h hB x hN hf ho hx hq hh hr hd
        · exact eoffer_room h hB x hN hf ho hx hq hh hr
end Go.Proofs.Ythifmfgnblecbaa.Og.Cb
