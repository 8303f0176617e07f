/- The chapter's examples hold. -/
import Derived.Test.YtcjcbbpolhpphaaQuSide
set_option maxRecDepth 20000
set_option linter.unusedSimpArgs false
set_option linter.unusedVariables false
namespace Go.Proofs.Ytcjcbbpolhpphaa.Qu
open Go.RowKit Go.Proofs.Ytcjcbbpolhpphaa.Vi

theorem newW_at (need : Int) (v : Value) (l : List Int) (w : World) (h : Ns w v l) (hok : -9223372036854775808 ≤ need ∧ need ≤ 9223372036854775807) : Calls Try.prog 10 #[.int .i64 need, v] w fun e w' => ∃ b, e = .returned (.pointer (some ⟨b, 0, none⟩)) ∧ WAt w' b 64 (newS need l) ∧ w.heap.size ≤ b ∧ Below w.heap.size w w' := by
  refine (newW_is need v l w h).mono ?_
  rintro e w' ⟨rfl, hN⟩
  exact ⟨_, rfl, hN.at_ hok, Nat.le_refl _, hN.bel⟩
theorem newR_at (need : Int) (v : Value) (l : List Int) (w : World) (h : Ns w v l) (hok : -9223372036854775808 ≤ need ∧ need ≤ 9223372036854775807) : Calls Try.prog 19 #[.int .i64 need, v] w fun e w' => ∃ b, e = .returned (.pointer (some ⟨b, 0, none⟩)) ∧ RdAt w' w.heap.size b (newR need l) ∧ Below w.heap.size w w' := by
  refine (newR_is need v l w h).mono ?_
  rintro e w' ⟨b, rfl, hN⟩
  exact ⟨_, rfl, hN.rd hok (Nat.le_refl _), hN.bel⟩
structure AW (w0 W : World) (bw br B : Nat) (S : QS) (R : RS) : Prop where
  wat : WAt W bw 64 S
  rat : RdAt W B br R
  bel : Below w0.heap.size w0 W
  hB : B ≤ W.heap.size
  lo : w0.heap.size ≤ B
  low : w0.heap.size ≤ bw
theorem AW.later {w0 W W' : World} {bw br B : Nat} {S : QS} {R : RS} (h : AW w0 W bw br B S R) (k : Below W.heap.size W W') : AW w0 W' bw br B S R :=
  ⟨h.wat.later k, h.rat.later k, bel_next h.bel k, Nat.le_trans h.hB k.size, h.lo, h.low⟩
theorem AW.ack {w0 W : World} {bw br B : Nat} {S : QS} {R : RS} (h : AW w0 W bw br B S R) (n : Int) : AW w0 (hearW W bw S n) bw br B (hearS S n) R :=
  ⟨h.wat.hear n, h.rat.beside_w h.wat n, h.bel.trans (hearW_below h.low n), by rw [hearW_size]; exact h.hB, h.lo, h.low⟩
theorem AW.ans {w0 W W' : World} {bw br B : Nat} {S : QS} {R : RS} {n : Int} {l : List Pt} (h : AW w0 W bw br B S R) (hr : RdAt W' B br (ansS R n l)) (k : ButP (rmods W br) W W') : AW w0 W' bw br B S (ansS R n l) :=
  ⟨h.wat.beside_r h.rat k, hr, h.bel.trans ((h.rat.below k h.hB).mono h.lo), Nat.le_trans h.hB k.size, h.lo, h.low⟩
def aS1 : QS := newS 2 [1, 2, 3]
def aS2 : QS := hearS aS1 1
def aS3 : QS := hearS aS2 1
def aS4 : QS := hearS aS3 5
def aS5 : QS := hearS aS4 3
def aR1 : RS := newR 2 [1, 2]
def aR2 : RS := ansS aR1 1 [ptQ 5 1]
def aR3 : RS := ansS aR2 2 [ptQ 5 2]
theorem aw1 : hearB aS1 1 = true := by decide +kernel
theorem aw2 : hearB aS2 1 = false := by decide +kernel
theorem aw3 : hearB aS3 5 = false := by decide +kernel
theorem aw4 : hearB aS4 3 = true := by decide +kernel
theorem aw5 : doneB aS5 = true := by decide +kernel
theorem aw6 : hearB aR1.S 1 = true := by decide +kernel
theorem aw7 : hearB aR2.S 2 = true := by decide +kernel
theorem aw8 : mrgL aR3 = [ptQ 5 2] := by decide +kernel
theorem aw9 : rprL aR3 1 = [ptQ 5 2] := by decide +kernel
theorem aw10 : doneB aR3.S = true := by decide +kernel
theorem lst_pt {w : World} {B c : Nat} {a : Option Addr} {p : Pt} (h : Lst w B a c [p]) : ∃ g o, a = some ⟨g, o, none⟩ ∧ g < B ∧ PtO w g o p := by
  rcases h.pts.at_ with h | ⟨g, o, e, hg, hc⟩
  · cases h
  · exact ⟨g, o, e, hg, hc 0 (by simp)⟩
theorem pt_keep {w w' : World} {g o : Nat} {p : Pt} (h : PtO w g o p) (k : Below w.heap.size w w') : PtO w' g o p := h.below k h.room
set_option maxHeartbeats 16000000 in
theorem awake_is (w : World) : Calls Try.prog 8 #[] w fun e w' => e = .returned (.bool true) ∧ Below w.heap.size w w' := by
  have l3 : ∀ W : World, Ns (W.alloc (.cells #[.int .i64 1, .int .i64 2, .int .i64 3] 3)) (.slice (some ⟨W.heap.size, 0, none⟩) 3 3) [1, 2, 3] := fun W => lit_ns W [1, 2, 3] (by decide) (by decide)
  have l2 : ∀ W : World, Ns (W.alloc (.cells #[.int .i64 1, .int .i64 2] 3)) (.slice (some ⟨W.heap.size, 0, none⟩) 2 2) [1, 2] := fun W => lit_ns W [1, 2] (by decide) (by decide)
  have k1 := fun W => newW_at 2 _ [1, 2, 3] _ (l3 W) (by decide)
  have k2 := fun W => newR_at 2 _ [1, 2] _ (l2 W) (by decide)
  have hal3 := Lib.hid ((Below.refl w.heap.size w).alloc (Nat.le_refl _) (.cells #[.int .i64 1, .int .i64 2, .int .i64 3] 3))
  have p1 := fun W => pointq_is 5 1 W (by omega)
  have p2 := fun W => pointq_is 5 2 W (by omega)
  have o1 : ∀ W : World, _ := fun W => lst_one W (ptQ 5 1)
  have o2 : ∀ W : World, _ := fun W => lst_one W (ptQ 5 2)
  have m1 := fun W => meet_is 3 2 2 W (by omega)
  have m2 := fun W => meet_is 3 1 2 W (by omega)
  rw [show meetB 3 2 2 = true by decide] at m1
  rw [show meetB 3 1 2 = false by decide] at m2
  have heq := fun W => eql_run6 (ptQ 5 2) (ptQ 5 2) W
  rw [show (ptQ 5 2).same (ptQ 5 2) = true by decide] at heq
  unfold ptV ptQ at p1 p2 heq
  unfold ptQ at o1 o2
  dsimp only at p1 p2 o1 o2 heq
  have O1 := Lib.hid o1
  have O2 := Lib.hid o2
  clear o1 o2 l2 l3
  go_enter Try.func8, Try.ntmps8
  go_upto_region 2 with (go_at_call 10; (with_reducible refine (k1 _).mono ?_); rintro e w1 ⟨bw, rfl, hW, hlo, hb1⟩; (have HW := Lib.hid hW); (have HB1 := Lib.hid (hal3.out.trans (hb1.mono (by simp)))); (have HLO := Lib.hid (show w.heap.size ≤ bw from Nat.le_trans hal3.out.size hlo)); clear hW hb1 k1 hlo)
  have hal2 := Lib.hid ((Below.refl w1.heap.size w1).alloc (Nat.le_refl _) (.cells #[.int .i64 1, .int .i64 2] 3))
  go_upto_region 5 with (go_at_call 19; (with_reducible refine (k2 _).mono ?_); rintro e w2 ⟨br, rfl, hR, hb2⟩; (have HA2 := Lib.hid (show AW w w2 bw br (w1.alloc (.cells #[.int .i64 1, .int .i64 2] 3)).heap.size aS1 aR1 from ⟨HW.out.later (hal2.out.trans (hb2.mono (by simp))), hR, bel_next HB1.out (hal2.out.trans (hb2.mono (by simp))), hb2.size, Nat.le_trans HB1.out.size hal2.out.size, HLO.out⟩)); clear hR hb2 k2)
  clear hal2 HW HB1 hal3
  generalize (w1.alloc (.cells #[.int .i64 1, .int .i64 2] 3)).heap.size = B at HA2
  go_upto_region 6 with (go_at_call 12; (have kk := ack_is 1 HA2.out.wat); (rw [aw1] at kk); (with_reducible refine kk.mono ?_); rintro e w3 ⟨rfl, hw3⟩; (have HA3 := Lib.hid (show AW w w3 bw br B aS2 aR1 by rw [hw3]; exact HA2.out.ack 1)); clear kk hw3)
  go_upto_region 7 with (go_at_call 12; (have kk := ack_is 1 HA3.out.wat); (rw [aw2] at kk); (with_reducible refine kk.mono ?_); rintro e w4 ⟨rfl, hw4⟩; (have HA4 := Lib.hid (show AW w w4 bw br B aS3 aR1 by rw [hw4]; exact HA3.out.ack 1)); clear kk hw4)
  go_upto_region 8 with (go_at_call 12; (have kk := ack_is 5 HA4.out.wat); (rw [aw3] at kk); (with_reducible refine kk.mono ?_); rintro e w5 ⟨rfl, hw5⟩; (have HA5 := Lib.hid (show AW w w5 bw br B aS4 aR1 by rw [hw5]; exact HA4.out.ack 5)); clear kk hw5)
  go_upto_region 9 with (go_at_call 12; (have kk := ack_is 3 HA5.out.wat); (rw [aw4] at kk); (with_reducible refine kk.mono ?_); rintro e w6 ⟨rfl, hw6⟩; (have HA6 := Lib.hid (show AW w w6 bw br B aS5 aR1 by rw [hw6]; exact HA5.out.ack 3)); clear kk hw6)
  clear HA2 HA3 HA4 HA5
  go_upto_region 10 with (first
    | (go_at_call 34; (with_reducible refine (p1 _).mono ?_); rintro e w7 ⟨rfl, hb7⟩; (have HA7 := Lib.hid (HA6.out.later hb7)); clear hb7 p1)
    | (go_at_call 21; (have hal := (Below.refl w7.heap.size w7).alloc (Nat.le_refl _) (.cells #[.string ⟨#[97]⟩, .int .i64 5, .int .i64 1, .int .i64 1, .int .i64 0, .int .i64 1] 55)); (have h8 := HA7.out.later hal); (have kk := answer_is 1 _ _ _ h8.rat h8.hB (O1.out w7) (by decide) (fun p hp => by rw [List.mem_singleton] at hp; subst hp; decide) (by decide)); (simp only [List.length_singleton] at kk); (with_reducible refine kk.mono ?_); rintro e w9 ⟨he, hr9, hf9, -⟩; (rw [show hearB aR1.S 1 = true from aw6] at he); subst he; (have HA9 := Lib.hid (show AW w w9 bw br B aS5 aR2 from h8.ans hr9 hf9)); clear hr9 hf9 kk h8 hal))
  clear HA6 HA7 O1
  go_upto_region 11 with (first
    | (go_at_call 34; (with_reducible refine (p2 _).mono ?_); rintro e w10 ⟨rfl, hb7⟩; (have HA7 := Lib.hid (HA9.out.later hb7)); clear hb7 p2)
    | (go_at_call 21; (have hal := (Below.refl w10.heap.size w10).alloc (Nat.le_refl _) (.cells #[.string ⟨#[97]⟩, .int .i64 5, .int .i64 2, .int .i64 2, .int .i64 0, .int .i64 1] 55)); (have h8 := HA7.out.later hal); (have kk := answer_is 2 _ _ _ h8.rat h8.hB (O2.out w10) (by decide) (fun p hp => by rw [List.mem_singleton] at hp; subst hp; decide) (by decide)); (simp only [List.length_singleton] at kk); (with_reducible refine kk.mono ?_); rintro e w11 ⟨he, hr9, hf9, -⟩; (rw [show hearB aR2.S 2 = true from aw7] at he); subst he; (have HA11 := Lib.hid (show AW w w11 bw br B aS5 aR3 from h8.ans hr9 hf9)); clear hr9 hf9 kk h8 hal))
  clear HA9 HA7 O2
  go_upto_region 12 with (go_at_call 23; (have kk := merged_is HA11.out.rat HA11.out.hB); (rw [aw8] at kk); (with_reducible refine kk.mono ?_); rintro e w12 ⟨v12, rfl, hR12, hb12⟩; (obtain ⟨a12, c12, rfl⟩ := hR12.slice); (have hl12 := hR12.lst); (obtain ⟨g, og, rfl, hg, hp⟩ := lst_pt hl12); (have HP := Lib.hid hp); (have HA12 := Lib.hid (HA11.out.later hb12)); clear kk hR12 hb12 hl12 hg hp)
  go_upto_region 13 with (go_at_call 25; (have kk := repair_is 1 HA12.out.rat HA12.out.hB); (rw [aw9] at kk); (with_reducible refine kk.mono ?_); rintro e w13 ⟨a13, c13, rfl, hl13, hb13⟩; (obtain ⟨g2, og2, rfl, hg2, hp2⟩ := lst_pt hl13); (have HP2 := Lib.hid hp2); (have HP1 := Lib.hid (pt_keep HP.out hb13)); (have HA13 := Lib.hid (HA12.out.later hb13)); clear kk hl13 hb13 hg2 hp2)
  clear HA11 HA12 HP
  have HA14 := Lib.hid (HA13.out.later (Below.refl _ _).drew)
  have hst : PtO w13.drew g og (ptQ 5 2) ∧ PtO w13.drew g2 og2 (ptQ 5 2) := ⟨pt_keep HP1.out (Below.refl _ _).drew, pt_keep HP2.out (Below.refl _ _).drew⟩
  refine wp_region_held_drew (S := (fun X => PtO X g og (ptQ 5 2) ∧ PtO X g2 og2 (ptQ 5 2))) (by kernel_rfl) hst (fun hHeld => ?_)
  refine wpAnyH_take (i := 0) (oi := ?a1o) (v := ?a1v) ?a1h (by kernel_rfl) (by kernel_rfl) (by kernel_rfl) ?a1q ?a1y hHeld ?a1r
  case a1h => (simp only [List.getElem?_toArray, List.getElem?_cons_zero]; rfl)
  case a1q => exact fun _ _ _ h => h
  case a1y => (refine Or.inl ⟨by first | kernel_rfl | rfl, ?_⟩; intro w hSw; (try dsimp only at hSw); obtain ⟨⟨x0, x1, x2, x3, x4, x5⟩, ⟨y0, y1, y2, y3, y4, y5⟩⟩ := hSw; dsimp only [ptQ] at x0 x1 x2 x3 x4 x5 y0 y1 y2 y3 y4 y5; go_simp <;> (try with_reducible rfl))
  try simp only [Act.put, List.setIfInBounds_toArray, List.set_cons_zero, List.set_cons_succ]
  refine wpAnyH_take (i := 1) (oi := ?a2o) (v := ?a2v) ?a2h (by kernel_rfl) (by kernel_rfl) (by kernel_rfl) ?a2q ?a2y hHeld ?a2r
  case a2h => (simp only [List.getElem?_toArray, List.getElem?_cons_succ, List.getElem?_cons_zero]; rfl)
  case a2q => exact fun _ _ _ h => h
  case a2y => (refine Or.inl ⟨by first | kernel_rfl | rfl, ?_⟩; intro w hSw; (try dsimp only at hSw); obtain ⟨⟨x0, x1, x2, x3, x4, x5⟩, ⟨y0, y1, y2, y3, y4, y5⟩⟩ := hSw; dsimp only [ptQ] at x0 x1 x2 x3 x4 x5 y0 y1 y2 y3 y4 y5; go_simp <;> (try with_reducible rfl))
  try simp only [Act.put, List.setIfInBounds_toArray, List.set_cons_zero, List.set_cons_succ]
  refine wpAnyH_take (i := 2) (oi := ?a3o) (v := ?a3v) ?a3h (by kernel_rfl) (by kernel_rfl) (by kernel_rfl) ?a3q ?a3y hHeld ?a3r
  case a3h => (simp only [List.getElem?_toArray, List.getElem?_cons_succ, List.getElem?_cons_zero]; rfl)
  case a3q => exact fun _ _ _ h => h
  case a3y => (refine Or.inl ⟨by first | kernel_rfl | rfl, ?_⟩; intro w hSw; (try dsimp only at hSw); obtain ⟨⟨x0, x1, x2, x3, x4, x5⟩, ⟨y0, y1, y2, y3, y4, y5⟩⟩ := hSw; dsimp only [ptQ] at x0 x1 x2 x3 x4 x5 y0 y1 y2 y3 y4 y5; go_simp <;> (try with_reducible rfl))
  try simp only [Act.put, List.setIfInBounds_toArray, List.set_cons_zero, List.set_cons_succ]
  refine wpAnyH_take (i := 3) (oi := ?a4o) (v := ?a4v) ?a4h (by kernel_rfl) (by kernel_rfl) (by kernel_rfl) ?a4q ?a4y hHeld ?a4r
  case a4h => (simp only [List.getElem?_toArray, List.getElem?_cons_succ, List.getElem?_cons_zero]; rfl)
  case a4q => exact fun _ _ _ h => h
  case a4y => (refine Or.inl ⟨by first | kernel_rfl | rfl, ?_⟩; intro w hSw; (try dsimp only at hSw); obtain ⟨⟨x0, x1, x2, x3, x4, x5⟩, ⟨y0, y1, y2, y3, y4, y5⟩⟩ := hSw; dsimp only [ptQ] at x0 x1 x2 x3 x4 x5 y0 y1 y2 y3 y4 y5; go_simp <;> (try with_reducible rfl))
  try simp only [Act.put, List.setIfInBounds_toArray, List.set_cons_zero, List.set_cons_succ]
  refine wpAnyH_take (i := 4) (oi := ?a5o) (v := ?a5v) ?a5h (by kernel_rfl) (by kernel_rfl) (by kernel_rfl) ?a5q ?a5y hHeld ?a5r
  case a5h => (simp only [List.getElem?_toArray, List.getElem?_cons_succ, List.getElem?_cons_zero]; rfl)
  case a5q => exact fun _ _ _ h => h
  case a5y => (refine Or.inl ⟨by first | kernel_rfl | rfl, ?_⟩; intro w hSw; (try dsimp only at hSw); obtain ⟨⟨x0, x1, x2, x3, x4, x5⟩, ⟨y0, y1, y2, y3, y4, y5⟩⟩ := hSw; dsimp only [ptQ] at x0 x1 x2 x3 x4 x5 y0 y1 y2 y3 y4 y5; go_simp <;> (try with_reducible rfl))
  try simp only [Act.put, List.setIfInBounds_toArray, List.set_cons_zero, List.set_cons_succ]
  refine wpAnyH_take (i := 5) (oi := ?a6o) (v := ?a6v) ?a6h (by kernel_rfl) (by kernel_rfl) (by kernel_rfl) ?a6q ?a6y hHeld ?a6r
  case a6h => (simp only [List.getElem?_toArray, List.getElem?_cons_succ, List.getElem?_cons_zero]; rfl)
  case a6q => exact fun _ _ _ h => h
  case a6y => (refine Or.inl ⟨by first | kernel_rfl | rfl, ?_⟩; intro w hSw; (try dsimp only at hSw); obtain ⟨⟨x0, x1, x2, x3, x4, x5⟩, ⟨y0, y1, y2, y3, y4, y5⟩⟩ := hSw; dsimp only [ptQ] at x0 x1 x2 x3 x4 x5 y0 y1 y2 y3 y4 y5; go_simp <;> (try with_reducible rfl))
  try simp only [Act.put, List.setIfInBounds_toArray, List.set_cons_zero, List.set_cons_succ]
  refine wpAnyH_take (i := 6) (oi := ?a7o) (v := ?a7v) ?a7h (by kernel_rfl) (by kernel_rfl) (by kernel_rfl) ?a7q ?a7y hHeld ?a7r
  case a7h => (simp only [List.getElem?_toArray, List.getElem?_cons_succ, List.getElem?_cons_zero]; rfl)
  case a7q => exact fun _ _ _ h => h
  case a7y => (refine Or.inl ⟨by first | kernel_rfl | rfl, ?_⟩; intro w hSw; (try dsimp only at hSw); obtain ⟨⟨x0, x1, x2, x3, x4, x5⟩, ⟨y0, y1, y2, y3, y4, y5⟩⟩ := hSw; dsimp only [ptQ] at x0 x1 x2 x3 x4 x5 y0 y1 y2 y3 y4 y5; go_simp <;> (try with_reducible rfl))
  try simp only [Act.put, List.setIfInBounds_toArray, List.set_cons_zero, List.set_cons_succ]
  refine wpAnyH_take (i := 7) (oi := ?a8o) (v := ?a8v) ?a8h (by kernel_rfl) (by kernel_rfl) (by kernel_rfl) ?a8q ?a8y hHeld ?a8r
  case a8h => (simp only [List.getElem?_toArray, List.getElem?_cons_succ, List.getElem?_cons_zero]; rfl)
  case a8q => exact fun _ _ _ h => h
  case a8y => (refine Or.inl ⟨by first | kernel_rfl | rfl, ?_⟩; intro w hSw; (try dsimp only at hSw); obtain ⟨⟨x0, x1, x2, x3, x4, x5⟩, ⟨y0, y1, y2, y3, y4, y5⟩⟩ := hSw; dsimp only [ptQ] at x0 x1 x2 x3 x4 x5 y0 y1 y2 y3 y4 y5; go_simp <;> (try with_reducible rfl))
  try simp only [Act.put, List.setIfInBounds_toArray, List.set_cons_zero, List.set_cons_succ]
  refine wpAnyH_take (i := 8) (oi := ?a9o) (v := ?a9v) ?a9h (by kernel_rfl) (by kernel_rfl) (by kernel_rfl) ?a9q ?a9y hHeld ?a9r
  case a9h => (simp only [List.getElem?_toArray, List.getElem?_cons_succ, List.getElem?_cons_zero]; rfl)
  case a9q => exact fun _ _ _ h => h
  case a9y => (refine Or.inl ⟨by first | kernel_rfl | rfl, ?_⟩; intro w hSw; (try dsimp only at hSw); obtain ⟨⟨x0, x1, x2, x3, x4, x5⟩, ⟨y0, y1, y2, y3, y4, y5⟩⟩ := hSw; dsimp only [ptQ] at x0 x1 x2 x3 x4 x5 y0 y1 y2 y3 y4 y5; go_simp <;> (try with_reducible rfl))
  try simp only [Act.put, List.setIfInBounds_toArray, List.set_cons_zero, List.set_cons_succ]
  refine wpAnyH_take (i := 9) (oi := ?a10o) (v := ?a10v) ?a10h (by kernel_rfl) (by kernel_rfl) (by kernel_rfl) ?a10q ?a10y hHeld ?a10r
  case a10h => (simp only [List.getElem?_toArray, List.getElem?_cons_succ, List.getElem?_cons_zero]; rfl)
  case a10q => exact fun _ _ _ h => h
  case a10y => (refine Or.inl ⟨by first | kernel_rfl | rfl, ?_⟩; intro w hSw; (try dsimp only at hSw); obtain ⟨⟨x0, x1, x2, x3, x4, x5⟩, ⟨y0, y1, y2, y3, y4, y5⟩⟩ := hSw; dsimp only [ptQ] at x0 x1 x2 x3 x4 x5 y0 y1 y2 y3 y4 y5; go_simp <;> (try with_reducible rfl))
  try simp only [Act.put, List.setIfInBounds_toArray, List.set_cons_zero, List.set_cons_succ]
  refine wpAnyH_take (i := 10) (oi := ?a11o) (v := ?a11v) ?a11h (by kernel_rfl) (by kernel_rfl) (by kernel_rfl) ?a11q ?a11y hHeld ?a11r
  case a11h => (simp only [List.getElem?_toArray, List.getElem?_cons_succ, List.getElem?_cons_zero]; rfl)
  case a11q => exact fun _ _ _ h => h
  case a11y => (refine Or.inl ⟨by first | kernel_rfl | rfl, ?_⟩; intro w hSw; (try dsimp only at hSw); obtain ⟨⟨x0, x1, x2, x3, x4, x5⟩, ⟨y0, y1, y2, y3, y4, y5⟩⟩ := hSw; dsimp only [ptQ] at x0 x1 x2 x3 x4 x5 y0 y1 y2 y3 y4 y5; go_simp <;> (try with_reducible rfl))
  try simp only [Act.put, List.setIfInBounds_toArray, List.set_cons_zero, List.set_cons_succ]
  refine wpAnyH_take (i := 11) (oi := ?a12o) (v := ?a12v) ?a12h (by kernel_rfl) (by kernel_rfl) (by kernel_rfl) ?a12q ?a12y hHeld ?a12r
  case a12h => (simp only [List.getElem?_toArray, List.getElem?_cons_succ, List.getElem?_cons_zero]; rfl)
  case a12q => exact fun _ _ _ h => h
  case a12y => (refine Or.inl ⟨by first | kernel_rfl | rfl, ?_⟩; intro w hSw; (try dsimp only at hSw); obtain ⟨⟨x0, x1, x2, x3, x4, x5⟩, ⟨y0, y1, y2, y3, y4, y5⟩⟩ := hSw; dsimp only [ptQ] at x0 x1 x2 x3 x4 x5 y0 y1 y2 y3 y4 y5; go_simp <;> (try with_reducible rfl))
  try simp only [Act.put, List.setIfInBounds_toArray, List.set_cons_zero, List.set_cons_succ]
  refine wpAnyH_take (i := 12) (oi := ?a13o) (v := ?a13v) ?a13h (by kernel_rfl) (by kernel_rfl) (by kernel_rfl) ?a13q ?a13y hHeld ?a13r
  case a13h => (simp only [List.getElem?_toArray, List.getElem?_cons_succ, List.getElem?_cons_zero]; rfl)
  case a13q => exact fun _ _ _ h => h
  case a13y => (refine Or.inl ⟨by first | kernel_rfl | rfl, ?_⟩; intro w hSw; (try dsimp only at hSw); obtain ⟨⟨x0, x1, x2, x3, x4, x5⟩, ⟨y0, y1, y2, y3, y4, y5⟩⟩ := hSw; dsimp only [ptQ] at x0 x1 x2 x3 x4 x5 y0 y1 y2 y3 y4 y5; go_simp <;> (try with_reducible rfl))
  try simp only [Act.put, List.setIfInBounds_toArray, List.set_cons_zero, List.set_cons_succ]
  refine wpAnyH_take (i := 13) (oi := ?a14o) (v := ?a14v) ?a14h (by kernel_rfl) (by kernel_rfl) (by kernel_rfl) ?a14q ?a14y hHeld ?a14r
  case a14h => (simp only [List.getElem?_toArray, List.getElem?_cons_succ, List.getElem?_cons_zero]; rfl)
  case a14q => exact fun _ _ _ h => h
  case a14y => (refine Or.inl ⟨by first | kernel_rfl | rfl, ?_⟩; intro w hSw; (try dsimp only at hSw); obtain ⟨⟨x0, x1, x2, x3, x4, x5⟩, ⟨y0, y1, y2, y3, y4, y5⟩⟩ := hSw; dsimp only [ptQ] at x0 x1 x2 x3 x4 x5 y0 y1 y2 y3 y4 y5; go_simp <;> (try with_reducible rfl))
  try simp only [Act.put, List.setIfInBounds_toArray, List.set_cons_zero, List.set_cons_succ]
  refine wpAnyH_ready (rs := [14]) (by kernel_rfl) (by simp) ?_
  refine (AllReadyH.cons rfl (fun K hK => ?_) AllReadyH.nil)
  go_simp
  (go_at_call 18; (have kk := wdone_is HA14.out.wat); (rw [aw5] at kk); (with_reducible refine kk.mono ?_); rintro e w15 ⟨rfl, hb15⟩; (have hst2 := (hst)); (have hst2 : PtO w15 g og (ptQ 5 2) ∧ PtO w15 g2 og2 (ptQ 5 2) := ⟨pt_keep hst2.1 hb15, pt_keep hst2.2 hb15⟩); (have HA15 := Lib.hid (HA14.out.later hb15)); clear kk hb15)
  refine hK.out _ _ (hst2) (fun hHeld => ?_)
  clear hK K
  try simp only [Act.put, List.setIfInBounds_toArray, List.set_cons_zero, List.set_cons_succ]
  refine wpAnyH_take (i := 15) (oi := ?a15o) (v := ?a15v) ?a15h (by kernel_rfl) (by kernel_rfl) (by kernel_rfl) ?a15q ?a15y hHeld ?a15r
  case a15h => (simp only [List.getElem?_toArray, List.getElem?_cons_succ, List.getElem?_cons_zero]; rfl)
  case a15q => exact fun _ _ _ h => h
  case a15y => (refine Or.inl ⟨by first | kernel_rfl | rfl, ?_⟩; intro w hSw; (try dsimp only at hSw); obtain ⟨⟨x0, x1, x2, x3, x4, x5⟩, ⟨y0, y1, y2, y3, y4, y5⟩⟩ := hSw; dsimp only [ptQ] at x0 x1 x2 x3 x4 x5 y0 y1 y2 y3 y4 y5; go_simp <;> (try with_reducible rfl))
  try simp only [Act.put, List.setIfInBounds_toArray, List.set_cons_zero, List.set_cons_succ]
  refine wpAnyH_take (i := 16) (oi := ?a16o) (v := ?a16v) ?a16h (by kernel_rfl) (by kernel_rfl) (by kernel_rfl) ?a16q ?a16y hHeld ?a16r
  case a16h => (simp only [List.getElem?_toArray, List.getElem?_cons_succ, List.getElem?_cons_zero]; rfl)
  case a16q => exact fun _ _ _ h => h
  case a16y => (refine Or.inl ⟨by first | kernel_rfl | rfl, ?_⟩; intro w hSw; (try dsimp only at hSw); obtain ⟨⟨x0, x1, x2, x3, x4, x5⟩, ⟨y0, y1, y2, y3, y4, y5⟩⟩ := hSw; dsimp only [ptQ] at x0 x1 x2 x3 x4 x5 y0 y1 y2 y3 y4 y5; go_simp <;> (try with_reducible rfl))
  try simp only [Act.put, List.setIfInBounds_toArray, List.set_cons_zero, List.set_cons_succ]
  refine wpAnyH_take (i := 17) (oi := ?a17o) (v := ?a17v) ?a17h (by kernel_rfl) (by kernel_rfl) (by kernel_rfl) ?a17q ?a17y hHeld ?a17r
  case a17h => (simp only [List.getElem?_toArray, List.getElem?_cons_succ, List.getElem?_cons_zero]; rfl)
  case a17q => exact fun _ _ _ h => h
  case a17y => (refine Or.inl ⟨by first | kernel_rfl | rfl, ?_⟩; intro w hSw; (try dsimp only at hSw); obtain ⟨⟨x0, x1, x2, x3, x4, x5⟩, ⟨y0, y1, y2, y3, y4, y5⟩⟩ := hSw; dsimp only [ptQ] at x0 x1 x2 x3 x4 x5 y0 y1 y2 y3 y4 y5; go_simp <;> (try with_reducible rfl))
  try simp only [Act.put, List.setIfInBounds_toArray, List.set_cons_zero, List.set_cons_succ]
  refine wpAnyH_ready (rs := [18]) (by kernel_rfl) (by simp) ?_
  refine (AllReadyH.cons rfl (fun K hK => ?_) AllReadyH.nil)
  go_simp
  (go_at_call 29; (have kk := rdone_is HA15.out.rat.at_); (rw [aw10] at kk); (with_reducible refine kk.mono ?_); rintro e w15 ⟨rfl, hb15⟩; (have hst3 := (hst2)); (have hst3 : PtO w15 g og (ptQ 5 2) ∧ PtO w15 g2 og2 (ptQ 5 2) := ⟨pt_keep hst3.1 hb15, pt_keep hst3.2 hb15⟩); (have HA16 := Lib.hid (HA15.out.later hb15)); clear kk hb15)
  refine hK.out _ _ (hst3) (fun hHeld => ?_)
  clear hK K
  try simp only [Act.put, List.setIfInBounds_toArray, List.set_cons_zero, List.set_cons_succ]
  refine wpAnyH_take (i := 19) (oi := ?a18o) (v := ?a18v) ?a18h (by kernel_rfl) (by kernel_rfl) (by kernel_rfl) ?a18q ?a18y hHeld ?a18r
  case a18h => (simp only [List.getElem?_toArray, List.getElem?_cons_succ, List.getElem?_cons_zero]; rfl)
  case a18q => exact fun _ _ _ h => h
  case a18y => (refine Or.inl ⟨by first | kernel_rfl | rfl, ?_⟩; intro w hSw; (try dsimp only at hSw); obtain ⟨⟨x0, x1, x2, x3, x4, x5⟩, ⟨y0, y1, y2, y3, y4, y5⟩⟩ := hSw; dsimp only [ptQ] at x0 x1 x2 x3 x4 x5 y0 y1 y2 y3 y4 y5; go_simp <;> (try with_reducible rfl))
  try simp only [Act.put, List.setIfInBounds_toArray, List.set_cons_zero, List.set_cons_succ]
  refine wpAnyH_take (i := 20) (oi := ?a19o) (v := ?a19v) ?a19h (by kernel_rfl) (by kernel_rfl) (by kernel_rfl) ?a19q ?a19y hHeld ?a19r
  case a19h => (simp only [List.getElem?_toArray, List.getElem?_cons_succ, List.getElem?_cons_zero]; rfl)
  case a19q => exact fun _ _ _ h => h
  case a19y => (refine Or.inl ⟨by first | kernel_rfl | rfl, ?_⟩; intro w hSw; (try dsimp only at hSw); obtain ⟨⟨x0, x1, x2, x3, x4, x5⟩, ⟨y0, y1, y2, y3, y4, y5⟩⟩ := hSw; dsimp only [ptQ] at x0 x1 x2 x3 x4 x5 y0 y1 y2 y3 y4 y5; go_simp <;> (try with_reducible rfl))
  try simp only [Act.put, List.setIfInBounds_toArray, List.set_cons_zero, List.set_cons_succ]
  refine wpAnyH_take (i := 21) (oi := ?a20o) (v := ?a20v) ?a20h (by kernel_rfl) (by kernel_rfl) (by kernel_rfl) ?a20q ?a20y hHeld ?a20r
  case a20h => (simp only [List.getElem?_toArray, List.getElem?_cons_succ, List.getElem?_cons_zero]; rfl)
  case a20q => exact fun _ _ _ h => h
  case a20y => (refine Or.inl ⟨by first | kernel_rfl | rfl, ?_⟩; intro w hSw; (try dsimp only at hSw); obtain ⟨⟨x0, x1, x2, x3, x4, x5⟩, ⟨y0, y1, y2, y3, y4, y5⟩⟩ := hSw; dsimp only [ptQ] at x0 x1 x2 x3 x4 x5 y0 y1 y2 y3 y4 y5; go_simp <;> (try with_reducible rfl))
  try simp only [Act.put, List.setIfInBounds_toArray, List.set_cons_zero, List.set_cons_succ]
  refine wpAnyH_take (i := 22) (oi := ?a21o) (v := ?a21v) ?a21h (by kernel_rfl) (by kernel_rfl) (by kernel_rfl) ?a21q ?a21y hHeld ?a21r
  case a21h => (simp only [List.getElem?_toArray, List.getElem?_cons_succ, List.getElem?_cons_zero]; rfl)
  case a21q => exact fun _ _ _ h => h
  case a21y => (refine Or.inl ⟨by first | kernel_rfl | rfl, ?_⟩; intro w hSw; (try dsimp only at hSw); obtain ⟨⟨x0, x1, x2, x3, x4, x5⟩, ⟨y0, y1, y2, y3, y4, y5⟩⟩ := hSw; dsimp only [ptQ] at x0 x1 x2 x3 x4 x5 y0 y1 y2 y3 y4 y5; go_simp <;> (try with_reducible rfl))
  try simp only [Act.put, List.setIfInBounds_toArray, List.set_cons_zero, List.set_cons_succ]
  refine wpAnyH_take (i := 23) (oi := ?a22o) (v := ?a22v) ?a22h (by kernel_rfl) (by kernel_rfl) (by kernel_rfl) ?a22q ?a22y hHeld ?a22r
  case a22h => (simp only [List.getElem?_toArray, List.getElem?_cons_succ, List.getElem?_cons_zero]; rfl)
  case a22q => exact fun _ _ _ h => h
  case a22y => (refine Or.inl ⟨by first | kernel_rfl | rfl, ?_⟩; intro w hSw; (try dsimp only at hSw); obtain ⟨⟨x0, x1, x2, x3, x4, x5⟩, ⟨y0, y1, y2, y3, y4, y5⟩⟩ := hSw; dsimp only [ptQ] at x0 x1 x2 x3 x4 x5 y0 y1 y2 y3 y4 y5; go_simp <;> (try with_reducible rfl))
  try simp only [Act.put, List.setIfInBounds_toArray, List.set_cons_zero, List.set_cons_succ]
  refine wpAnyH_take (i := 24) (oi := ?a23o) (v := ?a23v) ?a23h (by kernel_rfl) (by kernel_rfl) (by kernel_rfl) ?a23q ?a23y hHeld ?a23r
  case a23h => (simp only [List.getElem?_toArray, List.getElem?_cons_succ, List.getElem?_cons_zero]; rfl)
  case a23q => exact fun _ _ _ h => h
  case a23y => (refine Or.inl ⟨by first | kernel_rfl | rfl, ?_⟩; intro w hSw; (try dsimp only at hSw); obtain ⟨⟨x0, x1, x2, x3, x4, x5⟩, ⟨y0, y1, y2, y3, y4, y5⟩⟩ := hSw; dsimp only [ptQ] at x0 x1 x2 x3 x4 x5 y0 y1 y2 y3 y4 y5; go_simp <;> (try with_reducible rfl))
  try simp only [Act.put, List.setIfInBounds_toArray, List.set_cons_zero, List.set_cons_succ]
  refine wpAnyH_take (i := 25) (oi := ?a24o) (v := ?a24v) ?a24h (by kernel_rfl) (by kernel_rfl) (by kernel_rfl) ?a24q ?a24y hHeld ?a24r
  case a24h => (simp only [List.getElem?_toArray, List.getElem?_cons_succ, List.getElem?_cons_zero]; rfl)
  case a24q => exact fun _ _ _ h => h
  case a24y => (refine Or.inl ⟨by first | kernel_rfl | rfl, ?_⟩; intro w hSw; (try dsimp only at hSw); obtain ⟨⟨x0, x1, x2, x3, x4, x5⟩, ⟨y0, y1, y2, y3, y4, y5⟩⟩ := hSw; dsimp only [ptQ] at x0 x1 x2 x3 x4 x5 y0 y1 y2 y3 y4 y5; go_simp <;> (try with_reducible rfl))
  try simp only [Act.put, List.setIfInBounds_toArray, List.set_cons_zero, List.set_cons_succ]
  refine wpAnyH_take (i := 26) (oi := ?a25o) (v := ?a25v) ?a25h (by kernel_rfl) (by kernel_rfl) (by kernel_rfl) ?a25q ?a25y hHeld ?a25r
  case a25h => (simp only [List.getElem?_toArray, List.getElem?_cons_succ, List.getElem?_cons_zero]; rfl)
  case a25q => exact fun _ _ _ h => h
  case a25y => (refine Or.inl ⟨by first | kernel_rfl | rfl, ?_⟩; intro w hSw; (try dsimp only at hSw); obtain ⟨⟨x0, x1, x2, x3, x4, x5⟩, ⟨y0, y1, y2, y3, y4, y5⟩⟩ := hSw; dsimp only [ptQ] at x0 x1 x2 x3 x4 x5 y0 y1 y2 y3 y4 y5; go_simp <;> (try with_reducible rfl))
  try simp only [Act.put, List.setIfInBounds_toArray, List.set_cons_zero, List.set_cons_succ]
  refine wpAnyH_take (i := 27) (oi := ?a26o) (v := ?a26v) ?a26h (by kernel_rfl) (by kernel_rfl) (by kernel_rfl) ?a26q ?a26y hHeld ?a26r
  case a26h => (simp only [List.getElem?_toArray, List.getElem?_cons_succ, List.getElem?_cons_zero]; rfl)
  case a26q => exact fun _ _ _ h => h
  case a26y => (refine Or.inl ⟨by first | kernel_rfl | rfl, ?_⟩; intro w hSw; (try dsimp only at hSw); obtain ⟨⟨x0, x1, x2, x3, x4, x5⟩, ⟨y0, y1, y2, y3, y4, y5⟩⟩ := hSw; dsimp only [ptQ] at x0 x1 x2 x3 x4 x5 y0 y1 y2 y3 y4 y5; go_simp <;> (try with_reducible rfl))
  try simp only [Act.put, List.setIfInBounds_toArray, List.set_cons_zero, List.set_cons_succ]
  refine wpAnyH_take (i := 28) (oi := ?a27o) (v := ?a27v) ?a27h (by kernel_rfl) (by kernel_rfl) (by kernel_rfl) ?a27q ?a27y hHeld ?a27r
  case a27h => (simp only [List.getElem?_toArray, List.getElem?_cons_succ, List.getElem?_cons_zero]; rfl)
  case a27q => exact fun _ _ _ h => h
  case a27y => (refine Or.inl ⟨by first | kernel_rfl | rfl, ?_⟩; intro w hSw; (try dsimp only at hSw); obtain ⟨⟨x0, x1, x2, x3, x4, x5⟩, ⟨y0, y1, y2, y3, y4, y5⟩⟩ := hSw; dsimp only [ptQ] at x0 x1 x2 x3 x4 x5 y0 y1 y2 y3 y4 y5; go_simp <;> (try with_reducible rfl))
  try simp only [Act.put, List.setIfInBounds_toArray, List.set_cons_zero, List.set_cons_succ]
  refine wpAnyH_take (i := 29) (oi := ?a28o) (v := ?a28v) ?a28h (by kernel_rfl) (by kernel_rfl) (by kernel_rfl) ?a28q ?a28y hHeld ?a28r
  case a28h => (simp only [List.getElem?_toArray, List.getElem?_cons_succ, List.getElem?_cons_zero]; rfl)
  case a28q => exact fun _ _ _ h => h
  case a28y => (refine Or.inl ⟨by first | kernel_rfl | rfl, ?_⟩; intro w hSw; (try dsimp only at hSw); obtain ⟨⟨x0, x1, x2, x3, x4, x5⟩, ⟨y0, y1, y2, y3, y4, y5⟩⟩ := hSw; dsimp only [ptQ] at x0 x1 x2 x3 x4 x5 y0 y1 y2 y3 y4 y5; go_simp <;> (try with_reducible rfl))
  try simp only [Act.put, List.setIfInBounds_toArray, List.set_cons_zero, List.set_cons_succ]
  refine wpAnyH_take (i := 30) (oi := ?a29o) (v := ?a29v) ?a29h (by kernel_rfl) (by kernel_rfl) (by kernel_rfl) ?a29q ?a29y hHeld ?a29r
  case a29h => (simp only [List.getElem?_toArray, List.getElem?_cons_succ, List.getElem?_cons_zero]; rfl)
  case a29q => exact fun _ _ _ h => h
  case a29y => (refine Or.inl ⟨by first | kernel_rfl | rfl, ?_⟩; intro w hSw; (try dsimp only at hSw); obtain ⟨⟨x0, x1, x2, x3, x4, x5⟩, ⟨y0, y1, y2, y3, y4, y5⟩⟩ := hSw; dsimp only [ptQ] at x0 x1 x2 x3 x4 x5 y0 y1 y2 y3 y4 y5; go_simp <;> (try with_reducible rfl))
  try simp only [Act.put, List.setIfInBounds_toArray, List.set_cons_zero, List.set_cons_succ]
  refine wpAnyH_take (i := 31) (oi := ?a30o) (v := ?a30v) ?a30h (by kernel_rfl) (by kernel_rfl) (by kernel_rfl) ?a30q ?a30y hHeld ?a30r
  case a30h => (simp only [List.getElem?_toArray, List.getElem?_cons_succ, List.getElem?_cons_zero]; rfl)
  case a30q => exact fun _ _ _ h => h
  case a30y => (refine Or.inl ⟨by first | kernel_rfl | rfl, ?_⟩; intro w hSw; (try dsimp only at hSw); obtain ⟨⟨x0, x1, x2, x3, x4, x5⟩, ⟨y0, y1, y2, y3, y4, y5⟩⟩ := hSw; dsimp only [ptQ] at x0 x1 x2 x3 x4 x5 y0 y1 y2 y3 y4 y5; go_simp <;> (try with_reducible rfl))
  try simp only [Act.put, List.setIfInBounds_toArray, List.set_cons_zero, List.set_cons_succ]
  refine wpAnyH_take (i := 32) (oi := ?a31o) (v := ?a31v) ?a31h (by kernel_rfl) (by kernel_rfl) (by kernel_rfl) ?a31q ?a31y hHeld ?a31r
  case a31h => (simp only [List.getElem?_toArray, List.getElem?_cons_succ, List.getElem?_cons_zero]; rfl)
  case a31q => exact fun _ _ _ h => h
  case a31y => (refine Or.inl ⟨by first | kernel_rfl | rfl, ?_⟩; intro w hSw; (try dsimp only at hSw); obtain ⟨⟨x0, x1, x2, x3, x4, x5⟩, ⟨y0, y1, y2, y3, y4, y5⟩⟩ := hSw; dsimp only [ptQ] at x0 x1 x2 x3 x4 x5 y0 y1 y2 y3 y4 y5; go_simp <;> (try with_reducible rfl))
  try simp only [Act.put, List.setIfInBounds_toArray, List.set_cons_zero, List.set_cons_succ]
  refine wpAnyH_take (i := 33) (oi := ?a32o) (v := ?a32v) ?a32h (by kernel_rfl) (by kernel_rfl) (by kernel_rfl) ?a32q ?a32y hHeld ?a32r
  case a32h => (simp only [List.getElem?_toArray, List.getElem?_cons_succ, List.getElem?_cons_zero]; rfl)
  case a32q => exact fun _ _ _ h => h
  case a32y => (refine Or.inl ⟨by first | kernel_rfl | rfl, ?_⟩; intro w hSw; (try dsimp only at hSw); obtain ⟨⟨x0, x1, x2, x3, x4, x5⟩, ⟨y0, y1, y2, y3, y4, y5⟩⟩ := hSw; dsimp only [ptQ] at x0 x1 x2 x3 x4 x5 y0 y1 y2 y3 y4 y5; go_simp <;> (try with_reducible rfl))
  try simp only [Act.put, List.setIfInBounds_toArray, List.set_cons_zero, List.set_cons_succ]
  refine wpAnyH_take (i := 34) (oi := ?a33o) (v := ?a33v) ?a33h (by kernel_rfl) (by kernel_rfl) (by kernel_rfl) ?a33q ?a33y hHeld ?a33r
  case a33h => (simp only [List.getElem?_toArray, List.getElem?_cons_succ, List.getElem?_cons_zero]; rfl)
  case a33q => exact fun _ _ _ h => h
  case a33y => (refine Or.inl ⟨by first | kernel_rfl | rfl, ?_⟩; intro w hSw; (try dsimp only at hSw); obtain ⟨⟨x0, x1, x2, x3, x4, x5⟩, ⟨y0, y1, y2, y3, y4, y5⟩⟩ := hSw; dsimp only [ptQ] at x0 x1 x2 x3 x4 x5 y0 y1 y2 y3 y4 y5; go_simp <;> (try with_reducible rfl))
  try simp only [Act.put, List.setIfInBounds_toArray, List.set_cons_zero, List.set_cons_succ]
  refine wpAnyH_take (i := 35) (oi := ?a34o) (v := ?a34v) ?a34h (by kernel_rfl) (by kernel_rfl) (by kernel_rfl) ?a34q ?a34y hHeld ?a34r
  case a34h => (simp only [List.getElem?_toArray, List.getElem?_cons_succ, List.getElem?_cons_zero]; rfl)
  case a34q => exact fun _ _ _ h => h
  case a34y => (refine Or.inl ⟨by first | kernel_rfl | rfl, ?_⟩; intro w hSw; (try dsimp only at hSw); obtain ⟨⟨x0, x1, x2, x3, x4, x5⟩, ⟨y0, y1, y2, y3, y4, y5⟩⟩ := hSw; dsimp only [ptQ] at x0 x1 x2 x3 x4 x5 y0 y1 y2 y3 y4 y5; go_simp <;> (try with_reducible rfl))
  try simp only [Act.put, List.setIfInBounds_toArray, List.set_cons_zero, List.set_cons_succ]
  refine wpAnyH_take (i := 36) (oi := ?a35o) (v := ?a35v) ?a35h (by kernel_rfl) (by kernel_rfl) (by kernel_rfl) ?a35q ?a35y hHeld ?a35r
  case a35h => (simp only [List.getElem?_toArray, List.getElem?_cons_succ, List.getElem?_cons_zero]; rfl)
  case a35q => exact fun _ _ _ h => h
  case a35y => (refine Or.inl ⟨by first | kernel_rfl | rfl, ?_⟩; intro w hSw; (try dsimp only at hSw); obtain ⟨⟨x0, x1, x2, x3, x4, x5⟩, ⟨y0, y1, y2, y3, y4, y5⟩⟩ := hSw; dsimp only [ptQ] at x0 x1 x2 x3 x4 x5 y0 y1 y2 y3 y4 y5; go_simp <;> (try with_reducible rfl))
  try simp only [Act.put, List.setIfInBounds_toArray, List.set_cons_zero, List.set_cons_succ]
  refine wpAnyH_take (i := 37) (oi := ?a36o) (v := ?a36v) ?a36h (by kernel_rfl) (by kernel_rfl) (by kernel_rfl) ?a36q ?a36y hHeld ?a36r
  case a36h => (simp only [List.getElem?_toArray, List.getElem?_cons_succ, List.getElem?_cons_zero]; rfl)
  case a36q => exact fun _ _ _ h => h
  case a36y => (refine Or.inl ⟨by first | kernel_rfl | rfl, ?_⟩; intro w hSw; (try dsimp only at hSw); obtain ⟨⟨x0, x1, x2, x3, x4, x5⟩, ⟨y0, y1, y2, y3, y4, y5⟩⟩ := hSw; dsimp only [ptQ] at x0 x1 x2 x3 x4 x5 y0 y1 y2 y3 y4 y5; go_simp <;> (try with_reducible rfl))
  try simp only [Act.put, List.setIfInBounds_toArray, List.set_cons_zero, List.set_cons_succ]
  refine wpAnyH_take (i := 38) (oi := ?a37o) (v := ?a37v) ?a37h (by kernel_rfl) (by kernel_rfl) (by kernel_rfl) ?a37q ?a37y hHeld ?a37r
  case a37h => (simp only [List.getElem?_toArray, List.getElem?_cons_succ, List.getElem?_cons_zero]; rfl)
  case a37q => exact fun _ _ _ h => h
  case a37y => (refine Or.inl ⟨by first | kernel_rfl | rfl, ?_⟩; intro w hSw; (try dsimp only at hSw); obtain ⟨⟨x0, x1, x2, x3, x4, x5⟩, ⟨y0, y1, y2, y3, y4, y5⟩⟩ := hSw; dsimp only [ptQ] at x0 x1 x2 x3 x4 x5 y0 y1 y2 y3 y4 y5; go_simp <;> (try with_reducible rfl))
  try simp only [Act.put, List.setIfInBounds_toArray, List.set_cons_zero, List.set_cons_succ]
  refine wpAnyH_take (i := 39) (oi := ?a38o) (v := ?a38v) ?a38h (by kernel_rfl) (by kernel_rfl) (by kernel_rfl) ?a38q ?a38y hHeld ?a38r
  case a38h => (simp only [List.getElem?_toArray, List.getElem?_cons_succ, List.getElem?_cons_zero]; rfl)
  case a38q => exact fun _ _ _ h => h
  case a38y => (refine Or.inl ⟨by first | kernel_rfl | rfl, ?_⟩; intro w hSw; (try dsimp only at hSw); obtain ⟨⟨x0, x1, x2, x3, x4, x5⟩, ⟨y0, y1, y2, y3, y4, y5⟩⟩ := hSw; dsimp only [ptQ] at x0 x1 x2 x3 x4 x5 y0 y1 y2 y3 y4 y5; go_simp <;> (try with_reducible rfl))
  try simp only [Act.put, List.setIfInBounds_toArray, List.set_cons_zero, List.set_cons_succ]
  refine wpAnyH_take (i := 40) (oi := ?a39o) (v := ?a39v) ?a39h (by kernel_rfl) (by kernel_rfl) (by kernel_rfl) ?a39q ?a39y hHeld ?a39r
  case a39h => (simp only [List.getElem?_toArray, List.getElem?_cons_succ, List.getElem?_cons_zero]; rfl)
  case a39q => exact fun _ _ _ h => h
  case a39y => (refine Or.inl ⟨by first | kernel_rfl | rfl, ?_⟩; intro w hSw; (try dsimp only at hSw); obtain ⟨⟨x0, x1, x2, x3, x4, x5⟩, ⟨y0, y1, y2, y3, y4, y5⟩⟩ := hSw; dsimp only [ptQ] at x0 x1 x2 x3 x4 x5 y0 y1 y2 y3 y4 y5; go_simp <;> (try with_reducible rfl))
  try simp only [Act.put, List.setIfInBounds_toArray, List.set_cons_zero, List.set_cons_succ]
  refine wpAnyH_take (i := 41) (oi := ?a40o) (v := ?a40v) ?a40h (by kernel_rfl) (by kernel_rfl) (by kernel_rfl) ?a40q ?a40y hHeld ?a40r
  case a40h => (simp only [List.getElem?_toArray, List.getElem?_cons_succ, List.getElem?_cons_zero]; rfl)
  case a40q => exact fun _ _ _ h => h
  case a40y => (refine Or.inl ⟨by first | kernel_rfl | rfl, ?_⟩; intro w hSw; (try dsimp only at hSw); obtain ⟨⟨x0, x1, x2, x3, x4, x5⟩, ⟨y0, y1, y2, y3, y4, y5⟩⟩ := hSw; dsimp only [ptQ] at x0 x1 x2 x3 x4 x5 y0 y1 y2 y3 y4 y5; go_simp <;> (try with_reducible rfl))
  try simp only [Act.put, List.setIfInBounds_toArray, List.set_cons_zero, List.set_cons_succ]
  refine wpAnyH_take (i := 42) (oi := ?a41o) (v := ?a41v) ?a41h (by kernel_rfl) (by kernel_rfl) (by kernel_rfl) ?a41q ?a41y hHeld ?a41r
  case a41h => (simp only [List.getElem?_toArray, List.getElem?_cons_succ, List.getElem?_cons_zero]; rfl)
  case a41q => exact fun _ _ _ h => h
  case a41y => (refine Or.inl ⟨by first | kernel_rfl | rfl, ?_⟩; intro w hSw; (try dsimp only at hSw); obtain ⟨⟨x0, x1, x2, x3, x4, x5⟩, ⟨y0, y1, y2, y3, y4, y5⟩⟩ := hSw; dsimp only [ptQ] at x0 x1 x2 x3 x4 x5 y0 y1 y2 y3 y4 y5; go_simp <;> (try with_reducible rfl))
  try simp only [Act.put, List.setIfInBounds_toArray, List.set_cons_zero, List.set_cons_succ]
  refine wpAnyH_take (i := 43) (oi := ?a42o) (v := ?a42v) ?a42h (by kernel_rfl) (by kernel_rfl) (by kernel_rfl) ?a42q ?a42y hHeld ?a42r
  case a42h => (simp only [List.getElem?_toArray, List.getElem?_cons_succ, List.getElem?_cons_zero]; rfl)
  case a42q => exact fun _ _ _ h => h
  case a42y => (refine Or.inl ⟨by first | kernel_rfl | rfl, ?_⟩; intro w hSw; (try dsimp only at hSw); obtain ⟨⟨x0, x1, x2, x3, x4, x5⟩, ⟨y0, y1, y2, y3, y4, y5⟩⟩ := hSw; dsimp only [ptQ] at x0 x1 x2 x3 x4 x5 y0 y1 y2 y3 y4 y5; go_simp <;> (try with_reducible rfl))
  try simp only [Act.put, List.setIfInBounds_toArray, List.set_cons_zero, List.set_cons_succ]
  refine wpAnyH_take (i := 44) (oi := ?a43o) (v := ?a43v) ?a43h (by kernel_rfl) (by kernel_rfl) (by kernel_rfl) ?a43q ?a43y hHeld ?a43r
  case a43h => (simp only [List.getElem?_toArray, List.getElem?_cons_succ, List.getElem?_cons_zero]; rfl)
  case a43q => exact fun _ _ _ h => h
  case a43y => (refine Or.inl ⟨by first | kernel_rfl | rfl, ?_⟩; intro w hSw; (try dsimp only at hSw); obtain ⟨⟨x0, x1, x2, x3, x4, x5⟩, ⟨y0, y1, y2, y3, y4, y5⟩⟩ := hSw; dsimp only [ptQ] at x0 x1 x2 x3 x4 x5 y0 y1 y2 y3 y4 y5; go_simp <;> (try with_reducible rfl))
  try simp only [Act.put, List.setIfInBounds_toArray, List.set_cons_zero, List.set_cons_succ]
  refine wpAnyH_take (i := 45) (oi := ?a44o) (v := ?a44v) ?a44h (by kernel_rfl) (by kernel_rfl) (by kernel_rfl) ?a44q ?a44y hHeld ?a44r
  case a44h => (simp only [List.getElem?_toArray, List.getElem?_cons_succ, List.getElem?_cons_zero]; rfl)
  case a44q => exact fun _ _ _ h => h
  case a44y => (refine Or.inl ⟨by first | kernel_rfl | rfl, ?_⟩; intro w hSw; (try dsimp only at hSw); obtain ⟨⟨x0, x1, x2, x3, x4, x5⟩, ⟨y0, y1, y2, y3, y4, y5⟩⟩ := hSw; dsimp only [ptQ] at x0 x1 x2 x3 x4 x5 y0 y1 y2 y3 y4 y5; go_simp <;> (try with_reducible rfl))
  try simp only [Act.put, List.setIfInBounds_toArray, List.set_cons_zero, List.set_cons_succ]
  refine wpAnyH_take (i := 46) (oi := ?a45o) (v := ?a45v) ?a45h (by kernel_rfl) (by kernel_rfl) (by kernel_rfl) ?a45q ?a45y hHeld ?a45r
  case a45h => (simp only [List.getElem?_toArray, List.getElem?_cons_succ, List.getElem?_cons_zero]; rfl)
  case a45q => exact fun _ _ _ h => h
  case a45y => (refine Or.inl ⟨by first | kernel_rfl | rfl, ?_⟩; intro w hSw; (try dsimp only at hSw); obtain ⟨⟨x0, x1, x2, x3, x4, x5⟩, ⟨y0, y1, y2, y3, y4, y5⟩⟩ := hSw; dsimp only [ptQ] at x0 x1 x2 x3 x4 x5 y0 y1 y2 y3 y4 y5; go_simp <;> (try with_reducible rfl))
  try simp only [Act.put, List.setIfInBounds_toArray, List.set_cons_zero, List.set_cons_succ]
  refine wpAnyH_take (i := 47) (oi := ?a46o) (v := ?a46v) ?a46h (by kernel_rfl) (by kernel_rfl) (by kernel_rfl) ?a46q ?a46y hHeld ?a46r
  case a46h => (simp only [List.getElem?_toArray, List.getElem?_cons_succ, List.getElem?_cons_zero]; rfl)
  case a46q => exact fun _ _ _ h => h
  case a46y => (refine Or.inl ⟨by first | kernel_rfl | rfl, ?_⟩; intro w hSw; (try dsimp only at hSw); obtain ⟨⟨x0, x1, x2, x3, x4, x5⟩, ⟨y0, y1, y2, y3, y4, y5⟩⟩ := hSw; dsimp only [ptQ] at x0 x1 x2 x3 x4 x5 y0 y1 y2 y3 y4 y5; go_simp <;> (try with_reducible rfl))
  try simp only [Act.put, List.setIfInBounds_toArray, List.set_cons_zero, List.set_cons_succ]
  refine wpAnyH_ready (rs := [48]) (by kernel_rfl) (by simp) ?_
  refine (AllReadyH.cons rfl (fun K hK => ?_) AllReadyH.nil)
  go_simp
  (go_at_call 30; (with_reducible refine (m1 _).mono ?_); rintro e w17 ⟨rfl, rfl⟩)
  refine hK.out _ _ (hst3) (fun hHeld => ?_)
  clear hK K
  try simp only [Act.put, List.setIfInBounds_toArray, List.set_cons_zero, List.set_cons_succ]
  refine wpAnyH_take (i := 49) (oi := ?a47o) (v := ?a47v) ?a47h (by kernel_rfl) (by kernel_rfl) (by kernel_rfl) ?a47q ?a47y hHeld ?a47r
  case a47h => (simp only [List.getElem?_toArray, List.getElem?_cons_succ, List.getElem?_cons_zero]; rfl)
  case a47q => exact fun _ _ _ h => h
  case a47y => (refine Or.inl ⟨by first | kernel_rfl | rfl, ?_⟩; intro w hSw; (try dsimp only at hSw); obtain ⟨⟨x0, x1, x2, x3, x4, x5⟩, ⟨y0, y1, y2, y3, y4, y5⟩⟩ := hSw; dsimp only [ptQ] at x0 x1 x2 x3 x4 x5 y0 y1 y2 y3 y4 y5; go_simp <;> (try with_reducible rfl))
  try simp only [Act.put, List.setIfInBounds_toArray, List.set_cons_zero, List.set_cons_succ]
  refine wpAnyH_take (i := 50) (oi := ?a48o) (v := ?a48v) ?a48h (by kernel_rfl) (by kernel_rfl) (by kernel_rfl) ?a48q ?a48y hHeld ?a48r
  case a48h => (simp only [List.getElem?_toArray, List.getElem?_cons_succ, List.getElem?_cons_zero]; rfl)
  case a48q => exact fun _ _ _ h => h
  case a48y => (refine Or.inl ⟨by first | kernel_rfl | rfl, ?_⟩; intro w hSw; (try dsimp only at hSw); obtain ⟨⟨x0, x1, x2, x3, x4, x5⟩, ⟨y0, y1, y2, y3, y4, y5⟩⟩ := hSw; dsimp only [ptQ] at x0 x1 x2 x3 x4 x5 y0 y1 y2 y3 y4 y5; go_simp <;> (try with_reducible rfl))
  try simp only [Act.put, List.setIfInBounds_toArray, List.set_cons_zero, List.set_cons_succ]
  refine wpAnyH_ready (rs := [51]) (by kernel_rfl) (by simp) ?_
  refine (AllReadyH.cons rfl (fun K hK => ?_) AllReadyH.nil)
  go_simp
  (go_at_call 30; (with_reducible refine (m2 _).mono ?_); rintro e w17 ⟨rfl, rfl⟩)
  refine hK.out _ _ (hst3) (fun hHeld => ?_)
  clear hK K
  try simp only [Act.put, List.setIfInBounds_toArray, List.set_cons_zero, List.set_cons_succ]
  refine wpAnyH_take (i := 52) (oi := ?a49o) (v := ?a49v) ?a49h (by kernel_rfl) (by kernel_rfl) (by kernel_rfl) ?a49q ?a49y hHeld ?a49r
  case a49h => (simp only [List.getElem?_toArray, List.getElem?_cons_succ, List.getElem?_cons_zero]; rfl)
  case a49q => exact fun _ _ _ h => h
  case a49y => (refine Or.inl ⟨by first | kernel_rfl | rfl, ?_⟩; intro w hSw; (try dsimp only at hSw); obtain ⟨⟨x0, x1, x2, x3, x4, x5⟩, ⟨y0, y1, y2, y3, y4, y5⟩⟩ := hSw; dsimp only [ptQ] at x0 x1 x2 x3 x4 x5 y0 y1 y2 y3 y4 y5; go_simp <;> (try with_reducible rfl))
  try simp only [Act.put, List.setIfInBounds_toArray, List.set_cons_zero, List.set_cons_succ]
  refine wpAnyH_take (i := 53) (oi := ?a50o) (v := ?a50v) ?a50h (by kernel_rfl) (by kernel_rfl) (by kernel_rfl) ?a50q ?a50y hHeld ?a50r
  case a50h => (simp only [List.getElem?_toArray, List.getElem?_cons_succ, List.getElem?_cons_zero]; rfl)
  case a50q => exact fun _ _ _ h => h
  case a50y => (refine Or.inl ⟨by first | kernel_rfl | rfl, ?_⟩; intro w hSw; (try dsimp only at hSw); obtain ⟨⟨x0, x1, x2, x3, x4, x5⟩, ⟨y0, y1, y2, y3, y4, y5⟩⟩ := hSw; dsimp only [ptQ] at x0 x1 x2 x3 x4 x5 y0 y1 y2 y3 y4 y5; go_simp <;> (try with_reducible rfl))
  try simp only [Act.put, List.setIfInBounds_toArray, List.set_cons_zero, List.set_cons_succ]
  refine wpAnyH_take (i := 54) (oi := ?a51o) (v := ?a51v) ?a51h (by kernel_rfl) (by kernel_rfl) (by kernel_rfl) ?a51q ?a51y hHeld ?a51r
  case a51h => (simp only [List.getElem?_toArray, List.getElem?_cons_succ, List.getElem?_cons_zero]; rfl)
  case a51q => exact fun _ _ _ h => h
  case a51y => (refine Or.inl ⟨by first | kernel_rfl | rfl, ?_⟩; intro w hSw; (try dsimp only at hSw); obtain ⟨⟨x0, x1, x2, x3, x4, x5⟩, ⟨y0, y1, y2, y3, y4, y5⟩⟩ := hSw; dsimp only [ptQ] at x0 x1 x2 x3 x4 x5 y0 y1 y2 y3 y4 y5; go_simp <;> (try with_reducible rfl))
  try simp only [Act.put, List.setIfInBounds_toArray, List.set_cons_zero, List.set_cons_succ]
  refine wpAnyH_done (by kernel_rfl) ?_ _
  go_wp2
  go_ret
  exact ⟨rfl, HA16.out.bel⟩
end Go.Proofs.Ytcjcbbpolhpphaa.Qu
