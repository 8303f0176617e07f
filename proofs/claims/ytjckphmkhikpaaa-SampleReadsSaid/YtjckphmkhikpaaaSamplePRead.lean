/- The contract of the program's Read of records. -/
import Derived.Test.YtjckphmkhikpaaaSampleListN
import Derived.Test.YtjckphmkhikpaaaSamplePCheck
import Derived.BigRegion
set_option maxRecDepth 20000
namespace Go.Proofs.Ytjckphmkhikpaaa
open Go.RowKit Go.Proofs.Ytjckphmkhikpaaa.Vi Go.Proofs.Ytjckphmkhikpaaa.Mk

/-- Read's world between two parts: the result's block, the reader's, the method's, the record's. -/
structure RdQ (w : World) (r : ByteArray) (br : Bool) (q e : Nat) (x : Rec) (dv : Value) (wr : World) : Prop where
  ra : RA wr (w.heap.size + 1) r br
  out : RecW wr w.heap.size Rec.zero (.slice none 0 0)
  fn : wr.cell? ⟨q, 0, none⟩ = some (.func (.func 57) #[.pointer (some ⟨w.heap.size + 1, 0, none⟩)] #[])
  at_ : RecW wr e x dv
  far : w.heap.size + 2 ≤ q
  qe : q < e
  bel : Below w.heap.size w wr
theorem RdQ.but {w wr w' : World} {r r' : ByteArray} {br br' : Bool} {q e : Nat} {x : Rec} {dv : Value} (h : RdQ w r br q e x dv wr) (k : But (w.heap.size + 1) wr w') (hr : RA w' (w.heap.size + 1) r' br') : RdQ w r' br' q e x dv w' :=
  ⟨hr, h.out.but k (by omega), (k.cell (p := ⟨q, 0, none⟩) (by show q ≠ w.heap.size + 1; have := h.far; omega) (World.block_lt_of_cell? _ _ h.fn)).trans h.fn, h.at_.but k (by have := h.far; have := h.qe; omega), h.far, h.qe, h.bel.trans (k.below (by omega) (by have := h.out.room; omega))⟩
theorem RdQ.below {w wr w' : World} {r : ByteArray} {br : Bool} {q e : Nat} {x : Rec} {dv : Value} (h : RdQ w r br q e x dv wr) (k : Below wr.heap.size wr w') : RdQ w r br q e x dv w' :=
  ⟨h.ra.below k, h.out.below k, (k.cell (p := ⟨q, 0, none⟩) (World.block_lt_of_cell? _ _ h.fn)).trans h.fn, h.at_.below k, h.far, h.qe, bel_next h.bel k⟩
theorem RdQ.drew {w wr : World} {r : ByteArray} {br : Bool} {q e : Nat} {x : Rec} {dv : Value} (h : RdQ w r br q e x dv wr) : RdQ w r br q e x dv wr.drew := h.below ((Below.refl _ _).drew)
theorem RdQ.drewN {w wr : World} {r : ByteArray} {br : Bool} {q e n : Nat} {x : Rec} {dv : Value} (h : RdQ w r br q e x dv wr) : RdQ w r br q e x dv (wr.drewN n) := h.below (below_drewN (Below.refl _ _) n)
theorem RdQ.set1 {w wr : World} {r : ByteArray} {br : Bool} {q e : Nat} {x : Rec} {dv : Value} (h : RdQ w r br q e x dv wr) (z : ByteArray) : RdQ w r br q e { x with s := z } dv (wr.setCell ⟨e, 1, none⟩ (.string z)) := by
  have hf := h.far
  have hq := h.qe
  refine ⟨?_, ?_, ?_, h.at_.set1 z, hf, hq, ?_⟩
  · refine RA.other ?_ _ _ (show e ≠ _ by omega); exact h.ra
  · refine RecW.other ?_ _ _ (show e ≠ _ by omega); exact h.out
  · rw [World.cell?_setCell_far _ _ _ _ (show e ≠ q by omega)]; exact h.fn
  · exact (h.bel.setCell (by show _ ≤ e; omega) _)
theorem RdQ.set2 {w wr : World} {r : ByteArray} {br : Bool} {q e : Nat} {x : Rec} {dv : Value} (h : RdQ w r br q e x dv wr) (z : Int) : RdQ w r br q e { x with t := z } dv (wr.setCell ⟨e, 2, none⟩ (.int .i64 z)) := by
  have hf := h.far
  have hq := h.qe
  refine ⟨?_, ?_, ?_, h.at_.set2 z, hf, hq, ?_⟩
  · refine RA.other ?_ _ _ (show e ≠ _ by omega); exact h.ra
  · refine RecW.other ?_ _ _ (show e ≠ _ by omega); exact h.out
  · rw [World.cell?_setCell_far _ _ _ _ (show e ≠ q by omega)]; exact h.fn
  · exact (h.bel.setCell (by show _ ≤ e; omega) _)
theorem RdQ.set3 {w wr : World} {r : ByteArray} {br : Bool} {q e : Nat} {x : Rec} {dv : Value} (h : RdQ w r br q e x dv wr) (z : Int) : RdQ w r br q e { x with v := z } dv (wr.setCell ⟨e, 3, none⟩ (.int .i64 z)) := by
  have hf := h.far
  have hq := h.qe
  refine ⟨?_, ?_, ?_, h.at_.set3 z, hf, hq, ?_⟩
  · refine RA.other ?_ _ _ (show e ≠ _ by omega); exact h.ra
  · refine RecW.other ?_ _ _ (show e ≠ _ by omega); exact h.out
  · rw [World.cell?_setCell_far _ _ _ _ (show e ≠ q by omega)]; exact h.fn
  · exact (h.bel.setCell (by show _ ≤ e; omega) _)
theorem RdQ.set4 {w wr : World} {r : ByteArray} {br : Bool} {q e : Nat} {x : Rec} {dv : Value} (h : RdQ w r br q e x dv wr) (z : Int) : RdQ w r br q e { x with tier := z } dv (wr.setCell ⟨e, 4, none⟩ (.int .i64 z)) := by
  have hf := h.far
  have hq := h.qe
  refine ⟨?_, ?_, ?_, h.at_.set4 z, hf, hq, ?_⟩
  · refine RA.other ?_ _ _ (show e ≠ _ by omega); exact h.ra
  · refine RecW.other ?_ _ _ (show e ≠ _ by omega); exact h.out
  · rw [World.cell?_setCell_far _ _ _ _ (show e ≠ q by omega)]; exact h.fn
  · exact (h.bel.setCell (by show _ ≤ e; omega) _)
theorem RdQ.set5 {w wr : World} {r : ByteArray} {br : Bool} {q e : Nat} {x : Rec} {dv : Value} (h : RdQ w r br q e x dv wr) (z : St) : RdQ w r br q e { x with st := z } dv (((wr.setCell ⟨e, 5, none⟩ (.int .i64 z.c)).setCell ⟨e, 6, none⟩ (.int .i64 z.s)).setCell ⟨e, 7, none⟩ (.int .i64 z.q)) := by
  have hf := h.far
  have hq := h.qe
  refine ⟨?_, ?_, ?_, h.at_.set5 z, hf, hq, ?_⟩
  · refine RA.other ?_ _ _ (show e ≠ _ by omega); refine RA.other ?_ _ _ (show e ≠ _ by omega); refine RA.other ?_ _ _ (show e ≠ _ by omega); exact h.ra
  · refine RecW.other ?_ _ _ (show e ≠ _ by omega); refine RecW.other ?_ _ _ (show e ≠ _ by omega); refine RecW.other ?_ _ _ (show e ≠ _ by omega); exact h.out
  · rw [World.cell?_setCell_far _ _ _ _ (show e ≠ q by omega), World.cell?_setCell_far _ _ _ _ (show e ≠ q by omega), World.cell?_setCell_far _ _ _ _ (show e ≠ q by omega)]; exact h.fn
  · exact (((h.bel.setCell (by show _ ≤ e; omega) _).setCell (by show _ ≤ e; omega) _).setCell (by show _ ≤ e; omega) _)
theorem RdQ.set8 {w wr : World} {r : ByteArray} {br : Bool} {q e : Nat} {x : Rec} {dv : Value} (h : RdQ w r br q e x dv wr) (l : List Int) (z : Value) : RdQ w r br q e { x with d := l } z (wr.setCell ⟨e, 8, none⟩ z) := by
  have hf := h.far
  have hq := h.qe
  refine ⟨?_, ?_, ?_, h.at_.set8 l z, hf, hq, ?_⟩
  · refine RA.other ?_ _ _ (show e ≠ _ by omega); exact h.ra
  · refine RecW.other ?_ _ _ (show e ≠ _ by omega); exact h.out
  · rw [World.cell?_setCell_far _ _ _ _ (show e ≠ q by omega)]; exact h.fn
  · exact (h.bel.setCell (by show _ ≤ e; omega) _)
theorem RdQ.first {w w1 w2 : World} {S r : ByteArray} {b : Bool} (k : Int) (hA1 : RA w1 (w.heap.size + 1) S false) (hb1 : Below (w.alloc (.cells #[.int .i64 0, .string ⟨#[]⟩, .int .i64 0, .int .i64 0, .int .i64 0, .int .i64 0, .int .i64 0, .int .i64 0, .slice none 0 0] 26)).heap.size (w.alloc (.cells #[.int .i64 0, .string ⟨#[]⟩, .int .i64 0, .int .i64 0, .int .i64 0, .int .i64 0, .int .i64 0, .int .i64 0, .slice none 0 0] 26)) w1) (hB2 : But (w.heap.size + 1) (w1.alloc (.cells #[.func (.func 57) #[.pointer (some ⟨w.heap.size + 1, 0, none⟩)] #[]] 70)) w2) (hR : RA w2 (w.heap.size + 1) r b) : RdQ w r b w1.heap.size w2.heap.size ⟨k, ⟨#[]⟩, 0, 0, 0, ⟨0, 0, 0⟩, []⟩ (.slice none 0 0) (w2.alloc (.cells #[.int .i64 k, .string ⟨#[]⟩, .int .i64 0, .int .i64 0, .int .i64 0, .int .i64 0, .int .i64 0, .int .i64 0, .slice none 0 0] 26)) := by
  have hs1 : w.heap.size + 1 < w1.heap.size := hA1.room
  have hs2 := hB2.size
  have hZ : RecW (w.alloc (.cells #[.int .i64 0, .string ⟨#[]⟩, .int .i64 0, .int .i64 0, .int .i64 0, .int .i64 0, .int .i64 0, .int .i64 0, .slice none 0 0] 26)) w.heap.size Rec.zero (.slice none 0 0) := RecW.new w Rec.zero _
  have hF : (w1.alloc (.cells #[.func (.func 57) #[.pointer (some ⟨w.heap.size + 1, 0, none⟩)] #[]] 70)).cell? ⟨w1.heap.size, 0, none⟩ = some (.func (.func 57) #[.pointer (some ⟨w.heap.size + 1, 0, none⟩)] #[]) := by simp [go_sem]
  have hal := (Below.refl w1.heap.size w1).alloc (Nat.le_refl _) (.cells #[.func (.func 57) #[.pointer (some ⟨w.heap.size + 1, 0, none⟩)] #[]] 70)
  have hN := (Below.refl w2.heap.size w2).alloc (Nat.le_refl _) (.cells #[.int .i64 k, .string ⟨#[]⟩, .int .i64 0, .int .i64 0, .int .i64 0, .int .i64 0, .int .i64 0, .int .i64 0, .slice none 0 0] 26)
  simp only [World.size_alloc] at hs2
  have hbw : Below w.heap.size w w1 := ((Below.refl _ _).alloc (Nat.le_refl _) _).trans (hb1.mono (by simp))
  refine ⟨hR.below hN, (((hZ.below hb1).below hal).but hB2 (by omega)).below hN, ?_, RecW.new w2 ⟨k, ⟨#[]⟩, 0, 0, 0, ⟨0, 0, 0⟩, []⟩ _, by omega, by omega, ?_⟩
  · exact (hN.cell (p := ⟨w1.heap.size, 0, none⟩) (by show w1.heap.size < w2.heap.size; omega)).trans ((hB2.cell (p := ⟨w1.heap.size, 0, none⟩) (by show w1.heap.size ≠ _; omega) (by simp)).trans hF)
  · exact bel_next ((hbw.trans (hal.mono (by omega))).trans (hB2.below (by omega) (by simp; omega))) hN
theorem head_ptR {S r1 r5 : ByteArray} {b1 b5 : Bool} {p : Pt} (h1 : smallQ S false 2 = (1, r1, b1)) (hp : ptR r1 b1 = (p, r5, b5)) : headQ S = (⟨1, p.s, p.t, p.v, 0, p.st, []⟩, r5, b5) := by
  obtain ⟨s, r1', b1', t, r2, b2, v, r3, b3, a, r4, b4, h2, h3, h4, h5, e⟩ := ptR_parts r1 b1
  rw [hp] at e
  simp only [Prod.mk.injEq] at e
  obtain ⟨rfl, rfl, rfl⟩ := e
  exact head_sample h1 rfl h2 h3 h4 h5
theorem ptR_st {r r' : ByteArray} {b b' : Bool} {p : Pt} (H : ptR r b = (p, r', b')) (h : b = true → r = ⟨#[]⟩) : (0 ≤ p.st.s ∧ p.st.s ≤ 7) ∧ (0 ≤ p.t ∧ p.t ≤ 1099511627776) ∧ p.vfit := by
  obtain ⟨s, r1, b1, t, r2, b2, v, r3, b3, a, r4, b4, h1, h2, h3, h4, e⟩ := ptR_parts r b
  rw [e] at H
  simp only [Prod.mk.injEq] at H
  obtain ⟨rfl, rfl, rfl⟩ := H
  obtain ⟨i1, j1, k1⟩ := text_inv6 h1 h
  obtain ⟨i2, -, j2⟩ := smallQ_inv h2 i1
  obtain ⟨i3, j3, v0, v1⟩ := num_inv6 h3 fun e => (i2 e).1
  exact ⟨take_range6 h4 i3, smallQ_range h2 (by omega), zag_bounds v v0 v1⟩

set_option maxHeartbeats 8000000 in
theorem pread6_s_bad (S : ByteArray) (r1 r5 r6 : ByteArray) (b1 b5 b6 : Bool) (p : Pt) (l : List Int) (z : Int) (w : World) (hs : S.size ≤ 100000) (h1 : smallQ S false 2 = (1, r1, b1)) (hp : ptR r1 b1 = (p, r5, b5)) (h6 : tvN r5 b5 = (l, r6, b6)) (hz : endQ r6 b6 = z) (hb : (z != 0) = true) : Calls Try.prog 20 #[.string S] w (Read6Done S w) := by
  have hmf := makeFunc_run
  obtain ⟨i1, -, j1⟩ := smallQ_inv h1 (fun e => by cases e)
  obtain ⟨i5, j5, -⟩ := ptR_inv hp fun e => (i1 e).1
  obtain ⟨hss, ht2, hvf⟩ := ptR_st hp fun e => (i1 e).1
  have hq := recQ_tvN (head_ptR h1 hp) h6
  have hps := (ptR_inv hp fun e => (i1 e).1).2.2
  rw [if_neg (fun g => by rw [hz] at g; rw [g.1] at hb; simp at hb)] at hq
  have kS := fun W h => small_is (w.heap.size + 1) S r1 false b1 1 2 W (by unfold maxLen; omega) (by omega) (Lib.hid h1) h
  have kT := fun W h => takep_is (w.heap.size + 1) r1 r5 b1 b5 p W (by omega) (Lib.hid hp) (fun e => (i1 e).1) h
  have kL := fun W q h hq hne => listn_is (w.heap.size + 1) q r5 r6 b5 b6 l W (by omega) (Lib.hid h6) i5 h hq hne
  have kE := fun W h => end_is (w.heap.size + 1) r6 b6 z W h (Lib.hid hz)
  have hfirst := fun w1 w2 hA1 hb1 hB2 hR => RdQ.first (w := w) (w1 := w1) (w2 := w2) (S := S) (r := r1) (b := b1) 1 hA1 hb1 hB2 hR
  have HQ := Lib.hid hq
  clear hq i1 j1 h1 h6 hz hs i5 j5 hss ht2 hvf hp hps
  unfold ptV at kT
  obtain ⟨ps, pt, pv, pst⟩ := p
  dsimp only at kT HQ
  go_enter Try.func20, Try.ntmps20
  go_wp2_with (first
    | (go_at_call 56; (with_reducible refine (read_is _ _).mono ?_); rintro e w1 ⟨rfl, hA1, hb1, hz1⟩; (have hA1 : RA w1 (w.heap.size + 1) S false := by simpa using hA1); have hA2 := hA1.below ((Below.refl _ _).alloc (Nat.le_refl _) (.cells #[.func (.func 57) #[.pointer (some ⟨w.heap.size + 1, 0, none⟩)] #[]] 70)); (have hfn : (w1.alloc (.cells #[.func (.func 57) #[.pointer (some ⟨w.heap.size + 1, 0, none⟩)] #[]] 70)).cell? ⟨w1.heap.size, 0, none⟩ = some (.func (.func 57) #[.pointer (some ⟨w.heap.size + 1, 0, none⟩)] #[]) := by simp [go_sem]))
    | (go_at_call 57; (with_reducible refine (kS _ hA2).mono ?_); rintro e w2 ⟨rfl, hR2, hB2⟩; have R1 := hfirst w1 w2 hA1 hb1 hB2 hR2; have Hx := R1.at_; obtain ⟨⟨x0, x1, x2, x3, x4, x5, x6, x7, x8⟩, y0, y1, y2, y3, y4, y5, y6, y7, y8⟩ := Hx; dsimp only at x0 x1 x2 x3 x4 x5 x6 x7 x8; have hfn := R1.fn)
    | (go_at_call 58; (with_reducible refine (kT _ R1.ra).mono ?_); rintro e w3 ⟨rfl, hR3, hB3⟩; have R2 := (R1.but hB3 hR3).below ((Below.refl _ _).alloc (Nat.le_refl _) (.cells #[.string ps, .int .i64 pt, .int .i64 pv, .int .i64 pst.c, .int .i64 pst.s, .int .i64 pst.q] 34)); have P2 := PtAt.new w3 ⟨ps, pt, pv, pst⟩; obtain ⟨c0, c1, c2, c3, c4, c5⟩ := P2; dsimp only at c0 c1 c2 c3 c4 c5; (have hne1 : ¬ w3.heap.size = w2.heap.size := by (have := (R1.but hB3 hR3).at_.room; omega)); (have hne2 : ¬ w2.heap.size = w3.heap.size := by (have := (R1.but hB3 hR3).at_.room; omega)); have Hx := R2.at_; obtain ⟨⟨x0, x1, x2, x3, x4, x5, x6, x7, x8⟩, y0, y1, y2, y3, y4, y5, y6, y7, y8⟩ := Hx; dsimp only at x0 x1 x2 x3 x4 x5 x6 x7 x8; have hfn := R2.fn))
  go_region
  have RX := ((((R2.set1 ps).set2 pt).set3 pv).set5 pst).drew
  go_wp2_with (first
    | (go_at_call 60; (with_reducible refine (kL _ _ RX.ra RX.fn (by have := RX.far; omega)).mono ?_); rintro e w6 ⟨dv, rfl, hB6, hN6, hQ6, hR6⟩; obtain ⟨da, dc, rfl⟩ := hN6.slice; have hQ7 := own_up hQ6 (show w2.heap.size + 1 ≤ _ from RX.at_.room); have R6 := RX.but hB6 hR6; have R7 := R6.set8 l (.slice da l.length dc); have N7 := Nums.far hN6 hQ7 ⟨w2.heap.size, 8, none⟩ (.slice da l.length dc) (Nat.lt_succ_self _); have Hx := R6.at_; obtain ⟨⟨x0, x1, x2, x3, x4, x5, x6, x7, x8⟩, y0, y1, y2, y3, y4, y5, y6, y7, y8⟩ := Hx; dsimp only at x0 x1 x2 x3 x4 x5 x6 x7 x8; have hfn := R6.fn; have Ho7 := R7.out; obtain ⟨⟨zx0, zx1, zx2, zx3, zx4, zx5, zx6, zx7, zx8⟩, zy0, zy1, zy2, zy3, zy4, zy5, zy6, zy7, zy8⟩ := Ho7; dsimp only [Rec.zero] at zx0 zx1 zx2 zx3 zx4 zx5 zx6 zx7 zx8)
    | (go_at_call 62; (with_reducible refine (kE _ R7.ra).mono ?_); rintro e w7 ⟨rfl, rfl⟩; have Hx := R7.at_; obtain ⟨⟨x0, x1, x2, x3, x4, x5, x6, x7, x8⟩, y0, y1, y2, y3, y4, y5, y6, y7, y8⟩ := Hx; dsimp only at x0 x1 x2 x3 x4 x5 x6 x7 x8; have hfn := R7.fn))
  refine bodyPost_ret (v := .tuple #[recV Rec.zero (.slice none 0 0), .int .i64 10]) (by unfold recV Rec.zero; simp [results, Try.results20, go_sem, zx0, zx1, zx2, zx3, zx4, zx5, zx6, zx7, zx8]; try rfl) rfl (read6_none HQ.out ?_)
  exact nine_set R7.bel _ (Nat.le_refl _) _ _ _ _ _ _ _ _ _

set_option maxHeartbeats 8000000 in
theorem pread6_s_no (S : ByteArray) (r1 r5 r6 : ByteArray) (b1 b5 b6 : Bool) (p : Pt) (l : List Int) (z : Int) (w : World) (hs : S.size ≤ 100000) (h1 : smallQ S false 2 = (1, r1, b1)) (hp : ptR r1 b1 = (p, r5, b5)) (h6 : tvN r5 b5 = (l, r6, b6)) (hz : endQ r6 b6 = z) (hb : z = 0) (ho : Rec.ok ⟨1, p.s, p.t, p.v, 0, p.st, l⟩ = false) : Calls Try.prog 20 #[.string S] w (Read6Done S w) := by
  have hmf := makeFunc_run
  obtain ⟨i1, -, j1⟩ := smallQ_inv h1 (fun e => by cases e)
  obtain ⟨i5, j5, -⟩ := ptR_inv hp fun e => (i1 e).1
  obtain ⟨hss, ht2, hvf⟩ := ptR_st hp fun e => (i1 e).1
  have hq := recQ_tvN (head_ptR h1 hp) h6
  have hps := (ptR_inv hp fun e => (i1 e).1).2.2
  rw [if_neg (fun g => by have := g.2; rw [show Rec.ok _ = false from ho] at this; cases this)] at hq
  have kS := fun W h => small_is (w.heap.size + 1) S r1 false b1 1 2 W (by unfold maxLen; omega) (by omega) (Lib.hid h1) h
  have kT := fun W h => takep_is (w.heap.size + 1) r1 r5 b1 b5 p W (by omega) (Lib.hid hp) (fun e => (i1 e).1) h
  have kL := fun W q h hq hne => listn_is (w.heap.size + 1) q r5 r6 b5 b6 l W (by omega) (Lib.hid h6) i5 h hq hne
  have kE := fun W h => end_is (w.heap.size + 1) r6 b6 z W h (Lib.hid hz)
  have hfit : Rec.fits ⟨1, p.s, p.t, p.v, 0, p.st, l⟩ := ⟨by simp, by dsimp only; omega, by dsimp only; omega, hvf, by simp, by dsimp only; omega⟩
  have kC := fun dv W h => check6_is ⟨1, p.s, p.t, p.v, 0, p.st, l⟩ dv W h hfit
  have he : Rec.err ⟨1, p.s, p.t, p.v, 0, p.st, l⟩ = 1 := Rec.err_no ho
  rw [he] at kC
  unfold recV at kC
  dsimp only at kC
  have hfirst := fun w1 w2 hA1 hb1 hB2 hR => RdQ.first (w := w) (w1 := w1) (w2 := w2) (S := S) (r := r1) (b := b1) 1 hA1 hb1 hB2 hR
  have HQ := Lib.hid hq
  subst hb
  clear hq i1 j1 h1 h6 hz hs i5 j5 hss ht2 hvf hp hps hfit he ho
  unfold ptV at kT
  obtain ⟨ps, pt, pv, pst⟩ := p
  dsimp only at kT HQ kC
  go_enter Try.func20, Try.ntmps20
  go_wp2_with (first
    | (go_at_call 56; (with_reducible refine (read_is _ _).mono ?_); rintro e w1 ⟨rfl, hA1, hb1, hz1⟩; (have hA1 : RA w1 (w.heap.size + 1) S false := by simpa using hA1); have hA2 := hA1.below ((Below.refl _ _).alloc (Nat.le_refl _) (.cells #[.func (.func 57) #[.pointer (some ⟨w.heap.size + 1, 0, none⟩)] #[]] 70)); (have hfn : (w1.alloc (.cells #[.func (.func 57) #[.pointer (some ⟨w.heap.size + 1, 0, none⟩)] #[]] 70)).cell? ⟨w1.heap.size, 0, none⟩ = some (.func (.func 57) #[.pointer (some ⟨w.heap.size + 1, 0, none⟩)] #[]) := by simp [go_sem]))
    | (go_at_call 57; (with_reducible refine (kS _ hA2).mono ?_); rintro e w2 ⟨rfl, hR2, hB2⟩; have R1 := hfirst w1 w2 hA1 hb1 hB2 hR2; have Hx := R1.at_; obtain ⟨⟨x0, x1, x2, x3, x4, x5, x6, x7, x8⟩, y0, y1, y2, y3, y4, y5, y6, y7, y8⟩ := Hx; dsimp only at x0 x1 x2 x3 x4 x5 x6 x7 x8; have hfn := R1.fn)
    | (go_at_call 58; (with_reducible refine (kT _ R1.ra).mono ?_); rintro e w3 ⟨rfl, hR3, hB3⟩; have R2 := (R1.but hB3 hR3).below ((Below.refl _ _).alloc (Nat.le_refl _) (.cells #[.string ps, .int .i64 pt, .int .i64 pv, .int .i64 pst.c, .int .i64 pst.s, .int .i64 pst.q] 34)); have P2 := PtAt.new w3 ⟨ps, pt, pv, pst⟩; obtain ⟨c0, c1, c2, c3, c4, c5⟩ := P2; dsimp only at c0 c1 c2 c3 c4 c5; (have hne1 : ¬ w3.heap.size = w2.heap.size := by (have := (R1.but hB3 hR3).at_.room; omega)); (have hne2 : ¬ w2.heap.size = w3.heap.size := by (have := (R1.but hB3 hR3).at_.room; omega)); have Hx := R2.at_; obtain ⟨⟨x0, x1, x2, x3, x4, x5, x6, x7, x8⟩, y0, y1, y2, y3, y4, y5, y6, y7, y8⟩ := Hx; dsimp only at x0 x1 x2 x3 x4 x5 x6 x7 x8; have hfn := R2.fn))
  go_region
  have RX := ((((R2.set1 ps).set2 pt).set3 pv).set5 pst).drew
  go_wp2_with (first
    | (go_at_call 60; (with_reducible refine (kL _ _ RX.ra RX.fn (by have := RX.far; omega)).mono ?_); rintro e w6 ⟨dv, rfl, hB6, hN6, hQ6, hR6⟩; obtain ⟨da, dc, rfl⟩ := hN6.slice; have hQ7 := own_up hQ6 (show w2.heap.size + 1 ≤ _ from RX.at_.room); have R6 := RX.but hB6 hR6; have R7 := R6.set8 l (.slice da l.length dc); have N7 := Nums.far hN6 hQ7 ⟨w2.heap.size, 8, none⟩ (.slice da l.length dc) (Nat.lt_succ_self _); have Hx := R6.at_; obtain ⟨⟨x0, x1, x2, x3, x4, x5, x6, x7, x8⟩, y0, y1, y2, y3, y4, y5, y6, y7, y8⟩ := Hx; dsimp only at x0 x1 x2 x3 x4 x5 x6 x7 x8; have hfn := R6.fn; have Ho7 := R7.out; obtain ⟨⟨zx0, zx1, zx2, zx3, zx4, zx5, zx6, zx7, zx8⟩, zy0, zy1, zy2, zy3, zy4, zy5, zy6, zy7, zy8⟩ := Ho7; dsimp only [Rec.zero] at zx0 zx1 zx2 zx3 zx4 zx5 zx6 zx7 zx8)
    | (go_at_call 62; (with_reducible refine (kE _ R7.ra).mono ?_); rintro e w7 ⟨rfl, rfl⟩; have Hx := R7.at_; obtain ⟨⟨x0, x1, x2, x3, x4, x5, x6, x7, x8⟩, y0, y1, y2, y3, y4, y5, y6, y7, y8⟩ := Hx; dsimp only at x0 x1 x2 x3 x4 x5 x6 x7 x8; have hfn := R7.fn)
    | (go_at_call 16; (with_reducible refine (kC (.slice da l.length dc) _ N7).mono ?_); rintro e w8 ⟨rfl, hb8⟩; have R8 := R7.below hb8; have N8 := N7.later hb8; have Hx := R8.at_; obtain ⟨⟨x0, x1, x2, x3, x4, x5, x6, x7, x8⟩, y0, y1, y2, y3, y4, y5, y6, y7, y8⟩ := Hx; dsimp only at x0 x1 x2 x3 x4 x5 x6 x7 x8; have hfn := R8.fn; have Ho8 := R8.out; obtain ⟨⟨zx0, zx1, zx2, zx3, zx4, zx5, zx6, zx7, zx8⟩, zy0, zy1, zy2, zy3, zy4, zy5, zy6, zy7, zy8⟩ := Ho8; dsimp only [Rec.zero] at zx0 zx1 zx2 zx3 zx4 zx5 zx6 zx7 zx8))
  refine bodyPost_ret (v := .tuple #[recV Rec.zero (.slice none 0 0), .int .i64 10]) (by unfold recV Rec.zero; simp [results, Try.results20, go_sem, zx0, zx1, zx2, zx3, zx4, zx5, zx6, zx7, zx8]; try rfl) rfl (read6_none HQ.out ?_)
  exact nine_set R8.bel _ (Nat.le_refl _) _ _ _ _ _ _ _ _ _

set_option maxHeartbeats 8000000 in
theorem pread6_s_yes (S : ByteArray) (r1 r5 r6 : ByteArray) (b1 b5 b6 : Bool) (p : Pt) (l : List Int) (z : Int) (w : World) (hs : S.size ≤ 100000) (h1 : smallQ S false 2 = (1, r1, b1)) (hp : ptR r1 b1 = (p, r5, b5)) (h6 : tvN r5 b5 = (l, r6, b6)) (hz : endQ r6 b6 = z) (hb : z = 0) (ho : Rec.ok ⟨1, p.s, p.t, p.v, 0, p.st, l⟩ = true) : Calls Try.prog 20 #[.string S] w (Read6Done S w) := by
  have hmf := makeFunc_run
  obtain ⟨i1, -, j1⟩ := smallQ_inv h1 (fun e => by cases e)
  obtain ⟨i5, j5, -⟩ := ptR_inv hp fun e => (i1 e).1
  obtain ⟨hss, ht2, hvf⟩ := ptR_st hp fun e => (i1 e).1
  have hq := recQ_tvN (head_ptR h1 hp) h6
  have hps := (ptR_inv hp fun e => (i1 e).1).2.2
  rw [if_pos ⟨by rw [hz]; exact hb, ho⟩] at hq
  have kS := fun W h => small_is (w.heap.size + 1) S r1 false b1 1 2 W (by unfold maxLen; omega) (by omega) (Lib.hid h1) h
  have kT := fun W h => takep_is (w.heap.size + 1) r1 r5 b1 b5 p W (by omega) (Lib.hid hp) (fun e => (i1 e).1) h
  have kL := fun W q h hq hne => listn_is (w.heap.size + 1) q r5 r6 b5 b6 l W (by omega) (Lib.hid h6) i5 h hq hne
  have kE := fun W h => end_is (w.heap.size + 1) r6 b6 z W h (Lib.hid hz)
  have hfit : Rec.fits ⟨1, p.s, p.t, p.v, 0, p.st, l⟩ := ⟨by simp, by dsimp only; omega, by dsimp only; omega, hvf, by simp, by dsimp only; omega⟩
  have kC := fun dv W h => check6_is ⟨1, p.s, p.t, p.v, 0, p.st, l⟩ dv W h hfit
  have he : Rec.err ⟨1, p.s, p.t, p.v, 0, p.st, l⟩ = 0 := Rec.err_yes ho
  rw [he] at kC
  unfold recV at kC
  dsimp only at kC
  have hfirst := fun w1 w2 hA1 hb1 hB2 hR => RdQ.first (w := w) (w1 := w1) (w2 := w2) (S := S) (r := r1) (b := b1) 1 hA1 hb1 hB2 hR
  have HQ := Lib.hid hq
  subst hb
  clear hq i1 j1 h1 h6 hz hs i5 j5 hss ht2 hvf hp hps hfit he ho
  unfold ptV at kT
  obtain ⟨ps, pt, pv, pst⟩ := p
  dsimp only at kT HQ kC
  go_enter Try.func20, Try.ntmps20
  go_wp2_with (first
    | (go_at_call 56; (with_reducible refine (read_is _ _).mono ?_); rintro e w1 ⟨rfl, hA1, hb1, hz1⟩; (have hA1 : RA w1 (w.heap.size + 1) S false := by simpa using hA1); have hA2 := hA1.below ((Below.refl _ _).alloc (Nat.le_refl _) (.cells #[.func (.func 57) #[.pointer (some ⟨w.heap.size + 1, 0, none⟩)] #[]] 70)); (have hfn : (w1.alloc (.cells #[.func (.func 57) #[.pointer (some ⟨w.heap.size + 1, 0, none⟩)] #[]] 70)).cell? ⟨w1.heap.size, 0, none⟩ = some (.func (.func 57) #[.pointer (some ⟨w.heap.size + 1, 0, none⟩)] #[]) := by simp [go_sem]))
    | (go_at_call 57; (with_reducible refine (kS _ hA2).mono ?_); rintro e w2 ⟨rfl, hR2, hB2⟩; have R1 := hfirst w1 w2 hA1 hb1 hB2 hR2; have Hx := R1.at_; obtain ⟨⟨x0, x1, x2, x3, x4, x5, x6, x7, x8⟩, y0, y1, y2, y3, y4, y5, y6, y7, y8⟩ := Hx; dsimp only at x0 x1 x2 x3 x4 x5 x6 x7 x8; have hfn := R1.fn)
    | (go_at_call 58; (with_reducible refine (kT _ R1.ra).mono ?_); rintro e w3 ⟨rfl, hR3, hB3⟩; have R2 := (R1.but hB3 hR3).below ((Below.refl _ _).alloc (Nat.le_refl _) (.cells #[.string ps, .int .i64 pt, .int .i64 pv, .int .i64 pst.c, .int .i64 pst.s, .int .i64 pst.q] 34)); have P2 := PtAt.new w3 ⟨ps, pt, pv, pst⟩; obtain ⟨c0, c1, c2, c3, c4, c5⟩ := P2; dsimp only at c0 c1 c2 c3 c4 c5; (have hne1 : ¬ w3.heap.size = w2.heap.size := by (have := (R1.but hB3 hR3).at_.room; omega)); (have hne2 : ¬ w2.heap.size = w3.heap.size := by (have := (R1.but hB3 hR3).at_.room; omega)); have Hx := R2.at_; obtain ⟨⟨x0, x1, x2, x3, x4, x5, x6, x7, x8⟩, y0, y1, y2, y3, y4, y5, y6, y7, y8⟩ := Hx; dsimp only at x0 x1 x2 x3 x4 x5 x6 x7 x8; have hfn := R2.fn))
  go_region
  have RX := ((((R2.set1 ps).set2 pt).set3 pv).set5 pst).drew
  go_wp2_with (first
    | (go_at_call 60; (with_reducible refine (kL _ _ RX.ra RX.fn (by have := RX.far; omega)).mono ?_); rintro e w6 ⟨dv, rfl, hB6, hN6, hQ6, hR6⟩; obtain ⟨da, dc, rfl⟩ := hN6.slice; have hQ7 := own_up hQ6 (show w2.heap.size + 1 ≤ _ from RX.at_.room); have R6 := RX.but hB6 hR6; have R7 := R6.set8 l (.slice da l.length dc); have N7 := Nums.far hN6 hQ7 ⟨w2.heap.size, 8, none⟩ (.slice da l.length dc) (Nat.lt_succ_self _); have Hx := R6.at_; obtain ⟨⟨x0, x1, x2, x3, x4, x5, x6, x7, x8⟩, y0, y1, y2, y3, y4, y5, y6, y7, y8⟩ := Hx; dsimp only at x0 x1 x2 x3 x4 x5 x6 x7 x8; have hfn := R6.fn; have Ho7 := R7.out; obtain ⟨⟨zx0, zx1, zx2, zx3, zx4, zx5, zx6, zx7, zx8⟩, zy0, zy1, zy2, zy3, zy4, zy5, zy6, zy7, zy8⟩ := Ho7; dsimp only [Rec.zero] at zx0 zx1 zx2 zx3 zx4 zx5 zx6 zx7 zx8)
    | (go_at_call 62; (with_reducible refine (kE _ R7.ra).mono ?_); rintro e w7 ⟨rfl, rfl⟩; have Hx := R7.at_; obtain ⟨⟨x0, x1, x2, x3, x4, x5, x6, x7, x8⟩, y0, y1, y2, y3, y4, y5, y6, y7, y8⟩ := Hx; dsimp only at x0 x1 x2 x3 x4 x5 x6 x7 x8; have hfn := R7.fn)
    | (go_at_call 16; (with_reducible refine (kC (.slice da l.length dc) _ N7).mono ?_); rintro e w8 ⟨rfl, hb8⟩; have R8 := R7.below hb8; have N8 := N7.later hb8; have Hx := R8.at_; obtain ⟨⟨x0, x1, x2, x3, x4, x5, x6, x7, x8⟩, y0, y1, y2, y3, y4, y5, y6, y7, y8⟩ := Hx; dsimp only at x0 x1 x2 x3 x4 x5 x6 x7 x8; have hfn := R8.fn; have Ho8 := R8.out; obtain ⟨⟨zx0, zx1, zx2, zx3, zx4, zx5, zx6, zx7, zx8⟩, zy0, zy1, zy2, zy3, zy4, zy5, zy6, zy7, zy8⟩ := Ho8; dsimp only [Rec.zero] at zx0 zx1 zx2 zx3 zx4 zx5 zx6 zx7 zx8))
  refine bodyPost_ret (v := .tuple #[recV ⟨1, ps, pt, pv, 0, pst, l⟩ (.slice da l.length dc), .int .i64 0]) (by unfold recV; simp [results, Try.results20, go_sem, zx0, zx1, zx2, zx3, zx4, zx5, zx6, zx7, zx8]; try rfl) rfl (read6_some HQ.out ?_ ?_)
  · exact nine_far N8 hQ7 _ (by have := R8.far; have := R8.qe; omega) _ _ _ _ _ _ _ _ _
  · exact nine_set R8.bel _ (Nat.le_refl _) _ _ _ _ _ _ _ _ _

set_option maxHeartbeats 8000000 in
theorem pread6_c_bad (S : ByteArray) (r1 r2 r3 r5 r6 : ByteArray) (b1 b2 b3 b5 b6 : Bool) (x t : Int) (a : St) (l : List Int) (z : Int) (w : World) (hs : S.size ≤ 100000) (h1 : smallQ S false 2 = (2, r1, b1)) (h2 : smallQ r1 b1 3 = (x, r2, b2)) (h3 : smallQ r2 b2 1099511627776 = (t, r3, b3)) (h5 : takeQ r3 b3 = (a, r5, b5)) (h6 : tvN r5 b5 = (l, r6, b6)) (hz : endQ r6 b6 = z) (hb : (z != 0) = true) : Calls Try.prog 20 #[.string S] w (Read6Done S w) := by
  have hmf := makeFunc_run
  obtain ⟨i1, -, j1⟩ := smallQ_inv h1 (fun e => by cases e)
  obtain ⟨i2, -, j2⟩ := smallQ_inv h2 fun e => (i1 e).1
  obtain ⟨i3, -, j3⟩ := smallQ_inv h3 fun e => (i2 e).1
  obtain ⟨i5, j5⟩ := takeQ_inv h5 fun e => (i3 e).1
  have hss := take_range6 h5 fun e => (i3 e).1
  have hx := smallQ_range h2 (by omega)
  have ht2 := smallQ_range h3 (by omega)
  have hq := recQ_tvN (head_cut h1 (by omega) h2 h3 h5) h6
  rw [if_neg (fun g => by rw [hz] at g; rw [g.1] at hb; simp at hb)] at hq
  have kS := fun W h => small_is (w.heap.size + 1) S r1 false b1 2 2 W (by unfold maxLen; omega) (by omega) (Lib.hid h1) h
  have k2 := fun W h => small_is (w.heap.size + 1) r1 r2 b1 b2 x 3 W (by unfold maxLen; omega) (by omega) (Lib.hid h2) h
  have k3 := fun W h => small_is (w.heap.size + 1) r2 r3 b2 b3 t 1099511627776 W (by unfold maxLen; omega) (by omega) (Lib.hid h3) h
  have k5 := fun W h => take_is (w.heap.size + 1) r3 r5 b3 b5 a W (by omega) (Lib.hid h5) (fun e => (i3 e).1) h
  have kL := fun W q h hq hne => listn_is (w.heap.size + 1) q r5 r6 b5 b6 l W (by omega) (Lib.hid h6) i5 h hq hne
  have kE := fun W h => end_is (w.heap.size + 1) r6 b6 z W h (Lib.hid hz)
  have hfirst := fun w1 w2 hA1 hb1 hB2 hR => RdQ.first (w := w) (w1 := w1) (w2 := w2) (S := S) (r := r1) (b := b1) 2 hA1 hb1 hB2 hR
  have HQ := Lib.hid hq
  clear hq i1 j1 h1 h6 hz hs i2 j2 i3 j3 i5 j5 hss hx ht2 h2 h3 h5
  go_enter Try.func20, Try.ntmps20
  go_wp2_with (first
    | (go_at_call 56; (with_reducible refine (read_is _ _).mono ?_); rintro e w1 ⟨rfl, hA1, hb1, hz1⟩; (have hA1 : RA w1 (w.heap.size + 1) S false := by simpa using hA1); have hA2 := hA1.below ((Below.refl _ _).alloc (Nat.le_refl _) (.cells #[.func (.func 57) #[.pointer (some ⟨w.heap.size + 1, 0, none⟩)] #[]] 70)); (have hfn : (w1.alloc (.cells #[.func (.func 57) #[.pointer (some ⟨w.heap.size + 1, 0, none⟩)] #[]] 70)).cell? ⟨w1.heap.size, 0, none⟩ = some (.func (.func 57) #[.pointer (some ⟨w.heap.size + 1, 0, none⟩)] #[]) := by simp [go_sem]))
    | (go_at_call 57; (with_reducible refine (kS _ hA2).mono ?_); rintro e w2 ⟨rfl, hR2, hB2⟩; have R1 := hfirst w1 w2 hA1 hb1 hB2 hR2; have Hx := R1.at_; obtain ⟨⟨x0, x1, x2, x3, x4, x5, x6, x7, x8⟩, y0, y1, y2, y3, y4, y5, y6, y7, y8⟩ := Hx; dsimp only at x0 x1 x2 x3 x4 x5 x6 x7 x8; have hfn := R1.fn))
  refine wp_region_held_drew (S := (fun W => W.cell? ⟨w1.heap.size, 0, none⟩ = some (.func (.func 57) #[.pointer (some ⟨w.heap.size + 1, 0, none⟩)] #[]))) (by kernel_rfl) R1.drew.fn (fun hHeld => ?_)
  refine wpAnyH_take (i := 0) (oi := ?obad1o) (v := ?obad1v) ?obad1h (by kernel_rfl) (by kernel_rfl) (by kernel_rfl) ?obad1q ?obad1y hHeld ?obad1r
  case obad1h => (simp only [List.getElem?_toArray, List.getElem?_cons_zero]; rfl)
  case obad1q => exact fun _ _ _ h => h
  case obad1y => (refine Or.inl ⟨by first | kernel_rfl | rfl, ?_⟩; intro w hSw; (try dsimp only at hSw); go_simp <;> (try with_reducible rfl))
  try simp only [Act.put, List.setIfInBounds_toArray, List.set_cons_zero, List.set_cons_succ]
  refine wpAnyH_take (i := 2) (oi := ?obad2o) (v := ?obad2v) ?obad2h (by kernel_rfl) (by kernel_rfl) (by kernel_rfl) ?obad2q ?obad2y hHeld ?obad2r
  case obad2h => (simp only [List.getElem?_toArray, List.getElem?_cons_succ, List.getElem?_cons_zero]; rfl)
  case obad2q => exact fun _ _ _ h => h
  case obad2y => (refine Or.inl ⟨by first | kernel_rfl | rfl, ?_⟩; intro w hSw; (try dsimp only at hSw); go_simp <;> (try with_reducible rfl))
  try simp only [Act.put, List.setIfInBounds_toArray, List.set_cons_zero, List.set_cons_succ]
  refine wpAnyH_take (i := 4) (oi := ?obad3o) (v := ?obad3v) ?obad3h (by kernel_rfl) (by kernel_rfl) (by kernel_rfl) ?obad3q ?obad3y hHeld ?obad3r
  case obad3h => (simp only [List.getElem?_toArray, List.getElem?_cons_succ, List.getElem?_cons_zero]; rfl)
  case obad3q => exact fun _ _ _ h => h
  case obad3y => (refine Or.inl ⟨by first | kernel_rfl | rfl, ?_⟩; intro w hSw; (try dsimp only at hSw); go_simp <;> (try with_reducible rfl))
  try simp only [Act.put, List.setIfInBounds_toArray, List.set_cons_zero, List.set_cons_succ]
  refine wpAnyH_ready (rs := [1]) (by kernel_rfl) (by simp) ?_
  refine (AllReadyH.cons rfl (fun K hK => ?_) AllReadyH.nil)
  go_simp
  ((with_reducible refine (k2 _ R1.drew.ra).mono ?_); rintro e w3 ⟨rfl, hR, hB⟩; have R2 := R1.drew.but hB hR; have Hx := R2.at_; obtain ⟨⟨x0, x1, x2, x3, x4, x5, x6, x7, x8⟩, y0, y1, y2, y3, y4, y5, y6, y7, y8⟩ := Hx; dsimp only at x0 x1 x2 x3 x4 x5 x6 x7 x8; have hfn := R2.fn)
  refine hK.out _ _ (R2.fn) (fun hHeld => ?_)
  clear hK K
  try simp only [Act.put, List.setIfInBounds_toArray, List.set_cons_zero, List.set_cons_succ]
  refine wpAnyH_take (i := 6) (oi := ?obad4o) (v := ?obad4v) ?obad4h (by kernel_rfl) (by kernel_rfl) (by kernel_rfl) ?obad4q ?obad4y hHeld ?obad4r
  case obad4h => (simp only [List.getElem?_toArray, List.getElem?_cons_succ, List.getElem?_cons_zero]; rfl)
  case obad4q => exact fun _ _ _ h => h
  case obad4y => (refine Or.inl ⟨by first | kernel_rfl | rfl, ?_⟩; intro w hSw; (try dsimp only at hSw); go_simp <;> (try with_reducible rfl))
  try simp only [Act.put, List.setIfInBounds_toArray, List.set_cons_zero, List.set_cons_succ]
  refine wpAnyH_ready (rs := [3]) (by kernel_rfl) (by simp) ?_
  refine (AllReadyH.cons rfl (fun K hK => ?_) AllReadyH.nil)
  go_simp
  ((with_reducible refine (k3 _ R2.ra).mono ?_); rintro e w4 ⟨rfl, hR, hB⟩; have R3 := R2.but hB hR; have Hx := R3.at_; obtain ⟨⟨x0, x1, x2, x3, x4, x5, x6, x7, x8⟩, y0, y1, y2, y3, y4, y5, y6, y7, y8⟩ := Hx; dsimp only at x0 x1 x2 x3 x4 x5 x6 x7 x8; have hfn := R3.fn)
  refine hK.out _ _ (R3.fn) (fun hHeld => ?_)
  clear hK K
  try simp only [Act.put, List.setIfInBounds_toArray, List.set_cons_zero, List.set_cons_succ]
  refine wpAnyH_ready (rs := [5]) (by kernel_rfl) (by simp) ?_
  refine (AllReadyH.cons rfl (fun K hK => ?_) AllReadyH.nil)
  go_simp
  ((with_reducible refine (k5 _ R3.ra).mono ?_); rintro e w5 ⟨rfl, hR, hB⟩; have R4 := R3.but hB hR; have Hx := R4.at_; obtain ⟨⟨x0, x1, x2, x3, x4, x5, x6, x7, x8⟩, y0, y1, y2, y3, y4, y5, y6, y7, y8⟩ := Hx; dsimp only at x0 x1 x2 x3 x4 x5 x6 x7 x8; have hfn := R4.fn)
  refine hK.out _ _ (R4.fn) (fun hHeld => ?_)
  clear hK K
  try simp only [Act.put, List.setIfInBounds_toArray, List.set_cons_zero, List.set_cons_succ]
  refine wpAnyH_ready (rs := [7]) (by kernel_rfl) (by simp) ?_
  refine (AllReadyH.cons rfl (fun K hK => ?_) AllReadyH.nil)
  go_simp
  skip
  refine hK.out _ _ ((R4.set4 x).fn) (fun hHeld => ?_)
  clear hK K
  try simp only [Act.put, List.setIfInBounds_toArray, List.set_cons_zero, List.set_cons_succ]
  refine wpAnyH_take (i := 8) (oi := ?obad5o) (v := ?obad5v) ?obad5h (by kernel_rfl) (by kernel_rfl) (by kernel_rfl) ?obad5q ?obad5y hHeld ?obad5r
  case obad5h => (simp only [List.getElem?_toArray, List.getElem?_cons_succ, List.getElem?_cons_zero]; rfl)
  case obad5q => exact fun _ _ _ h => h
  case obad5y => (refine Or.inl ⟨by first | kernel_rfl | rfl, ?_⟩; intro w hSw; (try dsimp only at hSw); go_simp <;> (try with_reducible rfl))
  try simp only [Act.put, List.setIfInBounds_toArray, List.set_cons_zero, List.set_cons_succ]
  refine wpAnyH_ready (rs := [9]) (by kernel_rfl) (by simp) ?_
  refine (AllReadyH.cons rfl (fun K hK => ?_) AllReadyH.nil)
  go_simp
  skip
  refine hK.out _ _ (((R4.set4 x).set2 t).fn) (fun hHeld => ?_)
  clear hK K
  try simp only [Act.put, List.setIfInBounds_toArray, List.set_cons_zero, List.set_cons_succ]
  refine wpAnyH_take (i := 10) (oi := ?obad6o) (v := ?obad6v) ?obad6h (by kernel_rfl) (by kernel_rfl) (by kernel_rfl) ?obad6q ?obad6y hHeld ?obad6r
  case obad6h => (simp only [List.getElem?_toArray, List.getElem?_cons_succ, List.getElem?_cons_zero]; rfl)
  case obad6q => exact fun _ _ _ h => h
  case obad6y => (refine Or.inl ⟨by first | kernel_rfl | rfl, ?_⟩; intro w hSw; (try dsimp only at hSw); go_simp <;> (try with_reducible rfl))
  try simp only [Act.put, List.setIfInBounds_toArray, List.set_cons_zero, List.set_cons_succ]
  refine wpAnyH_ready (rs := [11]) (by kernel_rfl) (by simp) ?_
  refine (AllReadyH.cons rfl (fun K hK => ?_) AllReadyH.nil)
  go_simp
  skip
  refine hK.out _ _ ((((R4.set4 x).set2 t).set5 a).fn) (fun hHeld => ?_)
  clear hK K
  try simp only [Act.put, List.setIfInBounds_toArray, List.set_cons_zero, List.set_cons_succ]
  refine wpAnyH_done (by kernel_rfl) ?_ _
  skip
  have RX := (((R4.set4 x).set2 t).set5 a)
  go_wp2_with (first
    | (go_at_call 60; (with_reducible refine (kL _ _ RX.ra RX.fn (by have := RX.far; omega)).mono ?_); rintro e w6 ⟨dv, rfl, hB6, hN6, hQ6, hR6⟩; obtain ⟨da, dc, rfl⟩ := hN6.slice; have hQ7 := own_up hQ6 (show w2.heap.size + 1 ≤ _ from RX.at_.room); have R6 := RX.but hB6 hR6; have R7 := R6.set8 l (.slice da l.length dc); have N7 := Nums.far hN6 hQ7 ⟨w2.heap.size, 8, none⟩ (.slice da l.length dc) (Nat.lt_succ_self _); have Hx := R6.at_; obtain ⟨⟨x0, x1, x2, x3, x4, x5, x6, x7, x8⟩, y0, y1, y2, y3, y4, y5, y6, y7, y8⟩ := Hx; dsimp only at x0 x1 x2 x3 x4 x5 x6 x7 x8; have hfn := R6.fn; have Ho7 := R7.out; obtain ⟨⟨zx0, zx1, zx2, zx3, zx4, zx5, zx6, zx7, zx8⟩, zy0, zy1, zy2, zy3, zy4, zy5, zy6, zy7, zy8⟩ := Ho7; dsimp only [Rec.zero] at zx0 zx1 zx2 zx3 zx4 zx5 zx6 zx7 zx8)
    | (go_at_call 62; (with_reducible refine (kE _ R7.ra).mono ?_); rintro e w7 ⟨rfl, rfl⟩; have Hx := R7.at_; obtain ⟨⟨x0, x1, x2, x3, x4, x5, x6, x7, x8⟩, y0, y1, y2, y3, y4, y5, y6, y7, y8⟩ := Hx; dsimp only at x0 x1 x2 x3 x4 x5 x6 x7 x8; have hfn := R7.fn))
  refine bodyPost_ret (v := .tuple #[recV Rec.zero (.slice none 0 0), .int .i64 10]) (by unfold recV Rec.zero; simp [results, Try.results20, go_sem, zx0, zx1, zx2, zx3, zx4, zx5, zx6, zx7, zx8]; try rfl) rfl (read6_none HQ.out ?_)
  exact nine_set R7.bel _ (Nat.le_refl _) _ _ _ _ _ _ _ _ _

set_option maxHeartbeats 8000000 in
theorem pread6_c_no (S : ByteArray) (r1 r2 r3 r5 r6 : ByteArray) (b1 b2 b3 b5 b6 : Bool) (x t : Int) (a : St) (l : List Int) (z : Int) (w : World) (hs : S.size ≤ 100000) (h1 : smallQ S false 2 = (2, r1, b1)) (h2 : smallQ r1 b1 3 = (x, r2, b2)) (h3 : smallQ r2 b2 1099511627776 = (t, r3, b3)) (h5 : takeQ r3 b3 = (a, r5, b5)) (h6 : tvN r5 b5 = (l, r6, b6)) (hz : endQ r6 b6 = z) (hb : z = 0) (ho : Rec.ok ⟨2, ⟨#[]⟩, t, 0, x, a, l⟩ = false) : Calls Try.prog 20 #[.string S] w (Read6Done S w) := by
  have hmf := makeFunc_run
  obtain ⟨i1, -, j1⟩ := smallQ_inv h1 (fun e => by cases e)
  obtain ⟨i2, -, j2⟩ := smallQ_inv h2 fun e => (i1 e).1
  obtain ⟨i3, -, j3⟩ := smallQ_inv h3 fun e => (i2 e).1
  obtain ⟨i5, j5⟩ := takeQ_inv h5 fun e => (i3 e).1
  have hss := take_range6 h5 fun e => (i3 e).1
  have hx := smallQ_range h2 (by omega)
  have ht2 := smallQ_range h3 (by omega)
  have hq := recQ_tvN (head_cut h1 (by omega) h2 h3 h5) h6
  rw [if_neg (fun g => by have := g.2; rw [show Rec.ok _ = false from ho] at this; cases this)] at hq
  have kS := fun W h => small_is (w.heap.size + 1) S r1 false b1 2 2 W (by unfold maxLen; omega) (by omega) (Lib.hid h1) h
  have k2 := fun W h => small_is (w.heap.size + 1) r1 r2 b1 b2 x 3 W (by unfold maxLen; omega) (by omega) (Lib.hid h2) h
  have k3 := fun W h => small_is (w.heap.size + 1) r2 r3 b2 b3 t 1099511627776 W (by unfold maxLen; omega) (by omega) (Lib.hid h3) h
  have k5 := fun W h => take_is (w.heap.size + 1) r3 r5 b3 b5 a W (by omega) (Lib.hid h5) (fun e => (i3 e).1) h
  have kL := fun W q h hq hne => listn_is (w.heap.size + 1) q r5 r6 b5 b6 l W (by omega) (Lib.hid h6) i5 h hq hne
  have kE := fun W h => end_is (w.heap.size + 1) r6 b6 z W h (Lib.hid hz)
  have hfit : Rec.fits ⟨2, ⟨#[]⟩, t, 0, x, a, l⟩ := ⟨by simp, by show (⟨#[]⟩ : ByteArray).size ≤ _; decide, by dsimp only; omega, by simp, by dsimp only; omega, by dsimp only; omega⟩
  have kC := fun dv W h => check6_is ⟨2, ⟨#[]⟩, t, 0, x, a, l⟩ dv W h hfit
  have he : Rec.err ⟨2, ⟨#[]⟩, t, 0, x, a, l⟩ = 1 := Rec.err_no ho
  rw [he] at kC
  unfold recV at kC
  dsimp only at kC
  have hfirst := fun w1 w2 hA1 hb1 hB2 hR => RdQ.first (w := w) (w1 := w1) (w2 := w2) (S := S) (r := r1) (b := b1) 2 hA1 hb1 hB2 hR
  have HQ := Lib.hid hq
  subst hb
  clear hq i1 j1 h1 h6 hz hs i2 j2 i3 j3 i5 j5 hss hx ht2 h2 h3 h5 hfit he ho
  go_enter Try.func20, Try.ntmps20
  go_wp2_with (first
    | (go_at_call 56; (with_reducible refine (read_is _ _).mono ?_); rintro e w1 ⟨rfl, hA1, hb1, hz1⟩; (have hA1 : RA w1 (w.heap.size + 1) S false := by simpa using hA1); have hA2 := hA1.below ((Below.refl _ _).alloc (Nat.le_refl _) (.cells #[.func (.func 57) #[.pointer (some ⟨w.heap.size + 1, 0, none⟩)] #[]] 70)); (have hfn : (w1.alloc (.cells #[.func (.func 57) #[.pointer (some ⟨w.heap.size + 1, 0, none⟩)] #[]] 70)).cell? ⟨w1.heap.size, 0, none⟩ = some (.func (.func 57) #[.pointer (some ⟨w.heap.size + 1, 0, none⟩)] #[]) := by simp [go_sem]))
    | (go_at_call 57; (with_reducible refine (kS _ hA2).mono ?_); rintro e w2 ⟨rfl, hR2, hB2⟩; have R1 := hfirst w1 w2 hA1 hb1 hB2 hR2; have Hx := R1.at_; obtain ⟨⟨x0, x1, x2, x3, x4, x5, x6, x7, x8⟩, y0, y1, y2, y3, y4, y5, y6, y7, y8⟩ := Hx; dsimp only at x0 x1 x2 x3 x4 x5 x6 x7 x8; have hfn := R1.fn))
  refine wp_region_held_drew (S := (fun W => W.cell? ⟨w1.heap.size, 0, none⟩ = some (.func (.func 57) #[.pointer (some ⟨w.heap.size + 1, 0, none⟩)] #[]))) (by kernel_rfl) R1.drew.fn (fun hHeld => ?_)
  refine wpAnyH_take (i := 0) (oi := ?ono1o) (v := ?ono1v) ?ono1h (by kernel_rfl) (by kernel_rfl) (by kernel_rfl) ?ono1q ?ono1y hHeld ?ono1r
  case ono1h => (simp only [List.getElem?_toArray, List.getElem?_cons_zero]; rfl)
  case ono1q => exact fun _ _ _ h => h
  case ono1y => (refine Or.inl ⟨by first | kernel_rfl | rfl, ?_⟩; intro w hSw; (try dsimp only at hSw); go_simp <;> (try with_reducible rfl))
  try simp only [Act.put, List.setIfInBounds_toArray, List.set_cons_zero, List.set_cons_succ]
  refine wpAnyH_take (i := 2) (oi := ?ono2o) (v := ?ono2v) ?ono2h (by kernel_rfl) (by kernel_rfl) (by kernel_rfl) ?ono2q ?ono2y hHeld ?ono2r
  case ono2h => (simp only [List.getElem?_toArray, List.getElem?_cons_succ, List.getElem?_cons_zero]; rfl)
  case ono2q => exact fun _ _ _ h => h
  case ono2y => (refine Or.inl ⟨by first | kernel_rfl | rfl, ?_⟩; intro w hSw; (try dsimp only at hSw); go_simp <;> (try with_reducible rfl))
  try simp only [Act.put, List.setIfInBounds_toArray, List.set_cons_zero, List.set_cons_succ]
  refine wpAnyH_take (i := 4) (oi := ?ono3o) (v := ?ono3v) ?ono3h (by kernel_rfl) (by kernel_rfl) (by kernel_rfl) ?ono3q ?ono3y hHeld ?ono3r
  case ono3h => (simp only [List.getElem?_toArray, List.getElem?_cons_succ, List.getElem?_cons_zero]; rfl)
  case ono3q => exact fun _ _ _ h => h
  case ono3y => (refine Or.inl ⟨by first | kernel_rfl | rfl, ?_⟩; intro w hSw; (try dsimp only at hSw); go_simp <;> (try with_reducible rfl))
  try simp only [Act.put, List.setIfInBounds_toArray, List.set_cons_zero, List.set_cons_succ]
  refine wpAnyH_ready (rs := [1]) (by kernel_rfl) (by simp) ?_
  refine (AllReadyH.cons rfl (fun K hK => ?_) AllReadyH.nil)
  go_simp
  ((with_reducible refine (k2 _ R1.drew.ra).mono ?_); rintro e w3 ⟨rfl, hR, hB⟩; have R2 := R1.drew.but hB hR; have Hx := R2.at_; obtain ⟨⟨x0, x1, x2, x3, x4, x5, x6, x7, x8⟩, y0, y1, y2, y3, y4, y5, y6, y7, y8⟩ := Hx; dsimp only at x0 x1 x2 x3 x4 x5 x6 x7 x8; have hfn := R2.fn)
  refine hK.out _ _ (R2.fn) (fun hHeld => ?_)
  clear hK K
  try simp only [Act.put, List.setIfInBounds_toArray, List.set_cons_zero, List.set_cons_succ]
  refine wpAnyH_take (i := 6) (oi := ?ono4o) (v := ?ono4v) ?ono4h (by kernel_rfl) (by kernel_rfl) (by kernel_rfl) ?ono4q ?ono4y hHeld ?ono4r
  case ono4h => (simp only [List.getElem?_toArray, List.getElem?_cons_succ, List.getElem?_cons_zero]; rfl)
  case ono4q => exact fun _ _ _ h => h
  case ono4y => (refine Or.inl ⟨by first | kernel_rfl | rfl, ?_⟩; intro w hSw; (try dsimp only at hSw); go_simp <;> (try with_reducible rfl))
  try simp only [Act.put, List.setIfInBounds_toArray, List.set_cons_zero, List.set_cons_succ]
  refine wpAnyH_ready (rs := [3]) (by kernel_rfl) (by simp) ?_
  refine (AllReadyH.cons rfl (fun K hK => ?_) AllReadyH.nil)
  go_simp
  ((with_reducible refine (k3 _ R2.ra).mono ?_); rintro e w4 ⟨rfl, hR, hB⟩; have R3 := R2.but hB hR; have Hx := R3.at_; obtain ⟨⟨x0, x1, x2, x3, x4, x5, x6, x7, x8⟩, y0, y1, y2, y3, y4, y5, y6, y7, y8⟩ := Hx; dsimp only at x0 x1 x2 x3 x4 x5 x6 x7 x8; have hfn := R3.fn)
  refine hK.out _ _ (R3.fn) (fun hHeld => ?_)
  clear hK K
  try simp only [Act.put, List.setIfInBounds_toArray, List.set_cons_zero, List.set_cons_succ]
  refine wpAnyH_ready (rs := [5]) (by kernel_rfl) (by simp) ?_
  refine (AllReadyH.cons rfl (fun K hK => ?_) AllReadyH.nil)
  go_simp
  ((with_reducible refine (k5 _ R3.ra).mono ?_); rintro e w5 ⟨rfl, hR, hB⟩; have R4 := R3.but hB hR; have Hx := R4.at_; obtain ⟨⟨x0, x1, x2, x3, x4, x5, x6, x7, x8⟩, y0, y1, y2, y3, y4, y5, y6, y7, y8⟩ := Hx; dsimp only at x0 x1 x2 x3 x4 x5 x6 x7 x8; have hfn := R4.fn)
  refine hK.out _ _ (R4.fn) (fun hHeld => ?_)
  clear hK K
  try simp only [Act.put, List.setIfInBounds_toArray, List.set_cons_zero, List.set_cons_succ]
  refine wpAnyH_ready (rs := [7]) (by kernel_rfl) (by simp) ?_
  refine (AllReadyH.cons rfl (fun K hK => ?_) AllReadyH.nil)
  go_simp
  skip
  refine hK.out _ _ ((R4.set4 x).fn) (fun hHeld => ?_)
  clear hK K
  try simp only [Act.put, List.setIfInBounds_toArray, List.set_cons_zero, List.set_cons_succ]
  refine wpAnyH_take (i := 8) (oi := ?ono5o) (v := ?ono5v) ?ono5h (by kernel_rfl) (by kernel_rfl) (by kernel_rfl) ?ono5q ?ono5y hHeld ?ono5r
  case ono5h => (simp only [List.getElem?_toArray, List.getElem?_cons_succ, List.getElem?_cons_zero]; rfl)
  case ono5q => exact fun _ _ _ h => h
  case ono5y => (refine Or.inl ⟨by first | kernel_rfl | rfl, ?_⟩; intro w hSw; (try dsimp only at hSw); go_simp <;> (try with_reducible rfl))
  try simp only [Act.put, List.setIfInBounds_toArray, List.set_cons_zero, List.set_cons_succ]
  refine wpAnyH_ready (rs := [9]) (by kernel_rfl) (by simp) ?_
  refine (AllReadyH.cons rfl (fun K hK => ?_) AllReadyH.nil)
  go_simp
  skip
  refine hK.out _ _ (((R4.set4 x).set2 t).fn) (fun hHeld => ?_)
  clear hK K
  try simp only [Act.put, List.setIfInBounds_toArray, List.set_cons_zero, List.set_cons_succ]
  refine wpAnyH_take (i := 10) (oi := ?ono6o) (v := ?ono6v) ?ono6h (by kernel_rfl) (by kernel_rfl) (by kernel_rfl) ?ono6q ?ono6y hHeld ?ono6r
  case ono6h => (simp only [List.getElem?_toArray, List.getElem?_cons_succ, List.getElem?_cons_zero]; rfl)
  case ono6q => exact fun _ _ _ h => h
  case ono6y => (refine Or.inl ⟨by first | kernel_rfl | rfl, ?_⟩; intro w hSw; (try dsimp only at hSw); go_simp <;> (try with_reducible rfl))
  try simp only [Act.put, List.setIfInBounds_toArray, List.set_cons_zero, List.set_cons_succ]
  refine wpAnyH_ready (rs := [11]) (by kernel_rfl) (by simp) ?_
  refine (AllReadyH.cons rfl (fun K hK => ?_) AllReadyH.nil)
  go_simp
  skip
  refine hK.out _ _ ((((R4.set4 x).set2 t).set5 a).fn) (fun hHeld => ?_)
  clear hK K
  try simp only [Act.put, List.setIfInBounds_toArray, List.set_cons_zero, List.set_cons_succ]
  refine wpAnyH_done (by kernel_rfl) ?_ _
  skip
  have RX := (((R4.set4 x).set2 t).set5 a)
  go_wp2_with (first
    | (go_at_call 60; (with_reducible refine (kL _ _ RX.ra RX.fn (by have := RX.far; omega)).mono ?_); rintro e w6 ⟨dv, rfl, hB6, hN6, hQ6, hR6⟩; obtain ⟨da, dc, rfl⟩ := hN6.slice; have hQ7 := own_up hQ6 (show w2.heap.size + 1 ≤ _ from RX.at_.room); have R6 := RX.but hB6 hR6; have R7 := R6.set8 l (.slice da l.length dc); have N7 := Nums.far hN6 hQ7 ⟨w2.heap.size, 8, none⟩ (.slice da l.length dc) (Nat.lt_succ_self _); have Hx := R6.at_; obtain ⟨⟨x0, x1, x2, x3, x4, x5, x6, x7, x8⟩, y0, y1, y2, y3, y4, y5, y6, y7, y8⟩ := Hx; dsimp only at x0 x1 x2 x3 x4 x5 x6 x7 x8; have hfn := R6.fn; have Ho7 := R7.out; obtain ⟨⟨zx0, zx1, zx2, zx3, zx4, zx5, zx6, zx7, zx8⟩, zy0, zy1, zy2, zy3, zy4, zy5, zy6, zy7, zy8⟩ := Ho7; dsimp only [Rec.zero] at zx0 zx1 zx2 zx3 zx4 zx5 zx6 zx7 zx8)
    | (go_at_call 62; (with_reducible refine (kE _ R7.ra).mono ?_); rintro e w7 ⟨rfl, rfl⟩; have Hx := R7.at_; obtain ⟨⟨x0, x1, x2, x3, x4, x5, x6, x7, x8⟩, y0, y1, y2, y3, y4, y5, y6, y7, y8⟩ := Hx; dsimp only at x0 x1 x2 x3 x4 x5 x6 x7 x8; have hfn := R7.fn)
    | (go_at_call 16; (with_reducible refine (kC (.slice da l.length dc) _ N7).mono ?_); rintro e w8 ⟨rfl, hb8⟩; have R8 := R7.below hb8; have N8 := N7.later hb8; have Hx := R8.at_; obtain ⟨⟨x0, x1, x2, x3, x4, x5, x6, x7, x8⟩, y0, y1, y2, y3, y4, y5, y6, y7, y8⟩ := Hx; dsimp only at x0 x1 x2 x3 x4 x5 x6 x7 x8; have hfn := R8.fn; have Ho8 := R8.out; obtain ⟨⟨zx0, zx1, zx2, zx3, zx4, zx5, zx6, zx7, zx8⟩, zy0, zy1, zy2, zy3, zy4, zy5, zy6, zy7, zy8⟩ := Ho8; dsimp only [Rec.zero] at zx0 zx1 zx2 zx3 zx4 zx5 zx6 zx7 zx8))
  refine bodyPost_ret (v := .tuple #[recV Rec.zero (.slice none 0 0), .int .i64 10]) (by unfold recV Rec.zero; simp [results, Try.results20, go_sem, zx0, zx1, zx2, zx3, zx4, zx5, zx6, zx7, zx8]; try rfl) rfl (read6_none HQ.out ?_)
  exact nine_set R8.bel _ (Nat.le_refl _) _ _ _ _ _ _ _ _ _

set_option maxHeartbeats 8000000 in
theorem pread6_c_yes (S : ByteArray) (r1 r2 r3 r5 r6 : ByteArray) (b1 b2 b3 b5 b6 : Bool) (x t : Int) (a : St) (l : List Int) (z : Int) (w : World) (hs : S.size ≤ 100000) (h1 : smallQ S false 2 = (2, r1, b1)) (h2 : smallQ r1 b1 3 = (x, r2, b2)) (h3 : smallQ r2 b2 1099511627776 = (t, r3, b3)) (h5 : takeQ r3 b3 = (a, r5, b5)) (h6 : tvN r5 b5 = (l, r6, b6)) (hz : endQ r6 b6 = z) (hb : z = 0) (ho : Rec.ok ⟨2, ⟨#[]⟩, t, 0, x, a, l⟩ = true) : Calls Try.prog 20 #[.string S] w (Read6Done S w) := by
  have hmf := makeFunc_run
  obtain ⟨i1, -, j1⟩ := smallQ_inv h1 (fun e => by cases e)
  obtain ⟨i2, -, j2⟩ := smallQ_inv h2 fun e => (i1 e).1
  obtain ⟨i3, -, j3⟩ := smallQ_inv h3 fun e => (i2 e).1
  obtain ⟨i5, j5⟩ := takeQ_inv h5 fun e => (i3 e).1
  have hss := take_range6 h5 fun e => (i3 e).1
  have hx := smallQ_range h2 (by omega)
  have ht2 := smallQ_range h3 (by omega)
  have hq := recQ_tvN (head_cut h1 (by omega) h2 h3 h5) h6
  rw [if_pos ⟨by rw [hz]; exact hb, ho⟩] at hq
  have kS := fun W h => small_is (w.heap.size + 1) S r1 false b1 2 2 W (by unfold maxLen; omega) (by omega) (Lib.hid h1) h
  have k2 := fun W h => small_is (w.heap.size + 1) r1 r2 b1 b2 x 3 W (by unfold maxLen; omega) (by omega) (Lib.hid h2) h
  have k3 := fun W h => small_is (w.heap.size + 1) r2 r3 b2 b3 t 1099511627776 W (by unfold maxLen; omega) (by omega) (Lib.hid h3) h
  have k5 := fun W h => take_is (w.heap.size + 1) r3 r5 b3 b5 a W (by omega) (Lib.hid h5) (fun e => (i3 e).1) h
  have kL := fun W q h hq hne => listn_is (w.heap.size + 1) q r5 r6 b5 b6 l W (by omega) (Lib.hid h6) i5 h hq hne
  have kE := fun W h => end_is (w.heap.size + 1) r6 b6 z W h (Lib.hid hz)
  have hfit : Rec.fits ⟨2, ⟨#[]⟩, t, 0, x, a, l⟩ := ⟨by simp, by show (⟨#[]⟩ : ByteArray).size ≤ _; decide, by dsimp only; omega, by simp, by dsimp only; omega, by dsimp only; omega⟩
  have kC := fun dv W h => check6_is ⟨2, ⟨#[]⟩, t, 0, x, a, l⟩ dv W h hfit
  have he : Rec.err ⟨2, ⟨#[]⟩, t, 0, x, a, l⟩ = 0 := Rec.err_yes ho
  rw [he] at kC
  unfold recV at kC
  dsimp only at kC
  have hfirst := fun w1 w2 hA1 hb1 hB2 hR => RdQ.first (w := w) (w1 := w1) (w2 := w2) (S := S) (r := r1) (b := b1) 2 hA1 hb1 hB2 hR
  have HQ := Lib.hid hq
  subst hb
  clear hq i1 j1 h1 h6 hz hs i2 j2 i3 j3 i5 j5 hss hx ht2 h2 h3 h5 hfit he ho
  go_enter Try.func20, Try.ntmps20
  go_wp2_with (first
    | (go_at_call 56; (with_reducible refine (read_is _ _).mono ?_); rintro e w1 ⟨rfl, hA1, hb1, hz1⟩; (have hA1 : RA w1 (w.heap.size + 1) S false := by simpa using hA1); have hA2 := hA1.below ((Below.refl _ _).alloc (Nat.le_refl _) (.cells #[.func (.func 57) #[.pointer (some ⟨w.heap.size + 1, 0, none⟩)] #[]] 70)); (have hfn : (w1.alloc (.cells #[.func (.func 57) #[.pointer (some ⟨w.heap.size + 1, 0, none⟩)] #[]] 70)).cell? ⟨w1.heap.size, 0, none⟩ = some (.func (.func 57) #[.pointer (some ⟨w.heap.size + 1, 0, none⟩)] #[]) := by simp [go_sem]))
    | (go_at_call 57; (with_reducible refine (kS _ hA2).mono ?_); rintro e w2 ⟨rfl, hR2, hB2⟩; have R1 := hfirst w1 w2 hA1 hb1 hB2 hR2; have Hx := R1.at_; obtain ⟨⟨x0, x1, x2, x3, x4, x5, x6, x7, x8⟩, y0, y1, y2, y3, y4, y5, y6, y7, y8⟩ := Hx; dsimp only at x0 x1 x2 x3 x4 x5 x6 x7 x8; have hfn := R1.fn))
  refine wp_region_held_drew (S := (fun W => W.cell? ⟨w1.heap.size, 0, none⟩ = some (.func (.func 57) #[.pointer (some ⟨w.heap.size + 1, 0, none⟩)] #[]))) (by kernel_rfl) R1.drew.fn (fun hHeld => ?_)
  refine wpAnyH_take (i := 0) (oi := ?oyes1o) (v := ?oyes1v) ?oyes1h (by kernel_rfl) (by kernel_rfl) (by kernel_rfl) ?oyes1q ?oyes1y hHeld ?oyes1r
  case oyes1h => (simp only [List.getElem?_toArray, List.getElem?_cons_zero]; rfl)
  case oyes1q => exact fun _ _ _ h => h
  case oyes1y => (refine Or.inl ⟨by first | kernel_rfl | rfl, ?_⟩; intro w hSw; (try dsimp only at hSw); go_simp <;> (try with_reducible rfl))
  try simp only [Act.put, List.setIfInBounds_toArray, List.set_cons_zero, List.set_cons_succ]
  refine wpAnyH_take (i := 2) (oi := ?oyes2o) (v := ?oyes2v) ?oyes2h (by kernel_rfl) (by kernel_rfl) (by kernel_rfl) ?oyes2q ?oyes2y hHeld ?oyes2r
  case oyes2h => (simp only [List.getElem?_toArray, List.getElem?_cons_succ, List.getElem?_cons_zero]; rfl)
  case oyes2q => exact fun _ _ _ h => h
  case oyes2y => (refine Or.inl ⟨by first | kernel_rfl | rfl, ?_⟩; intro w hSw; (try dsimp only at hSw); go_simp <;> (try with_reducible rfl))
  try simp only [Act.put, List.setIfInBounds_toArray, List.set_cons_zero, List.set_cons_succ]
  refine wpAnyH_take (i := 4) (oi := ?oyes3o) (v := ?oyes3v) ?oyes3h (by kernel_rfl) (by kernel_rfl) (by kernel_rfl) ?oyes3q ?oyes3y hHeld ?oyes3r
  case oyes3h => (simp only [List.getElem?_toArray, List.getElem?_cons_succ, List.getElem?_cons_zero]; rfl)
  case oyes3q => exact fun _ _ _ h => h
  case oyes3y => (refine Or.inl ⟨by first | kernel_rfl | rfl, ?_⟩; intro w hSw; (try dsimp only at hSw); go_simp <;> (try with_reducible rfl))
  try simp only [Act.put, List.setIfInBounds_toArray, List.set_cons_zero, List.set_cons_succ]
  refine wpAnyH_ready (rs := [1]) (by kernel_rfl) (by simp) ?_
  refine (AllReadyH.cons rfl (fun K hK => ?_) AllReadyH.nil)
  go_simp
  ((with_reducible refine (k2 _ R1.drew.ra).mono ?_); rintro e w3 ⟨rfl, hR, hB⟩; have R2 := R1.drew.but hB hR; have Hx := R2.at_; obtain ⟨⟨x0, x1, x2, x3, x4, x5, x6, x7, x8⟩, y0, y1, y2, y3, y4, y5, y6, y7, y8⟩ := Hx; dsimp only at x0 x1 x2 x3 x4 x5 x6 x7 x8; have hfn := R2.fn)
  refine hK.out _ _ (R2.fn) (fun hHeld => ?_)
  clear hK K
  try simp only [Act.put, List.setIfInBounds_toArray, List.set_cons_zero, List.set_cons_succ]
  refine wpAnyH_take (i := 6) (oi := ?oyes4o) (v := ?oyes4v) ?oyes4h (by kernel_rfl) (by kernel_rfl) (by kernel_rfl) ?oyes4q ?oyes4y hHeld ?oyes4r
  case oyes4h => (simp only [List.getElem?_toArray, List.getElem?_cons_succ, List.getElem?_cons_zero]; rfl)
  case oyes4q => exact fun _ _ _ h => h
  case oyes4y => (refine Or.inl ⟨by first | kernel_rfl | rfl, ?_⟩; intro w hSw; (try dsimp only at hSw); go_simp <;> (try with_reducible rfl))
  try simp only [Act.put, List.setIfInBounds_toArray, List.set_cons_zero, List.set_cons_succ]
  refine wpAnyH_ready (rs := [3]) (by kernel_rfl) (by simp) ?_
  refine (AllReadyH.cons rfl (fun K hK => ?_) AllReadyH.nil)
  go_simp
  ((with_reducible refine (k3 _ R2.ra).mono ?_); rintro e w4 ⟨rfl, hR, hB⟩; have R3 := R2.but hB hR; have Hx := R3.at_; obtain ⟨⟨x0, x1, x2, x3, x4, x5, x6, x7, x8⟩, y0, y1, y2, y3, y4, y5, y6, y7, y8⟩ := Hx; dsimp only at x0 x1 x2 x3 x4 x5 x6 x7 x8; have hfn := R3.fn)
  refine hK.out _ _ (R3.fn) (fun hHeld => ?_)
  clear hK K
  try simp only [Act.put, List.setIfInBounds_toArray, List.set_cons_zero, List.set_cons_succ]
  refine wpAnyH_ready (rs := [5]) (by kernel_rfl) (by simp) ?_
  refine (AllReadyH.cons rfl (fun K hK => ?_) AllReadyH.nil)
  go_simp
  ((with_reducible refine (k5 _ R3.ra).mono ?_); rintro e w5 ⟨rfl, hR, hB⟩; have R4 := R3.but hB hR; have Hx := R4.at_; obtain ⟨⟨x0, x1, x2, x3, x4, x5, x6, x7, x8⟩, y0, y1, y2, y3, y4, y5, y6, y7, y8⟩ := Hx; dsimp only at x0 x1 x2 x3 x4 x5 x6 x7 x8; have hfn := R4.fn)
  refine hK.out _ _ (R4.fn) (fun hHeld => ?_)
  clear hK K
  try simp only [Act.put, List.setIfInBounds_toArray, List.set_cons_zero, List.set_cons_succ]
  refine wpAnyH_ready (rs := [7]) (by kernel_rfl) (by simp) ?_
  refine (AllReadyH.cons rfl (fun K hK => ?_) AllReadyH.nil)
  go_simp
  skip
  refine hK.out _ _ ((R4.set4 x).fn) (fun hHeld => ?_)
  clear hK K
  try simp only [Act.put, List.setIfInBounds_toArray, List.set_cons_zero, List.set_cons_succ]
  refine wpAnyH_take (i := 8) (oi := ?oyes5o) (v := ?oyes5v) ?oyes5h (by kernel_rfl) (by kernel_rfl) (by kernel_rfl) ?oyes5q ?oyes5y hHeld ?oyes5r
  case oyes5h => (simp only [List.getElem?_toArray, List.getElem?_cons_succ, List.getElem?_cons_zero]; rfl)
  case oyes5q => exact fun _ _ _ h => h
  case oyes5y => (refine Or.inl ⟨by first | kernel_rfl | rfl, ?_⟩; intro w hSw; (try dsimp only at hSw); go_simp <;> (try with_reducible rfl))
  try simp only [Act.put, List.setIfInBounds_toArray, List.set_cons_zero, List.set_cons_succ]
  refine wpAnyH_ready (rs := [9]) (by kernel_rfl) (by simp) ?_
  refine (AllReadyH.cons rfl (fun K hK => ?_) AllReadyH.nil)
  go_simp
  skip
  refine hK.out _ _ (((R4.set4 x).set2 t).fn) (fun hHeld => ?_)
  clear hK K
  try simp only [Act.put, List.setIfInBounds_toArray, List.set_cons_zero, List.set_cons_succ]
  refine wpAnyH_take (i := 10) (oi := ?oyes6o) (v := ?oyes6v) ?oyes6h (by kernel_rfl) (by kernel_rfl) (by kernel_rfl) ?oyes6q ?oyes6y hHeld ?oyes6r
  case oyes6h => (simp only [List.getElem?_toArray, List.getElem?_cons_succ, List.getElem?_cons_zero]; rfl)
  case oyes6q => exact fun _ _ _ h => h
  case oyes6y => (refine Or.inl ⟨by first | kernel_rfl | rfl, ?_⟩; intro w hSw; (try dsimp only at hSw); go_simp <;> (try with_reducible rfl))
  try simp only [Act.put, List.setIfInBounds_toArray, List.set_cons_zero, List.set_cons_succ]
  refine wpAnyH_ready (rs := [11]) (by kernel_rfl) (by simp) ?_
  refine (AllReadyH.cons rfl (fun K hK => ?_) AllReadyH.nil)
  go_simp
  skip
  refine hK.out _ _ ((((R4.set4 x).set2 t).set5 a).fn) (fun hHeld => ?_)
  clear hK K
  try simp only [Act.put, List.setIfInBounds_toArray, List.set_cons_zero, List.set_cons_succ]
  refine wpAnyH_done (by kernel_rfl) ?_ _
  skip
  have RX := (((R4.set4 x).set2 t).set5 a)
  go_wp2_with (first
    | (go_at_call 60; (with_reducible refine (kL _ _ RX.ra RX.fn (by have := RX.far; omega)).mono ?_); rintro e w6 ⟨dv, rfl, hB6, hN6, hQ6, hR6⟩; obtain ⟨da, dc, rfl⟩ := hN6.slice; have hQ7 := own_up hQ6 (show w2.heap.size + 1 ≤ _ from RX.at_.room); have R6 := RX.but hB6 hR6; have R7 := R6.set8 l (.slice da l.length dc); have N7 := Nums.far hN6 hQ7 ⟨w2.heap.size, 8, none⟩ (.slice da l.length dc) (Nat.lt_succ_self _); have Hx := R6.at_; obtain ⟨⟨x0, x1, x2, x3, x4, x5, x6, x7, x8⟩, y0, y1, y2, y3, y4, y5, y6, y7, y8⟩ := Hx; dsimp only at x0 x1 x2 x3 x4 x5 x6 x7 x8; have hfn := R6.fn; have Ho7 := R7.out; obtain ⟨⟨zx0, zx1, zx2, zx3, zx4, zx5, zx6, zx7, zx8⟩, zy0, zy1, zy2, zy3, zy4, zy5, zy6, zy7, zy8⟩ := Ho7; dsimp only [Rec.zero] at zx0 zx1 zx2 zx3 zx4 zx5 zx6 zx7 zx8)
    | (go_at_call 62; (with_reducible refine (kE _ R7.ra).mono ?_); rintro e w7 ⟨rfl, rfl⟩; have Hx := R7.at_; obtain ⟨⟨x0, x1, x2, x3, x4, x5, x6, x7, x8⟩, y0, y1, y2, y3, y4, y5, y6, y7, y8⟩ := Hx; dsimp only at x0 x1 x2 x3 x4 x5 x6 x7 x8; have hfn := R7.fn)
    | (go_at_call 16; (with_reducible refine (kC (.slice da l.length dc) _ N7).mono ?_); rintro e w8 ⟨rfl, hb8⟩; have R8 := R7.below hb8; have N8 := N7.later hb8; have Hx := R8.at_; obtain ⟨⟨x0, x1, x2, x3, x4, x5, x6, x7, x8⟩, y0, y1, y2, y3, y4, y5, y6, y7, y8⟩ := Hx; dsimp only at x0 x1 x2 x3 x4 x5 x6 x7 x8; have hfn := R8.fn; have Ho8 := R8.out; obtain ⟨⟨zx0, zx1, zx2, zx3, zx4, zx5, zx6, zx7, zx8⟩, zy0, zy1, zy2, zy3, zy4, zy5, zy6, zy7, zy8⟩ := Ho8; dsimp only [Rec.zero] at zx0 zx1 zx2 zx3 zx4 zx5 zx6 zx7 zx8))
  refine bodyPost_ret (v := .tuple #[recV ⟨2, ⟨#[]⟩, t, 0, x, a, l⟩ (.slice da l.length dc), .int .i64 0]) (by unfold recV; simp [results, Try.results20, go_sem, zx0, zx1, zx2, zx3, zx4, zx5, zx6, zx7, zx8]; try rfl) rfl (read6_some HQ.out ?_ ?_)
  · exact nine_far N8 hQ7 _ (by have := R8.far; have := R8.qe; omega) _ _ _ _ _ _ _ _ _
  · exact nine_set R8.bel _ (Nat.le_refl _) _ _ _ _ _ _ _ _ _

set_option maxHeartbeats 8000000 in
theorem pread6_n_bad (S : ByteArray) (r1 r6 : ByteArray) (b1 b6 : Bool) (k : Int) (k1 : k ≠ 1) (k2 : k ≠ 2) (l : List Int) (z : Int) (w : World) (hs : S.size ≤ 100000) (h1 : smallQ S false 2 = (k, r1, b1))  (h6 : tvN r1 b1 = (l, r6, b6)) (hz : endQ r6 b6 = z) (hb : (z != 0) = true) : Calls Try.prog 20 #[.string S] w (Read6Done S w) := by
  have hmf := makeFunc_run
  obtain ⟨i1, -, j1⟩ := smallQ_inv h1 (fun e => by cases e)
  have hk2 := smallQ_range h1 (by omega)
  have hq := recQ_kind h1 k1 k2
  have kk1 : (k == 1) = false := by simpa using k1
  have kk2 : (k == 2) = false := by simpa using k2
  have kS := fun W h => small_is (w.heap.size + 1) S r1 false b1 k 2 W (by unfold maxLen; omega) (by omega) (Lib.hid h1) h
  have kL := fun W q h hq hne => listn_is (w.heap.size + 1) q r1 r6 b1 b6 l W (by omega) (Lib.hid h6) (fun e => (i1 e).1) h hq hne
  have kE := fun W h => end_is (w.heap.size + 1) r6 b6 z W h (Lib.hid hz)
  have hfirst := fun w1 w2 hA1 hb1 hB2 hR => RdQ.first (w := w) (w1 := w1) (w2 := w2) (S := S) (r := r1) (b := b1) k hA1 hb1 hB2 hR
  have HQ := Lib.hid hq
  clear hq i1 j1 h1 h6 hz hs hk2 k1 k2
  go_enter Try.func20, Try.ntmps20
  go_wp2_with (first
    | (go_at_call 56; (with_reducible refine (read_is _ _).mono ?_); rintro e w1 ⟨rfl, hA1, hb1, hz1⟩; (have hA1 : RA w1 (w.heap.size + 1) S false := by simpa using hA1); have hA2 := hA1.below ((Below.refl _ _).alloc (Nat.le_refl _) (.cells #[.func (.func 57) #[.pointer (some ⟨w.heap.size + 1, 0, none⟩)] #[]] 70)); (have hfn : (w1.alloc (.cells #[.func (.func 57) #[.pointer (some ⟨w.heap.size + 1, 0, none⟩)] #[]] 70)).cell? ⟨w1.heap.size, 0, none⟩ = some (.func (.func 57) #[.pointer (some ⟨w.heap.size + 1, 0, none⟩)] #[]) := by simp [go_sem]))
    | (go_at_call 57; (with_reducible refine (kS _ hA2).mono ?_); rintro e w2 ⟨rfl, hR2, hB2⟩; have R1 := hfirst w1 w2 hA1 hb1 hB2 hR2; have Hx := R1.at_; obtain ⟨⟨x0, x1, x2, x3, x4, x5, x6, x7, x8⟩, y0, y1, y2, y3, y4, y5, y6, y7, y8⟩ := Hx; dsimp only at x0 x1 x2 x3 x4 x5 x6 x7 x8; have hfn := R1.fn))
  have RX := R1
  go_wp2_with (first
    | (go_at_call 60; (with_reducible refine (kL _ _ RX.ra RX.fn (by have := RX.far; omega)).mono ?_); rintro e w6 ⟨dv, rfl, hB6, hN6, hQ6, hR6⟩; obtain ⟨da, dc, rfl⟩ := hN6.slice; have hQ7 := own_up hQ6 (show w2.heap.size + 1 ≤ _ from RX.at_.room); have R6 := RX.but hB6 hR6; have R7 := R6.set8 l (.slice da l.length dc); have N7 := Nums.far hN6 hQ7 ⟨w2.heap.size, 8, none⟩ (.slice da l.length dc) (Nat.lt_succ_self _); have Hx := R6.at_; obtain ⟨⟨x0, x1, x2, x3, x4, x5, x6, x7, x8⟩, y0, y1, y2, y3, y4, y5, y6, y7, y8⟩ := Hx; dsimp only at x0 x1 x2 x3 x4 x5 x6 x7 x8; have hfn := R6.fn; have Ho7 := R7.out; obtain ⟨⟨zx0, zx1, zx2, zx3, zx4, zx5, zx6, zx7, zx8⟩, zy0, zy1, zy2, zy3, zy4, zy5, zy6, zy7, zy8⟩ := Ho7; dsimp only [Rec.zero] at zx0 zx1 zx2 zx3 zx4 zx5 zx6 zx7 zx8)
    | (go_at_call 62; (with_reducible refine (kE _ R7.ra).mono ?_); rintro e w7 ⟨rfl, rfl⟩; have Hx := R7.at_; obtain ⟨⟨x0, x1, x2, x3, x4, x5, x6, x7, x8⟩, y0, y1, y2, y3, y4, y5, y6, y7, y8⟩ := Hx; dsimp only at x0 x1 x2 x3 x4 x5 x6 x7 x8; have hfn := R7.fn))
  refine bodyPost_ret (v := .tuple #[recV Rec.zero (.slice none 0 0), .int .i64 10]) (by unfold recV Rec.zero; simp [results, Try.results20, go_sem, zx0, zx1, zx2, zx3, zx4, zx5, zx6, zx7, zx8]; try rfl) rfl (read6_none HQ.out ?_)
  exact nine_set R7.bel _ (Nat.le_refl _) _ _ _ _ _ _ _ _ _

set_option maxHeartbeats 8000000 in
theorem pread6_n_no (S : ByteArray) (r1 r6 : ByteArray) (b1 b6 : Bool) (k : Int) (k1 : k ≠ 1) (k2 : k ≠ 2) (l : List Int) (z : Int) (w : World) (hs : S.size ≤ 100000) (h1 : smallQ S false 2 = (k, r1, b1))  (h6 : tvN r1 b1 = (l, r6, b6)) (hz : endQ r6 b6 = z) (hb : z = 0) : Calls Try.prog 20 #[.string S] w (Read6Done S w) := by
  have hmf := makeFunc_run
  obtain ⟨i1, -, j1⟩ := smallQ_inv h1 (fun e => by cases e)
  have hk2 := smallQ_range h1 (by omega)
  have hq := recQ_kind h1 k1 k2
  have kk1 : (k == 1) = false := by simpa using k1
  have kk2 : (k == 2) = false := by simpa using k2
  have kS := fun W h => small_is (w.heap.size + 1) S r1 false b1 k 2 W (by unfold maxLen; omega) (by omega) (Lib.hid h1) h
  have kL := fun W q h hq hne => listn_is (w.heap.size + 1) q r1 r6 b1 b6 l W (by omega) (Lib.hid h6) (fun e => (i1 e).1) h hq hne
  have kE := fun W h => end_is (w.heap.size + 1) r6 b6 z W h (Lib.hid hz)
  have ho : Rec.ok ⟨k, ⟨#[]⟩, 0, 0, 0, ⟨0, 0, 0⟩, l⟩ = false := Rec.ok_none k1 k2
  have hfit : Rec.fits ⟨k, ⟨#[]⟩, 0, 0, 0, ⟨0, 0, 0⟩, l⟩ := ⟨by dsimp only; omega, by show (⟨#[]⟩ : ByteArray).size ≤ _; decide, by simp, by simp, by simp, by simp⟩
  have kC := fun dv W h => check6_is ⟨k, ⟨#[]⟩, 0, 0, 0, ⟨0, 0, 0⟩, l⟩ dv W h hfit
  have he : Rec.err ⟨k, ⟨#[]⟩, 0, 0, 0, ⟨0, 0, 0⟩, l⟩ = 1 := Rec.err_no ho
  rw [he] at kC
  unfold recV at kC
  dsimp only at kC
  have hfirst := fun w1 w2 hA1 hb1 hB2 hR => RdQ.first (w := w) (w1 := w1) (w2 := w2) (S := S) (r := r1) (b := b1) k hA1 hb1 hB2 hR
  have HQ := Lib.hid hq
  subst hb
  clear hq i1 j1 h1 h6 hz hs hk2 k1 k2 hfit he ho
  go_enter Try.func20, Try.ntmps20
  go_wp2_with (first
    | (go_at_call 56; (with_reducible refine (read_is _ _).mono ?_); rintro e w1 ⟨rfl, hA1, hb1, hz1⟩; (have hA1 : RA w1 (w.heap.size + 1) S false := by simpa using hA1); have hA2 := hA1.below ((Below.refl _ _).alloc (Nat.le_refl _) (.cells #[.func (.func 57) #[.pointer (some ⟨w.heap.size + 1, 0, none⟩)] #[]] 70)); (have hfn : (w1.alloc (.cells #[.func (.func 57) #[.pointer (some ⟨w.heap.size + 1, 0, none⟩)] #[]] 70)).cell? ⟨w1.heap.size, 0, none⟩ = some (.func (.func 57) #[.pointer (some ⟨w.heap.size + 1, 0, none⟩)] #[]) := by simp [go_sem]))
    | (go_at_call 57; (with_reducible refine (kS _ hA2).mono ?_); rintro e w2 ⟨rfl, hR2, hB2⟩; have R1 := hfirst w1 w2 hA1 hb1 hB2 hR2; have Hx := R1.at_; obtain ⟨⟨x0, x1, x2, x3, x4, x5, x6, x7, x8⟩, y0, y1, y2, y3, y4, y5, y6, y7, y8⟩ := Hx; dsimp only at x0 x1 x2 x3 x4 x5 x6 x7 x8; have hfn := R1.fn))
  have RX := R1
  go_wp2_with (first
    | (go_at_call 60; (with_reducible refine (kL _ _ RX.ra RX.fn (by have := RX.far; omega)).mono ?_); rintro e w6 ⟨dv, rfl, hB6, hN6, hQ6, hR6⟩; obtain ⟨da, dc, rfl⟩ := hN6.slice; have hQ7 := own_up hQ6 (show w2.heap.size + 1 ≤ _ from RX.at_.room); have R6 := RX.but hB6 hR6; have R7 := R6.set8 l (.slice da l.length dc); have N7 := Nums.far hN6 hQ7 ⟨w2.heap.size, 8, none⟩ (.slice da l.length dc) (Nat.lt_succ_self _); have Hx := R6.at_; obtain ⟨⟨x0, x1, x2, x3, x4, x5, x6, x7, x8⟩, y0, y1, y2, y3, y4, y5, y6, y7, y8⟩ := Hx; dsimp only at x0 x1 x2 x3 x4 x5 x6 x7 x8; have hfn := R6.fn; have Ho7 := R7.out; obtain ⟨⟨zx0, zx1, zx2, zx3, zx4, zx5, zx6, zx7, zx8⟩, zy0, zy1, zy2, zy3, zy4, zy5, zy6, zy7, zy8⟩ := Ho7; dsimp only [Rec.zero] at zx0 zx1 zx2 zx3 zx4 zx5 zx6 zx7 zx8)
    | (go_at_call 62; (with_reducible refine (kE _ R7.ra).mono ?_); rintro e w7 ⟨rfl, rfl⟩; have Hx := R7.at_; obtain ⟨⟨x0, x1, x2, x3, x4, x5, x6, x7, x8⟩, y0, y1, y2, y3, y4, y5, y6, y7, y8⟩ := Hx; dsimp only at x0 x1 x2 x3 x4 x5 x6 x7 x8; have hfn := R7.fn)
    | (go_at_call 16; (with_reducible refine (kC (.slice da l.length dc) _ N7).mono ?_); rintro e w8 ⟨rfl, hb8⟩; have R8 := R7.below hb8; have N8 := N7.later hb8; have Hx := R8.at_; obtain ⟨⟨x0, x1, x2, x3, x4, x5, x6, x7, x8⟩, y0, y1, y2, y3, y4, y5, y6, y7, y8⟩ := Hx; dsimp only at x0 x1 x2 x3 x4 x5 x6 x7 x8; have hfn := R8.fn; have Ho8 := R8.out; obtain ⟨⟨zx0, zx1, zx2, zx3, zx4, zx5, zx6, zx7, zx8⟩, zy0, zy1, zy2, zy3, zy4, zy5, zy6, zy7, zy8⟩ := Ho8; dsimp only [Rec.zero] at zx0 zx1 zx2 zx3 zx4 zx5 zx6 zx7 zx8))
  refine bodyPost_ret (v := .tuple #[recV Rec.zero (.slice none 0 0), .int .i64 10]) (by unfold recV Rec.zero; simp [results, Try.results20, go_sem, zx0, zx1, zx2, zx3, zx4, zx5, zx6, zx7, zx8]; try rfl) rfl (read6_none HQ.out ?_)
  exact nine_set R8.bel _ (Nat.le_refl _) _ _ _ _ _ _ _ _ _

theorem pread6_is (S : ByteArray) (w : World) (hs : S.size ≤ 100000) : Calls Try.prog 20 #[.string S] w (Read6Done S w) := by
  obtain ⟨⟨k, r1, b1⟩, h1⟩ : ∃ x, smallQ S false 2 = x := ⟨_, rfl⟩
  by_cases k1 : k = 1
  · subst k1
    obtain ⟨⟨p, r5, b5⟩, hp⟩ : ∃ x, ptR r1 b1 = x := ⟨_, rfl⟩
    obtain ⟨⟨l, r6, b6⟩, h6⟩ : ∃ x, tvN r5 b5 = x := ⟨_, rfl⟩
    obtain ⟨z, hz⟩ : ∃ z, endQ r6 b6 = z := ⟨_, rfl⟩
    by_cases hb : z = 0
    · cases ho : Rec.ok ⟨1, p.s, p.t, p.v, 0, p.st, l⟩ with
      | true => exact pread6_s_yes S r1 r5 r6 b1 b5 b6 p l z w hs h1 hp h6 hz hb ho
      | false => exact pread6_s_no S r1 r5 r6 b1 b5 b6 p l z w hs h1 hp h6 hz hb ho
    · exact pread6_s_bad S r1 r5 r6 b1 b5 b6 p l z w hs h1 hp h6 hz (by simp [bne, hb])
  · by_cases k2 : k = 2
    · subst k2
      obtain ⟨⟨x, r2, b2⟩, h2⟩ : ∃ x, smallQ r1 b1 3 = x := ⟨_, rfl⟩
      obtain ⟨⟨t, r3, b3⟩, h3⟩ : ∃ x, smallQ r2 b2 1099511627776 = x := ⟨_, rfl⟩
      obtain ⟨⟨a, r5, b5⟩, h5⟩ : ∃ x, takeQ r3 b3 = x := ⟨_, rfl⟩
      obtain ⟨⟨l, r6, b6⟩, h6⟩ : ∃ x, tvN r5 b5 = x := ⟨_, rfl⟩
      obtain ⟨z, hz⟩ : ∃ z, endQ r6 b6 = z := ⟨_, rfl⟩
      by_cases hb : z = 0
      · cases ho : Rec.ok ⟨2, ⟨#[]⟩, t, 0, x, a, l⟩ with
        | true => exact pread6_c_yes S r1 r2 r3 r5 r6 b1 b2 b3 b5 b6 x t a l z w hs h1 h2 h3 h5 h6 hz hb ho
        | false => exact pread6_c_no S r1 r2 r3 r5 r6 b1 b2 b3 b5 b6 x t a l z w hs h1 h2 h3 h5 h6 hz hb ho
      · exact pread6_c_bad S r1 r2 r3 r5 r6 b1 b2 b3 b5 b6 x t a l z w hs h1 h2 h3 h5 h6 hz (by simp [bne, hb])
    · obtain ⟨⟨l, r6, b6⟩, h6⟩ : ∃ x, tvN r1 b1 = x := ⟨_, rfl⟩
      obtain ⟨z, hz⟩ : ∃ z, endQ r6 b6 = z := ⟨_, rfl⟩
      by_cases hb : z = 0
      · exact pread6_n_no S r1 r6 b1 b6 k k1 k2 l z w hs h1 h6 hz hb
      · exact pread6_n_bad S r1 r6 b1 b6 k k1 k2 l z w hs h1 h6 hz (by simp [bne, hb])
end Go.Proofs.Ytjckphmkhikpaaa
