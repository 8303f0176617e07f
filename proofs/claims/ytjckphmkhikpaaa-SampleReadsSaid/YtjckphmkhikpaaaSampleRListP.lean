/- The contract of the document's ReadPoints. -/
import Derived.Test.YtjckphmkhikpaaaSampleListP
set_option maxRecDepth 20000
namespace Go.Proofs.Ytjckphmkhikpaaa
open Go.RowKit Go.Proofs.Ytjckphmkhikpaaa.Vi Go.Proofs.Ytjckphmkhikpaaa.Mk

theorem ptsQ_end {S : ByteArray} {n : Nat} (hn : (n : Int) = cntP S) : ptsQ S = if endQ (stpP S n).1 (stpP S n).2 = 0 then some (outP S n) else none := by
  have e : (cntP S).toNat = n := by omega
  unfold ptsQ
  simp only [e]
theorem ptsQ_bad {S : ByteArray} {n k : Nat} (hn : (n : Int) = cntP S) (hk : k ≤ n) (h : (stpP S k).2 = true) : ptsQ S = none := by
  rw [ptsQ_end hn, if_neg]
  rw [stpP_bad h n hk]; unfold endQ; rw [if_pos rfl]; decide
theorem PtW.other {w : World} {b : Nat} {p : Pt} (h : PtW w b p) (x : Addr) (v : Value) (hne : x.block ≠ b) : PtW (w.setCell x v) b p :=
  ⟨⟨by rw [World.cell?_setCell_far _ _ _ _ hne]; exact h.at_.c0, by rw [World.cell?_setCell_far _ _ _ _ hne]; exact h.at_.c1, by rw [World.cell?_setCell_far _ _ _ _ hne]; exact h.at_.c2, by rw [World.cell?_setCell_far _ _ _ _ hne]; exact h.at_.c3, by rw [World.cell?_setCell_far _ _ _ _ hne]; exact h.at_.c4, by rw [World.cell?_setCell_far _ _ _ _ hne]; exact h.at_.c5⟩, by simp [go_sem, h.f0], by simp [go_sem, h.f1], by simp [go_sem, h.f2], by simp [go_sem, h.f3], by simp [go_sem, h.f4], by simp [go_sem, h.f5]⟩
theorem PtW.below {w w' : World} {b : Nat} {p : Pt} (h : PtW w b p) (k : Below w.heap.size w w') : PtW w' b p :=
  ⟨h.at_.below k h.at_.room, (k.frozen (p := ⟨b, 0, none⟩) h.at_.room).trans h.f0, (k.frozen (p := ⟨b, 1, none⟩) h.at_.room).trans h.f1, (k.frozen (p := ⟨b, 2, none⟩) h.at_.room).trans h.f2, (k.frozen (p := ⟨b, 3, none⟩) h.at_.room).trans h.f3, (k.frozen (p := ⟨b, 4, none⟩) h.at_.room).trans h.f4, (k.frozen (p := ⟨b, 5, none⟩) h.at_.room).trans h.f5⟩
theorem PtW.set1 {w : World} {b : Nat} {p : Pt} (h : PtW w b p) (z : Int) : PtW (w.setCell ⟨b, 1, none⟩ (.int .i64 z)) b { p with t := z } := by
  obtain ⟨⟨x0, x1, x2, x3, x4, x5⟩, y0, y1, y2, y3, y4, y5⟩ := h
  exact ⟨⟨by simp [go_sem, x0], by simp [go_sem, x1], by simp [go_sem, x2], by simp [go_sem, x3], by simp [go_sem, x4], by simp [go_sem, x5]⟩, by simp [go_sem, y0], by simp [go_sem, y1], by simp [go_sem, y2], by simp [go_sem, y3], by simp [go_sem, y4], by simp [go_sem, y5]⟩
theorem PtW.set2 {w : World} {b : Nat} {p : Pt} (h : PtW w b p) (z : Int) : PtW (w.setCell ⟨b, 2, none⟩ (.int .i64 z)) b { p with v := z } := by
  obtain ⟨⟨x0, x1, x2, x3, x4, x5⟩, y0, y1, y2, y3, y4, y5⟩ := h
  exact ⟨⟨by simp [go_sem, x0], by simp [go_sem, x1], by simp [go_sem, x2], by simp [go_sem, x3], by simp [go_sem, x4], by simp [go_sem, x5]⟩, by simp [go_sem, y0], by simp [go_sem, y1], by simp [go_sem, y2], by simp [go_sem, y3], by simp [go_sem, y4], by simp [go_sem, y5]⟩
theorem PtW.set3 {w : World} {b : Nat} {p : Pt} (h : PtW w b p) (z : St) : PtW (((w.setCell ⟨b, 3, none⟩ (.int .i64 z.c)).setCell ⟨b, 4, none⟩ (.int .i64 z.s)).setCell ⟨b, 5, none⟩ (.int .i64 z.q)) b { p with st := z } := by
  obtain ⟨⟨x0, x1, x2, x3, x4, x5⟩, y0, y1, y2, y3, y4, y5⟩ := h
  exact ⟨⟨by simp [go_sem, x0], by simp [go_sem, x1], by simp [go_sem, x2], by simp [go_sem, x3], by simp [go_sem, x4], by simp [go_sem, x5]⟩, by simp [go_sem, y0], by simp [go_sem, y1], by simp [go_sem, y2], by simp [go_sem, y3], by simp [go_sem, y4], by simp [go_sem, y5]⟩

/-- A round between two parts: the reader, the point that is being read; nothing else that was there has turned. -/
structure RdP (wr : World) (d : Nat) (S r : ByteArray) (br : Bool) (e : Nat) (p : Pt) (wx : World) : Prop where
  rs : RS wx d S r br
  at_ : PtW wx e p
  far : wr.heap.size ≤ e
  room : d < wr.heap.size
  bel : But d wr wx
theorem RdP.but {wr wx w' : World} {d : Nat} {S r r' : ByteArray} {br br' : Bool} {e : Nat} {p : Pt} (h : RdP wr d S r br e p wx) (k : But d wx w') (hr : RS w' d S r' br') : RdP wr d S r' br' e p w' :=
  ⟨hr, h.at_.but k (by have := h.far; have := h.room; omega), h.far, h.room, h.bel.trans k⟩
theorem RdP.below {wr wx w' : World} {d : Nat} {S r : ByteArray} {br : Bool} {e : Nat} {p : Pt} (h : RdP wr d S r br e p wx) (k : Below wx.heap.size wx w') : RdP wr d S r br e p w' :=
  ⟨h.rs.below k, h.at_.below k, h.far, h.room, h.bel.trans (But.of k)⟩
theorem But.up {d : Nat} {wr wx : World} (h : But d wr wx) (x : Addr) (v : Value) (hx : wr.heap.size ≤ x.block) : But d wr (wx.setCell x v) :=
  h.ofB ((Below.refl wr.heap.size wx).setCell hx v) (Nat.le_refl _)
theorem RdP.spoil {wr wx : World} {d : Nat} {S r : ByteArray} {br : Bool} {e : Nat} {p : Pt} (h : RdP wr d S r br e p wx) : RdP wr d S ⟨#[]⟩ true e p (wx.setCell ⟨d, 2, none⟩ (.bool true)) :=
  ⟨h.rs.spoil, h.at_.other _ _ (by show d ≠ e; have := h.far; have := h.room; omega), h.far, h.room, h.bel.setCell _ _⟩
theorem RdP.set1 {wr wx : World} {d : Nat} {S r : ByteArray} {br : Bool} {e : Nat} {p : Pt} (h : RdP wr d S r br e p wx) (z : Int) : RdP wr d S r br e { p with t := z } (wx.setCell ⟨e, 1, none⟩ (.int .i64 z)) := by
  have hf := h.far
  have hd := h.room
  refine ⟨?_, h.at_.set1 z, hf, hd, ?_⟩
  · refine RS.other ?_ _ _ (show e ≠ _ by omega); exact h.rs
  · exact (But.up h.bel ⟨e, 1, none⟩ (.int .i64 z) hf)
theorem RdP.set2 {wr wx : World} {d : Nat} {S r : ByteArray} {br : Bool} {e : Nat} {p : Pt} (h : RdP wr d S r br e p wx) (z : Int) : RdP wr d S r br e { p with v := z } (wx.setCell ⟨e, 2, none⟩ (.int .i64 z)) := by
  have hf := h.far
  have hd := h.room
  refine ⟨?_, h.at_.set2 z, hf, hd, ?_⟩
  · refine RS.other ?_ _ _ (show e ≠ _ by omega); exact h.rs
  · exact (But.up h.bel ⟨e, 2, none⟩ (.int .i64 z) hf)
theorem RdP.set3 {wr wx : World} {d : Nat} {S r : ByteArray} {br : Bool} {e : Nat} {p : Pt} (h : RdP wr d S r br e p wx) (z : St) : RdP wr d S r br e { p with st := z } (((wx.setCell ⟨e, 3, none⟩ (.int .i64 z.c)).setCell ⟨e, 4, none⟩ (.int .i64 z.s)).setCell ⟨e, 5, none⟩ (.int .i64 z.q)) := by
  have hf := h.far
  have hd := h.room
  refine ⟨?_, h.at_.set3 z, hf, hd, ?_⟩
  · refine RS.other ?_ _ _ (show e ≠ _ by omega); refine RS.other ?_ _ _ (show e ≠ _ by omega); refine RS.other ?_ _ _ (show e ≠ _ by omega); exact h.rs
  · exact (But.up (But.up (But.up h.bel ⟨e, 3, none⟩ (.int .i64 z.c) hf) ⟨e, 4, none⟩ (.int .i64 z.s) hf) ⟨e, 5, none⟩ (.int .i64 z.q) hf)
theorem RdP.first {wr w2 : World} {d : Nat} {S r : ByteArray} {b : Bool} (s : ByteArray) (hd : d < wr.heap.size) (hB : But d wr w2) (hR : RS w2 d S r b) : RdP wr d S r b w2.heap.size ⟨s, 0, 0, ⟨0, 0, 0⟩⟩ (w2.alloc (.cells #[.string s, .int .i64 0, .int .i64 0, .int .i64 0, .int .i64 0, .int .i64 0] 34)) :=
  ⟨hR.below ((Below.refl _ _).alloc (Nat.le_refl _) _), PtW.new w2 ⟨s, 0, 0, ⟨0, 0, 0⟩⟩, hB.size, hd, hB.alloc _⟩
theorem ptQ_parts (r : ByteArray) (b : Bool) : ∃ s r1 b1 t r2 b2 v r3 b3 a r4 b4, textQ r b = (s, r1, b1) ∧ smallQ r1 b1 1099511627776 = (t, r2, b2) ∧ numQ r2 b2 = (v, r3, b3) ∧ takeQ r3 b3 = (a, r4, b4) ∧ ptQ r b = if Pt.ok ⟨s, t, zag v, a⟩ = true then (⟨s, t, zag v, a⟩, r4, b4) else (⟨s, t, zag v, a⟩, ⟨#[]⟩, true) := by
  obtain ⟨⟨s, r1, b1⟩, h1⟩ : ∃ x, textQ r b = x := ⟨_, rfl⟩
  obtain ⟨⟨t, r2, b2⟩, h2⟩ : ∃ x, smallQ r1 b1 1099511627776 = x := ⟨_, rfl⟩
  obtain ⟨⟨v, r3, b3⟩, h3⟩ : ∃ x, numQ r2 b2 = x := ⟨_, rfl⟩
  obtain ⟨⟨a, r4, b4⟩, h4⟩ : ∃ x, takeQ r3 b3 = x := ⟨_, rfl⟩
  exact ⟨s, r1, b1, t, r2, b2, v, r3, b3, a, r4, b4, h1, h2, h3, h4, ptQ_is h1 h2 h3 h4⟩

/-- What the loop has read. -/
structure LrR (w wr : World) (S : ByteArray) (o : Value) (k : Nat) : Prop where
  row : PRow wr (w.heap.size + 1) o (outP S k)
  rs : RS wr w.heap.size S (stpP S k).1 (stpP S k).2
  bel : Below w.heap.size w wr
theorem LrR.len {w wr : World} {S : ByteArray} {o : Value} {k : Nat} (R : LrR w wr S o k) : ∃ a c, o = .slice a k c := by
  have := R.row.slice; rw [outP_len] at this; exact this
theorem stpP_size (S : ByteArray) (k : Nat) : (ptP S k).s.size ≤ S.size := by
  have := (ptQ_inv (stpP_step S k) (stpP_inv S k).1).2.2.2.1
  have := (stpP_inv S k).2
  omega

set_option maxHeartbeats 16000000 in
theorem rreadpoints_is (S : ByteArray) (w : World) (hs : S.size ≤ 100000) : Calls Try.prog 23 #[.string S] w (RPDone S w) := by
  obtain ⟨i0, hi, hz0, hz1, hz2⟩ := info_parts infoP
  have hc := cntP_bounds S
  obtain ⟨n, hn⟩ : ∃ n : Nat, (n : Int) = cntP S := ⟨(cntP S).toNat, by omega⟩
  have hn1 : n ≤ 1000 := by omega
  have hR0 : RS (w.alloc (.cells #[.string S, .int .i64 0, .bool false] 78)) w.heap.size S S false := ⟨0, false, ⟨by simp [go_sem], by simp [go_sem], by simp [go_sem], by simp [go_sem], by simp [go_sem], by simp [go_sem]⟩, rfl, Nat.zero_le _, fun _ => (restZero S).symm, fun e => (by cases e)⟩
  have hb0 := (Below.refl w.heap.size w).alloc (Nat.le_refl _) (.cells #[.string S, .int .i64 0, .bool false] 78)
  have k1 := rsmall_is w.heap.size S S (stpP S 0).1 false (stpP S 0).2 (cntP S) 1000 _ hs (by omega) (Lib.hid (stpP_zero S)) hR0
  rw [← hn] at k1
  have HN := Lib.hid hn
  clear hc hn hR0
  go_enter Try.func23, Try.ntmps23
  go_wp2_with (first
    | (go_at_call 63; (with_reducible refine k1.mono ?_); rintro e w1 ⟨rfl, hR, hB⟩))
  have R0 := Lib.hid (show LrR w w1 S (.slice none 0 0) 0 from ⟨PRow.nil _ _, hR, hb0.trans (hB.below (Nat.le_refl _) (by simp))⟩)
  clear hR hB k1 hb0
  go_loopw [6, 7] (fun o i wr => ∃ k : Nat, k ≤ n ∧ i = .int .i64 (k : Int) ∧ LrR w wr S o k) (fun _ i _ => n - (intOf i).toNat)
  case atStart => exact ⟨0, by omega, rfl, R0.out⟩
  case round =>
    obtain ⟨k, hk, rfl, R⟩ := hrel
    obtain ⟨a1, cc1, rfl⟩ := R.len
    clear R0
    have hdr : w.heap.size < wr.heap.size := R.rs.room
    have hrs0 := R.rs
    obtain ⟨aa, bad, ⟨c0, c1, c2, f0, f1, f2⟩, hsame, -⟩ := hrs0
    by_cases hgo : k < n ∧ (stpP S k).2 = false
    · obtain ⟨hlt, hbd⟩ := hgo
      have hlt2 : (k : Int) < (n : Int) := by omega
      obtain rfl : bad = false := by rw [← hbd]; exact hsame
      have hsz := stpP_size S k
      obtain ⟨s, r1, b1, t, r2, b2, v, r3, b3, a, r4, b4, h1, h2, h3, h4, he⟩ := ptQ_parts (stpP S k).1 (stpP S k).2
      have hi0 := (stpP_inv S k)
      obtain ⟨hi1, -, hi1s⟩ := text_inv6 h1 hi0.1
      have hss : s.size ≤ 100000 := by have := hi0.2; omega
      obtain ⟨hi2, -, -⟩ := smallQ_inv h2 hi1
      obtain ⟨hi3, -, -, -⟩ := num_inv6 h3 fun e => (hi2 e).1
      have hi4 := takeQ_inv h4 hi3
      obtain ⟨z, hz⟩ : ∃ z, zag v = z := ⟨_, rfl⟩
      have k2 := fun w' h => rtext_is w.heap.size S (stpP S k).1 r1 (stpP S k).2 b1 s w' hs (Lib.hid h1) h
      have k3 := fun w' h => rsmall_is w.heap.size S r1 r2 b1 b2 t 1099511627776 w' hs (by omega) (Lib.hid h2) h
      have k4 := fun w' h => rint_is w.heap.size S r2 r3 b2 b3 v z w' hs (Lib.hid h3) (Lib.hid hz) h
      have k5 := fun w' h => rtake_is w.heap.size S r3 r4 b3 b4 a w' hs (Lib.hid h4) hi3 h
      have RSH := Lib.hid R.rs
      have hrow : wr.ownsRow (w.heap.size + 1) 34 6 (.slice a1 k cc1) k ((outP S k).flatMap cells6) := by have := R.row; unfold PRow at this; rw [outP_len] at this; exact this
      have HROW := Lib.hid hrow
      have HBL := Lib.hid R.bel
      have HWL := Lib.hid R.bel.size
      have HWR := Lib.hid (show w.heap.size + 1 ≤ wr.heap.size from hdr)
      have hdb : w.heap.size < w.heap.size + 1 := Nat.lt_succ_self _
      clear R hrow hsame hbd hi0 hi1s
      cases hok : Pt.ok ⟨s, t, z, a⟩ with
      | true =>
        have kc := fun w => rcheckp_is ⟨s, t, z, a⟩ w (by dsimp only; omega)
        unfold Pt.err at kc
        unfold ptV at kc
        rw [hok] at kc
        dsimp only at kc
        have HST := Lib.hid (show (ptP S k, (stpP S (k + 1)).1, (stpP S (k + 1)).2) = ((⟨s, t, z, a⟩ : Pt), r4, b4) by rw [← stpP_step, he, hz, if_pos hok])
        clear he hok hz hi1 hi2 hi3 hi4 h1 h2 h3 h4 hsz
        go_wp2_with (first
          | (go_at_call 64; (with_reducible refine (k2 _ RSH.out).mono ?_); rintro e w2 ⟨rfl, hR2, hB2⟩; have P2 := RdP.first s hdr hB2 hR2; have G := P2.at_; obtain ⟨⟨p0, p1, p2, p3, p4, p5⟩, g0, g1, g2, g3, g4, g5⟩ := G; dsimp only at p0 p1 p2 p3 p4 p5)
          | (go_at_call 63; (with_reducible refine (k3 _ P2.rs).mono ?_); rintro e w3 ⟨rfl, hR3, hB3⟩; have P3 := P2.but hB3 hR3; have G := P3.at_; obtain ⟨⟨p0, p1, p2, p3, p4, p5⟩, g0, g1, g2, g3, g4, g5⟩ := G; dsimp only at p0 p1 p2 p3 p4 p5)
          | (go_at_call 65; (with_reducible refine (k4 _ (P3.set1 t).rs).mono ?_); rintro e w4 ⟨rfl, hR4, hB4⟩; have P4 := (P3.set1 t).but hB4 hR4; have G := P4.at_; obtain ⟨⟨p0, p1, p2, p3, p4, p5⟩, g0, g1, g2, g3, g4, g5⟩ := G; dsimp only at p0 p1 p2 p3 p4 p5)
          | (go_at_call 66; (with_reducible refine (k5 _ (P4.set2 z).rs).mono ?_); rintro e w5 ⟨rfl, hR5, hB5⟩; have P5 := (P4.set2 z).but hB5 hR5; have G := P5.at_; obtain ⟨⟨p0, p1, p2, p3, p4, p5⟩, g0, g1, g2, g3, g4, g5⟩ := G; dsimp only at p0 p1 p2 p3 p4 p5)
          | (go_at_call 34; (with_reducible refine (kc _).mono ?_); rintro e w6 ⟨rfl, hb6⟩; have P6 := (P5.set3 a).below hb6; have G := P6.at_; obtain ⟨⟨p0, p1, p2, p3, p4, p5⟩, g0, g1, g2, g3, g4, g5⟩ := G; dsimp only at p0 p1 p2 p3 p4 p5; have PE := P6; have hR := owns6_but HROW.out P6.bel hdb; have hBr := P6.bel.size; have hWB := Nat.le_trans HWR.out hBr)
          | (at_builtin; refine wpList_append_own _ rfl _ _ 42 rfl (w.heap.size + 1) 34 i0 (.agg #[.string ⟨#[]⟩, .int .i64 0, .int .i64 0, .int .i64 0, .int .i64 0, .int .i64 0]) 6 56 Try.underlying42 hi hz0 hz1 hz2 rfl (by decide) _ _ _ rfl (hR.alloc _) ⟨w6.heap.size, 0, none⟩ 1 1 (cells6 ⟨s, t, z, a⟩) rfl rfl ?c1 ?c2 ?c3 ?c4 ?c5 ?_))
        case c1 =>
          intro j u hj
          match j, hj with
          | 0, hj | 1, hj | 2, hj | 3, hj | 4, hj | 5, hj => simp [cells6] at hj; subst hj; first | (simp [Addr.add]; done) | (simp [go_sem, Addr.add]; done) | (simp; done)
        case c2 => intro u hu; simp [cells6] at hu; rcases hu with rfl | rfl | rfl | rfl | rfl | rfl <;> rfl
        case c3 => unfold maxLen; (try simp); omega
        case c4 => (try simp); omega
        case c5 => (try simp at hWB ⊢); omega
        intro v' w7 hown3 hgrow _
        have hown : ∀ q, (Value.slice a1 k cc1).ownBlock = some q → w.heap.size + 1 ≤ q := fun q hq => (World.ownsRow.lt hR q hq).1
        have hB7 : Below (w.heap.size + 1) w6 w7 := ((Below.refl (w.heap.size + 1) w6).alloc hWB _).grown hgrow (by (try simp at hWB ⊢); omega) hown
        have hS := HST.out
        simp only [Prod.mk.injEq] at hS
        obtain ⟨hS1, hS2, hS3⟩ := hS
        have hR7 : PRow w7 (w.heap.size + 1) v' (outP S (k + 1)) := by
          unfold PRow
          rw [outP_succ, hS1, List.length_append, List.flatMap_append, outP_len]
          simpa [cells6] using hown3
        have HR7 := Lib.hid (show LrR w w7 S v' (k + 1) from ⟨hR7, by rw [hS2, hS3]; exact PE.rs.farB hB7 (by omega), HBL.out.trans ((PE.bel.below (B := w.heap.size) (Nat.le_refl _) HWL.out).trans (hB7.mono (by omega)))⟩)
        clear hown3 hgrow hR7 hB7 hR hown hS1 hS2 hS3 hWB hBr
        go_wp2
        go_roundw
        case rel => exact ⟨k + 1, by omega, by go_num, HR7.out⟩
        case measure => simp [intOf]; omega
      | false =>
        have kc := fun w => rcheckp_is ⟨s, t, z, a⟩ w (by dsimp only; omega)
        unfold Pt.err at kc
        unfold ptV at kc
        rw [hok] at kc
        dsimp only at kc
        have HST := Lib.hid (show (ptP S k, (stpP S (k + 1)).1, (stpP S (k + 1)).2) = ((⟨s, t, z, a⟩ : Pt), (⟨#[]⟩ : ByteArray), true) by rw [← stpP_step, he, hz, if_neg (by rw [hok]; simp)])
        clear he hok hz hi1 hi2 hi3 hi4 h1 h2 h3 h4 hsz
        go_wp2_with (first
          | (go_at_call 64; (with_reducible refine (k2 _ RSH.out).mono ?_); rintro e w2 ⟨rfl, hR2, hB2⟩; have P2 := RdP.first s hdr hB2 hR2; have G := P2.at_; obtain ⟨⟨p0, p1, p2, p3, p4, p5⟩, g0, g1, g2, g3, g4, g5⟩ := G; dsimp only at p0 p1 p2 p3 p4 p5)
          | (go_at_call 63; (with_reducible refine (k3 _ P2.rs).mono ?_); rintro e w3 ⟨rfl, hR3, hB3⟩; have P3 := P2.but hB3 hR3; have G := P3.at_; obtain ⟨⟨p0, p1, p2, p3, p4, p5⟩, g0, g1, g2, g3, g4, g5⟩ := G; dsimp only at p0 p1 p2 p3 p4 p5)
          | (go_at_call 65; (with_reducible refine (k4 _ (P3.set1 t).rs).mono ?_); rintro e w4 ⟨rfl, hR4, hB4⟩; have P4 := (P3.set1 t).but hB4 hR4; have G := P4.at_; obtain ⟨⟨p0, p1, p2, p3, p4, p5⟩, g0, g1, g2, g3, g4, g5⟩ := G; dsimp only at p0 p1 p2 p3 p4 p5)
          | (go_at_call 66; (with_reducible refine (k5 _ (P4.set2 z).rs).mono ?_); rintro e w5 ⟨rfl, hR5, hB5⟩; have P5 := (P4.set2 z).but hB5 hR5; have G := P5.at_; obtain ⟨⟨p0, p1, p2, p3, p4, p5⟩, g0, g1, g2, g3, g4, g5⟩ := G; dsimp only at p0 p1 p2 p3 p4 p5)
          | (go_at_call 34; (with_reducible refine (kc _).mono ?_); rintro e w6 ⟨rfl, hb6⟩; have P6 := (P5.set3 a).below hb6; have G := P6.at_; obtain ⟨⟨p0, p1, p2, p3, p4, p5⟩, g0, g1, g2, g3, g4, g5⟩ := G; dsimp only at p0 p1 p2 p3 p4 p5; have GR := P6.rs; obtain ⟨ra, rbad, ⟨c0, c1, c2, f0, f1, f2⟩, -⟩ := GR; have PE := P6.spoil; have hne1 : ¬ w2.heap.size = w.heap.size := (by have := P6.far; omega); have hne2 : ¬ w.heap.size = w2.heap.size := (by have := P6.far; omega); have hR := owns6_but HROW.out PE.bel hdb; have hBr := PE.bel.size; have hWB := Nat.le_trans HWR.out hBr)
          | (at_builtin; refine wpList_append_own _ rfl _ _ 42 rfl (w.heap.size + 1) 34 i0 (.agg #[.string ⟨#[]⟩, .int .i64 0, .int .i64 0, .int .i64 0, .int .i64 0, .int .i64 0]) 6 56 Try.underlying42 hi hz0 hz1 hz2 rfl (by decide) _ _ _ rfl (hR.alloc _) ⟨w6.heap.size, 0, none⟩ 1 1 (cells6 ⟨s, t, z, a⟩) rfl rfl ?c1 ?c2 ?c3 ?c4 ?c5 ?_))
        case c1 =>
          intro j u hj
          match j, hj with
          | 0, hj | 1, hj | 2, hj | 3, hj | 4, hj | 5, hj => simp [cells6] at hj; subst hj; first | (simp [Addr.add]; done) | (simp [go_sem, Addr.add]; done) | (simp; done)
        case c2 => intro u hu; simp [cells6] at hu; rcases hu with rfl | rfl | rfl | rfl | rfl | rfl <;> rfl
        case c3 => unfold maxLen; (try simp); omega
        case c4 => (try simp); omega
        case c5 => (try simp at hWB ⊢); omega
        intro v' w7 hown3 hgrow _
        have hown : ∀ q, (Value.slice a1 k cc1).ownBlock = some q → w.heap.size + 1 ≤ q := fun q hq => (World.ownsRow.lt hR q hq).1
        have hB7 : Below (w.heap.size + 1) (w6.setCell ⟨w.heap.size, 2, none⟩ (.bool true)) w7 := ((Below.refl (w.heap.size + 1) (w6.setCell ⟨w.heap.size, 2, none⟩ (.bool true))).alloc hWB _).grown hgrow (by (try simp at hWB ⊢); omega) hown
        have hS := HST.out
        simp only [Prod.mk.injEq] at hS
        obtain ⟨hS1, hS2, hS3⟩ := hS
        have hR7 : PRow w7 (w.heap.size + 1) v' (outP S (k + 1)) := by
          unfold PRow
          rw [outP_succ, hS1, List.length_append, List.flatMap_append, outP_len]
          simpa [cells6] using hown3
        have HR7 := Lib.hid (show LrR w w7 S v' (k + 1) from ⟨hR7, by rw [hS2, hS3]; exact PE.rs.farB hB7 (by omega), HBL.out.trans ((PE.bel.below (B := w.heap.size) (Nat.le_refl _) HWL.out).trans (hB7.mono (by omega)))⟩)
        clear hown3 hgrow hR7 hB7 hR hown hS1 hS2 hS3 hWB hBr
        go_wp2
        go_roundw
        case rel => exact ⟨k + 1, by omega, by go_num, HR7.out⟩
        case measure => simp [intOf]; omega
    · have hB := R.bel
      have hend : ∃ en, Hid (endQ (stpP S k).1 (stpP S k).2 = en) ∧ ((en = 0 ∧ ptsQ S = some (outP S k)) ∨ (en ≠ 0 ∧ ptsQ S = none)) := by
        refine ⟨_, Lib.hid rfl, ?_⟩
        by_cases hkn : k = n
        · subst hkn
          have := ptsQ_end HN.out
          by_cases e : endQ (stpP S k).1 (stpP S k).2 = 0
          · rw [if_pos e] at this; exact Or.inl ⟨e, this⟩
          · rw [if_neg e] at this; exact Or.inr ⟨e, this⟩
        · have hb : (stpP S k).2 = true := by
            cases h : (stpP S k).2 with
            | true => rfl
            | false => exact absurd ⟨by omega, h⟩ hgo
          refine Or.inr ⟨?_, ptsQ_bad HN.out hk hb⟩
          rw [hb]; unfold endQ; rw [if_pos rfl]; decide
      obtain ⟨en, hen, hcase⟩ := hend
      have k9 := fun w' h => rend_b w.heap.size S (stpP S k).1 (stpP S k).2 en w' hen h
      have hg2 : ((k : Int) < (n : Int) ∧ bad = true) ∨ ¬ (k : Int) < (n : Int) := by
        by_cases h : k < n
        · refine Or.inl ⟨by omega, ?_⟩
          rw [show bad = (stpP S k).2 from hsame]; cases hh : (stpP S k).2 with
          | true => rfl
          | false => exact absurd ⟨h, hh⟩ hgo
        · exact Or.inr (by omega)
      have HR := Lib.hid R
      clear R hen hgo hsame
      rcases hcase with ⟨rfl, hq⟩ | ⟨hne, hq⟩
      · have HQ := Lib.hid hq
        clear hq
        rcases hg2 with ⟨hg2, rfl⟩ | hg2
        all_goals
          go_wp2_with (first
            | (go_at_call 68; (with_reducible refine (k9 _ HR.out.rs).mono ?_); rintro e w9 ⟨rfl, hb9⟩))
          go_ret2
          exact rp_some HQ.out ((HR.out.row.mono (Nat.le_succ _)).later hb9) (bel_next HR.out.bel hb9)
      · have HQ := Lib.hid hq
        have he1 : (en == 0) = false := by simpa using hne
        have he2 : (en != 0) = true := by simpa using hne
        clear hq hne
        rcases hg2 with ⟨hg2, rfl⟩ | hg2
        all_goals
          go_wp2_with (first
            | (go_at_call 68; (with_reducible refine (k9 _ HR.out.rs).mono ?_); rintro e w9 ⟨rfl, hb9⟩))
          go_ret2
          exact rp_none HQ.out (bel_next HR.out.bel hb9)
end Go.Proofs.Ytjckphmkhikpaaa
