/- The contract of the document's Read of records. -/
import Derived.Test.YtjckphmkhikpaaaSampleReadMath
import Derived.Test.YtjckphmkhikpaaaSampleTv
set_option maxRecDepth 20000
namespace Go.Proofs.Ytjckphmkhikpaaa
open Go.RowKit Go.Proofs.Ytjckphmkhikpaaa.Vi Go.Proofs.Ytjckphmkhikpaaa.Mk

/-- What TakeVector reads. -/
def tvQ (r : ByteArray) (b : Bool) : List Int × ByteArray × Bool :=
  if b = true then ([], ⟨#[]⟩, true) else
  let n := (cntS r).toNat
  if (stp r n).2 = false ∧ outS r n = plainL (outS r n) then (outS r n, (stp r n).1, false) else ([], ⟨#[]⟩, true)
def Rec.zero : Rec := ⟨0, ⟨#[]⟩, 0, 0, 0, ⟨0, 0, 0⟩, []⟩
theorem recQ_tv {S r r' : ByteArray} {q : Rec} {b b' : Bool} {l : List Int} (h : headQ S = (q, r, b)) (ht : tvQ r b = (l, r', b')) : recQ S = if endQ r' b' = 0 ∧ Rec.ok { q with d := l } = true then some { q with d := l } else none := by
  unfold tvQ at ht
  cases b with
  | true =>
    rw [if_pos rfl] at ht
    simp only [Prod.mk.injEq] at ht
    obtain ⟨rfl, rfl, rfl⟩ := ht
    rw [recQ_bad h, if_neg]
    intro g; exact absurd g.1 (by decide)
  | false =>
    have hc := cntS_bounds r
    have hn : (((cntS r).toNat : Nat) : Int) = cntS r := by omega
    generalize (cntS r).toNat = n at *
    rw [if_neg (by simp)] at ht
    simp only at ht
    by_cases hA : (stp r n).2 = false ∧ outS r n = plainL (outS r n)
    · rw [if_pos hA] at ht
      simp only [Prod.mk.injEq] at ht
      obtain ⟨rfl, rfl, rfl⟩ := ht
      by_cases hE : endQ (stp r n).1 false = 0 ∧ Rec.ok { q with d := outS r n } = true
      · rw [if_pos hE]
        refine recQ_yes h hn hA.1 hA.2 ?_ hE.2
        have := hE.1
        unfold endQ at this
        rw [if_neg (by simp)] at this
        split at this
        · assumption
        · omega
      · rw [if_neg hE]
        refine recQ_no h hn fun g => hE ⟨?_, g.2.2.2⟩
        unfold endQ
        rw [if_neg (by simp), if_pos g.2.2.1]
    · rw [if_neg hA] at ht
      simp only [Prod.mk.injEq] at ht
      obtain ⟨rfl, rfl, rfl⟩ := ht
      rw [if_neg (fun g => absurd g.1 (by decide))]
      exact recQ_no h hn fun g => hA ⟨g.1, g.2.1⟩
theorem tv6 (d : Nat) (S r r' : ByteArray) (b b' : Bool) (l : List Int) (w : World) (hs : S.size ≤ 100000) (H : Hid (tvQ r b = (l, r', b'))) (hi : b = true → r = ⟨#[]⟩) (h : RS w d S r b) : Calls Try.prog 67 #[.pointer (some ⟨d, 0, none⟩)] w fun e w' => ∃ v, e = .returned v ∧ But d w w' ∧ Ns w' v l ∧ (∀ q, v.ownBlock = some q → w.heap.size ≤ q) ∧ RS w' d S r' b' := by
  have H := H.out
  unfold tvQ at H
  cases b with
  | true =>
    rw [if_pos rfl] at H
    simp only [Prod.mk.injEq] at H
    obtain ⟨rfl, rfl, rfl⟩ := H
    have hr := hi rfl
    subst hr
    exact (rtv_bad d S w hs h).mono fun e w' ⟨h1, h2, h3⟩ => ⟨_, h1, h2, (Nums.nil w' none 0).mono (Nat.zero_le _) (Nat.le_refl _), fun q hq => (by cases hq), h3⟩
  | false =>
    have hc := cntS_bounds r
    have hn : (((cntS r).toNat : Nat) : Int) = cntS r := by omega
    generalize (cntS r).toNat = n at *
    rw [if_neg (by simp)] at H
    simp only at H
    refine (rtv_gen d S r n w hs hn h).mono fun e w' ⟨v, h1, h2, h3⟩ => ?_
    by_cases hA : (stp r n).2 = false ∧ outS r n = plainL (outS r n)
    · rw [if_pos hA] at H
      simp only [Prod.mk.injEq] at H
      obtain ⟨rfl, rfl, rfl⟩ := H
      rcases h3 with ⟨_, _, h5, hq, h6⟩ | ⟨h4, _⟩
      · exact ⟨v, h1, h2, h5, hq, h6⟩
      · exact absurd hA h4
    · rw [if_neg hA] at H
      simp only [Prod.mk.injEq] at H
      obtain ⟨rfl, rfl, rfl⟩ := H
      rcases h3 with ⟨h4, h5, _⟩ | ⟨_, rfl, h6⟩
      · exact absurd ⟨h4, h5⟩ hA
      · exact ⟨_, h1, h2, (Nums.nil w' none 0).mono (Nat.zero_le _) (Nat.le_refl _), fun q hq => (by cases hq), h6⟩

/-- A record in a block that may be written. -/
structure RecW (w : World) (b : Nat) (r : Rec) (dv : Value) : Prop where
  at_ : RecAt w b r dv
  f0 : w.frozen? ⟨b, 0, none⟩ = false
  f1 : w.frozen? ⟨b, 1, none⟩ = false
  f2 : w.frozen? ⟨b, 2, none⟩ = false
  f3 : w.frozen? ⟨b, 3, none⟩ = false
  f4 : w.frozen? ⟨b, 4, none⟩ = false
  f5 : w.frozen? ⟨b, 5, none⟩ = false
  f6 : w.frozen? ⟨b, 6, none⟩ = false
  f7 : w.frozen? ⟨b, 7, none⟩ = false
  f8 : w.frozen? ⟨b, 8, none⟩ = false
theorem RecW.room {w : World} {b : Nat} {r : Rec} {dv : Value} (h : RecW w b r dv) : b < w.heap.size := h.at_.room
theorem RecW.but {w w' : World} {b d : Nat} {r : Rec} {dv : Value} (h : RecW w b r dv) (k : But d w w') (hd : b ≠ d) : RecW w' b r dv :=
  ⟨⟨(k.cell (p := ⟨b, 0, none⟩) hd h.room).trans h.at_.c0, (k.cell (p := ⟨b, 1, none⟩) hd h.room).trans h.at_.c1, (k.cell (p := ⟨b, 2, none⟩) hd h.room).trans h.at_.c2, (k.cell (p := ⟨b, 3, none⟩) hd h.room).trans h.at_.c3, (k.cell (p := ⟨b, 4, none⟩) hd h.room).trans h.at_.c4, (k.cell (p := ⟨b, 5, none⟩) hd h.room).trans h.at_.c5, (k.cell (p := ⟨b, 6, none⟩) hd h.room).trans h.at_.c6, (k.cell (p := ⟨b, 7, none⟩) hd h.room).trans h.at_.c7, (k.cell (p := ⟨b, 8, none⟩) hd h.room).trans h.at_.c8⟩,
   (k.frozen (p := ⟨b, 0, none⟩) hd h.room).trans h.f0, (k.frozen (p := ⟨b, 1, none⟩) hd h.room).trans h.f1, (k.frozen (p := ⟨b, 2, none⟩) hd h.room).trans h.f2, (k.frozen (p := ⟨b, 3, none⟩) hd h.room).trans h.f3, (k.frozen (p := ⟨b, 4, none⟩) hd h.room).trans h.f4, (k.frozen (p := ⟨b, 5, none⟩) hd h.room).trans h.f5, (k.frozen (p := ⟨b, 6, none⟩) hd h.room).trans h.f6, (k.frozen (p := ⟨b, 7, none⟩) hd h.room).trans h.f7, (k.frozen (p := ⟨b, 8, none⟩) hd h.room).trans h.f8⟩
theorem RecW.below {w w' : World} {b : Nat} {r : Rec} {dv : Value} (h : RecW w b r dv) (k : Below w.heap.size w w') : RecW w' b r dv :=
  ⟨⟨(k.cell (p := ⟨b, 0, none⟩) h.room).trans h.at_.c0, (k.cell (p := ⟨b, 1, none⟩) h.room).trans h.at_.c1, (k.cell (p := ⟨b, 2, none⟩) h.room).trans h.at_.c2, (k.cell (p := ⟨b, 3, none⟩) h.room).trans h.at_.c3, (k.cell (p := ⟨b, 4, none⟩) h.room).trans h.at_.c4, (k.cell (p := ⟨b, 5, none⟩) h.room).trans h.at_.c5, (k.cell (p := ⟨b, 6, none⟩) h.room).trans h.at_.c6, (k.cell (p := ⟨b, 7, none⟩) h.room).trans h.at_.c7, (k.cell (p := ⟨b, 8, none⟩) h.room).trans h.at_.c8⟩,
   (k.frozen (p := ⟨b, 0, none⟩) h.room).trans h.f0, (k.frozen (p := ⟨b, 1, none⟩) h.room).trans h.f1, (k.frozen (p := ⟨b, 2, none⟩) h.room).trans h.f2, (k.frozen (p := ⟨b, 3, none⟩) h.room).trans h.f3, (k.frozen (p := ⟨b, 4, none⟩) h.room).trans h.f4, (k.frozen (p := ⟨b, 5, none⟩) h.room).trans h.f5, (k.frozen (p := ⟨b, 6, none⟩) h.room).trans h.f6, (k.frozen (p := ⟨b, 7, none⟩) h.room).trans h.f7, (k.frozen (p := ⟨b, 8, none⟩) h.room).trans h.f8⟩
theorem RecW.new (w : World) (r : Rec) (dv : Value) : RecW (w.alloc (.cells #[.int .i64 r.k, .string r.s, .int .i64 r.t, .int .i64 r.v, .int .i64 r.tier, .int .i64 r.st.c, .int .i64 r.st.s, .int .i64 r.st.q, dv] 26)) w.heap.size r dv :=
  ⟨RecAt.new w r dv, by simp [go_sem], by simp [go_sem], by simp [go_sem], by simp [go_sem], by simp [go_sem], by simp [go_sem], by simp [go_sem], by simp [go_sem], by simp [go_sem]⟩
theorem RecW.other {w : World} {b : Nat} {r : Rec} {dv : Value} (h : RecW w b r dv) (x : Addr) (v : Value) (hne : x.block ≠ b) : RecW (w.setCell x v) b r dv :=
  ⟨⟨by rw [World.cell?_setCell_far _ _ _ _ hne]; exact h.at_.c0, by rw [World.cell?_setCell_far _ _ _ _ hne]; exact h.at_.c1, by rw [World.cell?_setCell_far _ _ _ _ hne]; exact h.at_.c2, by rw [World.cell?_setCell_far _ _ _ _ hne]; exact h.at_.c3, by rw [World.cell?_setCell_far _ _ _ _ hne]; exact h.at_.c4, by rw [World.cell?_setCell_far _ _ _ _ hne]; exact h.at_.c5, by rw [World.cell?_setCell_far _ _ _ _ hne]; exact h.at_.c6, by rw [World.cell?_setCell_far _ _ _ _ hne]; exact h.at_.c7, by rw [World.cell?_setCell_far _ _ _ _ hne]; exact h.at_.c8⟩,
   by simp [go_sem, h.f0], by simp [go_sem, h.f1], by simp [go_sem, h.f2], by simp [go_sem, h.f3], by simp [go_sem, h.f4], by simp [go_sem, h.f5], by simp [go_sem, h.f6], by simp [go_sem, h.f7], by simp [go_sem, h.f8]⟩
theorem RecW.set1 {w : World} {b : Nat} {r : Rec} {dv : Value} (h : RecW w b r dv) (z : ByteArray) : RecW (w.setCell ⟨b, 1, none⟩ (.string z)) b { r with s := z } dv := by
  obtain ⟨⟨x0, x1, x2, x3, x4, x5, x6, x7, x8⟩, y0, y1, y2, y3, y4, y5, y6, y7, y8⟩ := h
  exact ⟨⟨by simp [go_sem, x0], by simp [go_sem, x1], by simp [go_sem, x2], by simp [go_sem, x3], by simp [go_sem, x4], by simp [go_sem, x5], by simp [go_sem, x6], by simp [go_sem, x7], by simp [go_sem, x8]⟩, by simp [go_sem, y0], by simp [go_sem, y1], by simp [go_sem, y2], by simp [go_sem, y3], by simp [go_sem, y4], by simp [go_sem, y5], by simp [go_sem, y6], by simp [go_sem, y7], by simp [go_sem, y8]⟩
theorem RecW.set2 {w : World} {b : Nat} {r : Rec} {dv : Value} (h : RecW w b r dv) (z : Int) : RecW (w.setCell ⟨b, 2, none⟩ (.int .i64 z)) b { r with t := z } dv := by
  obtain ⟨⟨x0, x1, x2, x3, x4, x5, x6, x7, x8⟩, y0, y1, y2, y3, y4, y5, y6, y7, y8⟩ := h
  exact ⟨⟨by simp [go_sem, x0], by simp [go_sem, x1], by simp [go_sem, x2], by simp [go_sem, x3], by simp [go_sem, x4], by simp [go_sem, x5], by simp [go_sem, x6], by simp [go_sem, x7], by simp [go_sem, x8]⟩, by simp [go_sem, y0], by simp [go_sem, y1], by simp [go_sem, y2], by simp [go_sem, y3], by simp [go_sem, y4], by simp [go_sem, y5], by simp [go_sem, y6], by simp [go_sem, y7], by simp [go_sem, y8]⟩
theorem RecW.set3 {w : World} {b : Nat} {r : Rec} {dv : Value} (h : RecW w b r dv) (z : Int) : RecW (w.setCell ⟨b, 3, none⟩ (.int .i64 z)) b { r with v := z } dv := by
  obtain ⟨⟨x0, x1, x2, x3, x4, x5, x6, x7, x8⟩, y0, y1, y2, y3, y4, y5, y6, y7, y8⟩ := h
  exact ⟨⟨by simp [go_sem, x0], by simp [go_sem, x1], by simp [go_sem, x2], by simp [go_sem, x3], by simp [go_sem, x4], by simp [go_sem, x5], by simp [go_sem, x6], by simp [go_sem, x7], by simp [go_sem, x8]⟩, by simp [go_sem, y0], by simp [go_sem, y1], by simp [go_sem, y2], by simp [go_sem, y3], by simp [go_sem, y4], by simp [go_sem, y5], by simp [go_sem, y6], by simp [go_sem, y7], by simp [go_sem, y8]⟩
theorem RecW.set4 {w : World} {b : Nat} {r : Rec} {dv : Value} (h : RecW w b r dv) (z : Int) : RecW (w.setCell ⟨b, 4, none⟩ (.int .i64 z)) b { r with tier := z } dv := by
  obtain ⟨⟨x0, x1, x2, x3, x4, x5, x6, x7, x8⟩, y0, y1, y2, y3, y4, y5, y6, y7, y8⟩ := h
  exact ⟨⟨by simp [go_sem, x0], by simp [go_sem, x1], by simp [go_sem, x2], by simp [go_sem, x3], by simp [go_sem, x4], by simp [go_sem, x5], by simp [go_sem, x6], by simp [go_sem, x7], by simp [go_sem, x8]⟩, by simp [go_sem, y0], by simp [go_sem, y1], by simp [go_sem, y2], by simp [go_sem, y3], by simp [go_sem, y4], by simp [go_sem, y5], by simp [go_sem, y6], by simp [go_sem, y7], by simp [go_sem, y8]⟩
theorem RecW.set5 {w : World} {b : Nat} {r : Rec} {dv : Value} (h : RecW w b r dv) (z : St) : RecW (((w.setCell ⟨b, 5, none⟩ (.int .i64 z.c)).setCell ⟨b, 6, none⟩ (.int .i64 z.s)).setCell ⟨b, 7, none⟩ (.int .i64 z.q)) b { r with st := z } dv := by
  obtain ⟨⟨x0, x1, x2, x3, x4, x5, x6, x7, x8⟩, y0, y1, y2, y3, y4, y5, y6, y7, y8⟩ := h
  exact ⟨⟨by simp [go_sem, x0], by simp [go_sem, x1], by simp [go_sem, x2], by simp [go_sem, x3], by simp [go_sem, x4], by simp [go_sem, x5], by simp [go_sem, x6], by simp [go_sem, x7], by simp [go_sem, x8]⟩, by simp [go_sem, y0], by simp [go_sem, y1], by simp [go_sem, y2], by simp [go_sem, y3], by simp [go_sem, y4], by simp [go_sem, y5], by simp [go_sem, y6], by simp [go_sem, y7], by simp [go_sem, y8]⟩
theorem RecW.set8 {w : World} {b : Nat} {r : Rec} {dv : Value} (h : RecW w b r dv) (l : List Int) (z : Value) : RecW (w.setCell ⟨b, 8, none⟩ z) b { r with d := l } z := by
  obtain ⟨⟨x0, x1, x2, x3, x4, x5, x6, x7, x8⟩, y0, y1, y2, y3, y4, y5, y6, y7, y8⟩ := h
  exact ⟨⟨by simp [go_sem, x0], by simp [go_sem, x1], by simp [go_sem, x2], by simp [go_sem, x3], by simp [go_sem, x4], by simp [go_sem, x5], by simp [go_sem, x6], by simp [go_sem, x7], by simp [go_sem, x8]⟩, by simp [go_sem, y0], by simp [go_sem, y1], by simp [go_sem, y2], by simp [go_sem, y3], by simp [go_sem, y4], by simp [go_sem, y5], by simp [go_sem, y6], by simp [go_sem, y7], by simp [go_sem, y8]⟩

/-- Read's world between two parts: the result's block, the reader's, the record's. -/
structure RdS (w : World) (S r : ByteArray) (br : Bool) (e : Nat) (q : Rec) (dv : Value) (wr : World) : Prop where
  rs : RS wr (w.heap.size + 1) S r br
  out : RecW wr w.heap.size Rec.zero (.slice none 0 0)
  at_ : RecW wr e q dv
  far : w.heap.size + 2 ≤ e
  bel : Below w.heap.size w wr
theorem RdS.but {w wr w' : World} {S r r' : ByteArray} {br br' : Bool} {e : Nat} {q : Rec} {dv : Value} (h : RdS w S r br e q dv wr) (k : But (w.heap.size + 1) wr w') (hr : RS w' (w.heap.size + 1) S r' br') : RdS w S r' br' e q dv w' :=
  ⟨hr, h.out.but k (by omega), h.at_.but k (by have := h.far; omega), h.far, h.bel.trans (k.below (by omega) (by have := h.out.room; omega))⟩
theorem RdS.below {w wr w' : World} {S r : ByteArray} {br : Bool} {e : Nat} {q : Rec} {dv : Value} (h : RdS w S r br e q dv wr) (k : Below wr.heap.size wr w') : RdS w S r br e q dv w' :=
  ⟨h.rs.below k, h.out.below k, h.at_.below k, h.far, bel_next h.bel k⟩
theorem RdS.set1 {w wr : World} {S r : ByteArray} {br : Bool} {e : Nat} {q : Rec} {dv : Value} (h : RdS w S r br e q dv wr) (z : ByteArray) : RdS w S r br e { q with s := z } dv (wr.setCell ⟨e, 1, none⟩ (.string z)) := by
  have hf := h.far
  refine ⟨?_, ?_, h.at_.set1 z, h.far, ?_⟩
  · refine RS.other ?_ _ _ (show e ≠ _ by omega); exact h.rs
  · refine RecW.other ?_ _ _ (show e ≠ _ by omega); exact h.out
  · exact h.bel.setCell (by show _ ≤ e; omega) _
theorem RdS.set2 {w wr : World} {S r : ByteArray} {br : Bool} {e : Nat} {q : Rec} {dv : Value} (h : RdS w S r br e q dv wr) (z : Int) : RdS w S r br e { q with t := z } dv (wr.setCell ⟨e, 2, none⟩ (.int .i64 z)) := by
  have hf := h.far
  refine ⟨?_, ?_, h.at_.set2 z, h.far, ?_⟩
  · refine RS.other ?_ _ _ (show e ≠ _ by omega); exact h.rs
  · refine RecW.other ?_ _ _ (show e ≠ _ by omega); exact h.out
  · exact h.bel.setCell (by show _ ≤ e; omega) _
theorem RdS.set3 {w wr : World} {S r : ByteArray} {br : Bool} {e : Nat} {q : Rec} {dv : Value} (h : RdS w S r br e q dv wr) (z : Int) : RdS w S r br e { q with v := z } dv (wr.setCell ⟨e, 3, none⟩ (.int .i64 z)) := by
  have hf := h.far
  refine ⟨?_, ?_, h.at_.set3 z, h.far, ?_⟩
  · refine RS.other ?_ _ _ (show e ≠ _ by omega); exact h.rs
  · refine RecW.other ?_ _ _ (show e ≠ _ by omega); exact h.out
  · exact h.bel.setCell (by show _ ≤ e; omega) _
theorem RdS.set4 {w wr : World} {S r : ByteArray} {br : Bool} {e : Nat} {q : Rec} {dv : Value} (h : RdS w S r br e q dv wr) (z : Int) : RdS w S r br e { q with tier := z } dv (wr.setCell ⟨e, 4, none⟩ (.int .i64 z)) := by
  have hf := h.far
  refine ⟨?_, ?_, h.at_.set4 z, h.far, ?_⟩
  · refine RS.other ?_ _ _ (show e ≠ _ by omega); exact h.rs
  · refine RecW.other ?_ _ _ (show e ≠ _ by omega); exact h.out
  · exact h.bel.setCell (by show _ ≤ e; omega) _
theorem RdS.set5 {w wr : World} {S r : ByteArray} {br : Bool} {e : Nat} {q : Rec} {dv : Value} (h : RdS w S r br e q dv wr) (z : St) : RdS w S r br e { q with st := z } dv (((wr.setCell ⟨e, 5, none⟩ (.int .i64 z.c)).setCell ⟨e, 6, none⟩ (.int .i64 z.s)).setCell ⟨e, 7, none⟩ (.int .i64 z.q)) := by
  have hf := h.far
  refine ⟨?_, ?_, h.at_.set5 z, h.far, ?_⟩
  · refine RS.other ?_ _ _ (show e ≠ _ by omega); refine RS.other ?_ _ _ (show e ≠ _ by omega); refine RS.other ?_ _ _ (show e ≠ _ by omega); exact h.rs
  · refine RecW.other ?_ _ _ (show e ≠ _ by omega); refine RecW.other ?_ _ _ (show e ≠ _ by omega); refine RecW.other ?_ _ _ (show e ≠ _ by omega); exact h.out
  · exact ((h.bel.setCell (by show _ ≤ e; omega) _).setCell (by show _ ≤ e; omega) _).setCell (by show _ ≤ e; omega) _
theorem RdS.set8 {w wr : World} {S r : ByteArray} {br : Bool} {e : Nat} {q : Rec} {dv : Value} (h : RdS w S r br e q dv wr) (l : List Int) (z : Value) : RdS w S r br e { q with d := l } z (wr.setCell ⟨e, 8, none⟩ z) := by
  have hf := h.far
  refine ⟨?_, ?_, h.at_.set8 l z, h.far, ?_⟩
  · refine RS.other ?_ _ _ (show e ≠ _ by omega); exact h.rs
  · refine RecW.other ?_ _ _ (show e ≠ _ by omega); exact h.out
  · exact h.bel.setCell (by show _ ≤ e; omega) _
theorem RdS.first (w w1 : World) (S r : ByteArray) (b : Bool) (k : Int) (hB : But (w.heap.size + 1) ((w.alloc (.cells #[.int .i64 0, .string ⟨#[]⟩, .int .i64 0, .int .i64 0, .int .i64 0, .int .i64 0, .int .i64 0, .int .i64 0, .slice none 0 0] 26)).alloc (.cells #[.string S, .int .i64 0, .bool false] 78)) w1) (hR : RS w1 (w.heap.size + 1) S r b) : RdS w S r b w1.heap.size ⟨k, ⟨#[]⟩, 0, 0, 0, ⟨0, 0, 0⟩, []⟩ (.slice none 0 0) (w1.alloc (.cells #[.int .i64 k, .string ⟨#[]⟩, .int .i64 0, .int .i64 0, .int .i64 0, .int .i64 0, .int .i64 0, .int .i64 0, .slice none 0 0] 26)) := by
  have hsz : ((w.alloc (.cells #[.int .i64 0, .string ⟨#[]⟩, .int .i64 0, .int .i64 0, .int .i64 0, .int .i64 0, .int .i64 0, .int .i64 0, .slice none 0 0] 26)).alloc (.cells #[.string S, .int .i64 0, .bool false] 78)).heap.size = w.heap.size + 2 := by simp
  have h1 := hB.size
  have hb0 : Below w.heap.size w ((w.alloc (.cells #[.int .i64 0, .string ⟨#[]⟩, .int .i64 0, .int .i64 0, .int .i64 0, .int .i64 0, .int .i64 0, .int .i64 0, .slice none 0 0] 26)).alloc (.cells #[.string S, .int .i64 0, .bool false] 78)) := bel_new ((Below.refl _ _).alloc (Nat.le_refl _) _) _
  have hb1 := hb0.trans (hB.below (B := w.heap.size) (by omega) (by omega))
  have hN := (Below.refl w1.heap.size w1).alloc (Nat.le_refl _) (.cells #[.int .i64 k, .string ⟨#[]⟩, .int .i64 0, .int .i64 0, .int .i64 0, .int .i64 0, .int .i64 0, .int .i64 0, .slice none 0 0] 26)
  have hZ : RecW (w.alloc (.cells #[.int .i64 0, .string ⟨#[]⟩, .int .i64 0, .int .i64 0, .int .i64 0, .int .i64 0, .int .i64 0, .int .i64 0, .slice none 0 0] 26)) w.heap.size Rec.zero (.slice none 0 0) := RecW.new w Rec.zero _
  have hZ2 := (hZ.below ((Below.refl _ _).alloc (Nat.le_refl _) (.cells #[.string S, .int .i64 0, .bool false] 78))).but hB (by omega)
  exact ⟨hR.below hN, hZ2.below hN, RecW.new w1 ⟨k, ⟨#[]⟩, 0, 0, 0, ⟨0, 0, 0⟩, []⟩ _, by omega, bel_next hb1 hN⟩
theorem RdS.reader (w : World) (S : ByteArray) : RS ((w.alloc (.cells #[.int .i64 0, .string ⟨#[]⟩, .int .i64 0, .int .i64 0, .int .i64 0, .int .i64 0, .int .i64 0, .int .i64 0, .slice none 0 0] 26)).alloc (.cells #[.string S, .int .i64 0, .bool false] 78)) (w.heap.size + 1) S S false :=
  ⟨0, false, ⟨by simp [go_sem], by simp [go_sem], by simp [go_sem], by simp [go_sem], by simp [go_sem], by simp [go_sem]⟩, rfl, Nat.zero_le _, fun _ => (restZero S).symm, fun e => (by cases e)⟩
/-- Read's answer. -/
def Read6Done (S : ByteArray) (w : World) (e : Ending) (w' : World) : Prop := ∃ dv, e = .returned (.tuple #[recV ((recQ S).getD Rec.zero) dv, .int .i64 (if (recQ S).isSome then 0 else 10)]) ∧ Ns w' dv ((recQ S).getD Rec.zero).d ∧ Below w.heap.size w w'
theorem read6_some {S : ByteArray} {r : Rec} {dv : Value} {w w' : World} (h : recQ S = some r) (hn : Ns w' dv r.d) (hb : Below w.heap.size w w') : Read6Done S w (.returned (.tuple #[recV r dv, .int .i64 0])) w' := by
  unfold Read6Done
  rw [h]
  exact ⟨dv, rfl, hn, hb⟩
theorem read6_none {S : ByteArray} {w w' : World} (h : recQ S = none) (hb : Below w.heap.size w w') : Read6Done S w (.returned (.tuple #[recV Rec.zero (.slice none 0 0), .int .i64 10])) w' := by
  unfold Read6Done
  rw [h]
  exact ⟨_, rfl, (Nums.nil w' none 0).mono (Nat.zero_le _) (Nat.le_refl _), hb⟩
theorem take_range6 {r r' : ByteArray} {b b' : Bool} {a : St} (H : takeQ r b = (a, r', b')) (h : b = true → r = ⟨#[]⟩) : 0 ≤ a.s ∧ a.s ≤ 7 := by
  obtain ⟨v1, r1, b1, v2, r2, b2, v3, r3, b3, h1, h2, h3, i1, i2, i3, s1, s2, s3, ⟨o1, rfl, rfl, rfl, o2⟩ | ⟨_, rfl, _, _⟩⟩ := takeQ_parts H h
  · have := St.ok_iff.1 o1
    simp only at this ⊢
    omega
  · exact ⟨by simp, by simp⟩
theorem own_up {v : Value} {w : World} (h : ∀ q, v.ownBlock = some q → w.heap.size ≤ q) {B : Nat} (hB : B ≤ w.heap.size) : ∀ q, v.ownBlock = some q → B ≤ q := fun q hq => Nat.le_trans hB (h q hq)
theorem Nums.far {w : World} {v : Value} {l : List Int} (h : Ns w v l) {B : Nat} (hq : ∀ q, v.ownBlock = some q → B ≤ q) (x : Addr) (z : Value) (hx : x.block < B) : Ns (w.setCell x z) v l := by
  obtain ⟨⟨a, cap, rfl, hc⟩, hw, hs, hr⟩ := h
  have hsz : (w.setCell x z).heap.size = w.heap.size := by simp [World.setCell]
  refine ⟨⟨a, cap, rfl, ?_⟩, hw, hs, by omega⟩
  rcases hc with h0 | ⟨b, off, rfl, h4, h5⟩
  · exact Or.inl h0
  · have hb := hq b rfl
    refine Or.inr ⟨b, off, rfl, by omega, fun j hj => ?_⟩
    rw [World.cell?_setCell_far _ _ _ _ (show x.block ≠ b by omega)]
    exact h5 j hj
theorem nine_far {a : World} {v : Value} {l : List Int} (h : Ns a v l) {B : Nat} (hq : ∀ q, v.ownBlock = some q → B ≤ q) (b : Nat) (hb : b < B) (v0 v1 v2 v3 v4 v5 v6 v7 v8 : Value) : Ns (((((((((a.setCell ⟨b, 0, none⟩ v0).setCell ⟨b, 1, none⟩ v1).setCell ⟨b, 2, none⟩ v2).setCell ⟨b, 3, none⟩ v3).setCell ⟨b, 4, none⟩ v4).setCell ⟨b, 5, none⟩ v5).setCell ⟨b, 6, none⟩ v6).setCell ⟨b, 7, none⟩ v7).setCell ⟨b, 8, none⟩ v8) v l := (Nums.far (Nums.far (Nums.far (Nums.far (Nums.far (Nums.far (Nums.far (Nums.far (Nums.far h hq ⟨b, 0, none⟩ v0 hb) hq ⟨b, 1, none⟩ v1 hb) hq ⟨b, 2, none⟩ v2 hb) hq ⟨b, 3, none⟩ v3 hb) hq ⟨b, 4, none⟩ v4 hb) hq ⟨b, 5, none⟩ v5 hb) hq ⟨b, 6, none⟩ v6 hb) hq ⟨b, 7, none⟩ v7 hb) hq ⟨b, 8, none⟩ v8 hb)
theorem nine_set {B : Nat} {w a : World} (h : Below B w a) (b : Nat) (hb : B ≤ b) (v0 v1 v2 v3 v4 v5 v6 v7 v8 : Value) : Below B w (((((((((a.setCell ⟨b, 0, none⟩ v0).setCell ⟨b, 1, none⟩ v1).setCell ⟨b, 2, none⟩ v2).setCell ⟨b, 3, none⟩ v3).setCell ⟨b, 4, none⟩ v4).setCell ⟨b, 5, none⟩ v5).setCell ⟨b, 6, none⟩ v6).setCell ⟨b, 7, none⟩ v7).setCell ⟨b, 8, none⟩ v8) := (((((((((h.setCell (p := ⟨b, 0, none⟩) hb _).setCell (p := ⟨b, 1, none⟩) hb _).setCell (p := ⟨b, 2, none⟩) hb _).setCell (p := ⟨b, 3, none⟩) hb _).setCell (p := ⟨b, 4, none⟩) hb _).setCell (p := ⟨b, 5, none⟩) hb _).setCell (p := ⟨b, 6, none⟩) hb _).setCell (p := ⟨b, 7, none⟩) hb _).setCell (p := ⟨b, 8, none⟩) hb _)

set_option maxHeartbeats 4000000 in
theorem rread6_sample_bad (S r1 r2 r3 r4 r5 r6 : ByteArray) (b1 b2 b3 b4 b5 b6 : Bool) (k t v : Int) (s : ByteArray) (a : St) (l : List Int) (z : Int) (w : World) (hs : S.size ≤ 100000) (h1 : smallQ S false 2 = (k, r1, b1)) (hk : (k == 1) = true) (h2 : textQ r1 b1 = (s, r2, b2)) (h3 : smallQ r2 b2 1099511627776 = (t, r3, b3)) (h4 : numQ r3 b3 = (v, r4, b4)) (h5 : takeQ r4 b4 = (a, r5, b5)) (h6 : tvQ r5 b5 = (l, r6, b6)) (hz : endQ r6 b6 = z) (hb : (z != 0) = true) : Calls Try.prog 21 #[.string S] w (Read6Done S w) := by
  have i1 := (smallQ_inv h1 (fun e => by cases e)).1
  have i2 := (text_inv6 h2 fun e => (i1 e).1)
  have i3 := (smallQ_inv h3 i2.1).1
  have i4 := num_inv6 h4 fun e => (i3 e).1
  have i5 := takeQ_inv h5 i4.1
  have hss := take_range6 h5 i4.1
  have hh := head_sample h1 (by simpa using hk) h2 h3 h4 h5
  have hs1 := (smallQ_inv h1 (fun e => by cases e)).2.2
  have hq := recQ_tv hh h6
  have hk2 := smallQ_range h1 (by omega)
  have ht2 := smallQ_range h3 (by omega)
  rw [if_neg (fun g => by rw [hz] at g; rw [g.1] at hb; simp at hb)] at hq
  have k1 := rsmall_is (w.heap.size + 1) S S r1 false b1 k 2 ((w.alloc (.cells #[.int .i64 0, .string ⟨#[]⟩, .int .i64 0, .int .i64 0, .int .i64 0, .int .i64 0, .int .i64 0, .int .i64 0, .slice none 0 0] 26)).alloc (.cells #[.string S, .int .i64 0, .bool false] 78)) hs (by omega) (Lib.hid h1) (RdS.reader w S)
  obtain ⟨vz, hvz⟩ : ∃ z, zag v = z := ⟨_, rfl⟩
  have k2 := fun w' h => rtext_is (w.heap.size + 1) S r1 r2 b1 b2 s w' hs (Lib.hid h2) h
  have k3 := fun w' h => rsmall_is (w.heap.size + 1) S r2 r3 b2 b3 t 1099511627776 w' hs (by omega) (Lib.hid h3) h
  have k4 := fun w' h => rint_is (w.heap.size + 1) S r3 r4 b3 b4 v vz w' hs (Lib.hid h4) (Lib.hid hvz) h
  have k5 := fun w' h => rtake_is (w.heap.size + 1) S r4 r5 b4 b5 a w' hs (Lib.hid h5) i4.1 h
  have k6 := fun w' h => tv6 (w.heap.size + 1) S r5 r6 b5 b6 l w' hs (Lib.hid h6) i5.1 h
  have k7 := fun w' h => rend_b (w.heap.size + 1) S r6 b6 z w' (Lib.hid hz) h
  have HQ := Lib.hid hq
  have RF := fun w1 hB hR => RdS.first w w1 S r1 b1 k hB hR
  clear hq hh i1 i2 i3 i4 hs1 i5 hss hk2 ht2 h1 h2 h3 h4 hvz h5 h6 hz hs
  go_enter Try.func21, Try.ntmps21
  go_wp2_with (first
    | (go_at_call 63; (with_reducible refine k1.mono ?_); rintro e w1 ⟨rfl, hR1, hB1⟩; have R1 := RF w1 hB1 hR1; have Hx1 := R1.at_; obtain ⟨⟨x0, x1, x2, x3, x4, x5, x6, x7, x8⟩, y0, y1, y2, y3, y4, y5, y6, y7, y8⟩ := Hx1; dsimp only at x0 x1 x2 x3 x4 x5 x6 x7 x8)
    | (go_at_call 64; (with_reducible refine (k2 _ R1.rs).mono ?_); rintro e w2 ⟨rfl, hR, hB⟩; have R2 := R1.but hB hR; have Hx2 := R2.at_; obtain ⟨⟨x0, x1, x2, x3, x4, x5, x6, x7, x8⟩, y0, y1, y2, y3, y4, y5, y6, y7, y8⟩ := Hx2; dsimp only at x0 x1 x2 x3 x4 x5 x6 x7 x8)
    | (go_at_call 63; (with_reducible refine (k3 _ (R2.set1 s).rs).mono ?_); rintro e w3 ⟨rfl, hR, hB⟩; have R3 := (R2.set1 s).but hB hR; have Hx3 := R3.at_; obtain ⟨⟨x0, x1, x2, x3, x4, x5, x6, x7, x8⟩, y0, y1, y2, y3, y4, y5, y6, y7, y8⟩ := Hx3; dsimp only at x0 x1 x2 x3 x4 x5 x6 x7 x8)
    | (go_at_call 65; (with_reducible refine (k4 _ (R3.set2 t).rs).mono ?_); rintro e w4 ⟨rfl, hR, hB⟩; have R4 := (R3.set2 t).but hB hR; have Hx4 := R4.at_; obtain ⟨⟨x0, x1, x2, x3, x4, x5, x6, x7, x8⟩, y0, y1, y2, y3, y4, y5, y6, y7, y8⟩ := Hx4; dsimp only at x0 x1 x2 x3 x4 x5 x6 x7 x8)
    | (go_at_call 66; (with_reducible refine (k5 _ (R4.set3 vz).rs).mono ?_); rintro e w5 ⟨rfl, hR, hB⟩; have R5 := (R4.set3 vz).but hB hR; have Hx5 := R5.at_; obtain ⟨⟨x0, x1, x2, x3, x4, x5, x6, x7, x8⟩, y0, y1, y2, y3, y4, y5, y6, y7, y8⟩ := Hx5; dsimp only at x0 x1 x2 x3 x4 x5 x6 x7 x8)
    | (go_at_call 67; (with_reducible refine (k6 _ (R5.set5 a).rs).mono ?_); rintro e w6 ⟨dv, rfl, hB, hN, hQ, hR⟩; have hQ := own_up hQ (show w1.heap.size + 1 ≤ _ from (R5.set5 a).at_.room); obtain ⟨da, dc, rfl⟩ := hN.slice; have R6 := (R5.set5 a).but hB hR; have Hx6 := R6.at_; obtain ⟨⟨x0, x1, x2, x3, x4, x5, x6, x7, x8⟩, y0, y1, y2, y3, y4, y5, y6, y7, y8⟩ := Hx6; dsimp only at x0 x1 x2 x3 x4 x5 x6 x7 x8)
    | (go_at_call 68; (with_reducible refine (k7 _ (R6.set8 l (.slice da l.length dc)).rs).mono ?_); rintro e w7 ⟨rfl, hb7⟩; have R7 := (R6.set8 l (.slice da l.length dc)).below hb7; have N7 := (Nums.far hN hQ ⟨w1.heap.size, 8, none⟩ (.slice da l.length dc) (Nat.lt_succ_self _)).later hb7; have Hx7 := R7.at_; obtain ⟨⟨x0, x1, x2, x3, x4, x5, x6, x7, x8⟩, y0, y1, y2, y3, y4, y5, y6, y7, y8⟩ := Hx7; dsimp only at x0 x1 x2 x3 x4 x5 x6 x7 x8; have Ho7 := R7.out; obtain ⟨⟨zx0, zx1, zx2, zx3, zx4, zx5, zx6, zx7, zx8⟩, zy0, zy1, zy2, zy3, zy4, zy5, zy6, zy7, zy8⟩ := Ho7; dsimp only [Rec.zero] at zx0 zx1 zx2 zx3 zx4 zx5 zx6 zx7 zx8))
  refine bodyPost_ret (v := .tuple #[recV Rec.zero (.slice none 0 0), .int .i64 10]) (by unfold recV Rec.zero; simp [results, Try.results21, go_sem, zx0, zx1, zx2, zx3, zx4, zx5, zx6, zx7, zx8]; try rfl) rfl (read6_none HQ.out ?_)
  exact nine_set R7.bel _ (Nat.le_refl _) _ _ _ _ _ _ _ _ _

set_option maxHeartbeats 4000000 in
theorem rread6_sample_no (S r1 r2 r3 r4 r5 r6 : ByteArray) (b1 b2 b3 b4 b5 b6 : Bool) (k t v : Int) (s : ByteArray) (a : St) (l : List Int) (z : Int) (w : World) (hs : S.size ≤ 100000) (h1 : smallQ S false 2 = (k, r1, b1)) (hk : (k == 1) = true) (h2 : textQ r1 b1 = (s, r2, b2)) (h3 : smallQ r2 b2 1099511627776 = (t, r3, b3)) (h4 : numQ r3 b3 = (v, r4, b4)) (h5 : takeQ r4 b4 = (a, r5, b5)) (h6 : tvQ r5 b5 = (l, r6, b6)) (hz : endQ r6 b6 = z) (hb : z = 0) (ho : Rec.ok ⟨k, s, t, zag v, 0, a, l⟩ = false) : Calls Try.prog 21 #[.string S] w (Read6Done S w) := by
  have i1 := (smallQ_inv h1 (fun e => by cases e)).1
  have i2 := (text_inv6 h2 fun e => (i1 e).1)
  have i3 := (smallQ_inv h3 i2.1).1
  have i4 := num_inv6 h4 fun e => (i3 e).1
  have i5 := takeQ_inv h5 i4.1
  have hss := take_range6 h5 i4.1
  have hh := head_sample h1 (by simpa using hk) h2 h3 h4 h5
  have hs1 := (smallQ_inv h1 (fun e => by cases e)).2.2
  have hq := recQ_tv hh h6
  have hk2 := smallQ_range h1 (by omega)
  have ht2 := smallQ_range h3 (by omega)
  rw [if_neg (fun g => by have := g.2; rw [show Rec.ok _ = false from ho] at this; cases this)] at hq
  have hfit : Rec.fits (⟨k, s, t, zag v, 0, a, l⟩ : Rec) := ⟨by dsimp only; omega, by dsimp only; omega, by dsimp only; omega, by dsimp only; exact zag_bounds v i4.2.2.1 i4.2.2.2, by dsimp only; omega, by dsimp only; omega⟩
  have kc := fun dv w h => rcheck6_is (⟨k, s, t, zag v, 0, a, l⟩ : Rec) dv w h hfit
  have he : Rec.err (⟨k, s, t, zag v, 0, a, l⟩ : Rec) = 1 := by unfold Rec.err; rw [ho]; rfl
  rw [he] at kc
  unfold recV at kc
  dsimp only at kc
  have k1 := rsmall_is (w.heap.size + 1) S S r1 false b1 k 2 ((w.alloc (.cells #[.int .i64 0, .string ⟨#[]⟩, .int .i64 0, .int .i64 0, .int .i64 0, .int .i64 0, .int .i64 0, .int .i64 0, .slice none 0 0] 26)).alloc (.cells #[.string S, .int .i64 0, .bool false] 78)) hs (by omega) (Lib.hid h1) (RdS.reader w S)
  obtain ⟨vz, hvz⟩ : ∃ z, zag v = z := ⟨_, rfl⟩
  have k2 := fun w' h => rtext_is (w.heap.size + 1) S r1 r2 b1 b2 s w' hs (Lib.hid h2) h
  have k3 := fun w' h => rsmall_is (w.heap.size + 1) S r2 r3 b2 b3 t 1099511627776 w' hs (by omega) (Lib.hid h3) h
  have k4 := fun w' h => rint_is (w.heap.size + 1) S r3 r4 b3 b4 v vz w' hs (Lib.hid h4) (Lib.hid hvz) h
  have k5 := fun w' h => rtake_is (w.heap.size + 1) S r4 r5 b4 b5 a w' hs (Lib.hid h5) i4.1 h
  have k6 := fun w' h => tv6 (w.heap.size + 1) S r5 r6 b5 b6 l w' hs (Lib.hid h6) i5.1 h
  have k7 := fun w' h => rend_b (w.heap.size + 1) S r6 b6 z w' (Lib.hid hz) h
  have HQ := Lib.hid hq
  have RF := fun w1 hB hR => RdS.first w w1 S r1 b1 k hB hR
  rw [hvz] at kc
  subst hb
  clear hq hh i1 i2 i3 i4 hs1 i5 hss hk2 ht2 h1 h2 h3 h4 hvz h5 h6 hz hs hfit he ho
  go_enter Try.func21, Try.ntmps21
  go_wp2_with (first
    | (go_at_call 63; (with_reducible refine k1.mono ?_); rintro e w1 ⟨rfl, hR1, hB1⟩; have R1 := RF w1 hB1 hR1; have Hx1 := R1.at_; obtain ⟨⟨x0, x1, x2, x3, x4, x5, x6, x7, x8⟩, y0, y1, y2, y3, y4, y5, y6, y7, y8⟩ := Hx1; dsimp only at x0 x1 x2 x3 x4 x5 x6 x7 x8)
    | (go_at_call 64; (with_reducible refine (k2 _ R1.rs).mono ?_); rintro e w2 ⟨rfl, hR, hB⟩; have R2 := R1.but hB hR; have Hx2 := R2.at_; obtain ⟨⟨x0, x1, x2, x3, x4, x5, x6, x7, x8⟩, y0, y1, y2, y3, y4, y5, y6, y7, y8⟩ := Hx2; dsimp only at x0 x1 x2 x3 x4 x5 x6 x7 x8)
    | (go_at_call 63; (with_reducible refine (k3 _ (R2.set1 s).rs).mono ?_); rintro e w3 ⟨rfl, hR, hB⟩; have R3 := (R2.set1 s).but hB hR; have Hx3 := R3.at_; obtain ⟨⟨x0, x1, x2, x3, x4, x5, x6, x7, x8⟩, y0, y1, y2, y3, y4, y5, y6, y7, y8⟩ := Hx3; dsimp only at x0 x1 x2 x3 x4 x5 x6 x7 x8)
    | (go_at_call 65; (with_reducible refine (k4 _ (R3.set2 t).rs).mono ?_); rintro e w4 ⟨rfl, hR, hB⟩; have R4 := (R3.set2 t).but hB hR; have Hx4 := R4.at_; obtain ⟨⟨x0, x1, x2, x3, x4, x5, x6, x7, x8⟩, y0, y1, y2, y3, y4, y5, y6, y7, y8⟩ := Hx4; dsimp only at x0 x1 x2 x3 x4 x5 x6 x7 x8)
    | (go_at_call 66; (with_reducible refine (k5 _ (R4.set3 vz).rs).mono ?_); rintro e w5 ⟨rfl, hR, hB⟩; have R5 := (R4.set3 vz).but hB hR; have Hx5 := R5.at_; obtain ⟨⟨x0, x1, x2, x3, x4, x5, x6, x7, x8⟩, y0, y1, y2, y3, y4, y5, y6, y7, y8⟩ := Hx5; dsimp only at x0 x1 x2 x3 x4 x5 x6 x7 x8)
    | (go_at_call 67; (with_reducible refine (k6 _ (R5.set5 a).rs).mono ?_); rintro e w6 ⟨dv, rfl, hB, hN, hQ, hR⟩; have hQ := own_up hQ (show w1.heap.size + 1 ≤ _ from (R5.set5 a).at_.room); obtain ⟨da, dc, rfl⟩ := hN.slice; have R6 := (R5.set5 a).but hB hR; have Hx6 := R6.at_; obtain ⟨⟨x0, x1, x2, x3, x4, x5, x6, x7, x8⟩, y0, y1, y2, y3, y4, y5, y6, y7, y8⟩ := Hx6; dsimp only at x0 x1 x2 x3 x4 x5 x6 x7 x8)
    | (go_at_call 68; (with_reducible refine (k7 _ (R6.set8 l (.slice da l.length dc)).rs).mono ?_); rintro e w7 ⟨rfl, hb7⟩; have R7 := (R6.set8 l (.slice da l.length dc)).below hb7; have N7 := (Nums.far hN hQ ⟨w1.heap.size, 8, none⟩ (.slice da l.length dc) (Nat.lt_succ_self _)).later hb7; have Hx7 := R7.at_; obtain ⟨⟨x0, x1, x2, x3, x4, x5, x6, x7, x8⟩, y0, y1, y2, y3, y4, y5, y6, y7, y8⟩ := Hx7; dsimp only at x0 x1 x2 x3 x4 x5 x6 x7 x8; have Ho7 := R7.out; obtain ⟨⟨zx0, zx1, zx2, zx3, zx4, zx5, zx6, zx7, zx8⟩, zy0, zy1, zy2, zy3, zy4, zy5, zy6, zy7, zy8⟩ := Ho7; dsimp only [Rec.zero] at zx0 zx1 zx2 zx3 zx4 zx5 zx6 zx7 zx8)
    | (go_at_call 17; (with_reducible refine (kc (.slice da l.length dc) _ N7).mono ?_); rintro e w8 ⟨rfl, hb8⟩; have R8 := R7.below hb8; have N8 := N7.later hb8; have Hx8 := R8.at_; obtain ⟨⟨x0, x1, x2, x3, x4, x5, x6, x7, x8⟩, y0, y1, y2, y3, y4, y5, y6, y7, y8⟩ := Hx8; dsimp only at x0 x1 x2 x3 x4 x5 x6 x7 x8; have Ho8 := R8.out; obtain ⟨⟨zx0, zx1, zx2, zx3, zx4, zx5, zx6, zx7, zx8⟩, zy0, zy1, zy2, zy3, zy4, zy5, zy6, zy7, zy8⟩ := Ho8; dsimp only [Rec.zero] at zx0 zx1 zx2 zx3 zx4 zx5 zx6 zx7 zx8))
  refine bodyPost_ret (v := .tuple #[recV Rec.zero (.slice none 0 0), .int .i64 10]) (by unfold recV Rec.zero; simp [results, Try.results21, go_sem, zx0, zx1, zx2, zx3, zx4, zx5, zx6, zx7, zx8]; try rfl) rfl (read6_none HQ.out ?_)
  exact nine_set R8.bel _ (Nat.le_refl _) _ _ _ _ _ _ _ _ _

set_option maxHeartbeats 4000000 in
theorem rread6_sample_yes (S r1 r2 r3 r4 r5 r6 : ByteArray) (b1 b2 b3 b4 b5 b6 : Bool) (k t v : Int) (s : ByteArray) (a : St) (l : List Int) (z : Int) (w : World) (hs : S.size ≤ 100000) (h1 : smallQ S false 2 = (k, r1, b1)) (hk : (k == 1) = true) (h2 : textQ r1 b1 = (s, r2, b2)) (h3 : smallQ r2 b2 1099511627776 = (t, r3, b3)) (h4 : numQ r3 b3 = (v, r4, b4)) (h5 : takeQ r4 b4 = (a, r5, b5)) (h6 : tvQ r5 b5 = (l, r6, b6)) (hz : endQ r6 b6 = z) (hb : z = 0) (ho : Rec.ok ⟨k, s, t, zag v, 0, a, l⟩ = true) : Calls Try.prog 21 #[.string S] w (Read6Done S w) := by
  have i1 := (smallQ_inv h1 (fun e => by cases e)).1
  have i2 := (text_inv6 h2 fun e => (i1 e).1)
  have i3 := (smallQ_inv h3 i2.1).1
  have i4 := num_inv6 h4 fun e => (i3 e).1
  have i5 := takeQ_inv h5 i4.1
  have hss := take_range6 h5 i4.1
  have hh := head_sample h1 (by simpa using hk) h2 h3 h4 h5
  have hs1 := (smallQ_inv h1 (fun e => by cases e)).2.2
  have hq := recQ_tv hh h6
  have hk2 := smallQ_range h1 (by omega)
  have ht2 := smallQ_range h3 (by omega)
  rw [if_pos ⟨by rw [hz, hb], ho⟩] at hq
  have hfit : Rec.fits (⟨k, s, t, zag v, 0, a, l⟩ : Rec) := ⟨by dsimp only; omega, by dsimp only; omega, by dsimp only; omega, by dsimp only; exact zag_bounds v i4.2.2.1 i4.2.2.2, by dsimp only; omega, by dsimp only; omega⟩
  have kc := fun dv w h => rcheck6_is (⟨k, s, t, zag v, 0, a, l⟩ : Rec) dv w h hfit
  have he : Rec.err (⟨k, s, t, zag v, 0, a, l⟩ : Rec) = 0 := by unfold Rec.err; rw [ho]; rfl
  rw [he] at kc
  unfold recV at kc
  dsimp only at kc
  have k1 := rsmall_is (w.heap.size + 1) S S r1 false b1 k 2 ((w.alloc (.cells #[.int .i64 0, .string ⟨#[]⟩, .int .i64 0, .int .i64 0, .int .i64 0, .int .i64 0, .int .i64 0, .int .i64 0, .slice none 0 0] 26)).alloc (.cells #[.string S, .int .i64 0, .bool false] 78)) hs (by omega) (Lib.hid h1) (RdS.reader w S)
  obtain ⟨vz, hvz⟩ : ∃ z, zag v = z := ⟨_, rfl⟩
  have k2 := fun w' h => rtext_is (w.heap.size + 1) S r1 r2 b1 b2 s w' hs (Lib.hid h2) h
  have k3 := fun w' h => rsmall_is (w.heap.size + 1) S r2 r3 b2 b3 t 1099511627776 w' hs (by omega) (Lib.hid h3) h
  have k4 := fun w' h => rint_is (w.heap.size + 1) S r3 r4 b3 b4 v vz w' hs (Lib.hid h4) (Lib.hid hvz) h
  have k5 := fun w' h => rtake_is (w.heap.size + 1) S r4 r5 b4 b5 a w' hs (Lib.hid h5) i4.1 h
  have k6 := fun w' h => tv6 (w.heap.size + 1) S r5 r6 b5 b6 l w' hs (Lib.hid h6) i5.1 h
  have k7 := fun w' h => rend_b (w.heap.size + 1) S r6 b6 z w' (Lib.hid hz) h
  have HQ := Lib.hid hq
  have RF := fun w1 hB hR => RdS.first w w1 S r1 b1 k hB hR
  rw [hvz] at HQ kc
  subst hb
  clear hq hh i1 i2 i3 i4 hs1 i5 hss hk2 ht2 h1 h2 h3 h4 hvz h5 h6 hz hs hfit he ho
  go_enter Try.func21, Try.ntmps21
  go_wp2_with (first
    | (go_at_call 63; (with_reducible refine k1.mono ?_); rintro e w1 ⟨rfl, hR1, hB1⟩; have R1 := RF w1 hB1 hR1; have Hx1 := R1.at_; obtain ⟨⟨x0, x1, x2, x3, x4, x5, x6, x7, x8⟩, y0, y1, y2, y3, y4, y5, y6, y7, y8⟩ := Hx1; dsimp only at x0 x1 x2 x3 x4 x5 x6 x7 x8)
    | (go_at_call 64; (with_reducible refine (k2 _ R1.rs).mono ?_); rintro e w2 ⟨rfl, hR, hB⟩; have R2 := R1.but hB hR; have Hx2 := R2.at_; obtain ⟨⟨x0, x1, x2, x3, x4, x5, x6, x7, x8⟩, y0, y1, y2, y3, y4, y5, y6, y7, y8⟩ := Hx2; dsimp only at x0 x1 x2 x3 x4 x5 x6 x7 x8)
    | (go_at_call 63; (with_reducible refine (k3 _ (R2.set1 s).rs).mono ?_); rintro e w3 ⟨rfl, hR, hB⟩; have R3 := (R2.set1 s).but hB hR; have Hx3 := R3.at_; obtain ⟨⟨x0, x1, x2, x3, x4, x5, x6, x7, x8⟩, y0, y1, y2, y3, y4, y5, y6, y7, y8⟩ := Hx3; dsimp only at x0 x1 x2 x3 x4 x5 x6 x7 x8)
    | (go_at_call 65; (with_reducible refine (k4 _ (R3.set2 t).rs).mono ?_); rintro e w4 ⟨rfl, hR, hB⟩; have R4 := (R3.set2 t).but hB hR; have Hx4 := R4.at_; obtain ⟨⟨x0, x1, x2, x3, x4, x5, x6, x7, x8⟩, y0, y1, y2, y3, y4, y5, y6, y7, y8⟩ := Hx4; dsimp only at x0 x1 x2 x3 x4 x5 x6 x7 x8)
    | (go_at_call 66; (with_reducible refine (k5 _ (R4.set3 vz).rs).mono ?_); rintro e w5 ⟨rfl, hR, hB⟩; have R5 := (R4.set3 vz).but hB hR; have Hx5 := R5.at_; obtain ⟨⟨x0, x1, x2, x3, x4, x5, x6, x7, x8⟩, y0, y1, y2, y3, y4, y5, y6, y7, y8⟩ := Hx5; dsimp only at x0 x1 x2 x3 x4 x5 x6 x7 x8)
    | (go_at_call 67; (with_reducible refine (k6 _ (R5.set5 a).rs).mono ?_); rintro e w6 ⟨dv, rfl, hB, hN, hQ, hR⟩; have hQ := own_up hQ (show w1.heap.size + 1 ≤ _ from (R5.set5 a).at_.room); obtain ⟨da, dc, rfl⟩ := hN.slice; have R6 := (R5.set5 a).but hB hR; have Hx6 := R6.at_; obtain ⟨⟨x0, x1, x2, x3, x4, x5, x6, x7, x8⟩, y0, y1, y2, y3, y4, y5, y6, y7, y8⟩ := Hx6; dsimp only at x0 x1 x2 x3 x4 x5 x6 x7 x8)
    | (go_at_call 68; (with_reducible refine (k7 _ (R6.set8 l (.slice da l.length dc)).rs).mono ?_); rintro e w7 ⟨rfl, hb7⟩; have R7 := (R6.set8 l (.slice da l.length dc)).below hb7; have N7 := (Nums.far hN hQ ⟨w1.heap.size, 8, none⟩ (.slice da l.length dc) (Nat.lt_succ_self _)).later hb7; have Hx7 := R7.at_; obtain ⟨⟨x0, x1, x2, x3, x4, x5, x6, x7, x8⟩, y0, y1, y2, y3, y4, y5, y6, y7, y8⟩ := Hx7; dsimp only at x0 x1 x2 x3 x4 x5 x6 x7 x8; have Ho7 := R7.out; obtain ⟨⟨zx0, zx1, zx2, zx3, zx4, zx5, zx6, zx7, zx8⟩, zy0, zy1, zy2, zy3, zy4, zy5, zy6, zy7, zy8⟩ := Ho7; dsimp only [Rec.zero] at zx0 zx1 zx2 zx3 zx4 zx5 zx6 zx7 zx8)
    | (go_at_call 17; (with_reducible refine (kc (.slice da l.length dc) _ N7).mono ?_); rintro e w8 ⟨rfl, hb8⟩; have R8 := R7.below hb8; have N8 := N7.later hb8; have Hx8 := R8.at_; obtain ⟨⟨x0, x1, x2, x3, x4, x5, x6, x7, x8⟩, y0, y1, y2, y3, y4, y5, y6, y7, y8⟩ := Hx8; dsimp only at x0 x1 x2 x3 x4 x5 x6 x7 x8; have Ho8 := R8.out; obtain ⟨⟨zx0, zx1, zx2, zx3, zx4, zx5, zx6, zx7, zx8⟩, zy0, zy1, zy2, zy3, zy4, zy5, zy6, zy7, zy8⟩ := Ho8; dsimp only [Rec.zero] at zx0 zx1 zx2 zx3 zx4 zx5 zx6 zx7 zx8))
  refine bodyPost_ret (v := .tuple #[recV ⟨k, s, t, vz, 0, a, l⟩ (.slice da l.length dc), .int .i64 0]) (by unfold recV; simp [results, Try.results21, go_sem, zx0, zx1, zx2, zx3, zx4, zx5, zx6, zx7, zx8]; try rfl) rfl (read6_some HQ.out ?_ ?_)
  · exact nine_far N8 hQ _ (by have := RF; have := R8.far; omega) _ _ _ _ _ _ _ _ _
  · exact nine_set R8.bel _ (Nat.le_refl _) _ _ _ _ _ _ _ _ _

set_option maxHeartbeats 4000000 in
theorem rread6_cut_bad (S r1 r2 r3 r5 r6 : ByteArray) (b1 b2 b3 b5 b6 : Bool) (k t x : Int) (a : St) (l : List Int) (z : Int) (w : World) (hs : S.size ≤ 100000) (h1 : smallQ S false 2 = (k, r1, b1)) (hk : (k == 1) = false) (h2 : smallQ r1 b1 3 = (x, r2, b2)) (h3 : smallQ r2 b2 1099511627776 = (t, r3, b3)) (h5 : takeQ r3 b3 = (a, r5, b5)) (h6 : tvQ r5 b5 = (l, r6, b6)) (hz : endQ r6 b6 = z) (hb : (z != 0) = true) : Calls Try.prog 21 #[.string S] w (Read6Done S w) := by
  have i1 := (smallQ_inv h1 (fun e => by cases e)).1
  have i2 := (smallQ_inv h2 fun e => (i1 e).1).1
  have i3 := (smallQ_inv h3 fun e => (i2 e).1).1
  have i5 := takeQ_inv h5 fun e => (i3 e).1
  have hss := take_range6 h5 fun e => (i3 e).1
  have hh := head_cut h1 (by simpa using hk) h2 h3 h5
  have hx := smallQ_range h2 (by omega)
  have hq := recQ_tv hh h6
  have hk2 := smallQ_range h1 (by omega)
  have ht2 := smallQ_range h3 (by omega)
  rw [if_neg (fun g => by rw [hz] at g; rw [g.1] at hb; simp at hb)] at hq
  have k1 := rsmall_is (w.heap.size + 1) S S r1 false b1 k 2 ((w.alloc (.cells #[.int .i64 0, .string ⟨#[]⟩, .int .i64 0, .int .i64 0, .int .i64 0, .int .i64 0, .int .i64 0, .int .i64 0, .slice none 0 0] 26)).alloc (.cells #[.string S, .int .i64 0, .bool false] 78)) hs (by omega) (Lib.hid h1) (RdS.reader w S)
  have k2 := fun w' h => rsmall_is (w.heap.size + 1) S r1 r2 b1 b2 x 3 w' hs (by omega) (Lib.hid h2) h
  have k3 := fun w' h => rsmall_is (w.heap.size + 1) S r2 r3 b2 b3 t 1099511627776 w' hs (by omega) (Lib.hid h3) h
  have k5 := fun w' h => rtake_is (w.heap.size + 1) S r3 r5 b3 b5 a w' hs (Lib.hid h5) (fun e => (i3 e).1) h
  have k6 := fun w' h => tv6 (w.heap.size + 1) S r5 r6 b5 b6 l w' hs (Lib.hid h6) i5.1 h
  have k7 := fun w' h => rend_b (w.heap.size + 1) S r6 b6 z w' (Lib.hid hz) h
  have HQ := Lib.hid hq
  have RF := fun w1 hB hR => RdS.first w w1 S r1 b1 k hB hR
  clear hq hh i1 i2 i3 hx i5 hss hk2 ht2 h1 h2 h3 h5 h6 hz hs
  go_enter Try.func21, Try.ntmps21
  go_wp2_with (first
    | (go_at_call 63; (with_reducible refine k1.mono ?_); rintro e w1 ⟨rfl, hR1, hB1⟩; have R1 := RF w1 hB1 hR1; have Hx1 := R1.at_; obtain ⟨⟨x0, x1, x2, x3, x4, x5, x6, x7, x8⟩, y0, y1, y2, y3, y4, y5, y6, y7, y8⟩ := Hx1; dsimp only at x0 x1 x2 x3 x4 x5 x6 x7 x8)
    | (go_at_call 63; (with_reducible refine (k2 _ R1.rs).mono ?_); rintro e w2 ⟨rfl, hR, hB⟩; have R2 := R1.but hB hR; have Hx2 := R2.at_; obtain ⟨⟨x0, x1, x2, x3, x4, x5, x6, x7, x8⟩, y0, y1, y2, y3, y4, y5, y6, y7, y8⟩ := Hx2; dsimp only at x0 x1 x2 x3 x4 x5 x6 x7 x8)
    | (go_at_call 63; (with_reducible refine (k3 _ (R2.set4 x).rs).mono ?_); rintro e w3 ⟨rfl, hR, hB⟩; have R3 := (R2.set4 x).but hB hR; have Hx3 := R3.at_; obtain ⟨⟨x0, x1, x2, x3, x4, x5, x6, x7, x8⟩, y0, y1, y2, y3, y4, y5, y6, y7, y8⟩ := Hx3; dsimp only at x0 x1 x2 x3 x4 x5 x6 x7 x8)
    | (go_at_call 66; (with_reducible refine (k5 _ (R3.set2 t).rs).mono ?_); rintro e w5 ⟨rfl, hR, hB⟩; have R5 := (R3.set2 t).but hB hR; have Hx5 := R5.at_; obtain ⟨⟨x0, x1, x2, x3, x4, x5, x6, x7, x8⟩, y0, y1, y2, y3, y4, y5, y6, y7, y8⟩ := Hx5; dsimp only at x0 x1 x2 x3 x4 x5 x6 x7 x8)
    | (go_at_call 67; (with_reducible refine (k6 _ (R5.set5 a).rs).mono ?_); rintro e w6 ⟨dv, rfl, hB, hN, hQ, hR⟩; have hQ := own_up hQ (show w1.heap.size + 1 ≤ _ from (R5.set5 a).at_.room); obtain ⟨da, dc, rfl⟩ := hN.slice; have R6 := (R5.set5 a).but hB hR; have Hx6 := R6.at_; obtain ⟨⟨x0, x1, x2, x3, x4, x5, x6, x7, x8⟩, y0, y1, y2, y3, y4, y5, y6, y7, y8⟩ := Hx6; dsimp only at x0 x1 x2 x3 x4 x5 x6 x7 x8)
    | (go_at_call 68; (with_reducible refine (k7 _ (R6.set8 l (.slice da l.length dc)).rs).mono ?_); rintro e w7 ⟨rfl, hb7⟩; have R7 := (R6.set8 l (.slice da l.length dc)).below hb7; have N7 := (Nums.far hN hQ ⟨w1.heap.size, 8, none⟩ (.slice da l.length dc) (Nat.lt_succ_self _)).later hb7; have Hx7 := R7.at_; obtain ⟨⟨x0, x1, x2, x3, x4, x5, x6, x7, x8⟩, y0, y1, y2, y3, y4, y5, y6, y7, y8⟩ := Hx7; dsimp only at x0 x1 x2 x3 x4 x5 x6 x7 x8; have Ho7 := R7.out; obtain ⟨⟨zx0, zx1, zx2, zx3, zx4, zx5, zx6, zx7, zx8⟩, zy0, zy1, zy2, zy3, zy4, zy5, zy6, zy7, zy8⟩ := Ho7; dsimp only [Rec.zero] at zx0 zx1 zx2 zx3 zx4 zx5 zx6 zx7 zx8))
  refine bodyPost_ret (v := .tuple #[recV Rec.zero (.slice none 0 0), .int .i64 10]) (by unfold recV Rec.zero; simp [results, Try.results21, go_sem, zx0, zx1, zx2, zx3, zx4, zx5, zx6, zx7, zx8]; try rfl) rfl (read6_none HQ.out ?_)
  exact nine_set R7.bel _ (Nat.le_refl _) _ _ _ _ _ _ _ _ _

set_option maxHeartbeats 4000000 in
theorem rread6_cut_no (S r1 r2 r3 r5 r6 : ByteArray) (b1 b2 b3 b5 b6 : Bool) (k t x : Int) (a : St) (l : List Int) (z : Int) (w : World) (hs : S.size ≤ 100000) (h1 : smallQ S false 2 = (k, r1, b1)) (hk : (k == 1) = false) (h2 : smallQ r1 b1 3 = (x, r2, b2)) (h3 : smallQ r2 b2 1099511627776 = (t, r3, b3)) (h5 : takeQ r3 b3 = (a, r5, b5)) (h6 : tvQ r5 b5 = (l, r6, b6)) (hz : endQ r6 b6 = z) (hb : z = 0) (ho : Rec.ok ⟨k, ⟨#[]⟩, t, 0, x, a, l⟩ = false) : Calls Try.prog 21 #[.string S] w (Read6Done S w) := by
  have i1 := (smallQ_inv h1 (fun e => by cases e)).1
  have i2 := (smallQ_inv h2 fun e => (i1 e).1).1
  have i3 := (smallQ_inv h3 fun e => (i2 e).1).1
  have i5 := takeQ_inv h5 fun e => (i3 e).1
  have hss := take_range6 h5 fun e => (i3 e).1
  have hh := head_cut h1 (by simpa using hk) h2 h3 h5
  have hx := smallQ_range h2 (by omega)
  have hq := recQ_tv hh h6
  have hk2 := smallQ_range h1 (by omega)
  have ht2 := smallQ_range h3 (by omega)
  rw [if_neg (fun g => by have := g.2; rw [show Rec.ok _ = false from ho] at this; cases this)] at hq
  have hfit : Rec.fits (⟨k, ⟨#[]⟩, t, 0, x, a, l⟩ : Rec) := ⟨by dsimp only; omega, by show (0 : Nat) ≤ _; omega, by dsimp only; omega, by dsimp only; omega, by dsimp only; omega, by dsimp only; omega⟩
  have kc := fun dv w h => rcheck6_is (⟨k, ⟨#[]⟩, t, 0, x, a, l⟩ : Rec) dv w h hfit
  have he : Rec.err (⟨k, ⟨#[]⟩, t, 0, x, a, l⟩ : Rec) = 1 := by unfold Rec.err; rw [ho]; rfl
  rw [he] at kc
  unfold recV at kc
  dsimp only at kc
  have k1 := rsmall_is (w.heap.size + 1) S S r1 false b1 k 2 ((w.alloc (.cells #[.int .i64 0, .string ⟨#[]⟩, .int .i64 0, .int .i64 0, .int .i64 0, .int .i64 0, .int .i64 0, .int .i64 0, .slice none 0 0] 26)).alloc (.cells #[.string S, .int .i64 0, .bool false] 78)) hs (by omega) (Lib.hid h1) (RdS.reader w S)
  have k2 := fun w' h => rsmall_is (w.heap.size + 1) S r1 r2 b1 b2 x 3 w' hs (by omega) (Lib.hid h2) h
  have k3 := fun w' h => rsmall_is (w.heap.size + 1) S r2 r3 b2 b3 t 1099511627776 w' hs (by omega) (Lib.hid h3) h
  have k5 := fun w' h => rtake_is (w.heap.size + 1) S r3 r5 b3 b5 a w' hs (Lib.hid h5) (fun e => (i3 e).1) h
  have k6 := fun w' h => tv6 (w.heap.size + 1) S r5 r6 b5 b6 l w' hs (Lib.hid h6) i5.1 h
  have k7 := fun w' h => rend_b (w.heap.size + 1) S r6 b6 z w' (Lib.hid hz) h
  have HQ := Lib.hid hq
  have RF := fun w1 hB hR => RdS.first w w1 S r1 b1 k hB hR
  subst hb
  clear hq hh i1 i2 i3 hx i5 hss hk2 ht2 h1 h2 h3 h5 h6 hz hs hfit he ho
  go_enter Try.func21, Try.ntmps21
  go_wp2_with (first
    | (go_at_call 63; (with_reducible refine k1.mono ?_); rintro e w1 ⟨rfl, hR1, hB1⟩; have R1 := RF w1 hB1 hR1; have Hx1 := R1.at_; obtain ⟨⟨x0, x1, x2, x3, x4, x5, x6, x7, x8⟩, y0, y1, y2, y3, y4, y5, y6, y7, y8⟩ := Hx1; dsimp only at x0 x1 x2 x3 x4 x5 x6 x7 x8)
    | (go_at_call 63; (with_reducible refine (k2 _ R1.rs).mono ?_); rintro e w2 ⟨rfl, hR, hB⟩; have R2 := R1.but hB hR; have Hx2 := R2.at_; obtain ⟨⟨x0, x1, x2, x3, x4, x5, x6, x7, x8⟩, y0, y1, y2, y3, y4, y5, y6, y7, y8⟩ := Hx2; dsimp only at x0 x1 x2 x3 x4 x5 x6 x7 x8)
    | (go_at_call 63; (with_reducible refine (k3 _ (R2.set4 x).rs).mono ?_); rintro e w3 ⟨rfl, hR, hB⟩; have R3 := (R2.set4 x).but hB hR; have Hx3 := R3.at_; obtain ⟨⟨x0, x1, x2, x3, x4, x5, x6, x7, x8⟩, y0, y1, y2, y3, y4, y5, y6, y7, y8⟩ := Hx3; dsimp only at x0 x1 x2 x3 x4 x5 x6 x7 x8)
    | (go_at_call 66; (with_reducible refine (k5 _ (R3.set2 t).rs).mono ?_); rintro e w5 ⟨rfl, hR, hB⟩; have R5 := (R3.set2 t).but hB hR; have Hx5 := R5.at_; obtain ⟨⟨x0, x1, x2, x3, x4, x5, x6, x7, x8⟩, y0, y1, y2, y3, y4, y5, y6, y7, y8⟩ := Hx5; dsimp only at x0 x1 x2 x3 x4 x5 x6 x7 x8)
    | (go_at_call 67; (with_reducible refine (k6 _ (R5.set5 a).rs).mono ?_); rintro e w6 ⟨dv, rfl, hB, hN, hQ, hR⟩; have hQ := own_up hQ (show w1.heap.size + 1 ≤ _ from (R5.set5 a).at_.room); obtain ⟨da, dc, rfl⟩ := hN.slice; have R6 := (R5.set5 a).but hB hR; have Hx6 := R6.at_; obtain ⟨⟨x0, x1, x2, x3, x4, x5, x6, x7, x8⟩, y0, y1, y2, y3, y4, y5, y6, y7, y8⟩ := Hx6; dsimp only at x0 x1 x2 x3 x4 x5 x6 x7 x8)
    | (go_at_call 68; (with_reducible refine (k7 _ (R6.set8 l (.slice da l.length dc)).rs).mono ?_); rintro e w7 ⟨rfl, hb7⟩; have R7 := (R6.set8 l (.slice da l.length dc)).below hb7; have N7 := (Nums.far hN hQ ⟨w1.heap.size, 8, none⟩ (.slice da l.length dc) (Nat.lt_succ_self _)).later hb7; have Hx7 := R7.at_; obtain ⟨⟨x0, x1, x2, x3, x4, x5, x6, x7, x8⟩, y0, y1, y2, y3, y4, y5, y6, y7, y8⟩ := Hx7; dsimp only at x0 x1 x2 x3 x4 x5 x6 x7 x8; have Ho7 := R7.out; obtain ⟨⟨zx0, zx1, zx2, zx3, zx4, zx5, zx6, zx7, zx8⟩, zy0, zy1, zy2, zy3, zy4, zy5, zy6, zy7, zy8⟩ := Ho7; dsimp only [Rec.zero] at zx0 zx1 zx2 zx3 zx4 zx5 zx6 zx7 zx8)
    | (go_at_call 17; (with_reducible refine (kc (.slice da l.length dc) _ N7).mono ?_); rintro e w8 ⟨rfl, hb8⟩; have R8 := R7.below hb8; have N8 := N7.later hb8; have Hx8 := R8.at_; obtain ⟨⟨x0, x1, x2, x3, x4, x5, x6, x7, x8⟩, y0, y1, y2, y3, y4, y5, y6, y7, y8⟩ := Hx8; dsimp only at x0 x1 x2 x3 x4 x5 x6 x7 x8; have Ho8 := R8.out; obtain ⟨⟨zx0, zx1, zx2, zx3, zx4, zx5, zx6, zx7, zx8⟩, zy0, zy1, zy2, zy3, zy4, zy5, zy6, zy7, zy8⟩ := Ho8; dsimp only [Rec.zero] at zx0 zx1 zx2 zx3 zx4 zx5 zx6 zx7 zx8))
  refine bodyPost_ret (v := .tuple #[recV Rec.zero (.slice none 0 0), .int .i64 10]) (by unfold recV Rec.zero; simp [results, Try.results21, go_sem, zx0, zx1, zx2, zx3, zx4, zx5, zx6, zx7, zx8]; try rfl) rfl (read6_none HQ.out ?_)
  exact nine_set R8.bel _ (Nat.le_refl _) _ _ _ _ _ _ _ _ _

set_option maxHeartbeats 4000000 in
theorem rread6_cut_yes (S r1 r2 r3 r5 r6 : ByteArray) (b1 b2 b3 b5 b6 : Bool) (k t x : Int) (a : St) (l : List Int) (z : Int) (w : World) (hs : S.size ≤ 100000) (h1 : smallQ S false 2 = (k, r1, b1)) (hk : (k == 1) = false) (h2 : smallQ r1 b1 3 = (x, r2, b2)) (h3 : smallQ r2 b2 1099511627776 = (t, r3, b3)) (h5 : takeQ r3 b3 = (a, r5, b5)) (h6 : tvQ r5 b5 = (l, r6, b6)) (hz : endQ r6 b6 = z) (hb : z = 0) (ho : Rec.ok ⟨k, ⟨#[]⟩, t, 0, x, a, l⟩ = true) : Calls Try.prog 21 #[.string S] w (Read6Done S w) := by
  have i1 := (smallQ_inv h1 (fun e => by cases e)).1
  have i2 := (smallQ_inv h2 fun e => (i1 e).1).1
  have i3 := (smallQ_inv h3 fun e => (i2 e).1).1
  have i5 := takeQ_inv h5 fun e => (i3 e).1
  have hss := take_range6 h5 fun e => (i3 e).1
  have hh := head_cut h1 (by simpa using hk) h2 h3 h5
  have hx := smallQ_range h2 (by omega)
  have hq := recQ_tv hh h6
  have hk2 := smallQ_range h1 (by omega)
  have ht2 := smallQ_range h3 (by omega)
  rw [if_pos ⟨by rw [hz, hb], ho⟩] at hq
  have hfit : Rec.fits (⟨k, ⟨#[]⟩, t, 0, x, a, l⟩ : Rec) := ⟨by dsimp only; omega, by show (0 : Nat) ≤ _; omega, by dsimp only; omega, by dsimp only; omega, by dsimp only; omega, by dsimp only; omega⟩
  have kc := fun dv w h => rcheck6_is (⟨k, ⟨#[]⟩, t, 0, x, a, l⟩ : Rec) dv w h hfit
  have he : Rec.err (⟨k, ⟨#[]⟩, t, 0, x, a, l⟩ : Rec) = 0 := by unfold Rec.err; rw [ho]; rfl
  rw [he] at kc
  unfold recV at kc
  dsimp only at kc
  have k1 := rsmall_is (w.heap.size + 1) S S r1 false b1 k 2 ((w.alloc (.cells #[.int .i64 0, .string ⟨#[]⟩, .int .i64 0, .int .i64 0, .int .i64 0, .int .i64 0, .int .i64 0, .int .i64 0, .slice none 0 0] 26)).alloc (.cells #[.string S, .int .i64 0, .bool false] 78)) hs (by omega) (Lib.hid h1) (RdS.reader w S)
  have k2 := fun w' h => rsmall_is (w.heap.size + 1) S r1 r2 b1 b2 x 3 w' hs (by omega) (Lib.hid h2) h
  have k3 := fun w' h => rsmall_is (w.heap.size + 1) S r2 r3 b2 b3 t 1099511627776 w' hs (by omega) (Lib.hid h3) h
  have k5 := fun w' h => rtake_is (w.heap.size + 1) S r3 r5 b3 b5 a w' hs (Lib.hid h5) (fun e => (i3 e).1) h
  have k6 := fun w' h => tv6 (w.heap.size + 1) S r5 r6 b5 b6 l w' hs (Lib.hid h6) i5.1 h
  have k7 := fun w' h => rend_b (w.heap.size + 1) S r6 b6 z w' (Lib.hid hz) h
  have HQ := Lib.hid hq
  have RF := fun w1 hB hR => RdS.first w w1 S r1 b1 k hB hR
  subst hb
  clear hq hh i1 i2 i3 hx i5 hss hk2 ht2 h1 h2 h3 h5 h6 hz hs hfit he ho
  go_enter Try.func21, Try.ntmps21
  go_wp2_with (first
    | (go_at_call 63; (with_reducible refine k1.mono ?_); rintro e w1 ⟨rfl, hR1, hB1⟩; have R1 := RF w1 hB1 hR1; have Hx1 := R1.at_; obtain ⟨⟨x0, x1, x2, x3, x4, x5, x6, x7, x8⟩, y0, y1, y2, y3, y4, y5, y6, y7, y8⟩ := Hx1; dsimp only at x0 x1 x2 x3 x4 x5 x6 x7 x8)
    | (go_at_call 63; (with_reducible refine (k2 _ R1.rs).mono ?_); rintro e w2 ⟨rfl, hR, hB⟩; have R2 := R1.but hB hR; have Hx2 := R2.at_; obtain ⟨⟨x0, x1, x2, x3, x4, x5, x6, x7, x8⟩, y0, y1, y2, y3, y4, y5, y6, y7, y8⟩ := Hx2; dsimp only at x0 x1 x2 x3 x4 x5 x6 x7 x8)
    | (go_at_call 63; (with_reducible refine (k3 _ (R2.set4 x).rs).mono ?_); rintro e w3 ⟨rfl, hR, hB⟩; have R3 := (R2.set4 x).but hB hR; have Hx3 := R3.at_; obtain ⟨⟨x0, x1, x2, x3, x4, x5, x6, x7, x8⟩, y0, y1, y2, y3, y4, y5, y6, y7, y8⟩ := Hx3; dsimp only at x0 x1 x2 x3 x4 x5 x6 x7 x8)
    | (go_at_call 66; (with_reducible refine (k5 _ (R3.set2 t).rs).mono ?_); rintro e w5 ⟨rfl, hR, hB⟩; have R5 := (R3.set2 t).but hB hR; have Hx5 := R5.at_; obtain ⟨⟨x0, x1, x2, x3, x4, x5, x6, x7, x8⟩, y0, y1, y2, y3, y4, y5, y6, y7, y8⟩ := Hx5; dsimp only at x0 x1 x2 x3 x4 x5 x6 x7 x8)
    | (go_at_call 67; (with_reducible refine (k6 _ (R5.set5 a).rs).mono ?_); rintro e w6 ⟨dv, rfl, hB, hN, hQ, hR⟩; have hQ := own_up hQ (show w1.heap.size + 1 ≤ _ from (R5.set5 a).at_.room); obtain ⟨da, dc, rfl⟩ := hN.slice; have R6 := (R5.set5 a).but hB hR; have Hx6 := R6.at_; obtain ⟨⟨x0, x1, x2, x3, x4, x5, x6, x7, x8⟩, y0, y1, y2, y3, y4, y5, y6, y7, y8⟩ := Hx6; dsimp only at x0 x1 x2 x3 x4 x5 x6 x7 x8)
    | (go_at_call 68; (with_reducible refine (k7 _ (R6.set8 l (.slice da l.length dc)).rs).mono ?_); rintro e w7 ⟨rfl, hb7⟩; have R7 := (R6.set8 l (.slice da l.length dc)).below hb7; have N7 := (Nums.far hN hQ ⟨w1.heap.size, 8, none⟩ (.slice da l.length dc) (Nat.lt_succ_self _)).later hb7; have Hx7 := R7.at_; obtain ⟨⟨x0, x1, x2, x3, x4, x5, x6, x7, x8⟩, y0, y1, y2, y3, y4, y5, y6, y7, y8⟩ := Hx7; dsimp only at x0 x1 x2 x3 x4 x5 x6 x7 x8; have Ho7 := R7.out; obtain ⟨⟨zx0, zx1, zx2, zx3, zx4, zx5, zx6, zx7, zx8⟩, zy0, zy1, zy2, zy3, zy4, zy5, zy6, zy7, zy8⟩ := Ho7; dsimp only [Rec.zero] at zx0 zx1 zx2 zx3 zx4 zx5 zx6 zx7 zx8)
    | (go_at_call 17; (with_reducible refine (kc (.slice da l.length dc) _ N7).mono ?_); rintro e w8 ⟨rfl, hb8⟩; have R8 := R7.below hb8; have N8 := N7.later hb8; have Hx8 := R8.at_; obtain ⟨⟨x0, x1, x2, x3, x4, x5, x6, x7, x8⟩, y0, y1, y2, y3, y4, y5, y6, y7, y8⟩ := Hx8; dsimp only at x0 x1 x2 x3 x4 x5 x6 x7 x8; have Ho8 := R8.out; obtain ⟨⟨zx0, zx1, zx2, zx3, zx4, zx5, zx6, zx7, zx8⟩, zy0, zy1, zy2, zy3, zy4, zy5, zy6, zy7, zy8⟩ := Ho8; dsimp only [Rec.zero] at zx0 zx1 zx2 zx3 zx4 zx5 zx6 zx7 zx8))
  refine bodyPost_ret (v := .tuple #[recV ⟨k, ⟨#[]⟩, t, 0, x, a, l⟩ (.slice da l.length dc), .int .i64 0]) (by unfold recV; simp [results, Try.results21, go_sem, zx0, zx1, zx2, zx3, zx4, zx5, zx6, zx7, zx8]; try rfl) rfl (read6_some HQ.out ?_ ?_)
  · exact nine_far N8 hQ _ (by have := RF; have := R8.far; omega) _ _ _ _ _ _ _ _ _
  · exact nine_set R8.bel _ (Nat.le_refl _) _ _ _ _ _ _ _ _ _

theorem rread6_is (S : ByteArray) (w : World) (hs : S.size ≤ 100000) : Calls Try.prog 21 #[.string S] w (Read6Done S w) := by
  obtain ⟨⟨k, r1, b1⟩, h1⟩ : ∃ x, smallQ S false 2 = x := ⟨_, rfl⟩
  by_cases hk : k = 1
  · have hkb : (k == 1) = true := by simpa using hk
    obtain ⟨⟨s, r2, b2⟩, h2⟩ : ∃ x, textQ r1 b1 = x := ⟨_, rfl⟩
    obtain ⟨⟨t, r3, b3⟩, h3⟩ : ∃ x, smallQ r2 b2 1099511627776 = x := ⟨_, rfl⟩
    obtain ⟨⟨v, r4, b4⟩, h4⟩ : ∃ x, numQ r3 b3 = x := ⟨_, rfl⟩
    obtain ⟨⟨a, r5, b5⟩, h5⟩ : ∃ x, takeQ r4 b4 = x := ⟨_, rfl⟩
    obtain ⟨⟨l, r6, b6⟩, h6⟩ : ∃ x, tvQ r5 b5 = x := ⟨_, rfl⟩
    obtain ⟨z, hz⟩ : ∃ z, endQ r6 b6 = z := ⟨_, rfl⟩
    by_cases hb : z = 0
    · cases ho : Rec.ok ⟨k, s, t, zag v, 0, a, l⟩ with
      | true => exact rread6_sample_yes S r1 r2 r3 r4 r5 r6 b1 b2 b3 b4 b5 b6 k t v s a l z w hs h1 hkb h2 h3 h4 h5 h6 hz hb ho
      | false => exact rread6_sample_no S r1 r2 r3 r4 r5 r6 b1 b2 b3 b4 b5 b6 k t v s a l z w hs h1 hkb h2 h3 h4 h5 h6 hz hb ho
    · exact rread6_sample_bad S r1 r2 r3 r4 r5 r6 b1 b2 b3 b4 b5 b6 k t v s a l z w hs h1 hkb h2 h3 h4 h5 h6 hz (by simp [bne, hb])
  · have hkb : (k == 1) = false := by simpa using hk
    obtain ⟨⟨x, r2, b2⟩, h2⟩ : ∃ x, smallQ r1 b1 3 = x := ⟨_, rfl⟩
    obtain ⟨⟨t, r3, b3⟩, h3⟩ : ∃ x, smallQ r2 b2 1099511627776 = x := ⟨_, rfl⟩
    obtain ⟨⟨a, r5, b5⟩, h5⟩ : ∃ x, takeQ r3 b3 = x := ⟨_, rfl⟩
    obtain ⟨⟨l, r6, b6⟩, h6⟩ : ∃ x, tvQ r5 b5 = x := ⟨_, rfl⟩
    obtain ⟨z, hz⟩ : ∃ z, endQ r6 b6 = z := ⟨_, rfl⟩
    by_cases hb : z = 0
    · cases ho : Rec.ok ⟨k, ⟨#[]⟩, t, 0, x, a, l⟩ with
      | true => exact rread6_cut_yes S r1 r2 r3 r5 r6 b1 b2 b3 b5 b6 k t x a l z w hs h1 hkb h2 h3 h5 h6 hz hb ho
      | false => exact rread6_cut_no S r1 r2 r3 r5 r6 b1 b2 b3 b5 b6 k t x a l z w hs h1 hkb h2 h3 h5 h6 hz hb ho
    · exact rread6_cut_bad S r1 r2 r3 r5 r6 b1 b2 b3 b5 b6 k t x a l z w hs h1 hkb h2 h3 h5 h6 hz (by simp [bne, hb])
end Go.Proofs.Ytjckphmkhikpaaa
