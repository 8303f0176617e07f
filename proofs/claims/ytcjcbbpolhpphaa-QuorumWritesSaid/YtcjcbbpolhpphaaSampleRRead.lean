/- The contract of the document's Read of records. -/
import Derived.Test.YtcjcbbpolhpphaaSampleReadMath
import Derived.Test.YtcjcbbpolhpphaaSampleTv
set_option maxRecDepth 20000
namespace Go.Proofs.Ytcjcbbpolhpphaa
open Go.RowKit Go.Proofs.Ytcjcbbpolhpphaa.Vi Go.Proofs.Ytcjcbbpolhpphaa.Mk

/-- What TakeVector reads. -/
def tvQ (r : ByteArray) (b : Bool) : List Int × ByteArray × Bool :=
  if b = true then ([], ⟨#[]⟩, true) else
  let n := (cntS r).toNat
  if (stp r n).2 = false ∧ outS r n = plainL (outS r n) then (outS r n, (stp r n).1, false) else ([], ⟨#[]⟩, true)
def Rec.zero : Rec := ⟨0, ⟨#[]⟩, 0, 0, 0, ⟨0, 0, 0⟩, []⟩
theorem recQ_tv {S r r' : ByteArray} {q : Rec} {b b' : Bool} {l : List Int} (h : headQ S = (q, r, b)) (ht : tvQ r b = (l, r', b')) : recQ S = if endQ r' b' = 0 ∧ Rec.ok { q with d := l } = true then some { q with d := l } else none := by
  unfold tvQ at ht
  cases b with
  | true =>
    rw [if_pos rfl] at ht
    simp only [Prod.mk.injEq] at ht
    obtain ⟨rfl, rfl, rfl⟩ := ht
    rw [recQ_bad h, if_neg]
    intro g; exact absurd g.1 (by decide)
  | false =>
    have hc := cntS_bounds r
    have hn : (((cntS r).toNat : Nat) : Int) = cntS r := by omega
    generalize (cntS r).toNat = n at *
    rw [if_neg (by simp)] at ht
    simp only at ht
    by_cases hA : (stp r n).2 = false ∧ outS r n = plainL (outS r n)
    · rw [if_pos hA] at ht
      simp only [Prod.mk.injEq] at ht
      obtain ⟨rfl, rfl, rfl⟩ := ht
      by_cases hE : endQ (stp r n).1 false = 0 ∧ Rec.ok { q with d := outS r n } = true
      · rw [if_pos hE]
        refine recQ_yes h hn hA.1 hA.2 ?_ hE.2
        have := hE.1
        unfold endQ at this
        rw [if_neg (by simp)] at this
        split at this
        · assumption
        · omega
      · rw [if_neg hE]
        refine recQ_no h hn fun g => hE ⟨?_, g.2.2.2⟩
        unfold endQ
        rw [if_neg (by simp), if_pos g.2.2.1]
    · rw [if_neg hA] at ht
      simp only [Prod.mk.injEq] at ht
      obtain ⟨rfl, rfl, rfl⟩ := ht
      rw [if_neg (fun g => absurd g.1 (by decide))]
      exact recQ_no h hn fun g => hA ⟨g.1, g.2.1⟩
/-- A record in a block that may be written. -/
structure RecW (w : World) (b : Nat) (r : Rec) (dv : Value) : Prop where
  at_ : RecAt w b r dv
  f0 : w.frozen? ⟨b, 0, none⟩ = false
  f1 : w.frozen? ⟨b, 1, none⟩ = false
  f2 : w.frozen? ⟨b, 2, none⟩ = false
  f3 : w.frozen? ⟨b, 3, none⟩ = false
  f4 : w.frozen? ⟨b, 4, none⟩ = false
  f5 : w.frozen? ⟨b, 5, none⟩ = false
  f6 : w.frozen? ⟨b, 6, none⟩ = false
  f7 : w.frozen? ⟨b, 7, none⟩ = false
  f8 : w.frozen? ⟨b, 8, none⟩ = false
theorem RecW.room {w : World} {b : Nat} {r : Rec} {dv : Value} (h : RecW w b r dv) : b < w.heap.size := h.at_.room
theorem RecW.but {w w' : World} {b d : Nat} {r : Rec} {dv : Value} (h : RecW w b r dv) (k : But d w w') (hd : b ≠ d) : RecW w' b r dv :=
  ⟨⟨(k.cell (p := ⟨b, 0, none⟩) hd h.room).trans h.at_.c0, (k.cell (p := ⟨b, 1, none⟩) hd h.room).trans h.at_.c1, (k.cell (p := ⟨b, 2, none⟩) hd h.room).trans h.at_.c2, (k.cell (p := ⟨b, 3, none⟩) hd h.room).trans h.at_.c3, (k.cell (p := ⟨b, 4, none⟩) hd h.room).trans h.at_.c4, (k.cell (p := ⟨b, 5, none⟩) hd h.room).trans h.at_.c5, (k.cell (p := ⟨b, 6, none⟩) hd h.room).trans h.at_.c6, (k.cell (p := ⟨b, 7, none⟩) hd h.room).trans h.at_.c7, (k.cell (p := ⟨b, 8, none⟩) hd h.room).trans h.at_.c8⟩,
   (k.frozen (p := ⟨b, 0, none⟩) hd h.room).trans h.f0, (k.frozen (p := ⟨b, 1, none⟩) hd h.room).trans h.f1, (k.frozen (p := ⟨b, 2, none⟩) hd h.room).trans h.f2, (k.frozen (p := ⟨b, 3, none⟩) hd h.room).trans h.f3, (k.frozen (p := ⟨b, 4, none⟩) hd h.room).trans h.f4, (k.frozen (p := ⟨b, 5, none⟩) hd h.room).trans h.f5, (k.frozen (p := ⟨b, 6, none⟩) hd h.room).trans h.f6, (k.frozen (p := ⟨b, 7, none⟩) hd h.room).trans h.f7, (k.frozen (p := ⟨b, 8, none⟩) hd h.room).trans h.f8⟩
theorem RecW.below {w w' : World} {b : Nat} {r : Rec} {dv : Value} (h : RecW w b r dv) (k : Below w.heap.size w w') : RecW w' b r dv :=
  ⟨⟨(k.cell (p := ⟨b, 0, none⟩) h.room).trans h.at_.c0, (k.cell (p := ⟨b, 1, none⟩) h.room).trans h.at_.c1, (k.cell (p := ⟨b, 2, none⟩) h.room).trans h.at_.c2, (k.cell (p := ⟨b, 3, none⟩) h.room).trans h.at_.c3, (k.cell (p := ⟨b, 4, none⟩) h.room).trans h.at_.c4, (k.cell (p := ⟨b, 5, none⟩) h.room).trans h.at_.c5, (k.cell (p := ⟨b, 6, none⟩) h.room).trans h.at_.c6, (k.cell (p := ⟨b, 7, none⟩) h.room).trans h.at_.c7, (k.cell (p := ⟨b, 8, none⟩) h.room).trans h.at_.c8⟩,
   (k.frozen (p := ⟨b, 0, none⟩) h.room).trans h.f0, (k.frozen (p := ⟨b, 1, none⟩) h.room).trans h.f1, (k.frozen (p := ⟨b, 2, none⟩) h.room).trans h.f2, (k.frozen (p := ⟨b, 3, none⟩) h.room).trans h.f3, (k.frozen (p := ⟨b, 4, none⟩) h.room).trans h.f4, (k.frozen (p := ⟨b, 5, none⟩) h.room).trans h.f5, (k.frozen (p := ⟨b, 6, none⟩) h.room).trans h.f6, (k.frozen (p := ⟨b, 7, none⟩) h.room).trans h.f7, (k.frozen (p := ⟨b, 8, none⟩) h.room).trans h.f8⟩
theorem RecW.other {w : World} {b : Nat} {r : Rec} {dv : Value} (h : RecW w b r dv) (x : Addr) (v : Value) (hne : x.block ≠ b) : RecW (w.setCell x v) b r dv :=
  ⟨⟨by rw [World.cell?_setCell_far _ _ _ _ hne]; exact h.at_.c0, by rw [World.cell?_setCell_far _ _ _ _ hne]; exact h.at_.c1, by rw [World.cell?_setCell_far _ _ _ _ hne]; exact h.at_.c2, by rw [World.cell?_setCell_far _ _ _ _ hne]; exact h.at_.c3, by rw [World.cell?_setCell_far _ _ _ _ hne]; exact h.at_.c4, by rw [World.cell?_setCell_far _ _ _ _ hne]; exact h.at_.c5, by rw [World.cell?_setCell_far _ _ _ _ hne]; exact h.at_.c6, by rw [World.cell?_setCell_far _ _ _ _ hne]; exact h.at_.c7, by rw [World.cell?_setCell_far _ _ _ _ hne]; exact h.at_.c8⟩,
   by simp [go_sem, h.f0], by simp [go_sem, h.f1], by simp [go_sem, h.f2], by simp [go_sem, h.f3], by simp [go_sem, h.f4], by simp [go_sem, h.f5], by simp [go_sem, h.f6], by simp [go_sem, h.f7], by simp [go_sem, h.f8]⟩
theorem RecW.set1 {w : World} {b : Nat} {r : Rec} {dv : Value} (h : RecW w b r dv) (z : ByteArray) : RecW (w.setCell ⟨b, 1, none⟩ (.string z)) b { r with s := z } dv := by
  obtain ⟨⟨x0, x1, x2, x3, x4, x5, x6, x7, x8⟩, y0, y1, y2, y3, y4, y5, y6, y7, y8⟩ := h
  exact ⟨⟨by simp [go_sem, x0], by simp [go_sem, x1], by simp [go_sem, x2], by simp [go_sem, x3], by simp [go_sem, x4], by simp [go_sem, x5], by simp [go_sem, x6], by simp [go_sem, x7], by simp [go_sem, x8]⟩, by simp [go_sem, y0], by simp [go_sem, y1], by simp [go_sem, y2], by simp [go_sem, y3], by simp [go_sem, y4], by simp [go_sem, y5], by simp [go_sem, y6], by simp [go_sem, y7], by simp [go_sem, y8]⟩
theorem RecW.set2 {w : World} {b : Nat} {r : Rec} {dv : Value} (h : RecW w b r dv) (z : Int) : RecW (w.setCell ⟨b, 2, none⟩ (.int .i64 z)) b { r with t := z } dv := by
  obtain ⟨⟨x0, x1, x2, x3, x4, x5, x6, x7, x8⟩, y0, y1, y2, y3, y4, y5, y6, y7, y8⟩ := h
  exact ⟨⟨by simp [go_sem, x0], by simp [go_sem, x1], by simp [go_sem, x2], by simp [go_sem, x3], by simp [go_sem, x4], by simp [go_sem, x5], by simp [go_sem, x6], by simp [go_sem, x7], by simp [go_sem, x8]⟩, by simp [go_sem, y0], by simp [go_sem, y1], by simp [go_sem, y2], by simp [go_sem, y3], by simp [go_sem, y4], by simp [go_sem, y5], by simp [go_sem, y6], by simp [go_sem, y7], by simp [go_sem, y8]⟩
theorem RecW.set3 {w : World} {b : Nat} {r : Rec} {dv : Value} (h : RecW w b r dv) (z : Int) : RecW (w.setCell ⟨b, 3, none⟩ (.int .i64 z)) b { r with v := z } dv := by
  obtain ⟨⟨x0, x1, x2, x3, x4, x5, x6, x7, x8⟩, y0, y1, y2, y3, y4, y5, y6, y7, y8⟩ := h
  exact ⟨⟨by simp [go_sem, x0], by simp [go_sem, x1], by simp [go_sem, x2], by simp [go_sem, x3], by simp [go_sem, x4], by simp [go_sem, x5], by simp [go_sem, x6], by simp [go_sem, x7], by simp [go_sem, x8]⟩, by simp [go_sem, y0], by simp [go_sem, y1], by simp [go_sem, y2], by simp [go_sem, y3], by simp [go_sem, y4], by simp [go_sem, y5], by simp [go_sem, y6], by simp [go_sem, y7], by simp [go_sem, y8]⟩
theorem RecW.set4 {w : World} {b : Nat} {r : Rec} {dv : Value} (h : RecW w b r dv) (z : Int) : RecW (w.setCell ⟨b, 4, none⟩ (.int .i64 z)) b { r with tier := z } dv := by
  obtain ⟨⟨x0, x1, x2, x3, x4, x5, x6, x7, x8⟩, y0, y1, y2, y3, y4, y5, y6, y7, y8⟩ := h
  exact ⟨⟨by simp [go_sem, x0], by simp [go_sem, x1], by simp [go_sem, x2], by simp [go_sem, x3], by simp [go_sem, x4], by simp [go_sem, x5], by simp [go_sem, x6], by simp [go_sem, x7], by simp [go_sem, x8]⟩, by simp [go_sem, y0], by simp [go_sem, y1], by simp [go_sem, y2], by simp [go_sem, y3], by simp [go_sem, y4], by simp [go_sem, y5], by simp [go_sem, y6], by simp [go_sem, y7], by simp [go_sem, y8]⟩
theorem RecW.set5 {w : World} {b : Nat} {r : Rec} {dv : Value} (h : RecW w b r dv) (z : St) : RecW (((w.setCell ⟨b, 5, none⟩ (.int .i64 z.c)).setCell ⟨b, 6, none⟩ (.int .i64 z.s)).setCell ⟨b, 7, none⟩ (.int .i64 z.q)) b { r with st := z } dv := by
  obtain ⟨⟨x0, x1, x2, x3, x4, x5, x6, x7, x8⟩, y0, y1, y2, y3, y4, y5, y6, y7, y8⟩ := h
  exact ⟨⟨by simp [go_sem, x0], by simp [go_sem, x1], by simp [go_sem, x2], by simp [go_sem, x3], by simp [go_sem, x4], by simp [go_sem, x5], by simp [go_sem, x6], by simp [go_sem, x7], by simp [go_sem, x8]⟩, by simp [go_sem, y0], by simp [go_sem, y1], by simp [go_sem, y2], by simp [go_sem, y3], by simp [go_sem, y4], by simp [go_sem, y5], by simp [go_sem, y6], by simp [go_sem, y7], by simp [go_sem, y8]⟩
theorem RecW.set8 {w : World} {b : Nat} {r : Rec} {dv : Value} (h : RecW w b r dv) (l : List Int) (z : Value) : RecW (w.setCell ⟨b, 8, none⟩ z) b { r with d := l } z := by
  obtain ⟨⟨x0, x1, x2, x3, x4, x5, x6, x7, x8⟩, y0, y1, y2, y3, y4, y5, y6, y7, y8⟩ := h
  exact ⟨⟨by simp [go_sem, x0], by simp [go_sem, x1], by simp [go_sem, x2], by simp [go_sem, x3], by simp [go_sem, x4], by simp [go_sem, x5], by simp [go_sem, x6], by simp [go_sem, x7], by simp [go_sem, x8]⟩, by simp [go_sem, y0], by simp [go_sem, y1], by simp [go_sem, y2], by simp [go_sem, y3], by simp [go_sem, y4], by simp [go_sem, y5], by simp [go_sem, y6], by simp [go_sem, y7], by simp [go_sem, y8]⟩

/-- Read's world between two parts: the result's block, the reader's, the record's. -/
structure RdS (w : World) (S r : ByteArray) (br : Bool) (e : Nat) (q : Rec) (dv : Value) (wr : World) : Prop where
  rs : RS wr (w.heap.size + 1) S r br
  out : RecW wr w.heap.size Rec.zero (.slice none 0 0)
  at_ : RecW wr e q dv
  far : w.heap.size + 2 ≤ e
  bel : Below w.heap.size w wr
theorem RdS.but {w wr w' : World} {S r r' : ByteArray} {br br' : Bool} {e : Nat} {q : Rec} {dv : Value} (h : RdS w S r br e q dv wr) (k : But (w.heap.size + 1) wr w') (hr : RS w' (w.heap.size + 1) S r' br') : RdS w S r' br' e q dv w' :=
  ⟨hr, h.out.but k (by omega), h.at_.but k (by have := h.far; omega), h.far, h.bel.trans (k.below (by omega) (by have := h.out.room; omega))⟩
theorem RdS.below {w wr w' : World} {S r : ByteArray} {br : Bool} {e : Nat} {q : Rec} {dv : Value} (h : RdS w S r br e q dv wr) (k : Below wr.heap.size wr w') : RdS w S r br e q dv w' :=
  ⟨h.rs.below k, h.out.below k, h.at_.below k, h.far, bel_next h.bel k⟩
theorem RdS.set1 {w wr : World} {S r : ByteArray} {br : Bool} {e : Nat} {q : Rec} {dv : Value} (h : RdS w S r br e q dv wr) (z : ByteArray) : RdS w S r br e { q with s := z } dv (wr.setCell ⟨e, 1, none⟩ (.string z)) := by
  have hf := h.far
  refine ⟨?_, ?_, h.at_.set1 z, h.far, ?_⟩
  · refine RS.other ?_ _ _ (show e ≠ _ by omega); exact h.rs
  · refine RecW.other ?_ _ _ (show e ≠ _ by omega); exact h.out
  · exact h.bel.setCell (by show _ ≤ e; omega) _
theorem RdS.set2 {w wr : World} {S r : ByteArray} {br : Bool} {e : Nat} {q : Rec} {dv : Value} (h : RdS w S r br e q dv wr) (z : Int) : RdS w S r br e { q with t := z } dv (wr.setCell ⟨e, 2, none⟩ (.int .i64 z)) := by
  have hf := h.far
  refine ⟨?_, ?_, h.at_.set2 z, h.far, ?_⟩
  · refine RS.other ?_ _ _ (show e ≠ _ by omega); exact h.rs
  · refine RecW.other ?_ _ _ (show e ≠ _ by omega); exact h.out
  · exact h.bel.setCell (by show _ ≤ e; omega) _
theorem RdS.set3 {w wr : World} {S r : ByteArray} {br : Bool} {e : Nat} {q : Rec} {dv : Value} (h : RdS w S r br e q dv wr) (z : Int) : RdS w S r br e { q with v := z } dv (wr.setCell ⟨e, 3, none⟩ (.int .i64 z)) := by
  have hf := h.far
  refine ⟨?_, ?_, h.at_.set3 z, h.far, ?_⟩
  · refine RS.other ?_ _ _ (show e ≠ _ by omega); exact h.rs
  · refine RecW.other ?_ _ _ (show e ≠ _ by omega); exact h.out
  · exact h.bel.setCell (by show _ ≤ e; omega) _
theorem RdS.set4 {w wr : World} {S r : ByteArray} {br : Bool} {e : Nat} {q : Rec} {dv : Value} (h : RdS w S r br e q dv wr) (z : Int) : RdS w S r br e { q with tier := z } dv (wr.setCell ⟨e, 4, none⟩ (.int .i64 z)) := by
  have hf := h.far
  refine ⟨?_, ?_, h.at_.set4 z, h.far, ?_⟩
  · refine RS.other ?_ _ _ (show e ≠ _ by omega); exact h.rs
  · refine RecW.other ?_ _ _ (show e ≠ _ by omega); exact h.out
  · exact h.bel.setCell (by show _ ≤ e; omega) _
theorem RdS.set5 {w wr : World} {S r : ByteArray} {br : Bool} {e : Nat} {q : Rec} {dv : Value} (h : RdS w S r br e q dv wr) (z : St) : RdS w S r br e { q with st := z } dv (((wr.setCell ⟨e, 5, none⟩ (.int .i64 z.c)).setCell ⟨e, 6, none⟩ (.int .i64 z.s)).setCell ⟨e, 7, none⟩ (.int .i64 z.q)) := by
  have hf := h.far
  refine ⟨?_, ?_, h.at_.set5 z, h.far, ?_⟩
  · refine RS.other ?_ _ _ (show e ≠ _ by omega); refine RS.other ?_ _ _ (show e ≠ _ by omega); refine RS.other ?_ _ _ (show e ≠ _ by omega); exact h.rs
  · refine RecW.other ?_ _ _ (show e ≠ _ by omega); refine RecW.other ?_ _ _ (show e ≠ _ by omega); refine RecW.other ?_ _ _ (show e ≠ _ by omega); exact h.out
  · exact ((h.bel.setCell (by show _ ≤ e; omega) _).setCell (by show _ ≤ e; omega) _).setCell (by show _ ≤ e; omega) _
theorem RdS.set8 {w wr : World} {S r : ByteArray} {br : Bool} {e : Nat} {q : Rec} {dv : Value} (h : RdS w S r br e q dv wr) (l : List Int) (z : Value) : RdS w S r br e { q with d := l } z (wr.setCell ⟨e, 8, none⟩ z) := by
  have hf := h.far
  refine ⟨?_, ?_, h.at_.set8 l z, h.far, ?_⟩
  · refine RS.other ?_ _ _ (show e ≠ _ by omega); exact h.rs
  · refine RecW.other ?_ _ _ (show e ≠ _ by omega); exact h.out
  · exact h.bel.setCell (by show _ ≤ e; omega) _
/-- Read's answer. -/
def Read6Done (S : ByteArray) (w : World) (e : Ending) (w' : World) : Prop := ∃ dv, e = .returned (.tuple #[recV ((recQ S).getD Rec.zero) dv, .int .i64 (if (recQ S).isSome then 0 else 10)]) ∧ Ns w' dv ((recQ S).getD Rec.zero).d ∧ Below w.heap.size w w'
theorem read6_some {S : ByteArray} {r : Rec} {dv : Value} {w w' : World} (h : recQ S = some r) (hn : Ns w' dv r.d) (hb : Below w.heap.size w w') : Read6Done S w (.returned (.tuple #[recV r dv, .int .i64 0])) w' := by
  unfold Read6Done
  rw [h]
  exact ⟨dv, rfl, hn, hb⟩
theorem read6_none {S : ByteArray} {w w' : World} (h : recQ S = none) (hb : Below w.heap.size w w') : Read6Done S w (.returned (.tuple #[recV Rec.zero (.slice none 0 0), .int .i64 10])) w' := by
  unfold Read6Done
  rw [h]
  exact ⟨_, rfl, (Nums.nil w' none 0).mono (Nat.zero_le _) (Nat.le_refl _), hb⟩
theorem take_range6 {r r' : ByteArray} {b b' : Bool} {a : St} (H : takeQ r b = (a, r', b')) (h : b = true → r = ⟨#[]⟩) : 0 ≤ a.s ∧ a.s ≤ 7 := by
  obtain ⟨v1, r1, b1, v2, r2, b2, v3, r3, b3, h1, h2, h3, i1, i2, i3, s1, s2, s3, ⟨o1, rfl, rfl, rfl, o2⟩ | ⟨_, rfl, _, _⟩⟩ := takeQ_parts H h
  · have := St.ok_iff.1 o1
    simp only at this ⊢
    omega
  · exact ⟨by simp, by simp⟩
theorem own_up {v : Value} {w : World} (h : ∀ q, v.ownBlock = some q → w.heap.size ≤ q) {B : Nat} (hB : B ≤ w.heap.size) : ∀ q, v.ownBlock = some q → B ≤ q := fun q hq => Nat.le_trans hB (h q hq)
theorem Nums.far {w : World} {v : Value} {l : List Int} (h : Ns w v l) {B : Nat} (hq : ∀ q, v.ownBlock = some q → B ≤ q) (x : Addr) (z : Value) (hx : x.block < B) : Ns (w.setCell x z) v l := by
  obtain ⟨⟨a, cap, rfl, hc⟩, hw, hs, hr⟩ := h
  have hsz : (w.setCell x z).heap.size = w.heap.size := by simp [World.setCell]
  refine ⟨⟨a, cap, rfl, ?_⟩, hw, hs, by omega⟩
  rcases hc with h0 | ⟨b, off, rfl, h4, h5⟩
  · exact Or.inl h0
  · have hb := hq b rfl
    refine Or.inr ⟨b, off, rfl, by omega, fun j hj => ?_⟩
    rw [World.cell?_setCell_far _ _ _ _ (show x.block ≠ b by omega)]
    exact h5 j hj
theorem nine_far {a : World} {v : Value} {l : List Int} (h : Ns a v l) {B : Nat} (hq : ∀ q, v.ownBlock = some q → B ≤ q) (b : Nat) (hb : b < B) (v0 v1 v2 v3 v4 v5 v6 v7 v8 : Value) : Ns (((((((((a.setCell ⟨b, 0, none⟩ v0).setCell ⟨b, 1, none⟩ v1).setCell ⟨b, 2, none⟩ v2).setCell ⟨b, 3, none⟩ v3).setCell ⟨b, 4, none⟩ v4).setCell ⟨b, 5, none⟩ v5).setCell ⟨b, 6, none⟩ v6).setCell ⟨b, 7, none⟩ v7).setCell ⟨b, 8, none⟩ v8) v l := (Nums.far (Nums.far (Nums.far (Nums.far (Nums.far (Nums.far (Nums.far (Nums.far (Nums.far h hq ⟨b, 0, none⟩ v0 hb) hq ⟨b, 1, none⟩ v1 hb) hq ⟨b, 2, none⟩ v2 hb) hq ⟨b, 3, none⟩ v3 hb) hq ⟨b, 4, none⟩ v4 hb) hq ⟨b, 5, none⟩ v5 hb) hq ⟨b, 6, none⟩ v6 hb) hq ⟨b, 7, none⟩ v7 hb) hq ⟨b, 8, none⟩ v8 hb)
theorem nine_set {B : Nat} {w a : World} (h : Below B w a) (b : Nat) (hb : B ≤ b) (v0 v1 v2 v3 v4 v5 v6 v7 v8 : Value) : Below B w (((((((((a.setCell ⟨b, 0, none⟩ v0).setCell ⟨b, 1, none⟩ v1).setCell ⟨b, 2, none⟩ v2).setCell ⟨b, 3, none⟩ v3).setCell ⟨b, 4, none⟩ v4).setCell ⟨b, 5, none⟩ v5).setCell ⟨b, 6, none⟩ v6).setCell ⟨b, 7, none⟩ v7).setCell ⟨b, 8, none⟩ v8) := (((((((((h.setCell (p := ⟨b, 0, none⟩) hb _).setCell (p := ⟨b, 1, none⟩) hb _).setCell (p := ⟨b, 2, none⟩) hb _).setCell (p := ⟨b, 3, none⟩) hb _).setCell (p := ⟨b, 4, none⟩) hb _).setCell (p := ⟨b, 5, none⟩) hb _).setCell (p := ⟨b, 6, none⟩) hb _).setCell (p := ⟨b, 7, none⟩) hb _).setCell (p := ⟨b, 8, none⟩) hb _)

end Go.Proofs.Ytcjcbbpolhpphaa
