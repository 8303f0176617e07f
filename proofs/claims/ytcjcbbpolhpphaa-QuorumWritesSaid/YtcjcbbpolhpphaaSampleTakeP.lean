/- What bytes are read as points, with the points asked behind; the contracts of the program's take. -/
import Derived.Test.YtcjcbbpolhpphaaSamplePtsMath
import Derived.Test.YtcjcbbpolhpphaaSamplePPt
import Derived.Test.YtcjcbbpolhpphaaSampleRRead
import Derived.Test.YtcjcbbpolhpphaaVintB
import Derived.Laws.EntriesVeiled
set_option maxRecDepth 20000
namespace Go.Proofs.Ytcjcbbpolhpphaa
open Go.RowKit Go.Proofs.Ytcjcbbpolhpphaa.Vi Go.Proofs.Ytcjcbbpolhpphaa.Mk

/-- One point as it is read, not asked whether it may be. -/
def ptR (r : ByteArray) (b : Bool) : Pt × ByteArray × Bool :=
  let a := textQ r b
  let c := smallQ a.2.1 a.2.2 1099511627776
  let e := numQ c.2.1 c.2.2
  let f := takeQ e.2.1 e.2.2
  (⟨a.1, c.1, zag e.1, f.1⟩, f.2.1, f.2.2)
theorem ptR_is {r r1 r2 r3 r4 s : ByteArray} {b b1 b2 b3 b4 : Bool} {t v : Int} {a : St} (h1 : textQ r b = (s, r1, b1)) (h2 : smallQ r1 b1 1099511627776 = (t, r2, b2)) (h3 : numQ r2 b2 = (v, r3, b3)) (h4 : takeQ r3 b3 = (a, r4, b4)) :
    ptR r b = (⟨s, t, zag v, a⟩, r4, b4) := by
  unfold ptR
  simp only [h1, h2, h3, h4]
theorem ptR_parts (r : ByteArray) (b : Bool) : ∃ s r1 b1 t r2 b2 v r3 b3 a r4 b4, textQ r b = (s, r1, b1) ∧ smallQ r1 b1 1099511627776 = (t, r2, b2) ∧ numQ r2 b2 = (v, r3, b3) ∧ takeQ r3 b3 = (a, r4, b4) ∧ ptR r b = (⟨s, t, zag v, a⟩, r4, b4) := by
  obtain ⟨⟨s, r1, b1⟩, h1⟩ : ∃ x, textQ r b = x := ⟨_, rfl⟩
  obtain ⟨⟨t, r2, b2⟩, h2⟩ : ∃ x, smallQ r1 b1 1099511627776 = x := ⟨_, rfl⟩
  obtain ⟨⟨v, r3, b3⟩, h3⟩ : ∃ x, numQ r2 b2 = x := ⟨_, rfl⟩
  obtain ⟨⟨a, r4, b4⟩, h4⟩ : ∃ x, takeQ r3 b3 = x := ⟨_, rfl⟩
  exact ⟨s, r1, b1, t, r2, b2, v, r3, b3, a, r4, b4, h1, h2, h3, h4, ptR_is h1 h2 h3 h4⟩
theorem ptQ_R (r : ByteArray) (b : Bool) : ptQ r b = if (ptR r b).1.ok = true then ptR r b else ((ptR r b).1, ⟨#[]⟩, true) := by
  obtain ⟨s, r1, b1, t, r2, b2, v, r3, b3, a, r4, b4, h1, h2, h3, h4, e⟩ := ptR_parts r b
  rw [ptQ_is h1 h2 h3 h4, e]
theorem ptR_inv {r r' : ByteArray} {b b' : Bool} {p : Pt} (H : ptR r b = (p, r', b')) (h : b = true → r = ⟨#[]⟩) : (b' = true → r' = ⟨#[]⟩) ∧ r'.size ≤ r.size ∧ p.s.size ≤ r.size := by
  obtain ⟨s, r1, b1, t, r2, b2, v, r3, b3, a, r4, b4, h1, h2, h3, h4, e⟩ := ptR_parts r b
  rw [e] at H
  simp only [Prod.mk.injEq] at H
  obtain ⟨rfl, rfl, rfl⟩ := H
  obtain ⟨i1, j1, k1⟩ := text_inv6 h1 h
  obtain ⟨i2, -, j2⟩ := smallQ_inv h2 i1
  obtain ⟨i3, j3, -, -⟩ := num_inv6 h3 fun e => (i2 e).1
  obtain ⟨i4, j4⟩ := takeQ_inv h4 i3
  exact ⟨i4, by omega, k1⟩
def stpR (S : ByteArray) : Nat → ByteArray × Bool
  | 0 => (smallQ S false 1000).2
  | k + 1 => (ptR (stpR S k).1 (stpR S k).2).2
def pR (S : ByteArray) (k : Nat) : Pt := (ptR (stpR S k).1 (stpR S k).2).1
def outR (S : ByteArray) (k : Nat) : List Pt := (List.range k).map (pR S)
theorem stpR_zero (S : ByteArray) : smallQ S false 1000 = (cntP S, (stpR S 0).1, (stpR S 0).2) := rfl
theorem stpR_step (S : ByteArray) (k : Nat) : ptR (stpR S k).1 (stpR S k).2 = (pR S k, (stpR S (k + 1)).1, (stpR S (k + 1)).2) := rfl
theorem outR_succ (S : ByteArray) (k : Nat) : outR S (k + 1) = outR S k ++ [pR S k] := by unfold outR; rw [List.range_succ, List.map_append]; rfl
theorem outR_len (S : ByteArray) (k : Nat) : (outR S k).length = k := by unfold outR; simp
theorem stpR_inv (S : ByteArray) : ∀ k, ((stpR S k).2 = true → (stpR S k).1 = ⟨#[]⟩) ∧ (stpR S k).1.size ≤ S.size
  | 0 => by
    obtain ⟨h1, _, h3⟩ := smallQ_inv (stpR_zero S) (fun e => (by cases e))
    exact ⟨fun e => (h1 e).1, h3⟩
  | k + 1 => by
    obtain ⟨i1, i2⟩ := stpR_inv S k
    obtain ⟨h1, h2, _⟩ := ptR_inv (stpR_step S k) i1
    exact ⟨h1, by omega⟩
theorem pR_size (S : ByteArray) (k : Nat) : (pR S k).s.size ≤ S.size := by
  have := (ptR_inv (stpR_step S k) (stpR_inv S k).1).2.2
  have := (stpR_inv S k).2
  omega
theorem outR_at (S : ByteArray) (n k : Nat) (h : k < (outR S n).length) : (outR S n)[k] = pR S k := by simp only [outR, List.getElem_map, List.getElem_range]
/-- As long as all points may be, both ways of reading are one. -/
theorem same_R (S : ByteArray) : ∀ k, (∀ j, j < k → (pR S j).ok = true) → stpP S k = stpR S k ∧ outP S k = outR S k
  | 0, _ => ⟨rfl, by simp [outP, outR]⟩
  | k + 1, h => by
    obtain ⟨i1, i2⟩ := same_R S k fun j hj => h j (by omega)
    have hk := h k (by omega)
    have e : ptQ (stpP S k).1 (stpP S k).2 = ptR (stpR S k).1 (stpR S k).2 := by
      rw [i1, ptQ_R]; exact if_pos hk
    refine ⟨?_, ?_⟩
    · show (ptQ (stpP S k).1 (stpP S k).2).2 = (ptR (stpR S k).1 (stpR S k).2).2
      rw [e]
    · rw [outP_succ, outR_succ, i2]
      show outR S k ++ [(ptQ (stpP S k).1 (stpP S k).2).1] = outR S k ++ [(ptR (stpR S k).1 (stpR S k).2).1]
      rw [e]
theorem bad_endR {S : ByteArray} {n : Nat} (hall : ¬ ∀ j, j < n → (pR S j).ok = true) : endQ (stpP S n).1 (stpP S n).2 ≠ 0 := by
  have hb : (stpP S n).2 = true := by
    by_cases e : (stpP S n).2 = true
    · exact e
    · exfalso
      apply hall
      intro j
      induction j using Nat.strongRecOn with
      | ind j ih =>
        intro hj
        have h1 := same_R S j fun i hi => ih i hi (by omega)
        cases hk : (pR S j).ok with
        | true => rfl
        | false =>
          exfalso
          apply e
          refine stpP_bad (k := j + 1) ?_ n (by omega)
          show (ptQ (stpP S j).1 (stpP S j).2).2.2 = true
          have hk' : ¬ (ptR (stpR S j).1 (stpR S j).2).1.ok = true := by show ¬ (pR S j).ok = true; rw [hk]; simp
          rw [h1.1, ptQ_R, if_neg hk']
  rw [hb]; unfold endQ; rw [if_pos rfl]; decide
theorem ptsQ_no_end {S : ByteArray} {n : Nat} (hn : (n : Int) = cntP S) (h : endQ (stpR S n).1 (stpR S n).2 ≠ 0) : ptsQ S = none := by
  have e : (cntP S).toNat = n := by omega
  unfold ptsQ
  simp only [e]
  rw [if_neg]
  intro hE
  by_cases hall : ∀ j, j < n → (pR S j).ok = true
  · rw [(same_R S n hall).1] at hE; exact h hE
  · exact absurd hE (bad_endR hall)
theorem ptsQ_no_ok {S : ByteArray} {n k : Nat} (hn : (n : Int) = cntP S) (hk : k < n) (h : (pR S k).ok = false) : ptsQ S = none := by
  have e : (cntP S).toNat = n := by omega
  unfold ptsQ
  simp only [e]
  rw [if_neg]
  exact bad_endR fun hall => by rw [hall k hk] at h; cases h
theorem ptsQ_yes {S : ByteArray} {n : Nat} (hn : (n : Int) = cntP S) (h : endQ (stpR S n).1 (stpR S n).2 = 0) (hall : ∀ j, j < n → (pR S j).ok = true) : ptsQ S = some (outR S n) := by
  have e : (cntP S).toNat = n := by omega
  obtain ⟨h1, h2⟩ := same_R S n hall
  unfold ptsQ
  simp only [e]
  rw [h1, h2, if_pos h]

/-- A point in a block that may be written. -/
structure PtW (w : World) (b : Nat) (p : Pt) : Prop where
  at_ : PtAt w b p
  f0 : w.frozen? ⟨b, 0, none⟩ = false
  f1 : w.frozen? ⟨b, 1, none⟩ = false
  f2 : w.frozen? ⟨b, 2, none⟩ = false
  f3 : w.frozen? ⟨b, 3, none⟩ = false
  f4 : w.frozen? ⟨b, 4, none⟩ = false
  f5 : w.frozen? ⟨b, 5, none⟩ = false
theorem PtW.but {w w' : World} {b d : Nat} {p : Pt} (h : PtW w b p) (k : But d w w') (hd : b ≠ d) : PtW w' b p :=
  ⟨⟨(k.cell (p := ⟨b, 0, none⟩) hd h.at_.room).trans h.at_.c0, (k.cell (p := ⟨b, 1, none⟩) hd h.at_.room).trans h.at_.c1, (k.cell (p := ⟨b, 2, none⟩) hd h.at_.room).trans h.at_.c2, (k.cell (p := ⟨b, 3, none⟩) hd h.at_.room).trans h.at_.c3, (k.cell (p := ⟨b, 4, none⟩) hd h.at_.room).trans h.at_.c4, (k.cell (p := ⟨b, 5, none⟩) hd h.at_.room).trans h.at_.c5⟩,
   (k.frozen (p := ⟨b, 0, none⟩) hd h.at_.room).trans h.f0, (k.frozen (p := ⟨b, 1, none⟩) hd h.at_.room).trans h.f1, (k.frozen (p := ⟨b, 2, none⟩) hd h.at_.room).trans h.f2, (k.frozen (p := ⟨b, 3, none⟩) hd h.at_.room).trans h.f3, (k.frozen (p := ⟨b, 4, none⟩) hd h.at_.room).trans h.f4, (k.frozen (p := ⟨b, 5, none⟩) hd h.at_.room).trans h.f5⟩
theorem PtW.new (w : World) (p : Pt) : PtW (w.alloc (.cells #[.string p.s, .int .i64 p.t, .int .i64 p.v, .int .i64 p.st.c, .int .i64 p.st.s, .int .i64 p.st.q] 55)) w.heap.size p := by
  constructor
  · exact PtAt.new w p
  all_goals simp [go_sem]
theorem RA.farB {w w' : World} {d B : Nat} {r : ByteArray} {br : Bool} (h : RA w d r br) (k : Below B w w') (hd : d < B) : RA w' d r br :=
  ⟨(k.cell (p := ⟨d, 0, none⟩) hd).trans h.c0, (k.cell (p := ⟨d, 1, none⟩) hd).trans h.c1, (k.frozen (p := ⟨d, 0, none⟩) hd).trans h.f0, (k.frozen (p := ⟨d, 1, none⟩) hd).trans h.f1⟩
theorem six_at {B : Nat} {w a : World} (h : Below B w a) (b : Nat) (hb : B ≤ b) (v0 v1 v2 v3 v4 v5 : Value) : Below B w ((((((a.setCell ⟨b, 0, none⟩ v0).setCell ⟨b, 1, none⟩ v1).setCell ⟨b, 2, none⟩ v2).setCell ⟨b, 3, none⟩ v3).setCell ⟨b, 4, none⟩ v4).setCell ⟨b, 5, none⟩ v5) :=
  (((((h.setCell (p := ⟨b, 0, none⟩) hb _).setCell (p := ⟨b, 1, none⟩) hb _).setCell (p := ⟨b, 2, none⟩) hb _).setCell (p := ⟨b, 3, none⟩) hb _).setCell (p := ⟨b, 4, none⟩) hb _).setCell (p := ⟨b, 5, none⟩) hb _

end Go.Proofs.Ytcjcbbpolhpphaa
