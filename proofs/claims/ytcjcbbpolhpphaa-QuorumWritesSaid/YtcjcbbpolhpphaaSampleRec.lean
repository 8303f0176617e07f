/- Records: which may be; a record in its block. -/
import Derived.Test.YtcjcbbpolhpphaaSampleName
import Derived.Test.YtcjcbbpolhpphaaMarkB
import Derived.Test.YtcjcbbpolhpphaaMarkC
set_option maxRecDepth 20000
namespace Go.Proofs.Ytcjcbbpolhpphaa
open Go.RowKit Go.Proofs.Ytcjcbbpolhpphaa.Vi Go.Proofs.Ytcjcbbpolhpphaa.Mk

structure Rec where
  k : Int
  s : ByteArray
  t : Int
  v : Int
  tier : Int
  st : St
  d : List Int
def Rec.head (r : Rec) : Bool := decide (0 ≤ r.t ∧ r.t ≤ 1099511627776) && sameL r.d (plainL r.d) && r.st.ok && decide (atL r.d r.st.s = r.st.q - 1)
def Rec.ok (r : Rec) : Bool := r.head && ((decide (r.k = 1) && nameB r.s && decide (r.tier = 0)) || (decide (r.k = 2) && decide (r.s = ⟨#[]⟩) && decide (r.v = 0) && decide (0 ≤ r.tier ∧ r.tier ≤ 3)))
def Rec.err (r : Rec) : Int := if r.ok then 0 else 1
/-- The numbers are of their kinds. -/
structure Rec.fits (r : Rec) : Prop where
  k : -9223372036854775808 ≤ r.k ∧ r.k ≤ 9223372036854775807
  s : r.s.size ≤ 1000000000
  t : -9223372036854775808 ≤ r.t ∧ r.t ≤ 9223372036854775807
  v : -9223372036854775808 ≤ r.v ∧ r.v ≤ 9223372036854775807
  tier : -9223372036854775808 ≤ r.tier ∧ r.tier ≤ 9223372036854775807
  ss : -9223372036854775808 ≤ r.st.s ∧ r.st.s ≤ 9223372036854775807
/-- A record as a value, and in block b. -/
def recV (r : Rec) (dv : Value) : Value := .agg #[.int .i64 r.k, .string r.s, .int .i64 r.t, .int .i64 r.v, .int .i64 r.tier, .int .i64 r.st.c, .int .i64 r.st.s, .int .i64 r.st.q, dv]
structure RecAt (w : World) (b : Nat) (r : Rec) (dv : Value) : Prop where
  c0 : w.cell? ⟨b, 0, none⟩ = some (.int .i64 r.k)
  c1 : w.cell? ⟨b, 1, none⟩ = some (.string r.s)
  c2 : w.cell? ⟨b, 2, none⟩ = some (.int .i64 r.t)
  c3 : w.cell? ⟨b, 3, none⟩ = some (.int .i64 r.v)
  c4 : w.cell? ⟨b, 4, none⟩ = some (.int .i64 r.tier)
  c5 : w.cell? ⟨b, 5, none⟩ = some (.int .i64 r.st.c)
  c6 : w.cell? ⟨b, 6, none⟩ = some (.int .i64 r.st.s)
  c7 : w.cell? ⟨b, 7, none⟩ = some (.int .i64 r.st.q)
  c8 : w.cell? ⟨b, 8, none⟩ = some dv
theorem RecAt.below {w w' : World} {b B : Nat} {r : Rec} {dv : Value} (h : RecAt w b r dv) (k : Below B w w') (hb : b < B) : RecAt w' b r dv :=
  ⟨(k.cell (p := ⟨b, 0, none⟩) hb).trans h.c0, (k.cell (p := ⟨b, 1, none⟩) hb).trans h.c1, (k.cell (p := ⟨b, 2, none⟩) hb).trans h.c2, (k.cell (p := ⟨b, 3, none⟩) hb).trans h.c3, (k.cell (p := ⟨b, 4, none⟩) hb).trans h.c4,
   (k.cell (p := ⟨b, 5, none⟩) hb).trans h.c5, (k.cell (p := ⟨b, 6, none⟩) hb).trans h.c6, (k.cell (p := ⟨b, 7, none⟩) hb).trans h.c7, (k.cell (p := ⟨b, 8, none⟩) hb).trans h.c8⟩
theorem RecAt.room {w : World} {b : Nat} {r : Rec} {dv : Value} (h : RecAt w b r dv) : b < w.heap.size := World.block_lt_of_cell? w _ h.c0
/-- Held while a region draws: the record in its block, its numbers may be read, and nothing that was there has turned. -/
structure RHeld (w : World) (b : Nat) (r : Rec) (dv : Value) (w' : World) : Prop where
  at_ : RecAt w' b r dv
  ns : Ns w' dv r.d
  bel : Below w.heap.size w w'
theorem RHeld.keep {w w1 w2 : World} {b : Nat} {r : Rec} {dv : Value} (h : RHeld w b r dv w1) (k : Below w1.heap.size w1 w2) : RHeld w b r dv w2 := ⟨h.at_.below k h.at_.room, h.ns.later k, bel_next h.bel k⟩
theorem RHeld.drew {w w1 : World} {b : Nat} {r : Rec} {dv : Value} (h : RHeld w b r dv w1) : RHeld w b r dv w1.drew := h.keep ((Below.refl _ _).drew)
theorem Rec.err_head {r : Rec} (h : r.head = false) : r.err = 1 := by unfold Rec.err Rec.ok; rw [h]; rfl
theorem Rec.head_time {r : Rec} (h : decide (0 ≤ r.t ∧ r.t ≤ 1099511627776) = false) : r.head = false := by unfold Rec.head; rw [h]; rfl
theorem Rec.head_deps {r : Rec} (h : sameL r.d (plainL r.d) = false) : r.head = false := by unfold Rec.head; rw [h]; simp
theorem Rec.head_st {r : Rec} (h : r.st.ok = false) : r.head = false := by unfold Rec.head; rw [h]; simp
theorem Rec.head_at {r : Rec} (h : atL r.d r.st.s ≠ r.st.q - 1) : r.head = false := by unfold Rec.head; rw [decide_eq_false h, Bool.and_false]
theorem Rec.head_yes {r : Rec} (h1 : decide (0 ≤ r.t ∧ r.t ≤ 1099511627776) = true) (h2 : sameL r.d (plainL r.d) = true) (h3 : r.st.ok = true) (h4 : atL r.d r.st.s = r.st.q - 1) : r.head = true := by
  unfold Rec.head; rw [h1, h2, h3, decide_eq_true h4]; rfl
theorem Rec.ok_sample {r : Rec} (hk : r.k = 1) : r.ok = (r.head && nameB r.s && decide (r.tier = 0)) := by
  unfold Rec.ok
  rw [decide_eq_true hk, decide_eq_false (show ¬ r.k = 2 by omega)]
  simp [Bool.and_assoc]
theorem Rec.ok_cut {r : Rec} (hk : r.k = 2) : r.ok = (r.head && decide (r.s = ⟨#[]⟩) && decide (r.v = 0) && decide (0 ≤ r.tier ∧ r.tier ≤ 3)) := by
  unfold Rec.ok
  rw [decide_eq_true hk, decide_eq_false (show ¬ r.k = 1 by omega)]
  simp [Bool.and_assoc]
theorem Rec.ok_none {r : Rec} (h1 : r.k ≠ 1) (h2 : r.k ≠ 2) : r.ok = false := by
  unfold Rec.ok
  rw [decide_eq_false h1, decide_eq_false h2]
  simp
theorem St.err_eq (a : St) : a.err = if a.ok then 0 else 1 := rfl
end Go.Proofs.Ytcjcbbpolhpphaa
