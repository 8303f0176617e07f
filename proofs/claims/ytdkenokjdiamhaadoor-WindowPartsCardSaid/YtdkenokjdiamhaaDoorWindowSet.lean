/- The document's Set: its bits; what a call moves. -/
import Derived.Test.YtdkenokjdiamhaaDoorWindowRef4
import Derived.Maps.AppendAt
import Derived.Laws.OwnMore
set_option maxRecDepth 20000
namespace Go.Proofs.YtdkenokjdiamhaaDoor
open Go.RowKit

/-- Of what was there, only block b and the slice's row may have turned; the row is as it was, or new. -/
structure Moves (w w' : World) (b : Nat) (v v' : Value) : Prop where
  os : w'.os = w.os
  tape : w'.tape = w.tape
  output : w'.output = w.output
  size : w.heap.size ≤ w'.heap.size
  block : ∀ k, k < w.heap.size → k ≠ b → some k ≠ v.ownBlock → w'.heap[k]? = w.heap[k]?
  foot : v'.ownBlock = v.ownBlock ∨ ∃ k, v'.ownBlock = some k ∧ w.heap.size ≤ k
theorem Moves.refl (w : World) (b : Nat) (v : Value) : Moves w w b v v := ⟨rfl, rfl, rfl, Nat.le_refl _, fun _ _ _ _ => rfl, Or.inl rfl⟩
theorem Moves.trans {u w x : World} {b : Nat} {v1 v2 v3 : Value} (h : Moves u w b v1 v2) (k : Moves w x b v2 v3) : Moves u x b v1 v3 := by
  refine ⟨k.os.trans h.os, k.tape.trans h.tape, k.output.trans h.output, Nat.le_trans h.size k.size, fun i hi hb hv => ?_, ?_⟩
  · rw [k.block i (Nat.lt_of_lt_of_le hi h.size) hb ?_, h.block i hi hb hv]
    rcases h.foot with e | ⟨q, e, hq⟩
    · rw [e]; exact hv
    · rw [e]; intro e2; injection e2 with e2; omega
  · rcases k.foot with e | ⟨q, e, hq⟩
    · rw [e]; exact h.foot
    · exact Or.inr ⟨q, e, Nat.le_trans h.size hq⟩
theorem Moves.of {w w' : World} (b : Nat) (v : Value) (h : Below w.heap.size w w') : Moves w w' b v v := ⟨h.os, h.tape, h.output, h.size, fun k hk _ _ => h.block k hk, Or.inl rfl⟩
theorem Moves.drew {w w' : World} {b : Nat} {v v' : Value} (h : Moves w w' b v v') : Moves w w'.drew b v v' := ⟨h.os, h.tape, h.output, h.size, h.block, h.foot⟩
theorem Moves.cell {w w' : World} {b : Nat} {v v' : Value} (h : Moves w w' b v v') {p : Addr} (hw : p.block < w.heap.size) (hb : p.block ≠ b) (hv : some p.block ≠ v.ownBlock) : w'.cell? p = w.cell? p := World.cell?_of_block (w := w) (h.block p.block hw hb hv)
theorem SpAt.moves {w w' : World} {b d : Nat} {v v' : Value} {s : Sp} (h : SpAt w d s) (k : Moves w w' b v v') (hb : d ≠ b) (hv : v.ownBlock ≠ some d) : SpAt w' d s :=
  ⟨(k.cell (p := ⟨d, 0, none⟩) h.room hb (Ne.symm hv)).trans h.c0, (k.cell (p := ⟨d, 1, none⟩) h.room hb (Ne.symm hv)).trans h.c1⟩
theorem Moves.not {w w' : World} {b d : Nat} {v v' : Value} (h : Moves w w' b v v') (hv : v.ownBlock ≠ some d) (hd : d < w.heap.size) : v'.ownBlock ≠ some d := by
  rcases h.foot with e | ⟨q, e, hq⟩
  · rw [e]; exact hv
  · rw [e]; intro e2; injection e2 with e2; omega

def BRow (w : World) (B : Nat) (v : Value) (xs : List Bool) : Prop := w.ownsRow B 4 1 v xs.length (xs.map Value.bool)
theorem BRow.slice {w : World} {B : Nat} {v : Value} {xs : List Bool} (h : BRow w B v xs) : ∃ a c, v = .slice a xs.length c := by
  rcases h.2 with ⟨h, h0⟩ | ⟨g, cap, cur, h, _⟩
  · exact ⟨_, _, by rw [h, h0]⟩
  · exact ⟨_, _, h⟩
/-- A set of the document's in block b: its slice v, its bits. -/
structure BitsAt (w : World) (b : Nat) (v : Value) (B : List Bool) : Prop where
  cell : w.cell? ⟨b, 0, none⟩ = some v
  free : w.frozen? ⟨b, 0, none⟩ = false
  row : BRow w (b + 1) v B
theorem BitsAt.room {w : World} {b : Nat} {v : Value} {B : List Bool} (h : BitsAt w b v B) : b < w.heap.size := World.block_lt_of_cell? w _ h.cell
theorem BitsAt.apart {w : World} {b : Nat} {v : Value} {B : List Bool} (h : BitsAt w b v B) : some b ≠ v.ownBlock := by
  intro e; have := (World.ownsRow.lt h.row b e.symm).1; omega
theorem BitsAt.in_ {w : World} {b d : Nat} {v : Value} {B : List Bool} (h : BitsAt w b v B) (hd : w.heap.size ≤ d) : v.ownBlock ≠ some d := by
  intro e; have := (World.ownsRow.lt h.row d e).2; omega
theorem BitsAt.later {w w' : World} {b : Nat} {v : Value} {B : List Bool} (h : BitsAt w b v B) (k : Below w.heap.size w w') : BitsAt w' b v B :=
  ⟨(k.cell (p := ⟨b, 0, none⟩) h.room).trans h.cell, (k.frozen (p := ⟨b, 0, none⟩) h.room).trans h.free, owns2_later h.row k⟩
/-- One bit more: behind the append, and behind the store. -/
theorem BitsAt.more {w w3 : World} {b : Nat} {v v' : Value} {B : List Bool} {X : Obj} (h : BitsAt w b v B) (h2 : w3.ownsRow (b + 1) 4 1 v' (B.length + 1) (B.map Value.bool ++ [.bool false])) (hg : (w.alloc X).grownBy w3 v.ownBlock)
    (h4 : v'.ownBlock = v.ownBlock ∨ v'.ownBlock = some (w.alloc X).heap.size) :
    (w3.cell? ⟨b, 0, none⟩ = some v ∧ w3.frozen? ⟨b, 0, none⟩ = false) ∧ BitsAt (w3.setCell ⟨b, 0, none⟩ v') b v' (B ++ [false]) ∧ Moves w (w3.setCell ⟨b, 0, none⟩ v') b v v' := by
  have hr := h.room
  have hb : w3.heap[b]? = w.heap[b]? := (hg.block b (by simp; omega) h.apart).trans (Below.heap_alloc w _ b hr)
  have c : w3.cell? ⟨b, 0, none⟩ = some v := (World.cell?_of_block (a := ⟨b, 0, none⟩) hb).trans h.cell
  have f : w3.frozen? ⟨b, 0, none⟩ = false := (World.frozen?_of_block (a := ⟨b, 0, none⟩) hb).trans h.free
  refine ⟨⟨c, f⟩, ⟨World.cell?_setCell_same _ _ _ c, by simp [go_sem, f], ?_⟩, ?_⟩
  · refine ownsRow_setCell_below (show BRow w3 (b + 1) v' (B ++ [false]) from ?_) (Nat.lt_succ_self b) _
    unfold BRow
    rw [List.length_append, List.map_append]
    exact h2
  · have hs := hg.size
    simp at hs
    refine ⟨hg.os, hg.tape, hg.output, by simp; omega, fun k hk h1 h3 => ?_, ?_⟩
    · rw [Below.heap_setCell _ _ _ _ h1, hg.block k (by simp; omega) h3, Below.heap_alloc w _ k hk]
    · rcases h4 with h4 | h4
      · exact Or.inl h4
      · exact Or.inr ⟨_, h4, by simp⟩
/-- A bit is written. -/
theorem BitsAt.put {w : World} {b g cap : Nat} {B : List Bool} (h : BitsAt w b (.slice (some ⟨g, 0, none⟩) B.length cap) B) (n : Nat) (x : Bool) :
    BitsAt (w.setCell ⟨g, n, none⟩ (.bool x)) b (.slice (some ⟨g, 0, none⟩) B.length cap) (B.set n x) ∧ Moves w (w.setCell ⟨g, n, none⟩ (.bool x)) b (.slice (some ⟨g, 0, none⟩) B.length cap) (.slice (some ⟨g, 0, none⟩) B.length cap) := by
  have hgb : g ≠ b := fun e => h.apart (by simp [Value.ownBlock, e])
  obtain ⟨r1, r2⟩ := World.ownsRow.stored h.row n (.bool x)
  refine ⟨⟨?_, ?_, ?_⟩, ⟨rfl, rfl, rfl, by simp, fun k hk _ h3 => r2.block k hk h3, Or.inl rfl⟩⟩
  · rw [World.cell?_setCell_other]
    · exact h.cell
    · intro e; injection e with e; exact hgb (by first | exact e | exact e.symm)
  · have := h.free
    simp [go_sem, this]
  · unfold BRow
    rw [List.length_set, List.map_set]
    exact r1

/-- The bits, as many as there must be for place n. -/
def padB (B : List Bool) (n : Nat) : List Bool := B ++ List.replicate (n + 1 - B.length) false
theorem padB_length (B : List Bool) (n : Nat) : (padB B n).length = max B.length (n + 1) := by unfold padB; simp; omega
/-- k places from f on become x: the bits, and whether one has changed. -/
def markN (x : Bool) (f : Nat) : Nat → List Bool → List Bool × Bool
  | 0, B => (B, false)
  | k + 1, B => ((padB (markN x f k B).1 (f + k)).set (f + k) x, (markN x f k B).2 || (padB (markN x f k B).1 (f + k)).getD (f + k) false != x)
theorem markN_length (x : Bool) (f k : Nat) (B : List Bool) : (markN x f k B).1.length ≤ max B.length (f + k) := by
  induction k with
  | zero => simp [markN]; omega
  | succ k ih =>
    simp only [markN]
    rw [List.length_set, padB_length]
    omega
def markB (B : List Bool) (s : Sp) (x : Bool) : List Bool × Bool := if s.is = true then markN x s.f.toNat (s.t - s.f).toNat B else (B, false)
theorem infoBool : (Tryd.prog.info? 4).map (fun i => (i.zero, i.size, i.bytes)) = some (some (.bool false), 1, 1) := by kernel_rfl
end Go.Proofs.YtdkenokjdiamhaaDoor
