/- After. -/
import Derived.Test.YthifmfgnblecbaaOgAll
import Derived.WalkMore
set_option maxRecDepth 20000
set_option linter.unusedSimpArgs false
set_option linter.unusedVariables false
namespace Go.Proofs.Ythifmfgnblecbaa.Og
open Go.RowKit Go.Proofs.Ythifmfgnblecbaa.Vi Go.Proofs.Ythifmfgnblecbaa.Mk

theorem Rec.ok_deps {r : Rec} (h : r.ok = true) : r.d.length ≤ 8 := by
  have e := Rec.ok_plain h
  unfold sameL at e
  have e := of_decide_eq_true e
  rw [e]
  exact vec_size (fun i => atL r.d (i : Int))
def aftR (S : OS) (V : List Int) (most : Int) : List Rec := if covL V S.base then someL V S.L most else []
def AftDone (S : OS) (V : List Int) (most : Int) (w : World) (e : Ending) (w' : World) : Prop := ∃ v, e = .returned (.tuple #[v, .bool (covL V S.base)]) ∧ Rows w' w.heap.size v (aftR S V most) ∧ Below w.heap.size w w'
structure AfJ (w wr : World) (V : List Int) (L : List Rec) (most : Int) (k : Nat) (v : Value) (m : Nat) : Prop where
  row : Rows wr w.heap.size v (aftL V (L.take k))
  bel : Below w.heap.size w wr
  len : (aftL V (L.take k)).length = m
  up : m ≤ most.toNat
  lk : m ≤ k
end Go.Proofs.Ythifmfgnblecbaa.Og
