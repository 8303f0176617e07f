/- A write and a read as plain mathematics. -/
import Derived.Test.YtcjcbbpolhpphaaQuRow
set_option maxRecDepth 20000
set_option linter.unusedSimpArgs false
set_option linter.unusedVariables false
namespace Go.Proofs.Ytcjcbbpolhpphaa.Qu
open Go.RowKit

/-- The nodes below k for which p holds. -/
def pickK (p : Int → Bool) (k : Nat) : List Int := ((List.range k).map (fun i : Nat => (i : Int))).filter p
def pickL (p : Int → Bool) : List Int := pickK p 16
theorem pickK_yes {p : Int → Bool} {k : Nat} (h : p (k : Int) = true) : pickK p (k + 1) = pickK p k ++ [(k : Int)] := by
  unfold pickK; rw [List.range_succ, List.map_append, List.filter_append]; simp [h]
theorem pickK_no {p : Int → Bool} {k : Nat} (h : p (k : Int) = false) : pickK p (k + 1) = pickK p k := by
  unfold pickK; rw [List.range_succ, List.map_append, List.filter_append]; simp [h]
theorem pickK_mem {p : Int → Bool} {k : Nat} {n : Int} : n ∈ pickK p k ↔ (0 ≤ n ∧ n < (k : Int)) ∧ p n = true := by
  unfold pickK
  rw [List.mem_filter]
  refine and_congr_left fun _ => ?_
  constructor
  · intro h
    obtain ⟨i, hi, rfl⟩ := List.mem_map.1 h
    have := List.mem_range.1 hi
    omega
  · rintro ⟨h1, h2⟩
    exact List.mem_map.2 ⟨n.toNat, List.mem_range.2 (by omega), by omega⟩
theorem pickK_len (p : Int → Bool) (k : Nat) : (pickK p k).length ≤ k := by
  unfold pickK; exact Nat.le_trans (List.length_filter_le _ _) (by simp)
theorem pickK_zero (p : Int → Bool) : pickK p 0 = [] := rfl
theorem pickK_congr {p q : Int → Bool} {k : Nat} (h : ∀ i : Nat, i < k → p (i : Int) = q (i : Int)) : pickK p k = pickK q k := by
  unfold pickK
  refine List.filter_congr fun x hx => ?_
  obtain ⟨i, hi, rfl⟩ := List.mem_map.1 hx
  exact h i (List.mem_range.1 hi)
theorem nodes_pick (l : List Int) : nodesL l = pickL (inL l) := rfl
theorem pick_filter (p q : Int → Bool) : (pickL p).filter q = pickL (fun i => p i && q i) := by
  unfold pickL pickK
  rw [List.filter_filter]
  exact List.filter_congr fun x _ => Bool.and_comm _ _
theorem pick_in {p : Int → Bool} {n : Int} : inL (pickL p) n = (decide (0 ≤ n) && (decide (n < 16) && p n)) := by
  unfold inL
  rw [Bool.eq_iff_iff]
  simp only [decide_eq_true_eq, Bool.and_eq_true]
  unfold pickL
  rw [pickK_mem]
  constructor
  · rintro ⟨⟨h1, h2⟩, h3⟩; exact ⟨h1, by omega, h3⟩
  · rintro ⟨h1, h2, h3⟩; exact ⟨⟨h1, by omega⟩, h3⟩

/-- How many a write needs, which nodes it has, which of these have been heard of. -/
structure QS where
  need : Int
  nd : Int → Bool
  hd : Int → Bool
def updB (f : Int → Bool) (n : Int) : Int → Bool := fun i => if i = n then true else f i
def nodeB (n : Int) : Bool := decide (0 ≤ n) && decide (n < 16)
def hasB (S : QS) (n : Int) : Bool := nodeB n && S.nd n
def hearB (S : QS) (n : Int) : Bool := hasB S n && !S.hd n
def hearS (S : QS) (n : Int) : QS := if hearB S n = true then ⟨S.need, S.nd, updB S.hd n⟩ else S
def repL (S : QS) : List Int := pickL fun i => S.nd i && S.hd i
def silL (S : QS) : List Int := pickL fun i => S.nd i && !S.hd i
def doneB (S : QS) : Bool := decide (max S.need 1 ≤ ((repL S).length : Int))
def newS (need : Int) (l : List Int) : QS := ⟨need, inL l, fun _ => false⟩
def zeroS : QS := ⟨0, fun _ => false, fun _ => false⟩
theorem has_node {S : QS} {n : Int} (h : hasB S n = true) : ∃ k : Nat, k < 16 ∧ n = (k : Int) := by
  unfold hasB nodeB at h
  simp only [Bool.and_eq_true, decide_eq_true_eq] at h
  exact ⟨n.toNat, by omega, by omega⟩
theorem hear_need (S : QS) (n : Int) : (hearS S n).need = S.need := by unfold hearS; split <;> rfl
theorem hear_nd (S : QS) (n : Int) : (hearS S n).nd = S.nd := by unfold hearS; split <;> rfl
theorem hear_yes {S : QS} {n : Int} (h : hearB S n = true) : hearS S n = ⟨S.need, S.nd, updB S.hd n⟩ := if_pos h
theorem hear_no {S : QS} {n : Int} (h : hearB S n = false) : hearS S n = S := by unfold hearS; rw [h]; rfl
end Go.Proofs.Ytcjcbbpolhpphaa.Qu
