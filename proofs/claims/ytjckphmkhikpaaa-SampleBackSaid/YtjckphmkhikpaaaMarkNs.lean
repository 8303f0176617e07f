/- Contracts of package mark over slices of numbers that may be read ('Ns'). -/
import Derived.Test.YtjckphmkhikpaaaMarkTell
import Derived.Test.YtjckphmkhikpaaaMarkBel
namespace Go.Proofs.Ytjckphmkhikpaaa
open Go.RowKit Go.Proofs.Ytjckphmkhikpaaa.Vi Go.Proofs.Ytjckphmkhikpaaa.Mk

/-- v is a slice of the numbers l. -/
abbrev Ns (w : World) (v : Value) (l : List Int) : Prop := Nums w w.heap.size v l
theorem Ns.later {w w' : World} {v : Value} {l : List Int} (h : Ns w v l) (k : Below w.heap.size w w') : Ns w' v l := (Nums.below h k).mono k.size (Nat.le_refl _)
theorem VDone.ns {l : List Int} {w w' : World} {e : Ending} (h : VDone l w e w') : ∃ v, e = .returned v ∧ Ns w' v l ∧ Below w.heap.size w w' := h
theorem atN (v : Value) (l : List Int) (s : Int) (w : World) (h : Ns w v l) (hs : -9223372036854775808 ≤ s ∧ s ≤ 9223372036854775807) : Calls Try.prog 49 #[v, .int .i64 s] w fun e w' => e = .returned (.int .i64 (atL l s)) ∧ w = w' := at_any v l s _ w h hs
theorem normalN (v : Value) (l : List Int) (w : World) (h : Ns w v l) : Calls Try.prog 75 #[v] w (VDone (plainL l) w) := normal_is v l _ w h
theorem rsameN (v1 v2 : Value) (l1 l2 : List Int) (w : World) (h1 : Ns w v1 l1) (h2 : Ns w v2 l2) : Calls Try.prog 71 #[v1, v2] w fun e w' => e = .returned (.bool (sameL l1 l2)) ∧ Below w.heap.size w w' := rsame_is v1 v2 l1 l2 _ _ w h1 h2
theorem rightN (v : Value) (l : List Int) (w : World) (h : Ns w v l) : Calls Try.prog 48 #[v] w fun e w' => e = .returned (.bool (sameL l (plainL l))) ∧ Below w.heap.size w w' := right_is v l _ w h
theorem textN (v : Value) (l : List Int) (s : ByteArray) (w : World) (h : Ns w v l) (hs : Hid (tx (textL (plainL l)) = s)) : Calls Try.prog 36 #[v] w (TextDone s w) := vtext_is v l s _ w h hs

def Small (x : Int) : Prop := 0 ≤ x ∧ x ≤ 100
theorem lit1 (w : World) (b : Nat) (x : Int) (hc : w.cell? ⟨b, 0, none⟩ = some (.int .i64 x)) (hx : Small x) : Nums w w.heap.size (.slice (some ⟨b, 0, none⟩) 1 1) [x] :=
  ⟨⟨_, _, rfl, Or.inr ⟨b, 0, rfl, World.block_lt_of_cell? w _ hc, fun j hj => by
    match j, hj with
    | 0, _ => exact hc⟩⟩, fun n hn => by unfold Small at *; simp at hn; subst hn; omega, by simp, Nat.le_refl _⟩
theorem lit2 (w : World) (b : Nat) (x y : Int) (hc : w.cell? ⟨b, 0, none⟩ = some (.int .i64 x)) (hd : w.cell? ⟨b, 1, none⟩ = some (.int .i64 y)) (hx : Small x) (hy : Small y) : Nums w w.heap.size (.slice (some ⟨b, 0, none⟩) 2 2) [x, y] :=
  ⟨⟨_, _, rfl, Or.inr ⟨b, 0, rfl, World.block_lt_of_cell? w _ hc, fun j hj => by
    match j, hj with
    | 0, _ => exact hc
    | 1, _ => exact hd⟩⟩, fun n hn => by unfold Small at *; simp at hn; omega, by simp, Nat.le_refl _⟩
theorem lit3 (w : World) (b : Nat) (x y z : Int) (hc : w.cell? ⟨b, 0, none⟩ = some (.int .i64 x)) (hd : w.cell? ⟨b, 1, none⟩ = some (.int .i64 y)) (he : w.cell? ⟨b, 2, none⟩ = some (.int .i64 z)) (hx : Small x) (hy : Small y) (hz : Small z) : Nums w w.heap.size (.slice (some ⟨b, 0, none⟩) 3 3) [x, y, z] :=
  ⟨⟨_, _, rfl, Or.inr ⟨b, 0, rfl, World.block_lt_of_cell? w _ hc, fun j hj => by
    match j, hj with
    | 0, _ => exact hc
    | 1, _ => exact hd
    | 2, _ => exact he⟩⟩, fun n hn => by unfold Small at *; simp at hn; omega, by simp, Nat.le_refl _⟩
end Go.Proofs.Ytjckphmkhikpaaa
