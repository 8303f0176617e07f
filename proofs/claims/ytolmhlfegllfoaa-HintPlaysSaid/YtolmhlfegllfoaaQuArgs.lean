/- What comes in: slices of numbers, of replies. -/
import Derived.Test.YtolmhlfegllfoaaQuRow
import Derived.Deep.Slices
import Derived.Deep.Strs
import Derived.ChangeSame
import Derived.ChangeArms
import Derived.WideShapes
import Derived.Lib.SmallJoins
import Derived.OpenShut
import Derived.SliceStrings
import Derived.ChangeSlices
import Derived.Deep.DeepHandedRow
set_option maxRecDepth 20000
set_option linter.unusedSimpArgs false
set_option linter.unusedVariables false
namespace Go.Proofs.Ytolmhlfegllfoaa.Qu
open Go.ChangeShapes Go.WideShapes Go.ChangeAt Go.RowKit Go.Joins

/-- A slice of numbers that came in: empty, or each of its cells holds a number. -/
def ArgInts (w : World) (a : Option Addr) (len cap : Nat) : Prop :=
  len = 0 ∨ ∃ (b off : Nat) (l : List Int), a = some ⟨b, off, none⟩ ∧ l.length = len ∧ len ≤ cap ∧ cap ≤ maxLen ∧ (∀ j (h : j < l.length), w.cell? ⟨b, off + j, none⟩ = some (.int .i64 l[j])) ∧ ∀ n ∈ l, -9223372036854775808 ≤ n ∧ n ≤ 9223372036854775807
theorem argInts_of {H : Type} {enc : TypeId × Value → H} {w : World} {base fuel : Nat} {sp : Nat → Bool} {hd : Bool} {a : Option Addr} {len cap : Nat} {t e : TypeId} {x : DataW H × List MemPlace}
    (ht : Try.prog.underlying t = some (.slice e)) (he : Try.prog.underlying e = some (.int .i64)) (hc : Try.prog.cellsOf e = 1)
    (h : DataW.trod enc Try.prog w base sp hd fuel t [.slice a len cap] = some x) : ArgInts w a len cap := by
  rcases Go.ChangeShapes.open_ints ht he hc h with ⟨hcs, _⟩ | ⟨y, l, c, zs, hcs, _, hl, hm, hz, _, hcell, hwf⟩
  · simp at hcs
    exact Or.inl hcs.2.1
  · simp at hcs
    obtain ⟨rfl, rfl, rfl⟩ := hcs
    by_cases h0 : len = 0
    · exact Or.inl h0
    · have hlen : len ≤ zs.length := by rw [hz]; split <;> omega
      obtain ⟨b, off, spot⟩ := y
      have hc := hcell 0 (by omega)
      have hspot : spot = none := by simpa [Addr.add] using World.cell?_spot hc
      subst hspot
      have hp : ∀ j, (⟨b, off, none⟩ : Addr).add j = ⟨b, off + j, none⟩ := fun j => by unfold Addr.add; split <;> simp_all
      refine Or.inr ⟨b, off, zs.take len, rfl, by rw [List.length_take]; omega, hl, hm, fun j hj => ?_, fun n hn => ?_⟩
      · rw [List.length_take] at hj
        rw [← hp, hcell j (by omega), List.getElem_take, List.getD_eq_getElem?_getD, List.getElem?_eq_getElem (by omega)]; rfl
      · have := bounds_i64 (hwf n (List.mem_of_mem_take hn))
        omega
theorem ns_of_args {w : World} {a : Option Addr} {len cap : Nat} (h : ArgInts w a len cap) : ∃ l : List Int, Ns w (.slice a len cap) l ∧ Hid (∃ a' n c, Value.slice a len cap = .slice a' n c ∧ n ≤ c) := by
  rcases h with rfl | ⟨b, off, l, rfl, hl, hlc, hm, hcell, hw⟩
  · exact ⟨[], ⟨⟨a, cap, rfl, Or.inl rfl⟩, fun n h => by simp at h, by simp, Nat.le_refl _⟩, Lib.hid ⟨_, _, _, rfl, Nat.zero_le _⟩⟩
  · subst hl
    have hm' : cap ≤ 9223372036854775807 := by unfold maxLen at hm; omega
    refine ⟨l, ⟨⟨_, _, rfl, ?_⟩, hw, by omega, Nat.le_refl _⟩, Lib.hid ⟨_, _, _, rfl, hlc⟩⟩
    by_cases h0 : l = []
    · exact Or.inl h0
    · have : 0 < l.length := List.length_pos_iff.2 h0
      exact Or.inr ⟨b, off, rfl, World.block_lt_of_cell? w _ (hcell 0 this), hcell⟩

/-- The law's few, with its list and its length by name. -/
def FewD (w : World) (e : Ending) (w' : World) : Prop := ∃ (A : List Int) (a : Option Addr) (n c : Nat), e = .returned (.slice a n c) ∧ A.length = n ∧ n ≤ 12 ∧ Ns w (.slice a n c) A ∧ w = w'
end Go.Proofs.Ytolmhlfegllfoaa.Qu
