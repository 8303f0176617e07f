/- Slices of numbers that came in, as lists. -/
import Derived.Test.YtjckphmkhikpaaaMarkNs
namespace Go.Proofs.Ytjckphmkhikpaaa
open Go.RowKit Go.Proofs.Ytjckphmkhikpaaa.Vi Go.Proofs.Ytjckphmkhikpaaa.Mk

/-- v came in: a slice of the numbers l. -/
structure ArgNs (w : World) (v : Value) (l : List Int) : Prop where
  ns : Ns w v l
  cap : Hid (∃ a len cap, v = .slice a len cap ∧ len ≤ cap)
theorem argNs_of {w : World} {a : Option Addr} {len cap : Nat} (h : ArgInts w a len cap) : ∃ l, ArgNs w (.slice a len cap) l := by
  rcases h with rfl | ⟨b, off, l, rfl, hl, hlc, hm, hc, hw⟩
  · exact ⟨[], (Nums.nil w a cap).mono (Nat.zero_le _) (Nat.le_refl _), a, 0, cap, rfl, Nat.zero_le _⟩
  · subst hl
    by_cases h0 : l.length = 0
    · obtain rfl := List.eq_nil_of_length_eq_zero h0
      exact ⟨[], (Nums.nil w _ cap).mono (Nat.zero_le _) (Nat.le_refl _), _, 0, cap, rfl, Nat.zero_le _⟩
    · exact ⟨l, ⟨⟨_, _, rfl, Or.inr ⟨b, off, rfl, World.block_lt_of_cell? w _ (hc 0 (by omega)), hc⟩⟩, hw, by unfold maxLen at hm; omega, Nat.le_refl _⟩, _, _, _, rfl, hlc⟩
theorem sameL_self (l : List Int) : sameL l l = true := by unfold sameL; simp
end Go.Proofs.Ytjckphmkhikpaaa
