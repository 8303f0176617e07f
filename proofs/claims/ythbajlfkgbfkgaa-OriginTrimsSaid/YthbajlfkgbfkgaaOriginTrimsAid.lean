/- What OriginTrims cuts off a list. -/
import Derived.Test.YthbajlfkgbfkgaaOgSame
import Derived.Test.YthbajlfkgbfkgaaOgTrimsMath
set_option maxRecDepth 20000
set_option linter.unusedSimpArgs false
set_option linter.unusedVariables false
namespace Go.Proofs.Ythbajlfkgbfkgaa.Og
open Go.RowKit Go.Proofs.Ythbajlfkgbfkgaa.Vi Go.Proofs.Ythbajlfkgbfkgaa.Mk

theorem Rows.tail {w : World} {B : Nat} {a : Option Addr} {c : Nat} {l : List Rec} (h : Rows w B (.slice a l.length c) l) (k : Nat) (hk : k ≤ l.length) :
    ∃ p c', (∀ w, (Instr.slice 37 (.slice a l.length c) (some (.int .i64 (k : Int))) none none).run Try.prog w = .ok (.slice p (l.length - k) c') w) ∧ (∀ w, (Instr.sliceAt 37 (.slice a l.length c) (some (.int .i64 (k : Int))) none none).run Try.prog w = .ok (.slice p (l.length - k) c') w) ∧ RdL w p (l.drop k) := by
  have e : ∀ w, (Instr.slice 37 (.slice a l.length c) (some (.int .i64 (k : Int))) none none).run Try.prog w = .ok (sliced a k l.length c 9) w := fun w => by
    rw [run_slice_l (P := Try.prog) w 37 _ l.length c elemR .i64 (k : Int) (by omega) (by omega), sizeR, Int.toNat_natCast]; rfl
  have e' : ∀ w, (Instr.sliceAt 37 (.slice a l.length c) (some (.int .i64 (k : Int))) none none).run Try.prog w = .ok (sliced a k l.length c 9) w := fun w => by rw [run_sliceAt_slice (P := Try.prog) w 37 _ _ _ _ elemR, e w]
  obtain ⟨ys, h1, h2, h3⟩ := h.has
  have hyl : ys.length = l.length := by rw [← h2, List.length_map]
  refine ⟨_, _, e, e', ?_⟩
  rcases h1 with ⟨hv, rfl⟩ | ⟨g, off, cap, cur, hv, hB, hh, hn, hm, hs, ht⟩
  · left
    rw [← h2]; simp
  · injection hv with v1 v2 v3
    subst v1 v3
    have hrow : ORow w B (.slice (some ⟨g, off, none⟩) l.length c) ys := Or.inr ⟨g, off, c, cur, by rw [hyl], hB, hh, hn, hm, hs, ht⟩
    obtain ⟨o', e1, h4⟩ := hrow.cut hk (by omega : l.length ≤ c) (Nat.le_refl c)
    have hp : (if c = k then (some ⟨g, off, none⟩ : Option Addr) else (some ⟨g, off, none⟩ : Option Addr).map (·.add (k * 9))) = some ⟨g, o', none⟩ := by
      unfold sliced at e1
      injection e1
    rw [hp]
    exact RdL.ofO h4 (by rw [List.map_drop, h2]) fun z hz => (h3 z (List.mem_of_mem_drop hz)).1
end Go.Proofs.Ythbajlfkgbfkgaa.Og
