/- The place that a law takes of any number. It is of no program. -/
namespace Go.Proofs.Ytddjoddbdinpaaa
/-- The place that a law takes of any number: its rest by m, of one below 0 that of its complement; in the walk's two spellings. -/
theorem place (at_ : Int) (m : Nat) (h0 : 0 < m) : ∃ n : Nat, n < m ∧ (0 ≤ at_ → at_ % (m : Int) = (n : Int)) ∧ (at_ < 0 → (at_ + 1).tmod (m : Int) = -(n : Int)) := by
  by_cases h : 0 ≤ at_
  · have h1 := Int.emod_nonneg at_ (b := (m : Int)) (by omega)
    have h2 := Int.emod_lt_of_pos at_ (b := (m : Int)) (by omega)
    exact ⟨(at_ % (m : Int)).toNat, by omega, fun _ => by omega, fun h' => by omega⟩
  · have h1 := Int.emod_nonneg (-(at_ + 1)) (b := (m : Int)) (by omega)
    have h2 := Int.emod_lt_of_pos (-(at_ + 1)) (b := (m : Int)) (by omega)
    refine ⟨((-(at_ + 1)) % (m : Int)).toNat, by omega, fun h' => by omega, fun _ => ?_⟩
    have e := Int.tmod_eq_emod_of_nonneg (a := -(at_ + 1)) (b := (m : Int)) (by omega)
    rw [Int.neg_tmod] at e
    omega
end Go.Proofs.Ytddjoddbdinpaaa
