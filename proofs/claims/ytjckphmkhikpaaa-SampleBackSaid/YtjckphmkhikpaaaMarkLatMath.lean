/- Vectors are a lattice: it imports nothing of the program. -/
import Derived.Test.YtjckphmkhikpaaaMarkMath
namespace Go.Proofs.Ytjckphmkhikpaaa.Mk

theorem cov_join_left (a b : List Int) : covL (joinL a b) a = true := covL_iff.2 fun i hi => by rw [atL_join a b hi]; omega
theorem cov_join_right (a b : List Int) : covL (joinL a b) b = true := covL_iff.2 fun i hi => by rw [atL_join a b hi]; omega
theorem cov_meet_left (a b : List Int) : covL a (meetL a b) = true := covL_iff.2 fun i hi => by rw [atL_meet a b hi]; omega
theorem cov_meet_right (a b : List Int) : covL b (meetL a b) = true := covL_iff.2 fun i hi => by rw [atL_meet a b hi]; omega
theorem cov_join (a b c : List Int) : covL c (joinL a b) = (covL c a && covL c b) := by
  rw [Bool.eq_iff_iff, Bool.and_eq_true, covL_iff, covL_iff, covL_iff]
  constructor
  · intro h
    refine ⟨fun i hi => ?_, fun i hi => ?_⟩ <;> (have := h i hi; rw [atL_join a b hi] at this; omega)
  · intro ⟨h1, h2⟩ i hi
    have := h1 i hi; have := h2 i hi
    rw [atL_join a b hi]; omega
theorem cov_meet (a b c : List Int) : covL (meetL a b) c = (covL a c && covL b c) := by
  rw [Bool.eq_iff_iff, Bool.and_eq_true, covL_iff, covL_iff, covL_iff]
  constructor
  · intro h
    refine ⟨fun i hi => ?_, fun i hi => ?_⟩ <;> (have := h i hi; rw [atL_meet a b hi] at this; omega)
  · intro ⟨h1, h2⟩ i hi
    have := h1 i hi; have := h2 i hi
    rw [atL_meet a b hi]; omega
theorem join_comm (a b : List Int) : joinL a b = joinL b a := vec_congr fun i _ => by show max _ _ = max _ _; omega
theorem meet_comm (a b : List Int) : meetL a b = meetL b a := vec_congr fun i _ => by show min _ _ = min _ _; omega
theorem join_again (a b : List Int) : joinL (joinL a b) a = joinL a b := vec_congr fun i hi => by
  show max (atL (joinL a b) (i : Int)) (atL a (i : Int)) = max _ _
  rw [atL_join a b hi]; omega
theorem join_assoc (a b c : List Int) : joinL (joinL a b) c = joinL a (joinL b c) := vec_congr fun i hi => by
  show max (atL (joinL a b) (i : Int)) (atL c (i : Int)) = max (atL a (i : Int)) (atL (joinL b c) (i : Int))
  rw [atL_join a b hi, atL_join b c hi]; omega
theorem plain_join (a b : List Int) : plainL (joinL a b) = joinL a b := plain_vec (join_fit a b)
theorem plain_meet (a b : List Int) : plainL (meetL a b) = meetL a b := plain_vec (meet_fit a b)
theorem plain_with (a : List Int) (s n : Int) : plainL (withL a s n) = withL a s n := plain_vec (with_fit a s n)
theorem cov_self (a : List Int) : covL a a = true := covL_iff.2 fun _ _ => Int.le_refl _
/-- A step at site k: what each site has then. -/
theorem step_at (l : List Int) (k : Nat) (hk : k < 8) (x : Int) (n : Int) (hn : atL l (k : Int) = n) : atL (withL l (k : Int) (n + 1)) x = if x = (k : Int) ∧ n < 1099511627776 then n + 1 else atL l x := by
  have hb := atL_bounds l (k : Int)
  rw [hn] at hb
  by_cases ho : x < 0 ∨ 7 < x
  · rw [atL_out ho, atL_out ho, if_neg (by omega)]
  · obtain ⟨i, rfl⟩ := Int.eq_ofNat_of_zero_le (show 0 ≤ x by omega)
    rw [atL_with l (k : Int) (n + 1) (show i < 8 by omega)]
    by_cases he : (i : Int) = (k : Int)
    · rw [if_pos he]
      by_cases hm : n < 1099511627776
      · rw [if_pos ⟨he, hm⟩, cl_in (by omega) (by omega)]
      · rw [if_neg (by omega), he, hn]
        unfold cl; rw [if_neg (by omega), if_pos (by omega)]; omega
    · rw [if_neg he, if_neg (by omega)]
theorem step_cmp (l : List Int) (k : Nat) (hk : k < 8) (n : Int) (hn : atL l (k : Int) = n) : cmpL (withL l (k : Int) (n + 1)) l = if n < 1099511627776 then 1 else 0 := by
  have h1 : covL (withL l (k : Int) (n + 1)) l = true := covL_iff.2 fun i hi => by
    rw [step_at l k hk _ n hn]
    split
    · rename_i h; rw [h.1, hn]; omega
    · exact Int.le_refl _
  unfold cmpL
  rw [h1]
  by_cases hm : n < 1099511627776
  · have h2 : covL l (withL l (k : Int) (n + 1)) = false := cov_no hk (by rw [step_at l k hk _ n hn, if_pos ⟨rfl, hm⟩, hn]; omega)
    rw [h2, if_pos hm]; rfl
  · have h2 : covL l (withL l (k : Int) (n + 1)) = true := covL_iff.2 fun i hi => by
      rw [step_at l k hk _ n hn, if_neg (by omega)]; exact Int.le_refl _
    rw [h2, if_neg hm]; rfl
end Go.Proofs.Ytjckphmkhikpaaa.Mk
