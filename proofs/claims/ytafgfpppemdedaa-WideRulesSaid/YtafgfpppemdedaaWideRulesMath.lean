/- What the ten sums of law WideRules come to, in whole numbers: each row joins two ways to one and the same number. -/
import Derived.Test.YtafgfpppemdedaaWideTri
namespace Go.Proofs.Ytafgfpppemdedaa.Wd
open Go.RowKit Go.Proofs.Ytafgfpppemdedaa

theorem rule_turned (a b : Int) : Cong (sm (a + b)) (b + a) := by rw [Int.add_comm b a]; exact sm_cong _

theorem rule_left (a b c : Int) : Cong (sm (a + b + c)) (sm (a + b) + c) := (sm_cong _).trans ((sm_cong _).symm.add Cong.rfl)

theorem rule_right (a b c : Int) : Cong (sm (a + b + c)) (a + sm (b + c)) := by
  have e : Cong (sm (a + b + c)) (a + (b + c)) := by rw [← Int.add_assoc]; exact sm_cong _
  exact e.trans (Cong.rfl.add (sm_cong (b + c)).symm)

theorem rule_none (a : Int) : Cong 0 (a + sm (-a)) := by
  have h := (Cong.rfl (a := a)).add (sm_cong (-a)).symm
  rw [Int.add_right_neg] at h
  exact h

theorem rule_back (a b : Int) : Cong (sm (a - b) + b) a := by
  have h := (sm_cong (a - b)).add (Cong.rfl (a := b))
  rw [Int.sub_add_cancel] at h
  exact h

theorem rule_minus (a b : Int) : Cong (sm (a - b)) (-sm (b - a)) := by
  have h := (sm_cong (b - a)).neg.symm
  rw [Int.neg_sub] at h
  exact (sm_cong (a - b)).trans h

end Go.Proofs.Ytafgfpppemdedaa.Wd
