/- beyond, Know, Base, Get. -/
import Derived.Test.YthifmfgnblecbaaOgOwn
set_option maxRecDepth 20000
set_option linter.unusedSimpArgs false
set_option linter.unusedVariables false
namespace Go.Proofs.Ythifmfgnblecbaa.Og
open Go.RowKit Go.Proofs.Ythifmfgnblecbaa.Vi Go.Proofs.Ythifmfgnblecbaa.Mk

theorem at_quietN (v : Value) (l : List Int) (s : Int) (u : World) (n : Nat) (h : Ns u v l) (hs : -9223372036854775808 ≤ s ∧ s ≤ 9223372036854775807) :
    Calls Try.prog 50 #[v, .int .i64 s] (u.drewN n) fun e w' => e = .returned (.int .i64 (atL l s)) ∧ w' = u.drewN n := at_quiet v l s _ u n h hs
theorem firstQ_hit {l : List Rec} {x z : Int} {k : Nat} (h : ∀ j (hj : j < l.length), j < k → l[j].st.s ≠ x) (hk : k < l.length) (e : l[k].st.s = x) : firstQ l x z = l[k].st.q - 1 := by
  induction l generalizing k with
  | nil => simp at hk
  | cons r t ih =>
    unfold firstQ
    cases k with
    | zero => rw [if_pos (by simpa using e)]; rfl
    | succ k =>
      rw [if_neg (show ¬ r.st.s = x from h 0 (by simp) (by omega))]
      exact ih (fun j hj hjk => h (j + 1) (by simpa using hj) (by omega)) (by simpa using hk) e
theorem firstQ_miss {l : List Rec} {x z : Int} (h : ∀ j (hj : j < l.length), l[j].st.s ≠ x) : firstQ l x z = z := by
  induction l with
  | nil => rfl
  | cons r t ih =>
    unfold firstQ
    rw [if_neg (show ¬ r.st.s = x from h 0 (by simp))]
    exact ih fun j hj => h (j + 1) (by simpa using hj)
structure B1J (u wr : World) (zs : List Rd) (x : Int) (k : Nat) : Prop where
  bel : Below u.heap.size u wr
  no : ∀ j (hj : j < zs.length), j < k → zs[j].r.st.s ≠ x
end Go.Proofs.Ythifmfgnblecbaa.Og
