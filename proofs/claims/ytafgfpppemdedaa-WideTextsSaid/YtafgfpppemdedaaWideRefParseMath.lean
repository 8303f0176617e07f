/- What the document's Parse reckons with: sixteen digits times ten and one more, put right; texts that are too long, or too great. It imports nothing of the program but what Parse answers. -/
import Derived.Test.YtafgfpppemdedaaWideParse
import Derived.Test.YtafgfpppemdedaaWideRefNum
namespace Go.Proofs.Ytafgfpppemdedaa
open Go.RowKit Go.Proofs.Ytafgfpppemdedaa.Wd

theorem tailv_last (z : Nat → Int) (v : Int) (k : Nat) (hk : k + 1 ≤ 16) : tailv (updI z 15 v) (k + 1) = tailv z (k + 1) + (v - z 15) := by
  induction k with
  | zero => simp [tailv, updI]; omega
  | succ k ih =>
    have e1 : tailv (updI z 15 v) (k + 1 + 1) = tailv (updI z 15 v) (k + 1) + updI z 15 v (15 - (k + 1)) * 256 ^ (k + 1) := rfl
    have e2 : tailv z (k + 1 + 1) = tailv z (k + 1) + z (15 - (k + 1)) * 256 ^ (k + 1) := rfl
    have e3 : updI z 15 v (15 - (k + 1)) = z (15 - (k + 1)) := by unfold updI; rw [if_neg (by omega)]
    rw [e1, e2, e3, ih (by omega)]
    omega
theorem tailv_range (d : Nat → Int) (h : ∀ i, i < 16 → 0 ≤ d i ∧ d i ≤ 255) : 0 ≤ tailv d 16 ∧ tailv d 16 < 340282366920938463463374607431768211456 := by
  have h1 := horn_full (d := d) (o := 0) (fun i _ h2 => h i (by omega))
  have h2 := horn_full (d := d) (o := 8) (fun i _ h2 => h i (by omega))
  rw [tailv_horn]; omega
theorem tailv_zero : tailv (fun _ => 0) 16 = 0 := by decide

theorem valD_take (l : List UInt8) (j : Nat) : valD (l.take j) ≤ valD l := by
  have hs : ∀ k, k < l.length → valD (l.take k) ≤ valD (l.take (k + 1)) := by
    intro k hk
    rw [List.take_succ_eq_append_getElem hk, valD_snoc]; omega
  have h : ∀ m j, j + m = l.length → valD (l.take j) ≤ valD l := by
    intro m
    induction m with
    | zero => intro j hj; rw [List.take_of_length_le (by omega)]; exact Nat.le_refl _
    | succ m ih => intro j hj; exact Nat.le_trans (hs j (by omega)) (ih (j + 1) (by omega))
  by_cases hj : j ≤ l.length
  · exact h (l.length - j) j (by omega)
  · rw [List.take_of_length_le (by omega)]; exact Nat.le_refl _
/-- A text that is how a number in range is written is neither too long nor too great. -/
theorem text_fits {s : ByteArray} {p : Int} (hp : InW p) (h : textOf p = s.data.toList) : (body s).size ≤ 39 ∧ valD (body s).data.toList ≤ 170141183460469231731687303715884105728 := by
  have ha := inW_abs hp
  have e : (body s).data.toList = dec p.natAbs := by
    rw [body_list, ← h]
    by_cases hn : p < 0
    · rw [if_pos ((textOf_sign hp).2 hn)]
      unfold textOf; rw [if_pos hn]; rfl
    · rw [if_neg (fun e => hn ((textOf_sign hp).1 e))]
      unfold textOf; rw [if_neg hn]
  constructor
  · rw [size_list, e]; exact dec_length _ (by omega)
  · rw [e, valD_dec _ (by omega)]; exact ha
theorem parsed_in (s : ByteArray) : InW (parsed s) := by
  unfold parsed; split
  · exact sm_in _
  · unfold digitsOf; exact sm_in _
theorem long_no {s : ByteArray} (h : 39 < (body s).size) : ¬ textOf (parsed s) = s.data.toList := fun e => by
  have := (text_fits (parsed_in s) e).1; omega
theorem great_no {s : ByteArray} {j : Nat} (h : 340282366920938463463374607431768211456 ≤ valD ((body s).data.toList.take j)) : ¬ textOf (parsed s) = s.data.toList := fun e => by
  have h1 := (text_fits (parsed_in s) e).2
  have h2 := valD_take (body s).data.toList j
  omega
end Go.Proofs.Ytafgfpppemdedaa
