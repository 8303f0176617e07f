/- A number's text is parsed as the number. -/
import Derived.Test.YtafgfpppemdedaaWideTri
namespace Go.Proofs.Ytafgfpppemdedaa
open Go.RowKit Go.Proofs.Ytafgfpppemdedaa.Wd

/-- The text of a number. -/
def textB (a : Int) : ByteArray := ⟨(textOf a).toArray⟩
theorem textB_list (a : Int) : (textB a).data.toList = textOf a := rfl
theorem textB_size (a : Int) : (textB a).size = (textOf a).length := by rw [size_list, textB_list]
theorem body_textB {a : Int} (h : InW a) : (body (textB a)).data.toList = dec a.natAbs := by
  rw [body_list, textB_list]
  by_cases ha : a < 0
  · have := (textOf_sign h).2 ha
    rw [if_pos this]
    unfold textOf; rw [if_pos ha]; rfl
  · rw [if_neg (fun e => ha ((textOf_sign h).1 e))]
    unfold textOf; rw [if_neg ha]
theorem numB_textB {a : Int} (h : InW a) : numB (textB a).data.toList = true := by
  have hn := inW_abs h
  have hb := body_textB h
  have hl := dec_ne a.natAbs (by omega)
  have hp : 0 < (body (textB a)).size := by
    rw [size_list, hb]; exact List.length_pos_iff.2 hl
  rw [numB_cons _ hp]
  split
  · rename_i h48
    by_cases h0 : a.natAbs = 0
    · have : a = 0 := by omega
      subst this; decide
    · obtain ⟨c, t, e, hc⟩ := dec_head a.natAbs h0 (by omega)
      rw [e] at hb
      have : (body (textB a))[0] = c := by
        show (body (textB a)).data[0] = c
        have := List.getElem_of_eq hb (i := 0) (by rw [← size_list]; exact hp)
        simpa using this
      exact absurd (this ▸ h48) hc
  · rw [hb]; exact dec_digits _
theorem digits_textB {a : Int} (h : InW a) : digitsOf (textB a) = sm (a.natAbs : Int) := by
  have hn := inW_abs h
  unfold digitsOf
  rw [body_textB h, valD_dec _ (by omega)]
theorem negB_textB {a : Int} (h : InW a) : negB (textB a) = decide (a < 0) := by
  unfold negB
  rw [textB_list, Bool.eq_iff_iff]
  simp only [decide_eq_true_eq]
  exact textOf_sign h
theorem parsed_textB {a : Int} (h : InW a) : parsed (textB a) = a := by
  unfold parsed
  rw [negB_textB h, digits_textB h]
  by_cases ha : a < 0
  · rw [if_pos (by simpa using ha)]
    have e : Cong (-(sm (a.natAbs : Int))) a := by
      have := (sm_cong (a.natAbs : Int)).neg
      have e2 : -(a.natAbs : Int) = a := by omega
      rwa [e2] at this
    rw [sm_eq e, sm_self h]
  · rw [if_neg (by simpa using ha)]
    have e2 : (a.natAbs : Int) = a := by omega
    rw [e2, sm_self h]
theorem parse_textB {h l a : Int} (A : Rep h l a) : Hid (ParseIs (textB a) h l 0) := by
  show ParseIs _ _ _ _
  unfold ParseIs
  rw [if_neg (by rw [numB_textB A.inW]; simp), if_pos (by rw [parsed_textB A.inW, textB_list]), parsed_textB A.inW]
  exact ⟨A, rfl⟩
theorem textB_eq {a b : Int} (A : InW a) (B : InW b) : (textB a).toList = (textB b).toList ↔ a = b := by
  rw [ByteArray.toList_eq, ByteArray.toList_eq, textB_list, textB_list]
  exact ⟨fun e => textOf_inj A B e, fun e => by rw [e]⟩
end Go.Proofs.Ytafgfpppemdedaa
