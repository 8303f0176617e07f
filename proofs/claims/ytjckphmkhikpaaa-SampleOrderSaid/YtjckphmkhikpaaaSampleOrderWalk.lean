/- The walk of law SampleOrder. -/
import Derived.Test.YtjckphmkhikpaaaSampleOrderA
import Derived.Test.YtjckphmkhikpaaaSampleOrderB
import Derived.Test.YtjckphmkhikpaaaSampleOrderC
import Derived.Test.YtjckphmkhikpaaaSampleOrderD
set_option maxRecDepth 20000
namespace Go.Proofs.Ytjckphmkhikpaaa.sampleOrder
open Go.RowKit Go.Proofs.Ytjckphmkhikpaaa Go.Proofs.Ytjckphmkhikpaaa.Vi Go.Proofs.Ytjckphmkhikpaaa.Mk

theorem core (a b c : Pt) : Rest a b c := by
  by_cases h1 : a.s = b.s
  · rcases Int.lt_trichotomy a.t b.t with ht | ht | ht
    · have h : a.before b = true := by rw [before_s h1]; exact decide_eq_true ht
      cases k : b.before c with
      | true => exact caseT11 a b c h1 h k
      | false => exact caseT10 a b c h1 h k
    · cases h : b.st.lt a.st with
      | true =>
        cases k : b.newer c with
        | true => exact caseP101 a b c h1 ht h k
        | false => exact caseP100 a b c h1 ht h k
      | false =>
        cases k : a.st.lt b.st with
        | true => exact caseP010 a b c h1 ht k
        | false => exact caseP000 a b c h1 ht (St.lt_eq k h)
    · exact caseF1 a b c h1 (by rw [before_s h1]; exact decide_eq_false (by omega)) (by rw [before_s h1.symm]; exact decide_eq_true ht)
  · cases h : a.before b with
    | true =>
      cases k : b.before c with
      | true => exact caseT01 a b c h1 h k
      | false => exact caseT00 a b c h1 h k
    | false => exact caseF0 a b c h1 h (by rw [before_ne h1] at h; rw [before_ne (fun e => h1 e.symm)]; exact lessB_or h1 h)
theorem walk (a b c : Pt) (w : World) (_ : a.fits) (_ : b.fits) (_ : c.fits) : Calls Try.prog 7 #[ptV a, ptV b, ptV c] w fun e w' => e = .returned (.bool true) ∧ Below w.heap.size w w' := core a.short b.short c.short a b c w rfl
end Go.Proofs.Ytjckphmkhikpaaa.sampleOrder
