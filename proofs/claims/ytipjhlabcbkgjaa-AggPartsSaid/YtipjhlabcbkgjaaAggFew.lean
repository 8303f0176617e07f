/- Contract: few. -/
import Derived.Test.YtipjhlabcbkgjaaAggPts
import Derived.Test.YtipjhlabcbkgjaaProg
set_option maxRecDepth 20000
namespace Go.Proofs.Ytipjhlabcbkgjaa.Ag
open Go.RowKit Go.Proofs.Ytipjhlabcbkgjaa Go.Proofs.Ytipjhlabcbkgjaa.Wd Go.Proofs.Ytipjhlabcbkgjaa.Vi Go.Proofs.Ytipjhlabcbkgjaa.Mk

/-- What few answers: the first 40. -/
def FewDone (a0 : Option Addr) (n : Nat) (w : World) (e : Ending) (w' : World) : Prop := ∃ c, e = .returned (.slice a0 (min n 40) c) ∧ w = w'
set_option maxHeartbeats 1000000 in
theorem few_is (a0 : Option Addr) (n cap : Nat) (w : World) (hc : n ≤ cap) : Calls Try.prog 18 #[.slice a0 n cap] w (FewDone a0 n w) := by
  by_cases h : 40 < n
  · have hi : (40 : Int) < (n : Int) := by omega
    have hm : min n 40 = 40 := by omega
    have HM := Lib.hid hm
    have h40 : 40 ≤ cap := by omega
    have h40i : (40 : Int) ≤ (cap : Int) := by omega
    clear hm
    go_enter Try.func18, Try.ntmps18
    go_wp2
    go_ret
    exact ⟨cap, by rw [HM.out]; rfl, rfl⟩
  · have hi : ¬ (40 : Int) < (n : Int) := by omega
    have HM := Lib.hid (show min n 40 = n by omega)
    go_enter Try.func18, Try.ntmps18
    go_wp2
    go_ret
    exact ⟨cap, by rw [HM.out]; rfl, rfl⟩
end Go.Proofs.Ytipjhlabcbkgjaa.Ag
