/- The walk of AggFolds. -/
import Derived.Test.YtipjhlabcbkgjaaAggAwake
import Derived.Test.YtipjhlabcbkgjaaAggFew
import Derived.Test.YtipjhlabcbkgjaaAggRFold
import Derived.Test.YtipjhlabcbkgjaaAggArgs
set_option maxRecDepth 20000
namespace Go.Proofs.Ytipjhlabcbkgjaa.aggFolds
open Go.RowKit Go.Proofs.Ytipjhlabcbkgjaa Go.Proofs.Ytipjhlabcbkgjaa.Wd Go.Proofs.Ytipjhlabcbkgjaa.Vi Go.Proofs.Ytipjhlabcbkgjaa.Mk Go.Proofs.Ytipjhlabcbkgjaa.Ag

set_option maxHeartbeats 2000000 in
theorem walk (a0 : Option Addr) (len cap : Nat) (w : World) (h : ArgPts w a0 len cap) : Calls Try.prog 4 #[.slice a0 len cap] w fun e w' => e = .returned (.bool true) ∧ Below w.heap.size w w' := by
  obtain ⟨⟨l, hl, hP, hlen, hf⟩, hc⟩ := h
  obtain ⟨m, hm⟩ : ∃ m, l.take 40 = m := ⟨_, rfl⟩
  obtain ⟨k, hk⟩ : ∃ k, min len 40 = k := ⟨_, rfl⟩
  have hmk : m.length = k := by rw [← hm, List.length_take, hl, ← hk, Nat.min_comm]
  have hPm : Pts w w.heap.size a0 m := by rw [← hm]; exact hP.take 40
  have hfm : ∀ p ∈ m, p.fits := fun p hp => hf p (by rw [← hm] at hp; exact List.mem_of_mem_take hp)
  have HP := Lib.hid hPm
  have HF := Lib.hid hfm
  obtain ⟨z, hz⟩ : ∃ z, foldA m = z := ⟨_, rfl⟩
  have kw := fun w => few_is a0 len cap w hc
  have kp := fun c W (hp : Pts W W.heap.size a0 m) => fold_is a0 c k m W (Lib.hid hmk) hp HF.out (by omega)
  have kd := fun c W (hp : Pts W W.heap.size a0 m) => rfold_is a0 c k m W (Lib.hid hmk) hp HF.out (by omega)
  rw [hz] at kp kd
  unfold FewDone at kw
  rw [hk] at kw
  have q0 := fun w => eqAg_self z w
  have g0 := fun x y w => guardAg x y z z w
  clear hz hP hf hPm hfm hm hl hmk hlen hc hk
  go_enter Try.func4, Try.ntmps4
  go_wp2_with (first
    | (go_at_call 11; (with_reducible refine (awake_is _).mono ?_); rintro e w1 ⟨rfl, hb1⟩; (have H1 := Lib.hid hb1); clear hb1)
    | (go_at_call 18; (with_reducible refine (kw _).mono ?_); rintro e w2 ⟨c, rfl, rfl⟩)
    | (go_at_call 19; (with_reducible refine (kp c _ ((HP.out.below H1.out).mono H1.out.size)).mono ?_); rintro e w3 ⟨rfl, hb3⟩; (have H3 := Lib.hid (bel_next H1.out hb3)); clear hb3)
    | (go_at_call 20; (with_reducible refine (kd c _ ((HP.out.below H3.out).mono H3.out.size)).mono ?_); rintro e w4 ⟨rfl, hb4⟩))
  go_ret
  exact ⟨rfl, by have := H3.out; exact bel_next this (by assumption)⟩
end Go.Proofs.Ytipjhlabcbkgjaa.aggFolds
