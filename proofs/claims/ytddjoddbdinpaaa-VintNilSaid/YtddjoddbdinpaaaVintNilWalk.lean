/- The walk of law VintNil: it returns true and turns nothing that was there. -/
import Derived.Test.YtddjoddbdinpaaaVintAwake
import Derived.Test.YtddjoddbdinpaaaVintSmall
namespace Go.Proofs.Ytddjoddbdinpaaa.vintNil
open Go.RowKit Go.Proofs.Ytddjoddbdinpaaa Go.Proofs.Ytddjoddbdinpaaa.Vi

theorem walk (n0 : Int) (w : World) (_hn : -9223372036854775808 ≤ n0 ∧ n0 ≤ 9223372036854775807) :
    Calls Try.prog 8 #[.int .i64 n0] w fun e w' => e = .returned (.bool true) ∧ Below w.heap.size w w' := by
  have hA0 : RA (w.alloc (.cells #[.string ⟨#[]⟩, .bool false] 54)) w.heap.size ⟨#[]⟩ false := ⟨by simp [go_sem], by simp [go_sem], by simp [go_sem], by simp [go_sem]⟩
  have q1 : endQ ⟨#[]⟩ false = 0 := by decide
  have q2 : endQ ⟨#[]⟩ true = 10 := by decide
  have q3 : numQ ⟨#[]⟩ false = (0, ⟨#[]⟩, true) := rfl
  have Q1 := Lib.hid q1
  have Q2 := Lib.hid q2
  have Q3 := Lib.hid q3
  clear q1 q2 q3
  go_enter Try.func8, Try.ntmps8
  go_wp2_with (first
    | (go_at_call 10; (with_reducible refine (awake_any _).mono ?_); rintro e w1 ⟨rfl, hb1⟩; have hA1 := hA0.below hb1)
    | (go_at_call 25; first | ((with_reducible refine (num_nil _).mono ?_); rintro e w2 ⟨rfl, rfl⟩) | ((with_reducible refine (num_is _ _ _ _ _ _ _ (by decide) Q3 hA2).mono ?_); rintro e w3 ⟨rfl, hA3, hB3⟩))
    | (go_at_call 27; (with_reducible refine (int_nil _).mono ?_); rintro e w2 ⟨rfl, rfl⟩)
    | (go_at_call 29; (with_reducible refine (small_nil _ _).mono ?_); rintro e w2 ⟨rfl, hb2⟩; have hA2 := hA1.below hb2)
    | (go_at_call 31; (with_reducible refine (text_nil _).mono ?_); rintro e w2 ⟨rfl, rfl⟩)
    | (go_at_call 33; (with_reducible refine (left_nil _).mono ?_); rintro e w2 ⟨rfl, rfl⟩)
    | (go_at_call 35; first | ((with_reducible refine (end_nil _).mono ?_); rintro e w2 ⟨rfl, rfl⟩) | ((with_reducible refine (end_is _ _ _ _ _ hA3 Q2).mono ?_); rintro e w2 ⟨rfl, rfl⟩) | ((with_reducible refine (end_is _ _ _ _ _ hA2 Q1).mono ?_); rintro e w2 ⟨rfl, rfl⟩)))
  go_ret
  have h1 := hb1.size
  have h2 := hb2.size
  simp at h1
  exact ⟨rfl, ((((Below.refl _ _).alloc (Nat.le_refl _) _).trans (hb1.mono (by simp))).trans (hb2.mono (by omega))).trans (hB3.below (Nat.le_refl _) (by omega))⟩
end Go.Proofs.Ytddjoddbdinpaaa.vintNil
