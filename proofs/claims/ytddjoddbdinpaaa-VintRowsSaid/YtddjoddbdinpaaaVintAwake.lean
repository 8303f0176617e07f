/- The chapter's examples hold. -/
import Derived.Test.YtddjoddbdinpaaaVintAll
import Derived.Test.YtddjoddbdinpaaaVintGet
import Derived.Test.YtddjoddbdinpaaaVintSmall
namespace Go.Proofs.Ytddjoddbdinpaaa
open Go.RowKit Go.Proofs.Ytddjoddbdinpaaa.Vi

theorem put_0 : tx (enc 0) = ⟨#[0]⟩ := by rw [enc_small (by omega)]; rfl
theorem put_127 : tx (enc 127) = ⟨#[127]⟩ := by rw [enc_small (by omega)]; rfl
theorem put_128 : tx (enc 128) = ⟨#[128, 1]⟩ := by rw [enc_great (by omega), enc_small (by omega)]; rfl
theorem put_300 : tx (enc 300) = ⟨#[172, 2]⟩ := by rw [enc_great (by omega), enc_small (by omega)]; rfl

set_option maxHeartbeats 1000000 in
theorem awake_any (w : World) : Calls Try.prog 10 #[] w fun e w' => e = .returned (.bool true) ∧ Below w.heap.size w w' := by
  have p0 : ∀ w, Calls Try.prog 12 #[.int .u64 0] w (TextDone ⟨#[0]⟩ w) := fun w => put_is 0 _ w (by omega) (Lib.hid put_0)
  have p1 : ∀ w, Calls Try.prog 12 #[.int .u64 127] w (TextDone ⟨#[127]⟩ w) := fun w => put_is 127 _ w (by omega) (Lib.hid put_127)
  have p2 : ∀ w, Calls Try.prog 12 #[.int .u64 128] w (TextDone ⟨#[128, 1]⟩ w) := fun w => put_is 128 _ w (by omega) (Lib.hid put_128)
  have p3 : ∀ w, Calls Try.prog 12 #[.int .u64 300] w (TextDone ⟨#[172, 2]⟩ w) := fun w => put_is 300 _ w (by omega) (Lib.hid put_300)
  have g1 := fun w => get_is ⟨#[128, 0]⟩ 0 0 0 10 w (by decide) (by omega) (by omega) (Lib.hid (by decide))
  have g2 := fun w => get_is ⟨#[128]⟩ 0 0 0 10 w (by decide) (by omega) (by omega) (Lib.hid (by decide))
  have z1 := fun w => zig_any (-1) w (by omega) (by omega)
  have z2 := fun w => zig_any 1 w (by omega) (by omega)
  have z3 := fun w => zag_any 3 w (by omega) (by omega)
  rw [show zig (-1) = 1 by decide] at z1
  rw [show zig 1 = 2 by decide] at z2
  rw [show zag 3 = -2 by decide] at z3
  go_enter Try.func10, Try.ntmps10
  go_wp2_with (first
    | (go_at_call 22; first | ((with_reducible refine (g1 _).mono ?_); rintro e w1 ⟨rfl, rfl⟩) | ((with_reducible refine (g2 _).mono ?_); rintro e w1 ⟨rfl, rfl⟩))
    | (go_at_call 14; first | ((with_reducible refine (z1 _).mono ?_); rintro e w1 ⟨rfl, rfl⟩) | ((with_reducible refine (z2 _).mono ?_); rintro e w1 ⟨rfl, rfl⟩))
    | (go_at_call 16; ((with_reducible refine (z3 _).mono ?_); rintro e w1 ⟨rfl, rfl⟩))
    | (go_at_call 12; first | ((with_reducible refine (p0 _).mono ?_); rintro e w1 ⟨rfl, hb1⟩) | ((with_reducible refine (p1 _).mono ?_); rintro e w2 ⟨rfl, hb2⟩) | ((with_reducible refine (p2 _).mono ?_); rintro e w3 ⟨rfl, hb3⟩) | ((with_reducible refine (p3 _).mono ?_); rintro e w4 ⟨rfl, hb4⟩)))
  go_ret
  exact ⟨rfl, ((hb1.trans (hb2.mono hb1.size)).trans (hb3.mono (Nat.le_trans hb1.size hb2.size))).trans (hb4.mono (Nat.le_trans (Nat.le_trans hb1.size hb2.size) hb3.size))⟩
end Go.Proofs.Ytddjoddbdinpaaa
