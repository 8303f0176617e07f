/- The chapter's examples hold. -/
import Derived.Test.YtjckphmkhikpaaaSamplePBytes
import Derived.Test.YtjckphmkhikpaaaMarkNs
set_option maxRecDepth 20000
namespace Go.Proofs.Ytjckphmkhikpaaa
open Go.RowKit Go.Proofs.Ytjckphmkhikpaaa.Vi Go.Proofs.Ytjckphmkhikpaaa.Mk

theorem awake6_text : tx (Rec.bytes ⟨1, ⟨#[97]⟩, 1, -1, 0, ⟨1, 0, 1⟩, []⟩) = ⟨#[1, 1, 97, 1, 1, 1, 0, 1, 0]⟩ := by
  have e0 : plainL [] = [] := by decide
  have e1 : (St.bytes ⟨1, 0, 1⟩) = enc 1 ++ enc 0 ++ enc 1 := St.bytes_yes (by decide)
  have e2 : Rec.mid ⟨1, ⟨#[97]⟩, 1, -1, 0, ⟨1, 0, 1⟩, []⟩ = (enc 1 ++ [97]) ++ enc 1 ++ enc 1 := if_pos rfl
  unfold Rec.bytes
  simp only
  rw [e0, e1, e2]
  show tx (enc 1 ++ ((enc 1 ++ [97]) ++ enc 1 ++ enc 1) ++ (enc 1 ++ enc 0 ++ enc 1) ++ (enc 0 ++ [])) = _
  rw [enc_small (show 1 < 128 by omega), enc_small (show 0 < 128 by omega)]; rfl

set_option maxHeartbeats 4000000 in
theorem awake_any (w : World) : Calls Try.prog 9 #[] w fun e w' => e = .returned (.bool true) ∧ Below w.heap.size w w' := by
  have hf : Rec.fits ⟨1, ⟨#[97]⟩, 1, -1, 0, ⟨1, 0, 1⟩, []⟩ := ⟨by simp, by decide, by simp, by simp, by simp, by simp⟩
  have hf1 : Rec.fits ⟨1, ⟨#[97]⟩, 1, -1, 0, ⟨1, 0, 1⟩, [1]⟩ := ⟨by simp, by decide, by simp, by simp, by simp, by simp⟩
  have kB := fun w h => bytes6_sample ⟨1, ⟨#[97]⟩, 1, -1, 0, ⟨1, 0, 1⟩, []⟩ (.slice none 0 0) w _ h hf (by decide) rfl (Lib.hid awake6_text)
  have kC := fun dv w h => check6_is ⟨1, ⟨#[97]⟩, 1, -1, 0, ⟨1, 0, 1⟩, [1]⟩ dv w h hf1
  have he : Rec.err ⟨1, ⟨#[97]⟩, 1, -1, 0, ⟨1, 0, 1⟩, [1]⟩ = 1 := by decide
  rw [he] at kC
  unfold recV at kB kC
  dsimp only at kB kC
  have n1 := fun w => name_is ⟨#[99, 112, 117, 46, 48]⟩ true w (by decide) (Lib.hid (by decide))
  have n2 := fun w => name_is ⟨#[48, 99, 112, 117]⟩ false w (by decide) (Lib.hid (by decide))
  have n3 := fun w => name_is ⟨#[]⟩ false w (by decide) (Lib.hid (by decide))
  have hs1 : Small 1 := by unfold Small; omega
  have H0 : RHeld w w.heap.size ⟨1, ⟨#[97]⟩, 1, -1, 0, ⟨1, 0, 1⟩, []⟩ (.slice none 0 0) (w.alloc (.cells #[.int .i64 1, .string ⟨#[97]⟩, .int .i64 1, .int .i64 (-1), .int .i64 0, .int .i64 1, .int .i64 0, .int .i64 1, .slice none 0 0] 26)) := RHeld.new (r := ⟨1, ⟨#[97]⟩, 1, -1, 0, ⟨1, 0, 1⟩, []⟩) ((Nums.nil w none 0).mono (Nat.zero_le _) (Nat.le_refl _))
  clear hf hf1 he
  go_enter Try.func9, Try.ntmps9
  go_wp2_with (first
    | (go_at_call 12; (with_reducible refine (kB _ H0.ns).mono ?_); rintro e w1 ⟨rfl, hb1⟩; have H1 := H0.keep hb1; have hat := H1.at_; obtain ⟨x0, x1, x2, x3, x4, x5, x6, x7, x8⟩ := hat; dsimp only at x0 x1 x2 x3 x4 x5 x6 x7 x8; have y8 : w1.frozen? ⟨w.heap.size, 8, none⟩ = false := (hb1.frozen (p := ⟨w.heap.size, 8, none⟩) (by simp)).trans (by simp [go_sem]); have hr1 : w.heap.size < w1.heap.size := World.block_lt_of_cell? w1 _ x8; have hne : ¬ w1.heap.size = w.heap.size := by omega)
    | (go_at_call 18; first
      | ((with_reducible refine (n1 _).mono ?_); rintro e w2 ⟨rfl, rfl⟩)
      | ((with_reducible refine (n2 _).mono ?_); rintro e w2 ⟨rfl, rfl⟩)
      | ((with_reducible refine (n3 _).mono ?_); rintro e w2 ⟨rfl, rfl⟩))
    | (go_at_call 16; (with_reducible refine (kC _ _ ?h1).mono ?_); (case h1 => (refine lit1 _ _ 1 ?_ hs1; simp [go_sem]; done)); rintro e w3 ⟨rfl, hb3⟩))
  go_ret
  refine ⟨rfl, ?_⟩
  exact bel_next (bel_new (H1.bel.setCell (p := ⟨w.heap.size, 8, none⟩) (Nat.le_refl _) _) _) hb3
end Go.Proofs.Ytjckphmkhikpaaa
