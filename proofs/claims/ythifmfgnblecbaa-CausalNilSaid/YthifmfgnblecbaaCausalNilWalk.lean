/- CausalNil. -/
import Derived.Test.YthifmfgnblecbaaCbAwake
set_option maxRecDepth 20000
set_option linter.unusedSimpArgs false
set_option linter.unusedVariables false
namespace Go.Proofs.Ythifmfgnblecbaa.Og.Cb
open Go.RowKit Go.Maps Go.Proofs.Ythifmfgnblecbaa.Vi Go.Proofs.Ythifmfgnblecbaa.Mk

namespace causalNil
def cR : Rec := lawR 0 3 [2]
def u1 : CS := offS zeroC bR
def u2 : CS := nextS u1
theorem h_1 : offE zeroC bR = 0 := by kernel_rfl
theorem h_2 : nextR u1 = some bR := by kernel_rfl
theorem h_3 : offE u2 cR = 2 := by kernel_rfl
theorem h_4 : offS u2 cR = u2 := offS_no (by rw [h_3]; decide)
theorem h_5 : lackL zeroC = [] := rfl
theorem sure_zero {K : List Int} (h : SureV zeroC K) : K = [] := by
  obtain ⟨f, rfl, hf⟩ := h
  have : vec f = vec fun _ => 0 := vec_congr fun i hi => (hf i hi).uniq ⟨by unfold zeroC; dsimp only; rw [atL_nil]; omega, fun j h1 h2 => by unfold zeroC at h1; dsimp only at h1; rw [atL_nil] at h1; omega, rfl⟩
  rw [this]; rfl
theorem bx_zero (w0 w : World) (h : Below w0.heap.size w0 w) : Bx (fun _ => False) w0 (w.alloc (.cells #[.int .i64 0, .slice none 0 0, .map none] 55)) w.heap.size zeroC := by
  refine ⟨fun q => q = w.heap.size, ⟨none, .slice none 0 0, ⟨new_block (Below.refl _ _), (Nums.nil _ none 0).mono (Nat.zero_le _) (Nat.le_refl _), fun hn => absurd rfl hn, fun q hq => ?_, rfl, fun _ => rfl, fun m e => (by cases e), zeroC_good⟩⟩, fun _ _ h => h, bel_new h _, fun _ h => h.elim⟩
  subst hq
  exact ⟨h.size, by simp⟩
set_option maxHeartbeats 8000000 in
theorem walk (n : Int) (w : World) (_ : -9223372036854775808 ≤ n ∧ n ≤ 9223372036854775807) : Calls Try.prog 6 #[.int .i64 n] w fun e w' => e = .returned (.bool true) ∧ Below w.heap.size w w' := by
  have HNIL := Lib.hid (fun (W : World) => (show Ns W (.slice none 0 0) [] from (Nums.nil W none 0).mono (Nat.zero_le _) (Nat.le_refl W.heap.size)))
  have r1 := fun W => record_is 0 1 none 0 [] W
  have r2 := fun g W => record_is 0 3 (some ⟨g, 0, none⟩) 1 [2] W
  simp only [List.length_nil, List.length_cons, Nat.zero_add, Nat.reduceAdd] at r1 r2
  have R1 := Lib.hid r1
  have R2 := Lib.hid r2
  have o1 := fun (W : World) (b : Nat) (h : Bx (fun _ => False) w W b zeroC) => (show Calls Try.prog 16 #[.pointer (some ⟨b, 0, none⟩), recV bR (.slice none 0 0)] W (fun e w' => e = .returned (.int .i64 0) ∧ Bx (fun _ => False) w w' b u1) from by
    have h1 := h.Offer ⟨bR, none, 0⟩ (HNIL.out _) (lawR_fits _ _ _ (by omega) (by omega)) (show (0 : Nat) ≤ 1000000 by omega)
    dsimp only at h1
    rw [h_1] at h1
    exact h1.mono (by rintro e w' ⟨g1, g2, g3⟩; exact ⟨g1, g2⟩))
  have o2 := fun (W : World) (b g : Nat) (h : Bx (fun _ => False) w W b u2) (hN : Ns W (.slice (some ⟨g, 0, none⟩) 1 1) [2]) => (show Calls Try.prog 16 #[.pointer (some ⟨b, 0, none⟩), recV (lawR 0 3 [2]) (.slice (some ⟨g, 0, none⟩) 1 1)] W (fun e w' => e = .returned (.int .i64 2) ∧ Bx (fun _ => False) w w' b u2) from by
    have h1 := h.Offer ⟨cR, some ⟨g, 0, none⟩, 1⟩ hN (lawR_fits _ _ _ (by omega) (by omega)) (show (1 : Nat) ≤ 1000000 by omega)
    dsimp only at h1
    rw [h_3, h_4] at h1
    exact h1.mono (by rintro e w' ⟨g1, g2, g3⟩; exact ⟨g1, g2⟩))
  have n1 := fun (W : World) (b : Nat) (h : Bx (fun _ => False) w W b u1) => h.next_some h_2
  have O1 := Lib.hid o1
  have O2 := Lib.hid o2
  have N1 := Lib.hid n1
  have NN := Lib.hid (fun (W : World) => next_nil W)
  have NO := Lib.hid (fun (W : World) => (show Calls Try.prog 16 #[.pointer none, recV bR (.slice none 0 0)] W (fun e w' => e = .returned (.int .i64 3) ∧ Below W.heap.size W w') from offer_nil ⟨bR, none, 0⟩ W))
  have QO := Lib.hid (fun (W : World) => out_is (Rb.nil W))
  have QS := Lib.hid (fun (W : World) => sure_is (Rb.nil W))
  have QL := Lib.hid (fun (W : World) => len_is (Rb.nil W))
  have QK := Lib.hid (fun (W : World) => lacks_is (Rb.nil W))
  have AW := Lib.hid (fun (W : World) => awake_is W)
  clear r1 r2 o1 o2 n1
  go_enter Try.func6, Try.ntmps6
  go_upto_region 3 with fail
  have HX := Lib.hid (bx_zero w w (Below.refl _ _))
  obtain ⟨w1, hw1⟩ : ∃ x, w.alloc (.cells #[.int .i64 0, .slice none 0 0, .map none] 55) = x := ⟨_, rfl⟩
  obtain ⟨z, hz⟩ : ∃ z, w.heap.size = z := ⟨_, rfl⟩
  rw [hw1] at HX ⊢
  have HX0 := HX.out
  rw [hz] at HX ⊢
  clear hw1 HX0
  have HWZ := Lib.hid hz
  clear hz
  go_upto_region 4 with (go_at_call 12; (with_reducible refine (NN.out _).mono ?_); rintro e w2 ⟨x2, rfl, hb2⟩; (replace HX := Lib.hid ((show Bx (fun _ => False) w w1 z zeroC by rw [← HWZ.out] at HX ⊢; exact HX.out).later hb2)); (obtain ⟨⟨rk, rs, rt, rv, rtier, ⟨rc, rst, rq⟩, rd⟩, ra, rcc⟩ := x2); (unfold recV Rd.dv); (dsimp only); clear hb2)
  obtain ⟨v2, hv2⟩ : ∃ x, w2.alloc (.cells #[.int .i64 rk, .string rs, .int .i64 rt, .int .i64 rv, .int .i64 rtier, .int .i64 rc, .int .i64 rst, .int .i64 rq, .slice ra rd.length rcc] 33) = x := ⟨_, rfl⟩
  replace HX := Lib.hid (show Bx (fun _ => False) w v2 z zeroC by rw [← hv2]; exact HX.out.later ((Below.refl w2.heap.size w2).alloc (Nat.le_refl _) _))
  rw [hv2]
  clear hv2
  go_upto_region 5 with (first | (go_at_call 29; (with_reducible refine (R1.out _).mono ?_); rintro e w3 ⟨rfl, hb3⟩; (replace HX := Lib.hid (HX.out.later hb3)); clear hb3) | (go_at_call 16; (with_reducible refine (O1.out _ _ HX.out).mono ?_); rintro e w4 ⟨rfl, hd4⟩; (replace HX := Lib.hid hd4); clear hd4))
  go_upto_region 6 with (go_at_call 12; (with_reducible refine (N1.out _ _ HX.out).mono ?_); rintro e w5 ⟨a5, k5, rfl, -, hd5, -⟩; (replace HX := Lib.hid hd5); (try unfold recV); (try unfold aR); (try unfold bR); (try unfold lawR); (try unfold Rec.zero); (try dsimp only); clear hd5)
  obtain ⟨v5, hv5⟩ : ∃ x, w5.alloc (.cells #[.int .i64 1, .string ⟨#[97]⟩, .int .i64 1, .int .i64 0, .int .i64 0, .int .i64 1, .int .i64 0, .int .i64 1, .slice a5 0 k5] 33) = x := ⟨_, rfl⟩
  replace HX := Lib.hid (show Bx (fun _ => False) w v5 z u2 by rw [← hv5]; exact HX.out.later ((Below.refl w5.heap.size w5).alloc (Nat.le_refl _) _))
  rw [hv5]
  clear hv5
  go_wp2_with (first
    | (go_at_call 8; (with_reducible refine (AW.out _).mono ?_); rintro e w6 ⟨rfl, hb6⟩; (replace HX := Lib.hid (HX.out.later hb6)); clear hb6)
    | (go_at_call 29; (with_reducible refine (R1.out _).mono ?_); rintro e w7 ⟨rfl, hb7⟩; (replace HX := Lib.hid (HX.out.later hb7)); clear hb7)
    | (go_at_call 16; (with_reducible refine (NO.out _).mono ?_); rintro e w8 ⟨rfl, hb8⟩; (replace HX := Lib.hid (HX.out.later hb8)); clear hb8)
    | (go_at_call 19; (with_reducible refine (QO.out _).mono ?_); rintro e w9 ⟨v9, rfl, hn9, hb9, -⟩; (replace HX := Lib.hid (HX.out.later hb9)); (obtain ⟨a9, c9, rfl⟩ := hn9.slice); (unfold zeroC); (dsimp only [List.length_nil]); clear hb9 hn9)
    | (go_at_call 20; (with_reducible refine (QS.out _).mono ?_); rintro e w10 ⟨v10, K, rfl, hn10, hs10, hb10⟩; (replace HX := Lib.hid (HX.out.later hb10)); (have hK := sure_zero hs10); subst hK; (obtain ⟨a10, c10, rfl⟩ := hn10.slice); (dsimp only [List.length_nil]); clear hb10 hn10 hs10)
    | (go_at_call 24; (with_reducible refine (QL.out _).mono ?_); rintro e w11 ⟨rfl, rfl⟩; (unfold zeroC); (dsimp only [List.length_nil]))
    | (go_at_call 22; (with_reducible refine (QK.out _).mono ?_); rintro e w12 ⟨v12, rfl, hn12, hb12⟩; (replace HX := Lib.hid (HX.out.later hb12)); (rw [h_5] at hn12); (obtain ⟨a12, c12, rfl⟩ := hn12.slice); (dsimp only [List.length_nil]); clear hb12 hn12)
    | (go_at_call 29; (with_reducible refine (R2.out _ _).mono ?_); rintro e w13 ⟨rfl, hb13⟩; (have HN13 := Lib.hid (Ns.later (lit1 (w12.alloc (.cells #[.int .i64 2] 3)) w12.heap.size 2 (by simp [go_sem]) (by unfold Small; omega)) hb13)); (replace HX := Lib.hid ((HX.out.later ((Below.refl w12.heap.size w12).alloc (Nat.le_refl _) (.cells #[.int .i64 2] 3))).later hb13)); clear hb13)
    | (go_at_call 16; (with_reducible refine (O2.out _ _ _ HX.out HN13.out).mono ?_); rintro e w14 ⟨rfl, hd14⟩; (replace HX := Lib.hid hd14); clear hd14))
  go_ret
  exact ⟨rfl, HX.out.bel⟩
end causalNil
end Go.Proofs.Ythifmfgnblecbaa.Og.Cb
