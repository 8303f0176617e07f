/- awake. -/
import Derived.Test.YthifmfgnblecbaaCbDuo
import Derived.Deep.CutRange
set_option maxRecDepth 20000
set_option linter.unusedSimpArgs false
set_option linter.unusedVariables false
namespace Go.Proofs.Ythifmfgnblecbaa.Og.Cb
open Go.RowKit Go.Maps Go.Proofs.Ythifmfgnblecbaa.Vi Go.Proofs.Ythifmfgnblecbaa.Mk

abbrev aR : Rec := lawR 0 2 [1]
abbrev bR : Rec := lawR 0 1 []
def s0 : CS := newC 5 []
def s1 : CS := offS s0 aR
def s2 : CS := offS s1 bR
def s3 : CS := nextS s2
def s4 : CS := nextS s3
def t0 : CS := newC 0 []
def t1 : CS := offS t0 bR
theorem f_1 : offE s0 aR = 0 := by kernel_rfl
theorem g_1 : nextR s1 = none := by kernel_rfl
theorem f_2 : offE s1 bR = 0 := by kernel_rfl
theorem g_2 : nextR s2 = some bR := by kernel_rfl
theorem g_3 : nextR s3 = some aR := by kernel_rfl
theorem f_4 : offE s4 bR = 1 := by kernel_rfl
theorem f_5 : offE t0 aR = 2 := by kernel_rfl
theorem f_6 : offE t0 bR = 0 := by kernel_rfl
theorem s_4 : offS s4 bR = s4 := offS_no (by rw [f_4]; decide)
theorem t_0 : offS t0 aR = t0 := offS_no (by rw [f_5]; decide)
set_option maxHeartbeats 8000000 in
theorem awake_is (w : World) : Calls Try.prog 8 #[] w fun e w' => e = .returned (.bool true) ∧ Below w.heap.size w w' := by
  have NIL := fun (W : World) => (Nums.nil W none 0).mono (Nat.zero_le _) (Nat.le_refl W.heap.size)
  have kn := fun (r : Int) (W : World) => new_is r (.slice none 0 0) [] W ((Nums.nil W none 0).mono (Nat.zero_le _) (Nat.le_refl _))
  have r1 := fun W => record_is 0 1 none 0 [] W
  have r2 := fun g W => record_is 0 2 (some ⟨g, 0, none⟩) 1 [1] W
  simp only [List.length_nil, List.length_cons, Nat.zero_add, Nat.reduceAdd] at r1 r2
  have R1 := Lib.hid r1
  have R2 := Lib.hid r2
  clear r1 r2
  have o1 := fun (W : World) (b c : Nat) (a : Option Addr) (k : Nat) (h : Du (fun _ => False) w W b s0 c t0) (hN : Ns W (.slice a [1].length k) [1]) => (show Calls Try.prog 16 #[.pointer (some ⟨b, 0, none⟩), recV aR (.slice a [1].length k)] W (fun e w' => e = .returned (.int .i64 0) ∧ Du (fun _ => False) w w' b s1 c t0) from by
    have h1 := h.Offer ⟨aR, a, k⟩ hN (lawR_fits _ _ _ (by omega) (by omega)) (show [1].length ≤ 1000000 by decide)
    dsimp only at h1
    rw [f_1] at h1
    exact h1.mono (by rintro e w' ⟨g1, g2, g3⟩; exact ⟨g1, g2⟩))
  simp only [List.length_nil, List.length_cons, Nat.zero_add, Nat.reduceAdd] at o1
  have O1 := Lib.hid o1
  clear o1
  have o2 := fun (W : World) (b c : Nat) (a : Option Addr) (k : Nat) (h : Du (fun _ => False) w W b s1 c t0) (hN : Ns W (.slice a ([] : List Int).length k) ([] : List Int)) => (show Calls Try.prog 16 #[.pointer (some ⟨b, 0, none⟩), recV bR (.slice a ([] : List Int).length k)] W (fun e w' => e = .returned (.int .i64 0) ∧ Du (fun _ => False) w w' b s2 c t0) from by
    have h1 := h.Offer ⟨bR, a, k⟩ hN (lawR_fits _ _ _ (by omega) (by omega)) (show ([] : List Int).length ≤ 1000000 by decide)
    dsimp only at h1
    rw [f_2] at h1
    exact h1.mono (by rintro e w' ⟨g1, g2, g3⟩; exact ⟨g1, g2⟩))
  simp only [List.length_nil, List.length_cons, Nat.zero_add, Nat.reduceAdd] at o2
  have O2 := Lib.hid o2
  clear o2
  have o4 := fun (W : World) (b c : Nat) (a : Option Addr) (k : Nat) (h : Du (fun _ => False) w W b s4 c t0) (hN : Ns W (.slice a ([] : List Int).length k) ([] : List Int)) => (show Calls Try.prog 16 #[.pointer (some ⟨b, 0, none⟩), recV bR (.slice a ([] : List Int).length k)] W (fun e w' => e = .returned (.int .i64 1) ∧ Du (fun _ => False) w w' b s4 c t0) from by
    have h1 := h.Offer ⟨bR, a, k⟩ hN (lawR_fits _ _ _ (by omega) (by omega)) (show ([] : List Int).length ≤ 1000000 by decide)
    dsimp only at h1
    rw [f_4, s_4] at h1
    exact h1.mono (by rintro e w' ⟨g1, g2, g3⟩; exact ⟨g1, g2⟩))
  simp only [List.length_nil, List.length_cons, Nat.zero_add, Nat.reduceAdd] at o4
  have O4 := Lib.hid o4
  clear o4
  have o5 := fun (W : World) (b c : Nat) (a : Option Addr) (k : Nat) (h : Du (fun _ => False) w W b s4 c t0) (hN : Ns W (.slice a [1].length k) [1]) => (show Calls Try.prog 16 #[.pointer (some ⟨c, 0, none⟩), recV aR (.slice a [1].length k)] W (fun e w' => e = .returned (.int .i64 2) ∧ Du (fun _ => False) w w' b s4 c t0) from by
    have h1 := h.swap.Offer ⟨aR, a, k⟩ hN (lawR_fits _ _ _ (by omega) (by omega)) (show [1].length ≤ 1000000 by decide)
    dsimp only at h1
    rw [f_5, t_0] at h1
    exact h1.mono (by rintro e w' ⟨g1, g2, g3⟩; exact ⟨g1, g2.swap⟩))
  simp only [List.length_nil, List.length_cons, Nat.zero_add, Nat.reduceAdd] at o5
  have O5 := Lib.hid o5
  clear o5
  have o6 := fun (W : World) (b c : Nat) (a : Option Addr) (k : Nat) (h : Du (fun _ => False) w W b s4 c t0) (hN : Ns W (.slice a ([] : List Int).length k) ([] : List Int)) => (show Calls Try.prog 16 #[.pointer (some ⟨c, 0, none⟩), recV bR (.slice a ([] : List Int).length k)] W (fun e w' => e = .returned (.int .i64 0) ∧ Du (fun _ => False) w w' b s4 c t1) from by
    have h1 := h.swap.Offer ⟨bR, a, k⟩ hN (lawR_fits _ _ _ (by omega) (by omega)) (show ([] : List Int).length ≤ 1000000 by decide)
    dsimp only at h1
    rw [f_6] at h1
    exact h1.mono (by rintro e w' ⟨g1, g2, g3⟩; exact ⟨g1, g2.swap⟩))
  simp only [List.length_nil, List.length_cons, Nat.zero_add, Nat.reduceAdd] at o6
  have O6 := Lib.hid o6
  clear o6
  have n1 := fun (W : World) (H : Nat → Prop) (b c : Nat) (h : Du H w W b s1 c t0) => h.next_none g_1
  have N1 := Lib.hid n1
  clear n1
  have n2 := fun (W : World) (H : Nat → Prop) (b c : Nat) (h : Du H w W b s2 c t0) => h.next_some g_2
  have N2 := Lib.hid n2
  clear n2
  have n3 := fun (W : World) (H : Nat → Prop) (b c : Nat) (h : Du H w W b s3 c t0) => h.next_some g_3
  have N3 := Lib.hid n3
  clear n3
  have HNIL := Lib.hid NIL
  clear NIL
  go_enter Try.func8, Try.ntmps8
  go_upto_region 2 with (go_at_call 9; (with_reducible refine (kn 5 _).mono ?_); rintro e w1 ⟨b, rfl, -, hL, hb1⟩; (have HX := Lib.hid (show Bx (fun _ => False) w w1 b s0 from ⟨_, hL w.heap.size (Nat.le_refl _), fun _ _ h => h, hb1, fun _ h => h.elim⟩)); clear hL hb1)
  go_upto_region 3 with (go_at_call 9; (with_reducible refine (kn 0 _).mono ?_); rintro e w2 ⟨c, rfl, -, hL, hb2⟩; (have HD := Lib.hid (show Du (fun _ => False) w w2 b s0 c t0 from Du.new HX.out (hL _ HX.out.bel.size) hb2)); clear hL hb2)
  go_upto_region 6 with (first | (go_at_call 29; (with_reducible refine (R2.out _ _).mono ?_); rintro e w3 ⟨rfl, hb3⟩; (have HN3 := Lib.hid (Ns.later (lit1 (w2.alloc (.cells #[.int .i64 1] 3)) w2.heap.size 1 (by simp [go_sem]) (by unfold Small; omega)) hb3)); (replace HD := Lib.hid ((HD.out.later ((Below.refl w2.heap.size w2).alloc (Nat.le_refl _) (.cells #[.int .i64 1] 3))).later hb3)); clear hb3) | (go_at_call 16; (with_reducible refine (O1.out _ _ _ _ _ HD.out HN3.out).mono ?_); rintro e w4 ⟨rfl, hd4⟩; (replace HD := Lib.hid hd4); clear hd4))
  go_upto_region 7 with (go_at_call 12; (with_reducible refine (N1.out _ _ _ _ HD.out).mono ?_); rintro e w5 ⟨a5, k5, rfl, hd5, hk5⟩; (have HK5 := Lib.hid hk5); (replace HD := Lib.hid hd5); (try unfold recV); (try unfold aR); (try unfold bR); (try unfold lawR); (try unfold Rec.zero); (try dsimp only); clear hd5 hk5)
  obtain ⟨v5, hv5⟩ : ∃ x, w5.alloc (.cells #[.int .i64 0, .string ⟨#[]⟩, .int .i64 0, .int .i64 0, .int .i64 0, .int .i64 0, .int .i64 0, .int .i64 0, .slice a5 0 k5] 33) = x := ⟨_, rfl⟩
  replace HD := Lib.hid (show Du (fun _ => False) w v5 b s1 c t0 by rw [← hv5]; exact HD.out.later ((Below.refl w5.heap.size w5).alloc (Nat.le_refl _) _))
  rw [hv5]
  clear hv5
  go_upto_region 8 with (first | (go_at_call 29; (with_reducible refine (R1.out _).mono ?_); rintro e w6 ⟨rfl, hb6⟩; (replace HD := Lib.hid (HD.out.later hb6)); clear hb6) | (go_at_call 16; (with_reducible refine (O2.out _ _ _ _ _ HD.out (HNIL.out _)).mono ?_); rintro e w7 ⟨rfl, hd7⟩; (replace HD := Lib.hid hd7); clear hd7))
  go_upto_region 9 with (go_at_call 12; (with_reducible refine (N2.out _ _ _ _ HD.out).mono ?_); rintro e w8 ⟨a8, k8, rfl, hd8, hk8⟩; (have HK8 := Lib.hid hk8); (replace HD := Lib.hid hd8); (try unfold recV); (try unfold aR); (try unfold bR); (try unfold lawR); (try unfold Rec.zero); (try dsimp only); clear hd8 hk8)
  have hal8 := (Below.refl w8.heap.size w8).alloc (Nat.le_refl _) (.cells #[.int .i64 1, .string ⟨#[97]⟩, .int .i64 1, .int .i64 0, .int .i64 0, .int .i64 1, .int .i64 0, .int .i64 1, .slice a8 0 k8] 33)
  have hc8 : (w8.alloc (.cells #[.int .i64 1, .string ⟨#[97]⟩, .int .i64 1, .int .i64 0, .int .i64 0, .int .i64 1, .int .i64 0, .int .i64 1, .slice a8 0 k8] 33)).cell? ⟨w8.heap.size, 7, none⟩ = some (.int .i64 1) := by simp [go_sem]
  obtain ⟨g8, hg8⟩ : ∃ g, w8.heap.size = g := ⟨_, rfl⟩
  obtain ⟨v8, hv8⟩ : ∃ x, w8.alloc (.cells #[.int .i64 1, .string ⟨#[97]⟩, .int .i64 1, .int .i64 0, .int .i64 0, .int .i64 1, .int .i64 0, .int .i64 1, .slice a8 0 k8] 33) = x := ⟨_, rfl⟩
  have HC8 := Lib.hid (show v8.cell? ⟨g8, 7, none⟩ = some (.int .i64 1) by rw [← hv8, ← hg8]; exact hc8)
  replace HD := Lib.hid (show Du (fun q => q = g8) w v8 b s3 c t0 by rw [← hv8]; exact (HD.out.hold hal8).less (fun q hq => Or.inr (by subst hq; rw [← hg8]; simp)))
  rw [hv8, hg8]
  clear hv8 hg8 hal8 hc8
  go_upto_region 10 with (go_at_call 12; (with_reducible refine (N3.out _ _ _ _ HD.out).mono ?_); rintro e w9 ⟨a9, k9, rfl, hd9, hk9⟩; (have HK9 := Lib.hid hk9); (replace HD := Lib.hid hd9); (try unfold recV); (try unfold aR); (try unfold bR); (try unfold lawR); (try unfold Rec.zero); (try dsimp only); clear hd9 hk9)
  have hc9 : w9.cell? ⟨g8, 7, none⟩ = some (.int .i64 1) := (World.cell?_of_block (w := v8) (HK9.out.2 g8 rfl)).trans HC8.out
  have hal9 := (Below.refl w9.heap.size w9).alloc (Nat.le_refl _) (.cells #[.int .i64 1, .string ⟨#[97]⟩, .int .i64 2, .int .i64 0, .int .i64 0, .int .i64 2, .int .i64 0, .int .i64 2, .slice a9 1 k9] 33)
  have hc10 : (w9.alloc (.cells #[.int .i64 1, .string ⟨#[97]⟩, .int .i64 2, .int .i64 0, .int .i64 0, .int .i64 2, .int .i64 0, .int .i64 2, .slice a9 1 k9] 33)).cell? ⟨w9.heap.size, 7, none⟩ = some (.int .i64 2) := by simp [go_sem]
  obtain ⟨g9, hg9⟩ : ∃ g, w9.heap.size = g := ⟨_, rfl⟩
  obtain ⟨v9, hv9⟩ : ∃ x, w9.alloc (.cells #[.int .i64 1, .string ⟨#[97]⟩, .int .i64 2, .int .i64 0, .int .i64 0, .int .i64 2, .int .i64 0, .int .i64 2, .slice a9 1 k9] 33) = x := ⟨_, rfl⟩
  have d1 : v9.cell? ⟨g8, 7, none⟩ = some (.int .i64 1) := by rw [← hv9]; exact (hal9.cell (p := ⟨g8, 7, none⟩) (cell_lt hc9)).trans hc9
  have d2 : v9.cell? ⟨g9, 7, none⟩ = some (.int .i64 2) := by rw [← hv9, ← hg9]; exact hc10
  replace HD := Lib.hid (show Du (fun _ => False) w v9 b s4 c t0 by rw [← hv9]; exact (HD.out.later hal9).less (fun q hq => hq.elim))
  rw [hv9, hg9]
  clear hv9 hg9 hal9 hc9 hc10
  go_wp2_with (first | (go_at_call 29; (with_reducible refine (R1.out _).mono ?_); rintro e w10 ⟨rfl, hb10⟩; (replace HD := Lib.hid (HD.out.later hb10)); clear hb10) | (go_at_call 16; (with_reducible refine (O4.out _ _ _ _ _ HD.out (HNIL.out _)).mono ?_); rintro e w11 ⟨rfl, hd11⟩; (replace HD := Lib.hid hd11); clear hd11) | (go_at_call 29; (with_reducible refine (R2.out _ _).mono ?_); rintro e w12 ⟨rfl, hb12⟩; (have HN12 := Lib.hid (Ns.later (lit1 (w11.alloc (.cells #[.int .i64 1] 3)) w11.heap.size 1 (by simp [go_sem]) (by unfold Small; omega)) hb12)); (replace HD := Lib.hid ((HD.out.later ((Below.refl w11.heap.size w11).alloc (Nat.le_refl _) (.cells #[.int .i64 1] 3))).later hb12)); clear hb12) | (go_at_call 16; (with_reducible refine (O5.out _ _ _ _ _ HD.out HN12.out).mono ?_); rintro e w13 ⟨rfl, hd13⟩; (replace HD := Lib.hid hd13); clear hd13) | (go_at_call 29; (with_reducible refine (R1.out w13).mono ?_); rintro e w14 ⟨rfl, hb14⟩; (replace HD := Lib.hid (HD.out.later hb14)); clear hb14) | (go_at_call 16; (with_reducible refine (O6.out _ _ _ _ _ HD.out (HNIL.out _)).mono ?_); rintro e w15 ⟨rfl, hd15⟩; (replace HD := Lib.hid hd15); clear hd15))
  go_ret
  exact ⟨rfl, HD.out.bel⟩
end Go.Proofs.Ythifmfgnblecbaa.Og.Cb
