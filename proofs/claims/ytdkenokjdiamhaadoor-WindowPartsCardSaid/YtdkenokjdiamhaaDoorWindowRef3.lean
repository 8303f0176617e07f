/- The contracts of the document's Inner, Count, Both, and of the laws' span. -/
import Derived.Test.YtdkenokjdiamhaaDoorWindowRef2
set_option maxRecDepth 20000
namespace Go.Proofs.YtdkenokjdiamhaaDoor
open Go.RowKit

set_option maxHeartbeats 4000000 in
theorem rinner_no (s c : Sp) (tier : Int) (w : World) (H : s.inner tier = c) (hm : s.may tier = false) : Calls Tryd.prog 28 #[s.v, .int .i64 tier] w fun e w' => e = .returned (c.v) ∧ Below w.heap.size w w' := by
  have H0 := InOut.new w s
  unfold Sp.inner at H
  have ko := fun w => rok_is s tier _ w (Lib.hid rfl)
  obtain ⟨W, hW⟩ : ∃ W, wid tier = W := ⟨_, rfl⟩
  have kw := fun w => rwidth_is tier W w (Lib.hid hW)
  have hwb := wid_bounds tier
  rw [hW] at H hwb
  rw [if_pos hm] at H
  rw [hm] at ko
  have HC := Lib.hid (show Sp.zero.v = c.v by rw [H])
  unfold Sp.v at ko
  rw [show s.v = .agg #[.int .i64 s.f, .int .i64 s.t] from rfl]
  clear H hm hW
  go_enter Tryd.func28, Tryd.ntmps28
  go_wp2_with (first
    | (go_at_call 46; (with_reducible refine (ko _).mono ?_); rintro e w1 ⟨rfl, hb1⟩; have H1 := H0.keep hb1; have G := H1.i; obtain ⟨x0, x1⟩ := G; have G := H1.o; obtain ⟨⟨z0, z1⟩, g0, g1⟩ := G; dsimp only [Sp.zero] at z0 z1))
  refine bodyPost_ret (v := .agg #[.int .i64 0, .int .i64 0]) (by simp [results, Tryd.results28, go_sem, z0, z1]; try rfl) rfl ⟨by first | rfl | (rw [← HC.out]; rfl), ?_⟩
  first | exact H1.bel | exact two_set H1.bel _ (Nat.le_succ _) _ _ | exact (two_set H1.bel _ (Nat.le_succ _) _ _).drew | exact two_set H1.bel.drew _ (Nat.le_succ _) _ _

set_option maxHeartbeats 4000000 in
theorem rinner_000 (s c : Sp) (tier : Int) (w : World) (H : s.inner tier = c) (hm : s.may tier = true) (hu : ¬ 0 < s.f % wid tier) (hd : ¬ s.t < 1099511627777) (hl : ¬ downI s.t (wid tier) ≤ upI s.f (wid tier)) : Calls Tryd.prog 28 #[s.v, .int .i64 tier] w fun e w' => e = .returned (c.v) ∧ Below w.heap.size w w' := by
  have H0 := InOut.new w s
  unfold Sp.inner at H
  have ko := fun w => rok_is s tier _ w (Lib.hid rfl)
  obtain ⟨W, hW⟩ : ∃ W, wid tier = W := ⟨_, rfl⟩
  have kw := fun w => rwidth_is tier W w (Lib.hid hW)
  have hwb := wid_bounds tier
  rw [hW] at H hwb
  rw [hW] at hu hl
  rw [if_neg (by rw [hm]; simp)] at H
  obtain ⟨⟨a1, a2, a3⟩, a4⟩ := Sp.may_parts hm
  rw [hW] at a4
  rw [hm] at ko
  have e2 : (W == 0) = false := by rw [beq_eq_false_iff_ne]; omega
  have hW0 : ¬ W = 0 := by omega
  obtain ⟨p1, p2, p3, p4⟩ := mod_facts a1 a4
  obtain ⟨mf, hmf⟩ : ∃ m, s.f % W = m := ⟨_, rfl⟩
  rw [hmf] at p1 p2 p3 p4 hu
  obtain ⟨q1, q2, q3, q4⟩ := mod_facts (show 0 ≤ s.t by omega) a4
  obtain ⟨mt, hmt⟩ : ∃ m, s.t % W = m := ⟨_, rfl⟩
  rw [hmt] at q1 q2 q3 q4
  have eu : upI s.f W = s.f := by unfold upI; rw [hmf, if_neg hu]
  have ed : downI s.t W = s.t := by unfold downI; rw [if_neg hd]
  rw [if_neg hl] at H
  rw [eu, ed] at hl
  rw [eu, ed] at H
  have HC := Lib.hid (show (Sp.mk (s.f) (s.t)).v = c.v by rw [← H])
  have hz : mf = 0 := by omega
  subst hz
  unfold Sp.v at ko
  rw [show s.v = .agg #[.int .i64 s.f, .int .i64 s.t] from rfl]
  clear H hm hW hmf hmt eu ed
  go_enter Tryd.func28, Tryd.ntmps28
  go_wp2_with (first
    | (go_at_call 46; (with_reducible refine (ko _).mono ?_); rintro e w1 ⟨rfl, hb1⟩; have H1 := H0.keep hb1; have G := H1.i; obtain ⟨x0, x1⟩ := G; have G := H1.o; obtain ⟨⟨z0, z1⟩, g0, g1⟩ := G; dsimp only [Sp.zero] at z0 z1)
    | (go_at_call 12; (with_reducible refine (kw _).mono ?_); rintro e w2 ⟨rfl, rfl⟩))
  refine bodyPost_ret (v := .agg #[.int .i64 s.f, .int .i64 s.t]) (by simp [results, Tryd.results28, go_sem, z0, z1]; try rfl) rfl ⟨by first | rfl | (rw [← HC.out]; rfl), ?_⟩
  first | exact H1.bel | exact two_set H1.bel _ (Nat.le_succ _) _ _ | exact (two_set H1.bel _ (Nat.le_succ _) _ _).drew | exact two_set H1.bel.drew _ (Nat.le_succ _) _ _

set_option maxHeartbeats 4000000 in
theorem rinner_001 (s c : Sp) (tier : Int) (w : World) (H : s.inner tier = c) (hm : s.may tier = true) (hu : ¬ 0 < s.f % wid tier) (hd : ¬ s.t < 1099511627777) (hl : downI s.t (wid tier) ≤ upI s.f (wid tier)) : Calls Tryd.prog 28 #[s.v, .int .i64 tier] w fun e w' => e = .returned (c.v) ∧ Below w.heap.size w w' := by
  have H0 := InOut.new w s
  unfold Sp.inner at H
  have ko := fun w => rok_is s tier _ w (Lib.hid rfl)
  obtain ⟨W, hW⟩ : ∃ W, wid tier = W := ⟨_, rfl⟩
  have kw := fun w => rwidth_is tier W w (Lib.hid hW)
  have hwb := wid_bounds tier
  rw [hW] at H hwb
  rw [hW] at hu hl
  rw [if_neg (by rw [hm]; simp)] at H
  obtain ⟨⟨a1, a2, a3⟩, a4⟩ := Sp.may_parts hm
  rw [hW] at a4
  rw [hm] at ko
  have e2 : (W == 0) = false := by rw [beq_eq_false_iff_ne]; omega
  have hW0 : ¬ W = 0 := by omega
  obtain ⟨p1, p2, p3, p4⟩ := mod_facts a1 a4
  obtain ⟨mf, hmf⟩ : ∃ m, s.f % W = m := ⟨_, rfl⟩
  rw [hmf] at p1 p2 p3 p4 hu
  obtain ⟨q1, q2, q3, q4⟩ := mod_facts (show 0 ≤ s.t by omega) a4
  obtain ⟨mt, hmt⟩ : ∃ m, s.t % W = m := ⟨_, rfl⟩
  rw [hmt] at q1 q2 q3 q4
  have eu : upI s.f W = s.f := by unfold upI; rw [hmf, if_neg hu]
  have ed : downI s.t W = s.t := by unfold downI; rw [if_neg hd]
  rw [if_pos hl] at H
  rw [eu, ed] at hl
  have HC := Lib.hid (show (Sp.mk (s.f) (s.f)).v = c.v by rw [← H])
  have hz : mf = 0 := by omega
  subst hz
  unfold Sp.v at ko
  rw [show s.v = .agg #[.int .i64 s.f, .int .i64 s.t] from rfl]
  clear H hm hW hmf hmt eu ed
  go_enter Tryd.func28, Tryd.ntmps28
  go_wp2_with (first
    | (go_at_call 46; (with_reducible refine (ko _).mono ?_); rintro e w1 ⟨rfl, hb1⟩; have H1 := H0.keep hb1; have G := H1.i; obtain ⟨x0, x1⟩ := G; have G := H1.o; obtain ⟨⟨z0, z1⟩, g0, g1⟩ := G; dsimp only [Sp.zero] at z0 z1)
    | (go_at_call 12; (with_reducible refine (kw _).mono ?_); rintro e w2 ⟨rfl, rfl⟩))
  refine bodyPost_ret (v := .agg #[.int .i64 s.f, .int .i64 s.f]) (by simp [results, Tryd.results28, go_sem, z0, z1]; try rfl) rfl ⟨by first | rfl | (rw [← HC.out]; rfl), ?_⟩
  first | exact H1.bel | exact two_set H1.bel _ (Nat.le_succ _) _ _ | exact (two_set H1.bel _ (Nat.le_succ _) _ _).drew | exact two_set H1.bel.drew _ (Nat.le_succ _) _ _

set_option maxHeartbeats 4000000 in
theorem rinner_010 (s c : Sp) (tier : Int) (w : World) (H : s.inner tier = c) (hm : s.may tier = true) (hu : ¬ 0 < s.f % wid tier) (hd : s.t < 1099511627777) (hl : ¬ downI s.t (wid tier) ≤ upI s.f (wid tier)) : Calls Tryd.prog 28 #[s.v, .int .i64 tier] w fun e w' => e = .returned (c.v) ∧ Below w.heap.size w w' := by
  have H0 := InOut.new w s
  unfold Sp.inner at H
  have ko := fun w => rok_is s tier _ w (Lib.hid rfl)
  obtain ⟨W, hW⟩ : ∃ W, wid tier = W := ⟨_, rfl⟩
  have kw := fun w => rwidth_is tier W w (Lib.hid hW)
  have hwb := wid_bounds tier
  rw [hW] at H hwb
  rw [hW] at hu hl
  rw [if_neg (by rw [hm]; simp)] at H
  obtain ⟨⟨a1, a2, a3⟩, a4⟩ := Sp.may_parts hm
  rw [hW] at a4
  rw [hm] at ko
  have e2 : (W == 0) = false := by rw [beq_eq_false_iff_ne]; omega
  have hW0 : ¬ W = 0 := by omega
  obtain ⟨p1, p2, p3, p4⟩ := mod_facts a1 a4
  obtain ⟨mf, hmf⟩ : ∃ m, s.f % W = m := ⟨_, rfl⟩
  rw [hmf] at p1 p2 p3 p4 hu
  obtain ⟨q1, q2, q3, q4⟩ := mod_facts (show 0 ≤ s.t by omega) a4
  obtain ⟨mt, hmt⟩ : ∃ m, s.t % W = m := ⟨_, rfl⟩
  rw [hmt] at q1 q2 q3 q4
  have eu : upI s.f W = s.f := by unfold upI; rw [hmf, if_neg hu]
  have ed : downI s.t W = s.t - mt := by unfold downI; rw [if_pos hd, hmt]
  rw [if_neg hl] at H
  rw [eu, ed] at hl
  rw [eu, ed] at H
  obtain ⟨B, hB⟩ : ∃ B, s.t - mt = B := ⟨_, rfl⟩
  rw [hB] at hl H
  have hw3 : IntKind.i64.wrap (s.t - mt) = B := by rw [IntKind.wrap_i64]; omega
  have hw3' : IntKind.i64.wrap B = B := by rw [IntKind.wrap_i64]; omega
  have HC := Lib.hid (show (Sp.mk (s.f) (B)).v = c.v by rw [← H])
  have hz : mf = 0 := by omega
  subst hz
  unfold Sp.v at ko
  rw [show s.v = .agg #[.int .i64 s.f, .int .i64 s.t] from rfl]
  clear H hm hW hmf hmt eu ed
  go_enter Tryd.func28, Tryd.ntmps28
  go_wp2_with (first
    | (go_at_call 46; (with_reducible refine (ko _).mono ?_); rintro e w1 ⟨rfl, hb1⟩; have H1 := H0.keep hb1; have G := H1.i; obtain ⟨x0, x1⟩ := G; have G := H1.o; obtain ⟨⟨z0, z1⟩, g0, g1⟩ := G; dsimp only [Sp.zero] at z0 z1)
    | (go_at_call 12; (with_reducible refine (kw _).mono ?_); rintro e w2 ⟨rfl, rfl⟩))
  refine bodyPost_ret (v := .agg #[.int .i64 s.f, .int .i64 B]) (by simp [results, Tryd.results28, go_sem, z0, z1]; try rfl) rfl ⟨by first | rfl | (rw [← HC.out]; rfl), ?_⟩
  first | exact H1.bel | exact two_set H1.bel _ (Nat.le_succ _) _ _ | exact (two_set H1.bel _ (Nat.le_succ _) _ _).drew | exact two_set H1.bel.drew _ (Nat.le_succ _) _ _

set_option maxHeartbeats 4000000 in
theorem rinner_011 (s c : Sp) (tier : Int) (w : World) (H : s.inner tier = c) (hm : s.may tier = true) (hu : ¬ 0 < s.f % wid tier) (hd : s.t < 1099511627777) (hl : downI s.t (wid tier) ≤ upI s.f (wid tier)) : Calls Tryd.prog 28 #[s.v, .int .i64 tier] w fun e w' => e = .returned (c.v) ∧ Below w.heap.size w w' := by
  have H0 := InOut.new w s
  unfold Sp.inner at H
  have ko := fun w => rok_is s tier _ w (Lib.hid rfl)
  obtain ⟨W, hW⟩ : ∃ W, wid tier = W := ⟨_, rfl⟩
  have kw := fun w => rwidth_is tier W w (Lib.hid hW)
  have hwb := wid_bounds tier
  rw [hW] at H hwb
  rw [hW] at hu hl
  rw [if_neg (by rw [hm]; simp)] at H
  obtain ⟨⟨a1, a2, a3⟩, a4⟩ := Sp.may_parts hm
  rw [hW] at a4
  rw [hm] at ko
  have e2 : (W == 0) = false := by rw [beq_eq_false_iff_ne]; omega
  have hW0 : ¬ W = 0 := by omega
  obtain ⟨p1, p2, p3, p4⟩ := mod_facts a1 a4
  obtain ⟨mf, hmf⟩ : ∃ m, s.f % W = m := ⟨_, rfl⟩
  rw [hmf] at p1 p2 p3 p4 hu
  obtain ⟨q1, q2, q3, q4⟩ := mod_facts (show 0 ≤ s.t by omega) a4
  obtain ⟨mt, hmt⟩ : ∃ m, s.t % W = m := ⟨_, rfl⟩
  rw [hmt] at q1 q2 q3 q4
  have eu : upI s.f W = s.f := by unfold upI; rw [hmf, if_neg hu]
  have ed : downI s.t W = s.t - mt := by unfold downI; rw [if_pos hd, hmt]
  rw [if_pos hl] at H
  rw [eu, ed] at hl
  obtain ⟨B, hB⟩ : ∃ B, s.t - mt = B := ⟨_, rfl⟩
  rw [hB] at hl
  have hw3 : IntKind.i64.wrap (s.t - mt) = B := by rw [IntKind.wrap_i64]; omega
  have hw3' : IntKind.i64.wrap B = B := by rw [IntKind.wrap_i64]; omega
  have HC := Lib.hid (show (Sp.mk (s.f) (s.f)).v = c.v by rw [← H])
  have hz : mf = 0 := by omega
  subst hz
  unfold Sp.v at ko
  rw [show s.v = .agg #[.int .i64 s.f, .int .i64 s.t] from rfl]
  clear H hm hW hmf hmt eu ed
  go_enter Tryd.func28, Tryd.ntmps28
  go_wp2_with (first
    | (go_at_call 46; (with_reducible refine (ko _).mono ?_); rintro e w1 ⟨rfl, hb1⟩; have H1 := H0.keep hb1; have G := H1.i; obtain ⟨x0, x1⟩ := G; have G := H1.o; obtain ⟨⟨z0, z1⟩, g0, g1⟩ := G; dsimp only [Sp.zero] at z0 z1)
    | (go_at_call 12; (with_reducible refine (kw _).mono ?_); rintro e w2 ⟨rfl, rfl⟩))
  refine bodyPost_ret (v := .agg #[.int .i64 s.f, .int .i64 s.f]) (by simp [results, Tryd.results28, go_sem, z0, z1]; try rfl) rfl ⟨by first | rfl | (rw [← HC.out]; rfl), ?_⟩
  first | exact H1.bel | exact two_set H1.bel _ (Nat.le_succ _) _ _ | exact (two_set H1.bel _ (Nat.le_succ _) _ _).drew | exact two_set H1.bel.drew _ (Nat.le_succ _) _ _

set_option maxHeartbeats 4000000 in
theorem rinner_100 (s c : Sp) (tier : Int) (w : World) (H : s.inner tier = c) (hm : s.may tier = true) (hu : 0 < s.f % wid tier) (hd : ¬ s.t < 1099511627777) (hl : ¬ downI s.t (wid tier) ≤ upI s.f (wid tier)) : Calls Tryd.prog 28 #[s.v, .int .i64 tier] w fun e w' => e = .returned (c.v) ∧ Below w.heap.size w w' := by
  have H0 := InOut.new w s
  unfold Sp.inner at H
  have ko := fun w => rok_is s tier _ w (Lib.hid rfl)
  obtain ⟨W, hW⟩ : ∃ W, wid tier = W := ⟨_, rfl⟩
  have kw := fun w => rwidth_is tier W w (Lib.hid hW)
  have hwb := wid_bounds tier
  rw [hW] at H hwb
  rw [hW] at hu hl
  rw [if_neg (by rw [hm]; simp)] at H
  obtain ⟨⟨a1, a2, a3⟩, a4⟩ := Sp.may_parts hm
  rw [hW] at a4
  rw [hm] at ko
  have e2 : (W == 0) = false := by rw [beq_eq_false_iff_ne]; omega
  have hW0 : ¬ W = 0 := by omega
  obtain ⟨p1, p2, p3, p4⟩ := mod_facts a1 a4
  obtain ⟨mf, hmf⟩ : ∃ m, s.f % W = m := ⟨_, rfl⟩
  rw [hmf] at p1 p2 p3 p4 hu
  obtain ⟨q1, q2, q3, q4⟩ := mod_facts (show 0 ≤ s.t by omega) a4
  obtain ⟨mt, hmt⟩ : ∃ m, s.t % W = m := ⟨_, rfl⟩
  rw [hmt] at q1 q2 q3 q4
  have eu : upI s.f W = s.f - mf + W := by unfold upI; rw [hmf, if_pos hu]
  have ed : downI s.t W = s.t := by unfold downI; rw [if_neg hd]
  rw [if_neg hl] at H
  rw [eu, ed] at hl
  rw [eu, ed] at H
  obtain ⟨A, hA⟩ : ∃ A, s.f - mf + W = A := ⟨_, rfl⟩
  rw [hA] at hl H
  have hw1 : IntKind.i64.wrap (s.f - mf) = s.f - mf := by rw [IntKind.wrap_i64]; omega
  have hw2 : IntKind.i64.wrap (s.f - mf + W) = A := by rw [IntKind.wrap_i64]; omega
  have hw2' : IntKind.i64.wrap A = A := by rw [IntKind.wrap_i64]; omega
  have HC := Lib.hid (show (Sp.mk (A) (s.t)).v = c.v by rw [← H])
  unfold Sp.v at ko
  rw [show s.v = .agg #[.int .i64 s.f, .int .i64 s.t] from rfl]
  clear H hm hW hmf hmt eu ed
  go_enter Tryd.func28, Tryd.ntmps28
  go_wp2_with (first
    | (go_at_call 46; (with_reducible refine (ko _).mono ?_); rintro e w1 ⟨rfl, hb1⟩; have H1 := H0.keep hb1; have G := H1.i; obtain ⟨x0, x1⟩ := G; have G := H1.o; obtain ⟨⟨z0, z1⟩, g0, g1⟩ := G; dsimp only [Sp.zero] at z0 z1)
    | (go_at_call 12; (with_reducible refine (kw _).mono ?_); rintro e w2 ⟨rfl, rfl⟩))
  refine bodyPost_ret (v := .agg #[.int .i64 A, .int .i64 s.t]) (by simp [results, Tryd.results28, go_sem, z0, z1]; try rfl) rfl ⟨by first | rfl | (rw [← HC.out]; rfl), ?_⟩
  first | exact H1.bel | exact two_set H1.bel _ (Nat.le_succ _) _ _ | exact (two_set H1.bel _ (Nat.le_succ _) _ _).drew | exact two_set H1.bel.drew _ (Nat.le_succ _) _ _

set_option maxHeartbeats 4000000 in
theorem rinner_101 (s c : Sp) (tier : Int) (w : World) (H : s.inner tier = c) (hm : s.may tier = true) (hu : 0 < s.f % wid tier) (hd : ¬ s.t < 1099511627777) (hl : downI s.t (wid tier) ≤ upI s.f (wid tier)) : Calls Tryd.prog 28 #[s.v, .int .i64 tier] w fun e w' => e = .returned (c.v) ∧ Below w.heap.size w w' := by
  have H0 := InOut.new w s
  unfold Sp.inner at H
  have ko := fun w => rok_is s tier _ w (Lib.hid rfl)
  obtain ⟨W, hW⟩ : ∃ W, wid tier = W := ⟨_, rfl⟩
  have kw := fun w => rwidth_is tier W w (Lib.hid hW)
  have hwb := wid_bounds tier
  rw [hW] at H hwb
  rw [hW] at hu hl
  rw [if_neg (by rw [hm]; simp)] at H
  obtain ⟨⟨a1, a2, a3⟩, a4⟩ := Sp.may_parts hm
  rw [hW] at a4
  rw [hm] at ko
  have e2 : (W == 0) = false := by rw [beq_eq_false_iff_ne]; omega
  have hW0 : ¬ W = 0 := by omega
  obtain ⟨p1, p2, p3, p4⟩ := mod_facts a1 a4
  obtain ⟨mf, hmf⟩ : ∃ m, s.f % W = m := ⟨_, rfl⟩
  rw [hmf] at p1 p2 p3 p4 hu
  obtain ⟨q1, q2, q3, q4⟩ := mod_facts (show 0 ≤ s.t by omega) a4
  obtain ⟨mt, hmt⟩ : ∃ m, s.t % W = m := ⟨_, rfl⟩
  rw [hmt] at q1 q2 q3 q4
  have eu : upI s.f W = s.f - mf + W := by unfold upI; rw [hmf, if_pos hu]
  have ed : downI s.t W = s.t := by unfold downI; rw [if_neg hd]
  rw [if_pos hl] at H
  rw [eu, ed] at hl
  obtain ⟨A, hA⟩ : ∃ A, s.f - mf + W = A := ⟨_, rfl⟩
  rw [hA] at hl
  have hw1 : IntKind.i64.wrap (s.f - mf) = s.f - mf := by rw [IntKind.wrap_i64]; omega
  have hw2 : IntKind.i64.wrap (s.f - mf + W) = A := by rw [IntKind.wrap_i64]; omega
  have hw2' : IntKind.i64.wrap A = A := by rw [IntKind.wrap_i64]; omega
  have HC := Lib.hid (show (Sp.mk (s.f) (s.f)).v = c.v by rw [← H])
  unfold Sp.v at ko
  rw [show s.v = .agg #[.int .i64 s.f, .int .i64 s.t] from rfl]
  clear H hm hW hmf hmt eu ed
  go_enter Tryd.func28, Tryd.ntmps28
  go_wp2_with (first
    | (go_at_call 46; (with_reducible refine (ko _).mono ?_); rintro e w1 ⟨rfl, hb1⟩; have H1 := H0.keep hb1; have G := H1.i; obtain ⟨x0, x1⟩ := G; have G := H1.o; obtain ⟨⟨z0, z1⟩, g0, g1⟩ := G; dsimp only [Sp.zero] at z0 z1)
    | (go_at_call 12; (with_reducible refine (kw _).mono ?_); rintro e w2 ⟨rfl, rfl⟩))
  refine bodyPost_ret (v := .agg #[.int .i64 s.f, .int .i64 s.f]) (by simp [results, Tryd.results28, go_sem, z0, z1]; try rfl) rfl ⟨by first | rfl | (rw [← HC.out]; rfl), ?_⟩
  first | exact H1.bel | exact two_set H1.bel _ (Nat.le_succ _) _ _ | exact (two_set H1.bel _ (Nat.le_succ _) _ _).drew | exact two_set H1.bel.drew _ (Nat.le_succ _) _ _

set_option maxHeartbeats 4000000 in
theorem rinner_110 (s c : Sp) (tier : Int) (w : World) (H : s.inner tier = c) (hm : s.may tier = true) (hu : 0 < s.f % wid tier) (hd : s.t < 1099511627777) (hl : ¬ downI s.t (wid tier) ≤ upI s.f (wid tier)) : Calls Tryd.prog 28 #[s.v, .int .i64 tier] w fun e w' => e = .returned (c.v) ∧ Below w.heap.size w w' := by
  have H0 := InOut.new w s
  unfold Sp.inner at H
  have ko := fun w => rok_is s tier _ w (Lib.hid rfl)
  obtain ⟨W, hW⟩ : ∃ W, wid tier = W := ⟨_, rfl⟩
  have kw := fun w => rwidth_is tier W w (Lib.hid hW)
  have hwb := wid_bounds tier
  rw [hW] at H hwb
  rw [hW] at hu hl
  rw [if_neg (by rw [hm]; simp)] at H
  obtain ⟨⟨a1, a2, a3⟩, a4⟩ := Sp.may_parts hm
  rw [hW] at a4
  rw [hm] at ko
  have e2 : (W == 0) = false := by rw [beq_eq_false_iff_ne]; omega
  have hW0 : ¬ W = 0 := by omega
  obtain ⟨p1, p2, p3, p4⟩ := mod_facts a1 a4
  obtain ⟨mf, hmf⟩ : ∃ m, s.f % W = m := ⟨_, rfl⟩
  rw [hmf] at p1 p2 p3 p4 hu
  obtain ⟨q1, q2, q3, q4⟩ := mod_facts (show 0 ≤ s.t by omega) a4
  obtain ⟨mt, hmt⟩ : ∃ m, s.t % W = m := ⟨_, rfl⟩
  rw [hmt] at q1 q2 q3 q4
  have eu : upI s.f W = s.f - mf + W := by unfold upI; rw [hmf, if_pos hu]
  have ed : downI s.t W = s.t - mt := by unfold downI; rw [if_pos hd, hmt]
  rw [if_neg hl] at H
  rw [eu, ed] at hl
  rw [eu, ed] at H
  obtain ⟨A, hA⟩ : ∃ A, s.f - mf + W = A := ⟨_, rfl⟩
  rw [hA] at hl H
  have hw1 : IntKind.i64.wrap (s.f - mf) = s.f - mf := by rw [IntKind.wrap_i64]; omega
  have hw2 : IntKind.i64.wrap (s.f - mf + W) = A := by rw [IntKind.wrap_i64]; omega
  have hw2' : IntKind.i64.wrap A = A := by rw [IntKind.wrap_i64]; omega
  obtain ⟨B, hB⟩ : ∃ B, s.t - mt = B := ⟨_, rfl⟩
  rw [hB] at hl H
  have hw3 : IntKind.i64.wrap (s.t - mt) = B := by rw [IntKind.wrap_i64]; omega
  have hw3' : IntKind.i64.wrap B = B := by rw [IntKind.wrap_i64]; omega
  have HC := Lib.hid (show (Sp.mk (A) (B)).v = c.v by rw [← H])
  unfold Sp.v at ko
  rw [show s.v = .agg #[.int .i64 s.f, .int .i64 s.t] from rfl]
  clear H hm hW hmf hmt eu ed
  go_enter Tryd.func28, Tryd.ntmps28
  go_wp2_with (first
    | (go_at_call 46; (with_reducible refine (ko _).mono ?_); rintro e w1 ⟨rfl, hb1⟩; have H1 := H0.keep hb1; have G := H1.i; obtain ⟨x0, x1⟩ := G; have G := H1.o; obtain ⟨⟨z0, z1⟩, g0, g1⟩ := G; dsimp only [Sp.zero] at z0 z1)
    | (go_at_call 12; (with_reducible refine (kw _).mono ?_); rintro e w2 ⟨rfl, rfl⟩))
  refine bodyPost_ret (v := .agg #[.int .i64 A, .int .i64 B]) (by simp [results, Tryd.results28, go_sem, z0, z1]; try rfl) rfl ⟨by first | rfl | (rw [← HC.out]; rfl), ?_⟩
  first | exact H1.bel | exact two_set H1.bel _ (Nat.le_succ _) _ _ | exact (two_set H1.bel _ (Nat.le_succ _) _ _).drew | exact two_set H1.bel.drew _ (Nat.le_succ _) _ _

set_option maxHeartbeats 4000000 in
theorem rinner_111 (s c : Sp) (tier : Int) (w : World) (H : s.inner tier = c) (hm : s.may tier = true) (hu : 0 < s.f % wid tier) (hd : s.t < 1099511627777) (hl : downI s.t (wid tier) ≤ upI s.f (wid tier)) : Calls Tryd.prog 28 #[s.v, .int .i64 tier] w fun e w' => e = .returned (c.v) ∧ Below w.heap.size w w' := by
  have H0 := InOut.new w s
  unfold Sp.inner at H
  have ko := fun w => rok_is s tier _ w (Lib.hid rfl)
  obtain ⟨W, hW⟩ : ∃ W, wid tier = W := ⟨_, rfl⟩
  have kw := fun w => rwidth_is tier W w (Lib.hid hW)
  have hwb := wid_bounds tier
  rw [hW] at H hwb
  rw [hW] at hu hl
  rw [if_neg (by rw [hm]; simp)] at H
  obtain ⟨⟨a1, a2, a3⟩, a4⟩ := Sp.may_parts hm
  rw [hW] at a4
  rw [hm] at ko
  have e2 : (W == 0) = false := by rw [beq_eq_false_iff_ne]; omega
  have hW0 : ¬ W = 0 := by omega
  obtain ⟨p1, p2, p3, p4⟩ := mod_facts a1 a4
  obtain ⟨mf, hmf⟩ : ∃ m, s.f % W = m := ⟨_, rfl⟩
  rw [hmf] at p1 p2 p3 p4 hu
  obtain ⟨q1, q2, q3, q4⟩ := mod_facts (show 0 ≤ s.t by omega) a4
  obtain ⟨mt, hmt⟩ : ∃ m, s.t % W = m := ⟨_, rfl⟩
  rw [hmt] at q1 q2 q3 q4
  have eu : upI s.f W = s.f - mf + W := by unfold upI; rw [hmf, if_pos hu]
  have ed : downI s.t W = s.t - mt := by unfold downI; rw [if_pos hd, hmt]
  rw [if_pos hl] at H
  rw [eu, ed] at hl
  obtain ⟨A, hA⟩ : ∃ A, s.f - mf + W = A := ⟨_, rfl⟩
  rw [hA] at hl
  have hw1 : IntKind.i64.wrap (s.f - mf) = s.f - mf := by rw [IntKind.wrap_i64]; omega
  have hw2 : IntKind.i64.wrap (s.f - mf + W) = A := by rw [IntKind.wrap_i64]; omega
  have hw2' : IntKind.i64.wrap A = A := by rw [IntKind.wrap_i64]; omega
  obtain ⟨B, hB⟩ : ∃ B, s.t - mt = B := ⟨_, rfl⟩
  rw [hB] at hl
  have hw3 : IntKind.i64.wrap (s.t - mt) = B := by rw [IntKind.wrap_i64]; omega
  have hw3' : IntKind.i64.wrap B = B := by rw [IntKind.wrap_i64]; omega
  have HC := Lib.hid (show (Sp.mk (s.f) (s.f)).v = c.v by rw [← H])
  unfold Sp.v at ko
  rw [show s.v = .agg #[.int .i64 s.f, .int .i64 s.t] from rfl]
  clear H hm hW hmf hmt eu ed
  go_enter Tryd.func28, Tryd.ntmps28
  go_wp2_with (first
    | (go_at_call 46; (with_reducible refine (ko _).mono ?_); rintro e w1 ⟨rfl, hb1⟩; have H1 := H0.keep hb1; have G := H1.i; obtain ⟨x0, x1⟩ := G; have G := H1.o; obtain ⟨⟨z0, z1⟩, g0, g1⟩ := G; dsimp only [Sp.zero] at z0 z1)
    | (go_at_call 12; (with_reducible refine (kw _).mono ?_); rintro e w2 ⟨rfl, rfl⟩))
  refine bodyPost_ret (v := .agg #[.int .i64 s.f, .int .i64 s.f]) (by simp [results, Tryd.results28, go_sem, z0, z1]; try rfl) rfl ⟨by first | rfl | (rw [← HC.out]; rfl), ?_⟩
  first | exact H1.bel | exact two_set H1.bel _ (Nat.le_succ _) _ _ | exact (two_set H1.bel _ (Nat.le_succ _) _ _).drew | exact two_set H1.bel.drew _ (Nat.le_succ _) _ _

theorem rinner_is (s c : Sp) (tier : Int) (w : World) (H : Hid (s.inner tier = c)) : Calls Tryd.prog 28 #[s.v, .int .i64 tier] w fun e w' => e = .returned (c.v) ∧ Below w.heap.size w w' := by
  cases hm : s.may tier with
  | false => exact rinner_no s c tier w H.out hm
  | true =>
    by_cases hu : 0 < s.f % wid tier
    · by_cases hd : s.t < 1099511627777
      · by_cases hl : downI s.t (wid tier) ≤ upI s.f (wid tier)
        · exact rinner_111 s c tier w H.out hm hu hd hl
        · exact rinner_110 s c tier w H.out hm hu hd hl
      · by_cases hl : downI s.t (wid tier) ≤ upI s.f (wid tier)
        · exact rinner_101 s c tier w H.out hm hu hd hl
        · exact rinner_100 s c tier w H.out hm hu hd hl
    · by_cases hd : s.t < 1099511627777
      · by_cases hl : downI s.t (wid tier) ≤ upI s.f (wid tier)
        · exact rinner_011 s c tier w H.out hm hu hd hl
        · exact rinner_010 s c tier w H.out hm hu hd hl
      · by_cases hl : downI s.t (wid tier) ≤ upI s.f (wid tier)
        · exact rinner_001 s c tier w H.out hm hu hd hl
        · exact rinner_000 s c tier w H.out hm hu hd hl

theorem cover_bounds (s : Sp) (tier : Int) : 0 ≤ (s.cover tier).f ∧ (s.cover tier).f ≤ (s.cover tier).t ∧ (s.cover tier).t ≤ 1099511627777 ∧ ((s.cover tier).f ≠ (s.cover tier).t → 0 < wid tier) := by
  unfold Sp.cover
  split
  · unfold Sp.zero; simp
  · rename_i hm
    have hm : s.may tier = true := by simpa using hm
    obtain ⟨⟨a1, a2, a3⟩, a4⟩ := Sp.may_parts hm
    obtain ⟨p1, p2, p3, p4⟩ := mod_facts a1 a4
    split
    · split
      · unfold Sp.zero; simp
      · dsimp only; refine ⟨by omega, by omega, by omega, fun _ => a4⟩
    · obtain ⟨q1, q2, q3, q4⟩ := mod_facts (show 0 ≤ s.t - 1 by omega) a4
      have hmono : s.f - s.f % wid tier ≤ s.t - 1 - (s.t - 1) % wid tier + wid tier := by omega
      unfold cutI
      dsimp only
      split <;> refine ⟨by omega, by omega, by omega, fun _ => a4⟩
set_option maxHeartbeats 1000000 in
theorem rcount_is (s : Sp) (tier n : Int) (w : World) (H : Hid (s.count tier = n)) : Calls Tryd.prog 30 #[s.v, .int .i64 tier] w fun e w' => e = .returned (.int .i64 n) ∧ Below w.heap.size w w' := by
  have hB := (Below.refl w.heap.size w).alloc (Nat.le_refl _) (.cells #[.int .i64 s.f, .int .i64 s.t] 26)
  have H := H.out
  unfold Sp.count at H
  obtain ⟨b1, b2, b3, b4⟩ := cover_bounds s tier
  have kc := fun w => rcover_is s _ tier w (Lib.hid rfl)
  obtain ⟨W, hW⟩ : ∃ W, wid tier = W := ⟨_, rfl⟩
  have kw := fun w => rwidth_is tier W w (Lib.hid hW)
  have hwb := wid_bounds tier
  rw [hW] at H b4 hwb
  obtain ⟨⟨cf, ct⟩, hc⟩ : ∃ c, s.cover tier = c := ⟨_, rfl⟩
  rw [hc] at H b1 b2 b3 b4 kc
  dsimp only at H b1 b2 b3 b4
  unfold Sp.v at kc ⊢
  dsimp only at kc
  clear hW hc
  by_cases he : cf = ct
  · rw [if_pos he] at H
    have HZ := Lib.hid H
    have g1 : (cf == ct) = true := by simpa using he
    clear H he
    go_enter Tryd.func30, Tryd.ntmps30
    go_wp2_with (first
      | (go_at_call 26; (with_reducible refine (kc _).mono ?_); rintro e w1 ⟨rfl, hb1⟩)
      | (go_at_call 12; (with_reducible refine (kw _).mono ?_); rintro e w2 ⟨rfl, rfl⟩))
    go_ret
    exact ⟨by rw [← HZ.out]; rfl, bel_new (bel_next hB hb1) _⟩
  · rw [if_neg he] at H
    have b4 := b4 he
    have g1 : (cf == ct) = false := by simpa using he
    have e2 : (W == 0) = false := by rw [beq_eq_false_iff_ne]; omega
    have hW0 : ¬ W = 0 := by omega
    obtain ⟨x, hx⟩ : ∃ x, ct - cf + W - 1 = x := ⟨_, rfl⟩
    rw [hx] at H
    have hx0 : 0 ≤ x ∧ x ≤ 2000000000000 := by omega
    have hq : x.tdiv W = n := by rw [← H]; exact Int.tdiv_eq_ediv_of_nonneg hx0.1
    have hn : 0 ≤ n ∧ n ≤ 2000000000000 := by
      rw [← H]
      refine ⟨Int.ediv_nonneg hx0.1 (by omega), ?_⟩
      have := Int.ediv_le_self W hx0.1
      omega
    have h1 : IntKind.i64.wrap (ct - cf) = ct - cf := by rw [IntKind.wrap_i64]; omega
    have h2 : IntKind.i64.wrap (ct - cf + W) = ct - cf + W := by rw [IntKind.wrap_i64]; omega
    have h3 : IntKind.i64.wrap (ct - cf + W - 1) = x := by rw [IntKind.wrap_i64]; omega
    have h3' : IntKind.i64.wrap x = x := by rw [IntKind.wrap_i64]; omega
    have h4 : IntKind.i64.wrap n = n := by rw [IntKind.wrap_i64]; omega
    clear H he
    go_enter Tryd.func30, Tryd.ntmps30
    go_wp2_with (first
      | (go_at_call 26; (with_reducible refine (kc _).mono ?_); rintro e w1 ⟨rfl, hb1⟩)
      | (go_at_call 12; (with_reducible refine (kw _).mono ?_); rintro e w2 ⟨rfl, rfl⟩))
    go_ret
    exact ⟨rfl, bel_new (bel_next hB hb1) _⟩

/-- The span of a call. -/
def opSp (fr len : Int) : Sp := ⟨if fr.tmod 400 < 0 then -(fr.tmod 400) else fr.tmod 400, (if fr.tmod 400 < 0 then -(fr.tmod 400) else fr.tmod 400) + len.tmod 60⟩
theorem tmod_bounds (n m : Int) (hm : 0 < m) : -m < n.tmod m ∧ n.tmod m < m := ⟨Int.lt_tmod_of_pos n hm, Int.tmod_lt_of_pos n hm⟩
theorem opSp_bounds (fr len : Int) : 0 ≤ (opSp fr len).f ∧ (opSp fr len).f < 400 ∧ -60 < (opSp fr len).t ∧ (opSp fr len).t < 460 ∧ (opSp fr len).t - (opSp fr len).f < 60 := by
  have h1 := tmod_bounds fr 400 (by omega)
  have h2 := tmod_bounds len 60 (by omega)
  unfold opSp
  dsimp only
  split <;> omega
set_option maxHeartbeats 1000000 in
theorem span_is (k fr len : Int) (s : Sp) (w : World) (H : Hid (opSp fr len = s)) : Calls Tryd.prog 34 #[.agg #[.int .i64 k, .int .i64 fr, .int .i64 len]] w fun e w' => e = .returned (s.v) ∧ Below w.heap.size w w' := by
  have H := H.out
  have h1 := tmod_bounds fr 400 (by omega)
  have h2 := tmod_bounds len 60 (by omega)
  have hB := (Below.refl w.heap.size w).alloc (Nat.le_refl _) (.cells #[.int .i64 k, .int .i64 fr, .int .i64 len] 51)
  unfold opSp at H
  obtain ⟨x, hx⟩ : ∃ x, fr.tmod 400 = x := ⟨_, rfl⟩
  obtain ⟨y, hy⟩ : ∃ y, len.tmod 60 = y := ⟨_, rfl⟩
  rw [hx] at H h1
  rw [hy] at H h2
  by_cases h : x < 0
  · rw [if_pos h] at H
    obtain ⟨u, hu⟩ : ∃ u, -x + y = u := ⟨_, rfl⟩
    rw [hu] at H
    have HC := Lib.hid (show (Sp.mk (-x) u).v = s.v by rw [H])
    have hw1 : IntKind.i64.wrap (-x + y) = u := by rw [IntKind.wrap_i64]; omega
    have hw2 : IntKind.i64.wrap u = u := by rw [IntKind.wrap_i64]; omega
    clear H
    go_enter Tryd.func34, Tryd.ntmps34
    go_wp2
    refine bodyPost_ret (v := .agg #[.int .i64 (-x), .int .i64 u]) (by simp [results, Tryd.results34, go_sem]; try rfl) rfl ⟨by rw [← HC.out]; rfl, ?_⟩
    first | exact bel_new hB _ | exact two_set (bel_new hB _) _ (Nat.le_succ _) _ _
  · rw [if_neg h] at H
    obtain ⟨u, hu⟩ : ∃ u, x + y = u := ⟨_, rfl⟩
    rw [hu] at H
    have HC := Lib.hid (show (Sp.mk x u).v = s.v by rw [H])
    have hw1 : IntKind.i64.wrap (x + y) = u := by rw [IntKind.wrap_i64]; omega
    have hw2 : IntKind.i64.wrap u = u := by rw [IntKind.wrap_i64]; omega
    clear H
    go_enter Tryd.func34, Tryd.ntmps34
    go_wp2
    refine bodyPost_ret (v := .agg #[.int .i64 x, .int .i64 u]) (by simp [results, Tryd.results34, go_sem]; try rfl) rfl ⟨by rw [← HC.out]; rfl, ?_⟩
    first | exact bel_new hB _ | exact two_set (bel_new hB _) _ (Nat.le_succ _) _ _
end Go.Proofs.YtdkenokjdiamhaaDoor
