/- The contracts of the document's Both, and of the laws' same; slices of spans. -/
import Derived.Test.YtdkenokjdiamhaaDoorWindowRef3
import Derived.Laws.AppendOwn
import Derived.OwnWalk
import Derived.BigQuiet
set_option maxRecDepth 20000
namespace Go.Proofs.YtdkenokjdiamhaaDoor
open Go.RowKit

/-- The two arguments' blocks and the result's. -/
structure In2 (w : World) (a b : Sp) (w' : World) : Prop where
  i : SpAt w' w.heap.size a
  j : SpAt w' (w.heap.size + 1) b
  o : SpW w' (w.heap.size + 1 + 1) Sp.zero
  bel : Below w.heap.size w w'
theorem In2.keep {w w1 w2 : World} {a b : Sp} (h : In2 w a b w1) (k : Below w1.heap.size w1 w2) : In2 w a b w2 := ⟨h.i.below k, h.j.below k, h.o.below k, bel_next h.bel k⟩
theorem In2.new (w : World) (a b : Sp) : In2 w a b (((w.alloc (.cells #[.int .i64 a.f, .int .i64 a.t] 26)).alloc (.cells #[.int .i64 b.f, .int .i64 b.t] 26)).alloc (.cells #[.int .i64 0, .int .i64 0] 26)) := by
  have h1 := (Below.refl (w.alloc (.cells #[.int .i64 a.f, .int .i64 a.t] 26)).heap.size (w.alloc (.cells #[.int .i64 a.f, .int .i64 a.t] 26))).alloc (Nat.le_refl _) (.cells #[.int .i64 b.f, .int .i64 b.t] 26)
  have h2 := (Below.refl ((w.alloc (.cells #[.int .i64 a.f, .int .i64 a.t] 26)).alloc (.cells #[.int .i64 b.f, .int .i64 b.t] 26)).heap.size ((w.alloc (.cells #[.int .i64 a.f, .int .i64 a.t] 26)).alloc (.cells #[.int .i64 b.f, .int .i64 b.t] 26))).alloc (Nat.le_refl _) (.cells #[.int .i64 0, .int .i64 0] 26)
  refine ⟨((SpAt.new w a _).below h1).below h2, ?_, ?_, bel_new (bel_new ((Below.refl _ _).alloc (Nat.le_refl _) _) _) _⟩
  · have := (SpAt.new (w.alloc (.cells #[.int .i64 a.f, .int .i64 a.t] 26)) b 26).below h2; simpa using this
  · have := SpW.new ((w.alloc (.cells #[.int .i64 a.f, .int .i64 a.t] 26)).alloc (.cells #[.int .i64 b.f, .int .i64 b.t] 26)) Sp.zero 26
    unfold Sp.zero at this ⊢
    simpa using this

set_option maxHeartbeats 4000000 in
theorem rboth_na (a b c : Sp) (w : World) (H : bothI a b = c) (ha : a.is = false) : Calls Tryd.prog 21 #[a.v, b.v] w fun e w' => e = .returned (c.v) ∧ Below w.heap.size w w' := by
  have H0 := In2.new w a b
  have ka := fun w => ris_is a _ w (Lib.hid rfl)
  have kb := fun w => ris_is b _ w (Lib.hid rfl)
  unfold bothI at H
  rw [if_pos (by rw [ha]; simp)] at H
  have HC := Lib.hid (show Sp.zero.v = c.v by rw [H])
  rw [ha] at ka
  unfold Sp.v at ka kb
  rw [show a.v = .agg #[.int .i64 a.f, .int .i64 a.t] from rfl, show b.v = .agg #[.int .i64 b.f, .int .i64 b.t] from rfl]
  clear H ha
  go_enter Tryd.func21, Tryd.ntmps21
  go_wp2_with (first
    | (go_at_call 20; first
      | ((with_reducible refine (ka _).mono ?_); rintro e w1 ⟨rfl, hb1⟩; have H1 := H0.keep hb1; have G := H1.i; obtain ⟨x0, x1⟩ := G; have G := H1.j; obtain ⟨y0, y1⟩ := G; have G := H1.o; obtain ⟨⟨z0, z1⟩, g0, g1⟩ := G; dsimp only [Sp.zero] at z0 z1)
      | ((with_reducible refine (kb _).mono ?_); rintro e w2 ⟨rfl, hb2⟩; have H2 := H1.keep hb2; have hr1 := H2.j.room; have hr2 := H2.o.at_.room; (have hne1 : ¬ w.heap.size + 1 = w2.heap.size := by omega); (have hne2 : ¬ w2.heap.size = w.heap.size + 1 := by omega); (have hne3 : ¬ w.heap.size + 1 + 1 = w2.heap.size := by omega); (have hne4 : ¬ w2.heap.size = w.heap.size + 1 + 1 := by omega); clear hr1 hr2; have H3 := H2.keep ((Below.refl _ _).alloc (Nat.le_refl _) (.cells #[.int .i64 a.f, .int .i64 a.t] 26)); (have G := H3.j; obtain ⟨v00, v10⟩ := G); (have G := H3.o; obtain ⟨⟨t00, t10⟩, k00, k10⟩ := G; dsimp only [Sp.zero] at t00 t10); have G := H2.i; obtain ⟨x0, x1⟩ := G; have G := H2.j; obtain ⟨y0, y1⟩ := G; have G := H2.o; obtain ⟨⟨z0, z1⟩, g0, g1⟩ := G; dsimp only [Sp.zero] at z0 z1)))
  refine bodyPost_ret (v := .agg #[.int .i64 0, .int .i64 0]) (by simp [results, Tryd.results21, go_sem, z0, z1]; try rfl) rfl ⟨by rw [← HC.out]; rfl, ?_⟩
  first | exact H2.bel | exact two_set (H2.bel) _ (by omega) _ _

set_option maxHeartbeats 4000000 in
theorem rboth_nb (a b c : Sp) (w : World) (H : bothI a b = c) (ha : a.is = true) (hb : b.is = false) : Calls Tryd.prog 21 #[a.v, b.v] w fun e w' => e = .returned (c.v) ∧ Below w.heap.size w w' := by
  have H0 := In2.new w a b
  have ka := fun w => ris_is a _ w (Lib.hid rfl)
  have kb := fun w => ris_is b _ w (Lib.hid rfl)
  unfold bothI at H
  rw [if_pos (by rw [hb]; simp)] at H
  have HC := Lib.hid (show Sp.zero.v = c.v by rw [H])
  rw [ha] at ka
  rw [hb] at kb
  unfold Sp.v at ka kb
  rw [show a.v = .agg #[.int .i64 a.f, .int .i64 a.t] from rfl, show b.v = .agg #[.int .i64 b.f, .int .i64 b.t] from rfl]
  clear H ha hb
  go_enter Tryd.func21, Tryd.ntmps21
  go_wp2_with (first
    | (go_at_call 20; first
      | ((with_reducible refine (ka _).mono ?_); rintro e w1 ⟨rfl, hb1⟩; have H1 := H0.keep hb1; have G := H1.i; obtain ⟨x0, x1⟩ := G; have G := H1.j; obtain ⟨y0, y1⟩ := G; have G := H1.o; obtain ⟨⟨z0, z1⟩, g0, g1⟩ := G; dsimp only [Sp.zero] at z0 z1)
      | ((with_reducible refine (kb _).mono ?_); rintro e w2 ⟨rfl, hb2⟩; have H2 := H1.keep hb2; have hr1 := H2.j.room; have hr2 := H2.o.at_.room; (have hne1 : ¬ w.heap.size + 1 = w2.heap.size := by omega); (have hne2 : ¬ w2.heap.size = w.heap.size + 1 := by omega); (have hne3 : ¬ w.heap.size + 1 + 1 = w2.heap.size := by omega); (have hne4 : ¬ w2.heap.size = w.heap.size + 1 + 1 := by omega); clear hr1 hr2; have H3 := H2.keep ((Below.refl _ _).alloc (Nat.le_refl _) (.cells #[.int .i64 a.f, .int .i64 a.t] 26)); (have G := H3.j; obtain ⟨v00, v10⟩ := G); (have G := H3.o; obtain ⟨⟨t00, t10⟩, k00, k10⟩ := G; dsimp only [Sp.zero] at t00 t10); have G := H2.i; obtain ⟨x0, x1⟩ := G; have G := H2.j; obtain ⟨y0, y1⟩ := G; have G := H2.o; obtain ⟨⟨z0, z1⟩, g0, g1⟩ := G; dsimp only [Sp.zero] at z0 z1)))
  refine bodyPost_ret (v := .agg #[.int .i64 0, .int .i64 0]) (by simp [results, Tryd.results21, go_sem, z0, z1]; try rfl) rfl ⟨by rw [← HC.out]; rfl, ?_⟩
  first | exact H2.bel | exact two_set (H2.bel) _ (by omega) _ _

set_option maxHeartbeats 4000000 in
theorem rboth_000 (a b c : Sp) (w : World) (H : bothI a b = c) (ha : a.is = true) (hb : b.is = true) (hf : ¬ a.f < b.f) (hg : ¬ b.t < a.t) (he : ¬ a.t ≤ a.f) : Calls Tryd.prog 21 #[a.v, b.v] w fun e w' => e = .returned (c.v) ∧ Below w.heap.size w w' := by
  have H0 := In2.new w a b
  have ka := fun w => ris_is a _ w (Lib.hid rfl)
  have kb := fun w => ris_is b _ w (Lib.hid rfl)
  unfold bothI at H
  rw [if_neg (by rw [ha, hb]; simp)] at H
  have e1 : max a.f b.f = a.f := by omega
  have e2 : min a.t b.t = a.t := by omega
  rw [e1, e2, if_neg he] at H
  have HC := Lib.hid (show (Sp.mk a.f a.t).v = c.v by rw [H])
  rw [ha] at ka
  rw [hb] at kb
  unfold Sp.v at ka kb
  rw [show a.v = .agg #[.int .i64 a.f, .int .i64 a.t] from rfl, show b.v = .agg #[.int .i64 b.f, .int .i64 b.t] from rfl]
  clear H ha hb e1 e2
  go_enter Tryd.func21, Tryd.ntmps21
  go_wp2_with (first
    | (go_at_call 20; first
      | ((with_reducible refine (ka _).mono ?_); rintro e w1 ⟨rfl, hb1⟩; have H1 := H0.keep hb1; have G := H1.i; obtain ⟨x0, x1⟩ := G; have G := H1.j; obtain ⟨y0, y1⟩ := G; have G := H1.o; obtain ⟨⟨z0, z1⟩, g0, g1⟩ := G; dsimp only [Sp.zero] at z0 z1)
      | ((with_reducible refine (kb _).mono ?_); rintro e w2 ⟨rfl, hb2⟩; have H2 := H1.keep hb2; have hr1 := H2.j.room; have hr2 := H2.o.at_.room; (have hne1 : ¬ w.heap.size + 1 = w2.heap.size := by omega); (have hne2 : ¬ w2.heap.size = w.heap.size + 1 := by omega); (have hne3 : ¬ w.heap.size + 1 + 1 = w2.heap.size := by omega); (have hne4 : ¬ w2.heap.size = w.heap.size + 1 + 1 := by omega); clear hr1 hr2; have H3 := H2.keep ((Below.refl _ _).alloc (Nat.le_refl _) (.cells #[.int .i64 a.f, .int .i64 a.t] 26)); (have G := H3.j; obtain ⟨v00, v10⟩ := G); (have G := H3.o; obtain ⟨⟨t00, t10⟩, k00, k10⟩ := G; dsimp only [Sp.zero] at t00 t10); have G := H2.i; obtain ⟨x0, x1⟩ := G; have G := H2.j; obtain ⟨y0, y1⟩ := G; have G := H2.o; obtain ⟨⟨z0, z1⟩, g0, g1⟩ := G; dsimp only [Sp.zero] at z0 z1)))
  refine bodyPost_ret (v := .agg #[.int .i64 a.f, .int .i64 a.t]) (by simp [results, Tryd.results21, go_sem, t00, t10]; try rfl) rfl ⟨by rw [← HC.out]; rfl, ?_⟩
  first | exact bel_new H2.bel _ | exact two_set (bel_new H2.bel _) _ (by omega) _ _

set_option maxHeartbeats 4000000 in
theorem rboth_001 (a b c : Sp) (w : World) (H : bothI a b = c) (ha : a.is = true) (hb : b.is = true) (hf : ¬ a.f < b.f) (hg : ¬ b.t < a.t) (he : a.t ≤ a.f) : Calls Tryd.prog 21 #[a.v, b.v] w fun e w' => e = .returned (c.v) ∧ Below w.heap.size w w' := by
  have H0 := In2.new w a b
  have ka := fun w => ris_is a _ w (Lib.hid rfl)
  have kb := fun w => ris_is b _ w (Lib.hid rfl)
  unfold bothI at H
  rw [if_neg (by rw [ha, hb]; simp)] at H
  have e1 : max a.f b.f = a.f := by omega
  have e2 : min a.t b.t = a.t := by omega
  rw [e1, e2, if_pos he] at H
  have HC := Lib.hid (show Sp.zero.v = c.v by rw [H])
  rw [ha] at ka
  rw [hb] at kb
  unfold Sp.v at ka kb
  rw [show a.v = .agg #[.int .i64 a.f, .int .i64 a.t] from rfl, show b.v = .agg #[.int .i64 b.f, .int .i64 b.t] from rfl]
  clear H ha hb e1 e2
  go_enter Tryd.func21, Tryd.ntmps21
  go_wp2_with (first
    | (go_at_call 20; first
      | ((with_reducible refine (ka _).mono ?_); rintro e w1 ⟨rfl, hb1⟩; have H1 := H0.keep hb1; have G := H1.i; obtain ⟨x0, x1⟩ := G; have G := H1.j; obtain ⟨y0, y1⟩ := G; have G := H1.o; obtain ⟨⟨z0, z1⟩, g0, g1⟩ := G; dsimp only [Sp.zero] at z0 z1)
      | ((with_reducible refine (kb _).mono ?_); rintro e w2 ⟨rfl, hb2⟩; have H2 := H1.keep hb2; have hr1 := H2.j.room; have hr2 := H2.o.at_.room; (have hne1 : ¬ w.heap.size + 1 = w2.heap.size := by omega); (have hne2 : ¬ w2.heap.size = w.heap.size + 1 := by omega); (have hne3 : ¬ w.heap.size + 1 + 1 = w2.heap.size := by omega); (have hne4 : ¬ w2.heap.size = w.heap.size + 1 + 1 := by omega); clear hr1 hr2; have H3 := H2.keep ((Below.refl _ _).alloc (Nat.le_refl _) (.cells #[.int .i64 a.f, .int .i64 a.t] 26)); (have G := H3.j; obtain ⟨v00, v10⟩ := G); (have G := H3.o; obtain ⟨⟨t00, t10⟩, k00, k10⟩ := G; dsimp only [Sp.zero] at t00 t10); have G := H2.i; obtain ⟨x0, x1⟩ := G; have G := H2.j; obtain ⟨y0, y1⟩ := G; have G := H2.o; obtain ⟨⟨z0, z1⟩, g0, g1⟩ := G; dsimp only [Sp.zero] at z0 z1)))
  refine bodyPost_ret (v := .agg #[.int .i64 0, .int .i64 0]) (by simp [results, Tryd.results21, go_sem, t00, t10]; try rfl) rfl ⟨by rw [← HC.out]; rfl, ?_⟩
  first | exact bel_new H2.bel _ | exact two_set (bel_new H2.bel _) _ (by omega) _ _

set_option maxHeartbeats 4000000 in
theorem rboth_010 (a b c : Sp) (w : World) (H : bothI a b = c) (ha : a.is = true) (hb : b.is = true) (hf : ¬ a.f < b.f) (hg : b.t < a.t) (he : ¬ b.t ≤ a.f) : Calls Tryd.prog 21 #[a.v, b.v] w fun e w' => e = .returned (c.v) ∧ Below w.heap.size w w' := by
  have H0 := In2.new w a b
  have ka := fun w => ris_is a _ w (Lib.hid rfl)
  have kb := fun w => ris_is b _ w (Lib.hid rfl)
  unfold bothI at H
  rw [if_neg (by rw [ha, hb]; simp)] at H
  have e1 : max a.f b.f = a.f := by omega
  have e2 : min a.t b.t = b.t := by omega
  rw [e1, e2, if_neg he] at H
  have HC := Lib.hid (show (Sp.mk a.f b.t).v = c.v by rw [H])
  rw [ha] at ka
  rw [hb] at kb
  unfold Sp.v at ka kb
  rw [show a.v = .agg #[.int .i64 a.f, .int .i64 a.t] from rfl, show b.v = .agg #[.int .i64 b.f, .int .i64 b.t] from rfl]
  clear H ha hb e1 e2
  go_enter Tryd.func21, Tryd.ntmps21
  go_wp2_with (first
    | (go_at_call 20; first
      | ((with_reducible refine (ka _).mono ?_); rintro e w1 ⟨rfl, hb1⟩; have H1 := H0.keep hb1; have G := H1.i; obtain ⟨x0, x1⟩ := G; have G := H1.j; obtain ⟨y0, y1⟩ := G; have G := H1.o; obtain ⟨⟨z0, z1⟩, g0, g1⟩ := G; dsimp only [Sp.zero] at z0 z1)
      | ((with_reducible refine (kb _).mono ?_); rintro e w2 ⟨rfl, hb2⟩; have H2 := H1.keep hb2; have hr1 := H2.j.room; have hr2 := H2.o.at_.room; (have hne1 : ¬ w.heap.size + 1 = w2.heap.size := by omega); (have hne2 : ¬ w2.heap.size = w.heap.size + 1 := by omega); (have hne3 : ¬ w.heap.size + 1 + 1 = w2.heap.size := by omega); (have hne4 : ¬ w2.heap.size = w.heap.size + 1 + 1 := by omega); clear hr1 hr2; have H3 := H2.keep ((Below.refl _ _).alloc (Nat.le_refl _) (.cells #[.int .i64 a.f, .int .i64 a.t] 26)); (have G := H3.j; obtain ⟨v00, v10⟩ := G); (have G := H3.o; obtain ⟨⟨t00, t10⟩, k00, k10⟩ := G; dsimp only [Sp.zero] at t00 t10); have H3 := H2.keep ((Below.refl _ _).alloc (Nat.le_refl _) (.cells #[.int .i64 a.f, .int .i64 b.t] 26)); (have G := H3.j; obtain ⟨v01, v11⟩ := G); (have G := H3.o; obtain ⟨⟨t01, t11⟩, k01, k11⟩ := G; dsimp only [Sp.zero] at t01 t11); have G := H2.i; obtain ⟨x0, x1⟩ := G; have G := H2.j; obtain ⟨y0, y1⟩ := G; have G := H2.o; obtain ⟨⟨z0, z1⟩, g0, g1⟩ := G; dsimp only [Sp.zero] at z0 z1)))
  refine bodyPost_ret (v := .agg #[.int .i64 a.f, .int .i64 b.t]) (by simp [results, Tryd.results21, go_sem, t01, t11]; try rfl) rfl ⟨by rw [← HC.out]; rfl, ?_⟩
  first | exact bel_new H2.bel _ | exact two_set (bel_new H2.bel _) _ (by omega) _ _

set_option maxHeartbeats 4000000 in
theorem rboth_011 (a b c : Sp) (w : World) (H : bothI a b = c) (ha : a.is = true) (hb : b.is = true) (hf : ¬ a.f < b.f) (hg : b.t < a.t) (he : b.t ≤ a.f) : Calls Tryd.prog 21 #[a.v, b.v] w fun e w' => e = .returned (c.v) ∧ Below w.heap.size w w' := by
  have H0 := In2.new w a b
  have ka := fun w => ris_is a _ w (Lib.hid rfl)
  have kb := fun w => ris_is b _ w (Lib.hid rfl)
  unfold bothI at H
  rw [if_neg (by rw [ha, hb]; simp)] at H
  have e1 : max a.f b.f = a.f := by omega
  have e2 : min a.t b.t = b.t := by omega
  rw [e1, e2, if_pos he] at H
  have HC := Lib.hid (show Sp.zero.v = c.v by rw [H])
  rw [ha] at ka
  rw [hb] at kb
  unfold Sp.v at ka kb
  rw [show a.v = .agg #[.int .i64 a.f, .int .i64 a.t] from rfl, show b.v = .agg #[.int .i64 b.f, .int .i64 b.t] from rfl]
  clear H ha hb e1 e2
  go_enter Tryd.func21, Tryd.ntmps21
  go_wp2_with (first
    | (go_at_call 20; first
      | ((with_reducible refine (ka _).mono ?_); rintro e w1 ⟨rfl, hb1⟩; have H1 := H0.keep hb1; have G := H1.i; obtain ⟨x0, x1⟩ := G; have G := H1.j; obtain ⟨y0, y1⟩ := G; have G := H1.o; obtain ⟨⟨z0, z1⟩, g0, g1⟩ := G; dsimp only [Sp.zero] at z0 z1)
      | ((with_reducible refine (kb _).mono ?_); rintro e w2 ⟨rfl, hb2⟩; have H2 := H1.keep hb2; have hr1 := H2.j.room; have hr2 := H2.o.at_.room; (have hne1 : ¬ w.heap.size + 1 = w2.heap.size := by omega); (have hne2 : ¬ w2.heap.size = w.heap.size + 1 := by omega); (have hne3 : ¬ w.heap.size + 1 + 1 = w2.heap.size := by omega); (have hne4 : ¬ w2.heap.size = w.heap.size + 1 + 1 := by omega); clear hr1 hr2; have H3 := H2.keep ((Below.refl _ _).alloc (Nat.le_refl _) (.cells #[.int .i64 a.f, .int .i64 a.t] 26)); (have G := H3.j; obtain ⟨v00, v10⟩ := G); (have G := H3.o; obtain ⟨⟨t00, t10⟩, k00, k10⟩ := G; dsimp only [Sp.zero] at t00 t10); have H3 := H2.keep ((Below.refl _ _).alloc (Nat.le_refl _) (.cells #[.int .i64 a.f, .int .i64 b.t] 26)); (have G := H3.j; obtain ⟨v01, v11⟩ := G); (have G := H3.o; obtain ⟨⟨t01, t11⟩, k01, k11⟩ := G; dsimp only [Sp.zero] at t01 t11); have G := H2.i; obtain ⟨x0, x1⟩ := G; have G := H2.j; obtain ⟨y0, y1⟩ := G; have G := H2.o; obtain ⟨⟨z0, z1⟩, g0, g1⟩ := G; dsimp only [Sp.zero] at z0 z1)))
  refine bodyPost_ret (v := .agg #[.int .i64 0, .int .i64 0]) (by simp [results, Tryd.results21, go_sem, t01, t11]; try rfl) rfl ⟨by rw [← HC.out]; rfl, ?_⟩
  first | exact bel_new H2.bel _ | exact two_set (bel_new H2.bel _) _ (by omega) _ _

set_option maxHeartbeats 4000000 in
theorem rboth_100 (a b c : Sp) (w : World) (H : bothI a b = c) (ha : a.is = true) (hb : b.is = true) (hf : a.f < b.f) (hg : ¬ b.t < a.t) (he : ¬ a.t ≤ b.f) : Calls Tryd.prog 21 #[a.v, b.v] w fun e w' => e = .returned (c.v) ∧ Below w.heap.size w w' := by
  have H0 := In2.new w a b
  have ka := fun w => ris_is a _ w (Lib.hid rfl)
  have kb := fun w => ris_is b _ w (Lib.hid rfl)
  unfold bothI at H
  rw [if_neg (by rw [ha, hb]; simp)] at H
  have e1 : max a.f b.f = b.f := by omega
  have e2 : min a.t b.t = a.t := by omega
  rw [e1, e2, if_neg he] at H
  have HC := Lib.hid (show (Sp.mk b.f a.t).v = c.v by rw [H])
  rw [ha] at ka
  rw [hb] at kb
  unfold Sp.v at ka kb
  rw [show a.v = .agg #[.int .i64 a.f, .int .i64 a.t] from rfl, show b.v = .agg #[.int .i64 b.f, .int .i64 b.t] from rfl]
  clear H ha hb e1 e2
  go_enter Tryd.func21, Tryd.ntmps21
  go_wp2_with (first
    | (go_at_call 20; first
      | ((with_reducible refine (ka _).mono ?_); rintro e w1 ⟨rfl, hb1⟩; have H1 := H0.keep hb1; have G := H1.i; obtain ⟨x0, x1⟩ := G; have G := H1.j; obtain ⟨y0, y1⟩ := G; have G := H1.o; obtain ⟨⟨z0, z1⟩, g0, g1⟩ := G; dsimp only [Sp.zero] at z0 z1)
      | ((with_reducible refine (kb _).mono ?_); rintro e w2 ⟨rfl, hb2⟩; have H2 := H1.keep hb2; have hr1 := H2.j.room; have hr2 := H2.o.at_.room; (have hne1 : ¬ w.heap.size + 1 = w2.heap.size := by omega); (have hne2 : ¬ w2.heap.size = w.heap.size + 1 := by omega); (have hne3 : ¬ w.heap.size + 1 + 1 = w2.heap.size := by omega); (have hne4 : ¬ w2.heap.size = w.heap.size + 1 + 1 := by omega); clear hr1 hr2; have H3 := H2.keep ((Below.refl _ _).alloc (Nat.le_refl _) (.cells #[.int .i64 a.f, .int .i64 a.t] 26)); (have G := H3.j; obtain ⟨v00, v10⟩ := G); (have G := H3.o; obtain ⟨⟨t00, t10⟩, k00, k10⟩ := G; dsimp only [Sp.zero] at t00 t10); have H3 := H2.keep ((Below.refl _ _).alloc (Nat.le_refl _) (.cells #[.int .i64 b.f, .int .i64 a.t] 26)); (have G := H3.j; obtain ⟨v01, v11⟩ := G); (have G := H3.o; obtain ⟨⟨t01, t11⟩, k01, k11⟩ := G; dsimp only [Sp.zero] at t01 t11); have G := H2.i; obtain ⟨x0, x1⟩ := G; have G := H2.j; obtain ⟨y0, y1⟩ := G; have G := H2.o; obtain ⟨⟨z0, z1⟩, g0, g1⟩ := G; dsimp only [Sp.zero] at z0 z1)))
  refine bodyPost_ret (v := .agg #[.int .i64 b.f, .int .i64 a.t]) (by simp [results, Tryd.results21, go_sem, t01, t11]; try rfl) rfl ⟨by rw [← HC.out]; rfl, ?_⟩
  first | exact bel_new H2.bel _ | exact two_set (bel_new H2.bel _) _ (by omega) _ _

set_option maxHeartbeats 4000000 in
theorem rboth_101 (a b c : Sp) (w : World) (H : bothI a b = c) (ha : a.is = true) (hb : b.is = true) (hf : a.f < b.f) (hg : ¬ b.t < a.t) (he : a.t ≤ b.f) : Calls Tryd.prog 21 #[a.v, b.v] w fun e w' => e = .returned (c.v) ∧ Below w.heap.size w w' := by
  have H0 := In2.new w a b
  have ka := fun w => ris_is a _ w (Lib.hid rfl)
  have kb := fun w => ris_is b _ w (Lib.hid rfl)
  unfold bothI at H
  rw [if_neg (by rw [ha, hb]; simp)] at H
  have e1 : max a.f b.f = b.f := by omega
  have e2 : min a.t b.t = a.t := by omega
  rw [e1, e2, if_pos he] at H
  have HC := Lib.hid (show Sp.zero.v = c.v by rw [H])
  rw [ha] at ka
  rw [hb] at kb
  unfold Sp.v at ka kb
  rw [show a.v = .agg #[.int .i64 a.f, .int .i64 a.t] from rfl, show b.v = .agg #[.int .i64 b.f, .int .i64 b.t] from rfl]
  clear H ha hb e1 e2
  go_enter Tryd.func21, Tryd.ntmps21
  go_wp2_with (first
    | (go_at_call 20; first
      | ((with_reducible refine (ka _).mono ?_); rintro e w1 ⟨rfl, hb1⟩; have H1 := H0.keep hb1; have G := H1.i; obtain ⟨x0, x1⟩ := G; have G := H1.j; obtain ⟨y0, y1⟩ := G; have G := H1.o; obtain ⟨⟨z0, z1⟩, g0, g1⟩ := G; dsimp only [Sp.zero] at z0 z1)
      | ((with_reducible refine (kb _).mono ?_); rintro e w2 ⟨rfl, hb2⟩; have H2 := H1.keep hb2; have hr1 := H2.j.room; have hr2 := H2.o.at_.room; (have hne1 : ¬ w.heap.size + 1 = w2.heap.size := by omega); (have hne2 : ¬ w2.heap.size = w.heap.size + 1 := by omega); (have hne3 : ¬ w.heap.size + 1 + 1 = w2.heap.size := by omega); (have hne4 : ¬ w2.heap.size = w.heap.size + 1 + 1 := by omega); clear hr1 hr2; have H3 := H2.keep ((Below.refl _ _).alloc (Nat.le_refl _) (.cells #[.int .i64 a.f, .int .i64 a.t] 26)); (have G := H3.j; obtain ⟨v00, v10⟩ := G); (have G := H3.o; obtain ⟨⟨t00, t10⟩, k00, k10⟩ := G; dsimp only [Sp.zero] at t00 t10); have H3 := H2.keep ((Below.refl _ _).alloc (Nat.le_refl _) (.cells #[.int .i64 b.f, .int .i64 a.t] 26)); (have G := H3.j; obtain ⟨v01, v11⟩ := G); (have G := H3.o; obtain ⟨⟨t01, t11⟩, k01, k11⟩ := G; dsimp only [Sp.zero] at t01 t11); have G := H2.i; obtain ⟨x0, x1⟩ := G; have G := H2.j; obtain ⟨y0, y1⟩ := G; have G := H2.o; obtain ⟨⟨z0, z1⟩, g0, g1⟩ := G; dsimp only [Sp.zero] at z0 z1)))
  refine bodyPost_ret (v := .agg #[.int .i64 0, .int .i64 0]) (by simp [results, Tryd.results21, go_sem, t01, t11]; try rfl) rfl ⟨by rw [← HC.out]; rfl, ?_⟩
  first | exact bel_new H2.bel _ | exact two_set (bel_new H2.bel _) _ (by omega) _ _

set_option maxHeartbeats 4000000 in
theorem rboth_110 (a b c : Sp) (w : World) (H : bothI a b = c) (ha : a.is = true) (hb : b.is = true) (hf : a.f < b.f) (hg : b.t < a.t) (he : ¬ b.t ≤ b.f) : Calls Tryd.prog 21 #[a.v, b.v] w fun e w' => e = .returned (c.v) ∧ Below w.heap.size w w' := by
  have H0 := In2.new w a b
  have ka := fun w => ris_is a _ w (Lib.hid rfl)
  have kb := fun w => ris_is b _ w (Lib.hid rfl)
  unfold bothI at H
  rw [if_neg (by rw [ha, hb]; simp)] at H
  have e1 : max a.f b.f = b.f := by omega
  have e2 : min a.t b.t = b.t := by omega
  rw [e1, e2, if_neg he] at H
  have HC := Lib.hid (show (Sp.mk b.f b.t).v = c.v by rw [H])
  rw [ha] at ka
  rw [hb] at kb
  unfold Sp.v at ka kb
  rw [show a.v = .agg #[.int .i64 a.f, .int .i64 a.t] from rfl, show b.v = .agg #[.int .i64 b.f, .int .i64 b.t] from rfl]
  clear H ha hb e1 e2
  go_enter Tryd.func21, Tryd.ntmps21
  go_wp2_with (first
    | (go_at_call 20; first
      | ((with_reducible refine (ka _).mono ?_); rintro e w1 ⟨rfl, hb1⟩; have H1 := H0.keep hb1; have G := H1.i; obtain ⟨x0, x1⟩ := G; have G := H1.j; obtain ⟨y0, y1⟩ := G; have G := H1.o; obtain ⟨⟨z0, z1⟩, g0, g1⟩ := G; dsimp only [Sp.zero] at z0 z1)
      | ((with_reducible refine (kb _).mono ?_); rintro e w2 ⟨rfl, hb2⟩; have H2 := H1.keep hb2; have hr1 := H2.j.room; have hr2 := H2.o.at_.room; (have hne1 : ¬ w.heap.size + 1 = w2.heap.size := by omega); (have hne2 : ¬ w2.heap.size = w.heap.size + 1 := by omega); (have hne3 : ¬ w.heap.size + 1 + 1 = w2.heap.size := by omega); (have hne4 : ¬ w2.heap.size = w.heap.size + 1 + 1 := by omega); clear hr1 hr2; have H3 := H2.keep ((Below.refl _ _).alloc (Nat.le_refl _) (.cells #[.int .i64 a.f, .int .i64 a.t] 26)); (have G := H3.j; obtain ⟨v00, v10⟩ := G); (have G := H3.o; obtain ⟨⟨t00, t10⟩, k00, k10⟩ := G; dsimp only [Sp.zero] at t00 t10); have H3 := H2.keep ((Below.refl _ _).alloc (Nat.le_refl _) (.cells #[.int .i64 b.f, .int .i64 a.t] 26)); (have G := H3.j; obtain ⟨v01, v11⟩ := G); (have G := H3.o; obtain ⟨⟨t01, t11⟩, k01, k11⟩ := G; dsimp only [Sp.zero] at t01 t11); have H3 := H2.keep ((Below.refl _ _).alloc (Nat.le_refl _) (.cells #[.int .i64 b.f, .int .i64 b.t] 26)); (have G := H3.j; obtain ⟨v02, v12⟩ := G); (have G := H3.o; obtain ⟨⟨t02, t12⟩, k02, k12⟩ := G; dsimp only [Sp.zero] at t02 t12); have G := H2.i; obtain ⟨x0, x1⟩ := G; have G := H2.j; obtain ⟨y0, y1⟩ := G; have G := H2.o; obtain ⟨⟨z0, z1⟩, g0, g1⟩ := G; dsimp only [Sp.zero] at z0 z1)))
  refine bodyPost_ret (v := .agg #[.int .i64 b.f, .int .i64 b.t]) (by simp [results, Tryd.results21, go_sem, t02, t12]; try rfl) rfl ⟨by rw [← HC.out]; rfl, ?_⟩
  first | exact bel_new H2.bel _ | exact two_set (bel_new H2.bel _) _ (by omega) _ _

set_option maxHeartbeats 4000000 in
theorem rboth_111 (a b c : Sp) (w : World) (H : bothI a b = c) (ha : a.is = true) (hb : b.is = true) (hf : a.f < b.f) (hg : b.t < a.t) (he : b.t ≤ b.f) : Calls Tryd.prog 21 #[a.v, b.v] w fun e w' => e = .returned (c.v) ∧ Below w.heap.size w w' := by
  have H0 := In2.new w a b
  have ka := fun w => ris_is a _ w (Lib.hid rfl)
  have kb := fun w => ris_is b _ w (Lib.hid rfl)
  unfold bothI at H
  rw [if_neg (by rw [ha, hb]; simp)] at H
  have e1 : max a.f b.f = b.f := by omega
  have e2 : min a.t b.t = b.t := by omega
  rw [e1, e2, if_pos he] at H
  have HC := Lib.hid (show Sp.zero.v = c.v by rw [H])
  rw [ha] at ka
  rw [hb] at kb
  unfold Sp.v at ka kb
  rw [show a.v = .agg #[.int .i64 a.f, .int .i64 a.t] from rfl, show b.v = .agg #[.int .i64 b.f, .int .i64 b.t] from rfl]
  clear H ha hb e1 e2
  go_enter Tryd.func21, Tryd.ntmps21
  go_wp2_with (first
    | (go_at_call 20; first
      | ((with_reducible refine (ka _).mono ?_); rintro e w1 ⟨rfl, hb1⟩; have H1 := H0.keep hb1; have G := H1.i; obtain ⟨x0, x1⟩ := G; have G := H1.j; obtain ⟨y0, y1⟩ := G; have G := H1.o; obtain ⟨⟨z0, z1⟩, g0, g1⟩ := G; dsimp only [Sp.zero] at z0 z1)
      | ((with_reducible refine (kb _).mono ?_); rintro e w2 ⟨rfl, hb2⟩; have H2 := H1.keep hb2; have hr1 := H2.j.room; have hr2 := H2.o.at_.room; (have hne1 : ¬ w.heap.size + 1 = w2.heap.size := by omega); (have hne2 : ¬ w2.heap.size = w.heap.size + 1 := by omega); (have hne3 : ¬ w.heap.size + 1 + 1 = w2.heap.size := by omega); (have hne4 : ¬ w2.heap.size = w.heap.size + 1 + 1 := by omega); clear hr1 hr2; have H3 := H2.keep ((Below.refl _ _).alloc (Nat.le_refl _) (.cells #[.int .i64 a.f, .int .i64 a.t] 26)); (have G := H3.j; obtain ⟨v00, v10⟩ := G); (have G := H3.o; obtain ⟨⟨t00, t10⟩, k00, k10⟩ := G; dsimp only [Sp.zero] at t00 t10); have H3 := H2.keep ((Below.refl _ _).alloc (Nat.le_refl _) (.cells #[.int .i64 b.f, .int .i64 a.t] 26)); (have G := H3.j; obtain ⟨v01, v11⟩ := G); (have G := H3.o; obtain ⟨⟨t01, t11⟩, k01, k11⟩ := G; dsimp only [Sp.zero] at t01 t11); have H3 := H2.keep ((Below.refl _ _).alloc (Nat.le_refl _) (.cells #[.int .i64 b.f, .int .i64 b.t] 26)); (have G := H3.j; obtain ⟨v02, v12⟩ := G); (have G := H3.o; obtain ⟨⟨t02, t12⟩, k02, k12⟩ := G; dsimp only [Sp.zero] at t02 t12); have G := H2.i; obtain ⟨x0, x1⟩ := G; have G := H2.j; obtain ⟨y0, y1⟩ := G; have G := H2.o; obtain ⟨⟨z0, z1⟩, g0, g1⟩ := G; dsimp only [Sp.zero] at z0 z1)))
  refine bodyPost_ret (v := .agg #[.int .i64 0, .int .i64 0]) (by simp [results, Tryd.results21, go_sem, t02, t12]; try rfl) rfl ⟨by rw [← HC.out]; rfl, ?_⟩
  first | exact bel_new H2.bel _ | exact two_set (bel_new H2.bel _) _ (by omega) _ _

theorem rboth_is (a b c : Sp) (w : World) (H : Hid (bothI a b = c)) : Calls Tryd.prog 21 #[a.v, b.v] w fun e w' => e = .returned (c.v) ∧ Below w.heap.size w w' := by
  cases ha : a.is with
  | false => exact rboth_na a b c w H.out ha
  | true =>
    cases hb : b.is with
    | false => exact rboth_nb a b c w H.out ha hb
    | true =>
      by_cases hf : a.f < b.f
      · by_cases hg : b.t < a.t
        · by_cases he : b.t ≤ b.f
          · exact rboth_111 a b c w H.out ha hb hf hg he
          · exact rboth_110 a b c w H.out ha hb hf hg he
        · by_cases he : a.t ≤ b.f
          · exact rboth_101 a b c w H.out ha hb hf hg he
          · exact rboth_100 a b c w H.out ha hb hf hg he
      · by_cases hg : b.t < a.t
        · by_cases he : b.t ≤ a.f
          · exact rboth_011 a b c w H.out ha hb hf hg he
          · exact rboth_010 a b c w H.out ha hb hf hg he
        · by_cases he : a.t ≤ a.f
          · exact rboth_001 a b c w H.out ha hb hf hg he
          · exact rboth_000 a b c w H.out ha hb hf hg he

/-- A slice of spans that the call has made above B. -/
theorem info_parts {o : Option TypeInfo} {z : Value} {n m : Nat} (h : o.map (fun i => (i.zero, i.size, i.bytes)) = some (some z, n, m)) : ∃ i0, o = some i0 ∧ i0.zero = some z ∧ i0.size = n ∧ i0.bytes = m := by
  cases o with
  | none => cases h
  | some i => simp at h; exact ⟨i, rfl, h.1, h.2.1, h.2.2⟩
theorem infoSp : (Tryd.prog.info? 26).map (fun i => (i.zero, i.size, i.bytes)) = some (some (.agg #[.int .i64 0, .int .i64 0]), 2, 16) := by kernel_rfl
def cells2 (s : Sp) : List Value := [.int .i64 s.f, .int .i64 s.t]
theorem flat2_len (l : List Sp) : (l.flatMap cells2).length = l.length * 2 := by
  induction l with
  | nil => rfl
  | cons a t ih =>
    have e : (a :: t).flatMap cells2 = cells2 a ++ t.flatMap cells2 := by simp
    rw [e, List.length_append, ih, List.length_cons]
    show 2 + t.length * 2 = _
    omega
theorem flat2_at (l : List Sp) : ∀ i (h : i < l.length) r, r < 2 → (l.flatMap cells2)[i * 2 + r]? = (cells2 l[i])[r]? := by
  induction l with
  | nil => intro i h; simp at h
  | cons a t ih =>
    intro i h r hr
    have e : (a :: t).flatMap cells2 = cells2 a ++ t.flatMap cells2 := by simp
    have hl : (cells2 a).length = 2 := rfl
    rw [e]
    cases i with
    | zero =>
      rw [List.getElem?_append_left (by omega)]
      simp
    | succ i =>
      rw [List.getElem?_append_right (by omega), hl]
      have e2 : (i + 1) * 2 + r - 2 = i * 2 + r := by omega
      rw [e2, ih i (by simpa using h) r hr]
      simp
/-- A span in block b from o on. -/
structure SpO (w : World) (b o : Nat) (s : Sp) : Prop where
  c0 : w.cell? ⟨b, o, none⟩ = some (.int .i64 s.f)
  c1 : w.cell? ⟨b, o + 1, none⟩ = some (.int .i64 s.t)
theorem SpO.room {w : World} {b o : Nat} {s : Sp} (h : SpO w b o s) : b < w.heap.size := World.block_lt_of_cell? w _ h.c0
theorem SpO.below {w w' : World} {b o B : Nat} {s : Sp} (h : SpO w b o s) (k : Below B w w') (hb : b < B) : SpO w' b o s := ⟨(k.cell (p := ⟨b, o, none⟩) hb).trans h.c0, (k.cell (p := ⟨b, o + 1, none⟩) hb).trans h.c1⟩
/-- A slice of the spans l, in a block below B. -/
structure Sps (w : World) (B : Nat) (a : Option Addr) (l : List Sp) : Prop where
  at_ : l = [] ∨ ∃ b off, a = some ⟨b, off, none⟩ ∧ b < B ∧ ∀ j (h : j < l.length), SpO w b (off + j * 2) l[j]
theorem Sps.below {w w' : World} {B : Nat} {a : Option Addr} {l : List Sp} (h : Sps w B a l) (k : Below B w w') : Sps w' B a l := by
  rcases h.at_ with h | ⟨b, off, e, hb, hc⟩
  · exact ⟨Or.inl h⟩
  · exact ⟨Or.inr ⟨b, off, e, hb, fun j hj => (hc j hj).below k hb⟩⟩
theorem Sps.mono {w : World} {B B' : Nat} {a : Option Addr} {l : List Sp} (h : Sps w B a l) (k : B ≤ B') : Sps w B' a l := by
  rcases h.at_ with h | ⟨b, off, e, hb, hc⟩
  · exact ⟨Or.inl h⟩
  · exact ⟨Or.inr ⟨b, off, e, by omega, hc⟩⟩
def SpRow (w : World) (B : Nat) (v : Value) (xs : List Sp) : Prop := w.ownsRow B 26 2 v xs.length (xs.flatMap cells2)
theorem SpRow.slice {w : World} {B : Nat} {v : Value} {xs : List Sp} (h : SpRow w B v xs) : ∃ a c, v = .slice a xs.length c := by
  rcases h.2 with ⟨h, h0⟩ | ⟨g, cap, cur, h, _⟩
  · exact ⟨_, _, by rw [h, h0]⟩
  · exact ⟨_, _, h⟩
theorem SpRow.nil (w : World) (B : Nat) : SpRow w B (.slice none 0 0) [] := World.ownsRow_nil _ _ _ _
theorem owns2_later {w w' : World} {B size n : Nat} {e : TypeId} {v : Value} {xs : List Value} (h : w.ownsRow B e size v n xs) (k : Below w.heap.size w w') : w'.ownsRow B e size v n xs := by
  obtain ⟨h1, h2⟩ := h
  refine ⟨h1, ?_⟩
  rcases h2 with h2 | ⟨g, cap, cur, e1, e2, e3, rest⟩
  · exact Or.inl h2
  · have hg : g < w.heap.size := (Array.getElem?_eq_some_iff.1 e3).1
    exact Or.inr ⟨g, cap, cur, e1, e2, (k.block g hg).trans e3, rest⟩
theorem SpRow.later {w w' : World} {B : Nat} {v : Value} {xs : List Sp} (h : SpRow w B v xs) (k : Below w.heap.size w w') : SpRow w' B v xs := owns2_later h k
theorem SpRow.sps {w : World} {B : Nat} {a : Option Addr} {n c : Nat} {xs : List Sp} (h : SpRow w B (.slice a n c) xs) : Sps w w.heap.size a xs := by
  by_cases hz : xs = []
  · exact ⟨Or.inl hz⟩
  · have hp : 0 < xs.length := List.length_pos_iff.2 hz
    have h0 := h
    rcases h.2 with ⟨hv, h0⟩ | ⟨g, cap, cur, hv, _⟩
    · exact absurd (List.eq_nil_of_length_eq_zero h0) hz
    · injection hv with e1 e2 e3
      subst e1 e2 e3
      have e1 := World.ownsRow.cellAt (show w.ownsRow B 26 2 _ xs.length (xs.flatMap cells2) from h0)
      have c : ∀ j (hj : j < xs.length), SpO w g (0 + j * 2) xs[j] := fun j hj => by
        rw [Nat.zero_add]
        refine ⟨?_, ?_⟩
        · have := flat2_at xs j hj 0 (by omega)
          rw [Nat.add_zero] at this
          rw [e1 _ (by omega), this]; rfl
        · rw [e1 _ (by omega), flat2_at xs j hj 1 (by omega)]; rfl
      exact ⟨Or.inr ⟨g, 0, rfl, (c 0 hp).room, c⟩⟩

def Sp.same (a b : Sp) : Bool := decide (a.f = b.f) && decide (a.t = b.t)
theorem Sp.same_iff {a b : Sp} : a.same b = true ↔ a = b := by
  obtain ⟨f1, t1⟩ := a
  obtain ⟨f2, t2⟩ := b
  simp [Sp.same]
theorem sp_eql (a b : Sp) (w : World) : (binOp .eql 26 (.agg #[.int .i64 a.f, .int .i64 a.t]) (.agg #[.int .i64 b.f, .int .i64 b.t])).run Tryd.prog w = .ok (.bool (a.same b)) w := by
  obtain ⟨f1, t1⟩ := a
  obtain ⟨f2, t2⟩ := b
  by_cases h1 : f1 = f2
  · by_cases h2 : t1 = t2
    · subst h1 h2; simp [go_sem, Sp.same]
    · subst h1; simp [go_sem, Sp.same, h2]
  · simp [go_sem, Sp.same, h1]
theorem sp_neq (a b : Sp) (w : World) : (binOp .neq 26 (.agg #[.int .i64 a.f, .int .i64 a.t]) (.agg #[.int .i64 b.f, .int .i64 b.t])).run Tryd.prog w = .ok (.bool (!a.same b)) w := by
  obtain ⟨f1, t1⟩ := a
  obtain ⟨f2, t2⟩ := b
  by_cases h1 : f1 = f2
  · by_cases h2 : t1 = t2
    · subst h1 h2; simp [go_sem, Sp.same]
    · subst h1; simp [go_sem, Sp.same, h2]
  · simp [go_sem, Sp.same, h1]
set_option maxHeartbeats 2000000 in
theorem same_is (a0 b0 : Option Addr) (ca cb : Nat) (a b : List Sp) (z : Bool) (w : World) (ha : Sps w w.heap.size a0 a) (hb : Sps w w.heap.size b0 b) (hla : a.length ≤ 1000000) (hlb : b.length ≤ 1000000) (H : Hid (decide (a = b) = z)) : Calls Tryd.prog 18 #[.slice a0 a.length ca, .slice b0 b.length cb] w fun e w' => e = .returned (.bool z) ∧ Below w.heap.size w w' := by
  by_cases hl : a.length = b.length
  · have hli : ((a.length : Int) == (b.length : Int)) = true := by rw [beq_iff_eq]; omega
    have hln : ((a.length : Int) != (b.length : Int)) = false := by simp [bne, hli]
    have HL := Lib.hid hl
    clear hl
    go_enter Tryd.func18, Tryd.ntmps18
    go_wp2
    go_loopw [5] (fun i wr => ∃ (k : Nat), k ≤ a.length ∧ i = .int .i64 (k : Int) ∧ Below w.heap.size w wr ∧ Hid (∀ j (h1 : j < a.length) (h2 : j < b.length), j < k → a[j] = b[j])) (fun i _ => a.length - (intOf i).toNat)
    case atStart => exact ⟨0, by omega, rfl, Below.refl _ _, Lib.hid fun j _ _ hj => absurd hj (Nat.not_lt_zero _)⟩
    case round =>
      obtain ⟨k, hk, rfl, hB, hall⟩ := hrel
      by_cases hlt : k < a.length
      · have hlti : (k : Int) < (a.length : Int) := by omega
        have hlb2 : k < b.length := by have := HL.out; omega
        have hltb : (k : Int) < (b.length : Int) := by omega
        rcases ha.at_ with rfl | ⟨p, o, rfl, hpw, hc⟩
        · simp at hlt
        · rcases hb.at_ with rfl | ⟨p2, o2, rfl, hpw2, hc2⟩
          · simp at hlb2
          · obtain ⟨x, hx⟩ : ∃ x, a[k] = x := ⟨_, rfl⟩
            obtain ⟨y, hy⟩ : ∃ y, b[k] = y := ⟨_, rfl⟩
            have g1 := hc k hlt
            have g2 := hc2 k hlb2
            rw [hx] at g1
            rw [hy] at g2
            have qn := fun w => sp_neq x y w
            have HNO := Lib.hid (fun (h : x.same y = false) => show false = z by
              rw [← H.out]; symm; apply decide_eq_false
              intro he; subst he
              rw [hx] at hy; rw [Sp.same_iff.2 hy] at h; cases h)
            have HGO := Lib.hid (fun (h : x.same y = true) => show ∀ j (h1 : j < a.length) (h2 : j < b.length), j < k + 1 → a[j] = b[j] from fun j h1 h2 hj => by
              by_cases e : j = k
              · subst e; rw [hx, hy]; exact Sp.same_iff.1 h
              · exact hall.out j h1 h2 (by omega))
            obtain ⟨c0, c1⟩ := g1.below hB hpw
            obtain ⟨d0, d1⟩ := g2.below hB hpw2
            clear g1 g2 hc hc2 hall hx hy
            cases hs : x.same y with
            | true =>
              rw [hs] at qn
              have HH := Lib.hid (HGO.out hs)
              clear HGO HNO hs
              go_wp2_with fail
              go_quiet (fail)
              go_wp2
              go_roundw
              case rel => exact ⟨k + 1, by omega, by go_num, by first | exact hB | exact hB.drew | exact below_drewN hB _, HH⟩
              case measure => simp [intOf]; omega
            | false =>
              rw [hs] at qn
              have HH := Lib.hid (HNO.out hs)
              clear HGO HNO hs
              go_wp2_with fail
              go_quiet (fail)
              go_wp2
              go_ret
              exact ⟨by rw [← HH.out]; rfl, by first | exact hB | exact hB.drew | exact below_drewN hB _⟩
      · have hlti : ¬ (k : Int) < (a.length : Int) := by omega
        have HH := Lib.hid (show true = z by
          rw [← H.out]; symm; apply decide_eq_true
          exact List.ext_getElem HL.out fun j h1 h2 => hall.out j h1 h2 (by omega))
        go_wp2
        go_ret
        exact ⟨by rw [← HH.out]; rfl, hB⟩
  · have hli : ((a.length : Int) == (b.length : Int)) = false := by rw [beq_eq_false_iff_ne]; omega
    have hln : ((a.length : Int) != (b.length : Int)) = true := by simp [bne, hli]
    have HH := Lib.hid (show false = z by rw [← H.out]; symm; apply decide_eq_false; intro he; exact hl (by rw [he]))
    clear hl
    go_enter Tryd.func18, Tryd.ntmps18
    go_wp2
    go_ret
    exact ⟨by rw [← HH.out]; rfl, Below.refl _ _⟩
end Go.Proofs.YtdkenokjdiamhaaDoor
