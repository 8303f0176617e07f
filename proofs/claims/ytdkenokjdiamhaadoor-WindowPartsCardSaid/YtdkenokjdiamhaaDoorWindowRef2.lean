/- The contracts of the document's Aligned, Cover, Inner, Count, Both, and of the laws' span. -/
import Derived.Test.YtdkenokjdiamhaaDoorWindowRef
import Derived.Deep.RegionHeld
import Derived.BigRegion
set_option maxRecDepth 20000
namespace Go.Proofs.YtdkenokjdiamhaaDoor
open Go.RowKit

/-- A span in a block that may be written. -/
structure SpW (w : World) (b : Nat) (s : Sp) : Prop where
  at_ : SpAt w b s
  f0 : w.frozen? ⟨b, 0, none⟩ = false
  f1 : w.frozen? ⟨b, 1, none⟩ = false
theorem SpW.below {w w' : World} {b : Nat} {s : Sp} (h : SpW w b s) (k : Below w.heap.size w w') : SpW w' b s :=
  ⟨h.at_.below k, (k.frozen (p := ⟨b, 0, none⟩) h.at_.room).trans h.f0, (k.frozen (p := ⟨b, 1, none⟩) h.at_.room).trans h.f1⟩
theorem SpW.new (w : World) (s : Sp) (T : TypeId) : SpW (w.alloc (.cells #[.int .i64 s.f, .int .i64 s.t] T)) w.heap.size s := ⟨SpAt.new w s T, by simp [go_sem], by simp [go_sem]⟩
theorem SpAt.two {w : World} {b d : Nat} {s : Sp} {v0 v1 : Value} (h : SpAt w b s) (hd : d ≠ b) : SpAt ((w.setCell ⟨d, 0, none⟩ v0).setCell ⟨d, 1, none⟩ v1) b s :=
  ⟨by rw [World.cell?_setCell_far _ _ _ _ hd, World.cell?_setCell_far _ _ _ _ hd]; exact h.c0, by rw [World.cell?_setCell_far _ _ _ _ hd, World.cell?_setCell_far _ _ _ _ hd]; exact h.c1⟩
/-- The argument's block and the result's. -/
structure InOut (w : World) (s : Sp) (w' : World) : Prop where
  i : SpAt w' w.heap.size s
  o : SpW w' (w.heap.size + 1) Sp.zero
  bel : Below w.heap.size w w'
theorem InOut.new (w : World) (s : Sp) : InOut w s ((w.alloc (.cells #[.int .i64 s.f, .int .i64 s.t] 26)).alloc (.cells #[.int .i64 0, .int .i64 0] 26)) :=
  ⟨(SpAt.new w s _).below ((Below.refl _ _).alloc (Nat.le_refl _) _), by have := SpW.new (w.alloc (.cells #[.int .i64 s.f, .int .i64 s.t] 26)) Sp.zero 26; unfold Sp.zero at this ⊢; simpa using this, bel_new ((Below.refl _ _).alloc (Nat.le_refl _) _) _⟩
theorem InOut.keep {w w1 w2 : World} {s : Sp} (h : InOut w s w1) (k : Below w1.heap.size w1 w2) : InOut w s w2 := ⟨h.i.below k, h.o.below k, bel_next h.bel k⟩
theorem InOut.drew {w w1 : World} {s : Sp} (h : InOut w s w1) : InOut w s w1.drew := h.keep ((Below.refl _ _).drew)

set_option maxHeartbeats 4000000 in
theorem raligned_is (s : Sp) (tier : Int) (z : Bool) (w : World) (H : Hid (s.aligned tier = z)) : Calls Tryd.prog 24 #[s.v, .int .i64 tier] w fun e w' => e = .returned (.bool z) ∧ Below w.heap.size w w' := by
  have hB := (Below.refl w.heap.size w).alloc (Nat.le_refl _) (.cells #[.int .i64 s.f, .int .i64 s.t] 26)
  have hI := SpAt.new w s 26
  have H := H.out
  unfold Sp.aligned at H
  have ko := fun w => rok_is s tier _ w (Lib.hid rfl)
  obtain ⟨W, hW⟩ : ∃ W, wid tier = W := ⟨_, rfl⟩
  have kw := fun w => rwidth_is tier W w (Lib.hid hW)
  rw [hW] at H
  cases hm : s.may tier with
  | false =>
    rw [hm] at ko H
    have HZ := Lib.hid (show false = z from H)
    unfold Sp.v at ko ⊢
    clear H hm hW
    go_enter Tryd.func24, Tryd.ntmps24
    go_wp2_with (first
      | (go_at_call 46; (with_reducible refine (ko _).mono ?_); rintro e w1 ⟨rfl, hb1⟩))
    go_ret
    exact ⟨by rw [← HZ.out]; rfl, bel_next hB hb1⟩
  | true =>
    obtain ⟨⟨a1, a2, a3⟩, a4⟩ := Sp.may_parts hm
    rw [hW] at a4
    obtain ⟨p1, p2, p3, p4⟩ := mod_facts a1 a4
    obtain ⟨q1, q2, q3, q4⟩ := mod_facts (show 0 ≤ s.t by omega) a4
    rw [hm] at ko H
    obtain ⟨mf, hmf⟩ : ∃ m, s.f % W = m := ⟨_, rfl⟩
    obtain ⟨mt, hmt⟩ : ∃ m, s.t % W = m := ⟨_, rfl⟩
    rw [hmf] at p1 p2 p3 p4 H
    rw [hmt] at q1 q2 q3 q4 H
    have e2 : (W == 0) = false := by rw [beq_eq_false_iff_ne]; omega
    unfold Sp.v at ko ⊢
    clear hm hW hmf hmt
    have four : ((mf = 0 ∨ (mf ≠ 0 ∧ s.f = 1099511627777)) ∧ (mt = 0 ∨ (mt ≠ 0 ∧ s.t = 1099511627777))) ∨ (mf ≠ 0 ∧ s.f ≠ 1099511627777) ∨ ((mf = 0 ∨ (mf ≠ 0 ∧ s.f = 1099511627777)) ∧ (mt ≠ 0 ∧ s.t ≠ 1099511627777)) := by omega
    rcases four with ⟨hf, ht⟩ | ⟨hf1, hf2⟩ | ⟨hf, ht1, ht2⟩
    · have HZ := Lib.hid (show true = z by rw [← H]; simp; omega)
      clear H
      rcases hf with hf | ⟨hf, hf2⟩
      · rcases ht with ht | ⟨ht, ht2⟩
        · have g1 : (mf == 0) = true := by simpa using hf
          have g3 : (mt == 0) = true := by simpa using ht
          clear hf ht
          go_enter Tryd.func24, Tryd.ntmps24
          go_wp2_with (first
            | (go_at_call 46; (with_reducible refine (ko _).mono ?_); rintro e w1 ⟨rfl, hb1⟩; have hI1 := hI.below hb1; obtain ⟨x0, x1⟩ := hI1)
            | (go_at_call 12; (with_reducible refine (kw _).mono ?_); rintro e w2 ⟨rfl, rfl⟩))
          go_ret
          exact ⟨by rw [← HZ.out]; rfl, bel_next hB hb1⟩
        · have g1 : (mf == 0) = true := by simpa using hf
          have g3 : (mt == 0) = false := by simpa using ht
          have g4 : (s.t == 1099511627777) = true := by simpa using ht2
          clear hf ht ht2
          go_enter Tryd.func24, Tryd.ntmps24
          go_wp2_with (first
            | (go_at_call 46; (with_reducible refine (ko _).mono ?_); rintro e w1 ⟨rfl, hb1⟩; have hI1 := hI.below hb1; obtain ⟨x0, x1⟩ := hI1)
            | (go_at_call 12; (with_reducible refine (kw _).mono ?_); rintro e w2 ⟨rfl, rfl⟩))
          go_ret
          exact ⟨by rw [← HZ.out]; rfl, bel_next hB hb1⟩
      · rcases ht with ht | ⟨ht, ht2⟩
        · have g1 : (mf == 0) = false := by simpa using hf
          have g2 : (s.f == 1099511627777) = true := by simpa using hf2
          have g3 : (mt == 0) = true := by simpa using ht
          clear hf ht hf2
          go_enter Tryd.func24, Tryd.ntmps24
          go_wp2_with (first
            | (go_at_call 46; (with_reducible refine (ko _).mono ?_); rintro e w1 ⟨rfl, hb1⟩; have hI1 := hI.below hb1; obtain ⟨x0, x1⟩ := hI1)
            | (go_at_call 12; (with_reducible refine (kw _).mono ?_); rintro e w2 ⟨rfl, rfl⟩))
          go_ret
          exact ⟨by rw [← HZ.out]; rfl, bel_next hB hb1⟩
        · have g1 : (mf == 0) = false := by simpa using hf
          have g2 : (s.f == 1099511627777) = true := by simpa using hf2
          have g3 : (mt == 0) = false := by simpa using ht
          have g4 : (s.t == 1099511627777) = true := by simpa using ht2
          clear hf ht hf2 ht2
          go_enter Tryd.func24, Tryd.ntmps24
          go_wp2_with (first
            | (go_at_call 46; (with_reducible refine (ko _).mono ?_); rintro e w1 ⟨rfl, hb1⟩; have hI1 := hI.below hb1; obtain ⟨x0, x1⟩ := hI1)
            | (go_at_call 12; (with_reducible refine (kw _).mono ?_); rintro e w2 ⟨rfl, rfl⟩))
          go_ret
          exact ⟨by rw [← HZ.out]; rfl, bel_next hB hb1⟩
    · have HZ := Lib.hid (show false = z by rw [← H]; simp; omega)
      have g1 : (mf == 0) = false := by simpa using hf1
      have g2 : (s.f == 1099511627777) = false := by simpa using hf2
      clear H hf1 hf2
      go_enter Tryd.func24, Tryd.ntmps24
      go_wp2_with (first
        | (go_at_call 46; (with_reducible refine (ko _).mono ?_); rintro e w1 ⟨rfl, hb1⟩; have hI1 := hI.below hb1; obtain ⟨x0, x1⟩ := hI1)
        | (go_at_call 12; (with_reducible refine (kw _).mono ?_); rintro e w2 ⟨rfl, rfl⟩))
      go_ret
      exact ⟨by rw [← HZ.out]; rfl, bel_next hB hb1⟩
    · have HZ := Lib.hid (show false = z by rw [← H]; simp; omega)
      have g3 : (mt == 0) = false := by simpa using ht1
      have g4 : (s.t == 1099511627777) = false := by simpa using ht2
      clear H ht1 ht2
      rcases hf with hf | ⟨hf, hf2⟩
      · have g1 : (mf == 0) = true := by simpa using hf
        clear hf
        go_enter Tryd.func24, Tryd.ntmps24
        go_wp2_with (first
          | (go_at_call 46; (with_reducible refine (ko _).mono ?_); rintro e w1 ⟨rfl, hb1⟩; have hI1 := hI.below hb1; obtain ⟨x0, x1⟩ := hI1)
          | (go_at_call 12; (with_reducible refine (kw _).mono ?_); rintro e w2 ⟨rfl, rfl⟩))
        go_ret
        exact ⟨by rw [← HZ.out]; rfl, bel_next hB hb1⟩
      · have g1 : (mf == 0) = false := by simpa using hf
        have g2 : (s.f == 1099511627777) = true := by simpa using hf2
        clear hf hf2
        go_enter Tryd.func24, Tryd.ntmps24
        go_wp2_with (first
          | (go_at_call 46; (with_reducible refine (ko _).mono ?_); rintro e w1 ⟨rfl, hb1⟩; have hI1 := hI.below hb1; obtain ⟨x0, x1⟩ := hI1)
          | (go_at_call 12; (with_reducible refine (kw _).mono ?_); rintro e w2 ⟨rfl, rfl⟩))
        go_ret
        exact ⟨by rw [← HZ.out]; rfl, bel_next hB hb1⟩

set_option maxHeartbeats 4000000 in
theorem rcover_no (s c : Sp) (tier : Int) (w : World) (H : s.cover tier = c) (hm : s.may tier = false) : Calls Tryd.prog 26 #[s.v, .int .i64 tier] w fun e w' => e = .returned (c.v) ∧ Below w.heap.size w w' := by
  have H0 := InOut.new w s
  unfold Sp.cover at H
  have ko := fun w => rok_is s tier _ w (Lib.hid rfl)
  obtain ⟨W, hW⟩ : ∃ W, wid tier = W := ⟨_, rfl⟩
  have kw := fun w => rwidth_is tier W w (Lib.hid hW)
  have hwb := wid_bounds tier
  rw [hW] at H hwb
  rw [if_pos hm] at H
  rw [hm] at ko
  have HC := Lib.hid (show Sp.zero.v = c.v by rw [H])
  unfold Sp.v at ko
  rw [show s.v = .agg #[.int .i64 s.f, .int .i64 s.t] from rfl]
  clear H hm hW
  go_enter Tryd.func26, Tryd.ntmps26
  go_wp2_with (first
    | (go_at_call 46; (with_reducible refine (ko _).mono ?_); rintro e w1 ⟨rfl, hb1⟩; have H1 := H0.keep hb1; have G := H1.i; obtain ⟨x0, x1⟩ := G; have G := H1.o; obtain ⟨⟨z0, z1⟩, g0, g1⟩ := G; dsimp only [Sp.zero] at z0 z1))
  refine bodyPost_ret (v := .agg #[.int .i64 0, .int .i64 0]) (by simp [results, Tryd.results26, go_sem, z0, z1]; try rfl) rfl ⟨by first | rfl | (rw [← HC.out]; rfl), ?_⟩
  first | exact H1.bel | exact two_set H1.bel _ (Nat.le_succ _) _ _ | exact (two_set H1.bel _ (Nat.le_succ _) _ _).drew | exact two_set H1.bel.drew _ (Nat.le_succ _) _ _

set_option maxHeartbeats 4000000 in
theorem rcover_end (s c : Sp) (tier : Int) (w : World) (H : s.cover tier = c) (hm : s.may tier = true) (he : s.f = s.t) (hE : s.f = 1099511627777) : Calls Tryd.prog 26 #[s.v, .int .i64 tier] w fun e w' => e = .returned (c.v) ∧ Below w.heap.size w w' := by
  have H0 := InOut.new w s
  unfold Sp.cover at H
  have ko := fun w => rok_is s tier _ w (Lib.hid rfl)
  obtain ⟨W, hW⟩ : ∃ W, wid tier = W := ⟨_, rfl⟩
  have kw := fun w => rwidth_is tier W w (Lib.hid hW)
  have hwb := wid_bounds tier
  rw [hW] at H hwb
  rw [if_neg (by rw [hm]; simp)] at H
  obtain ⟨⟨a1, a2, a3⟩, a4⟩ := Sp.may_parts hm
  rw [hW] at a4
  rw [hm] at ko
  have e2 : (W == 0) = false := by rw [beq_eq_false_iff_ne]; omega
  have hW0 : ¬ W = 0 := by omega
  obtain ⟨p1, p2, p3, p4⟩ := mod_facts a1 a4
  obtain ⟨mf, hmf⟩ : ∃ m, s.f % W = m := ⟨_, rfl⟩
  rw [hmf] at p1 p2 p3 p4 H
  rw [if_pos he, if_pos hE] at H
  have HC := Lib.hid (show Sp.zero.v = c.v by rw [H])
  have g5 : (s.f == s.t) = true := by simpa using he
  have g6 : (s.f == 1099511627777) = true := by simpa using hE
  unfold Sp.v at ko
  rw [show s.v = .agg #[.int .i64 s.f, .int .i64 s.t] from rfl]
  clear H hm hW hmf he hE
  go_enter Tryd.func26, Tryd.ntmps26
  go_wp2_with (first
    | (go_at_call 46; (with_reducible refine (ko _).mono ?_); rintro e w1 ⟨rfl, hb1⟩; have H1 := H0.keep hb1; have G := H1.i; obtain ⟨x0, x1⟩ := G; have G := H1.o; obtain ⟨⟨z0, z1⟩, g0, g1⟩ := G; dsimp only [Sp.zero] at z0 z1)
    | (go_at_call 12; (with_reducible refine (kw _).mono ?_); rintro e w2 ⟨rfl, rfl⟩))
  refine bodyPost_ret (v := .agg #[.int .i64 0, .int .i64 0]) (by simp [results, Tryd.results26, go_sem, z0, z1]; try rfl) rfl ⟨by first | rfl | (rw [← HC.out]; rfl), ?_⟩
  first | exact H1.bel | exact two_set H1.bel _ (Nat.le_succ _) _ _ | exact (two_set H1.bel _ (Nat.le_succ _) _ _).drew | exact two_set H1.bel.drew _ (Nat.le_succ _) _ _

set_option maxHeartbeats 4000000 in
theorem rcover_empty (s c : Sp) (tier : Int) (w : World) (H : s.cover tier = c) (hm : s.may tier = true) (he : s.f = s.t) (hE : s.f ≠ 1099511627777) : Calls Tryd.prog 26 #[s.v, .int .i64 tier] w fun e w' => e = .returned (c.v) ∧ Below w.heap.size w w' := by
  have H0 := InOut.new w s
  unfold Sp.cover at H
  have ko := fun w => rok_is s tier _ w (Lib.hid rfl)
  obtain ⟨W, hW⟩ : ∃ W, wid tier = W := ⟨_, rfl⟩
  have kw := fun w => rwidth_is tier W w (Lib.hid hW)
  have hwb := wid_bounds tier
  rw [hW] at H hwb
  rw [if_neg (by rw [hm]; simp)] at H
  obtain ⟨⟨a1, a2, a3⟩, a4⟩ := Sp.may_parts hm
  rw [hW] at a4
  rw [hm] at ko
  have e2 : (W == 0) = false := by rw [beq_eq_false_iff_ne]; omega
  have hW0 : ¬ W = 0 := by omega
  obtain ⟨p1, p2, p3, p4⟩ := mod_facts a1 a4
  obtain ⟨mf, hmf⟩ : ∃ m, s.f % W = m := ⟨_, rfl⟩
  rw [hmf] at p1 p2 p3 p4 H
  rw [if_pos he, if_neg hE] at H
  obtain ⟨y, hy⟩ : ∃ y, s.f - mf = y := ⟨_, rfl⟩
  have HC := Lib.hid (show (Sp.mk y y).v = c.v by rw [← H, hy])
  have hwy : IntKind.i64.wrap (s.f - mf) = y := by rw [IntKind.wrap_i64]; omega
  have g5 : (s.f == s.t) = true := by simpa using he
  have g6 : (s.f == 1099511627777) = false := by simpa using hE
  unfold Sp.v at ko
  rw [show s.v = .agg #[.int .i64 s.f, .int .i64 s.t] from rfl]
  clear H hm hW hmf he hE
  go_enter Tryd.func26, Tryd.ntmps26
  go_wp2_with (first
    | (go_at_call 46; (with_reducible refine (ko _).mono ?_); rintro e w1 ⟨rfl, hb1⟩; have H1 := H0.keep hb1; have G := H1.i; obtain ⟨x0, x1⟩ := G; have G := H1.o; obtain ⟨⟨z0, z1⟩, g0, g1⟩ := G; dsimp only [Sp.zero] at z0 z1)
    | (go_at_call 12; (with_reducible refine (kw _).mono ?_); rintro e w2 ⟨rfl, rfl⟩))
  go_region
  go_wp2
  refine bodyPost_ret (v := .agg #[.int .i64 y, .int .i64 y]) (by simp [results, Tryd.results26, go_sem, z0, z1]; try rfl) rfl ⟨by first | rfl | (rw [← HC.out]; rfl), ?_⟩
  first | exact H1.bel | exact two_set H1.bel _ (Nat.le_succ _) _ _ | exact (two_set H1.bel _ (Nat.le_succ _) _ _).drew | exact two_set H1.bel.drew _ (Nat.le_succ _) _ _

set_option maxHeartbeats 4000000 in
theorem rcover_full (s c : Sp) (tier : Int) (w : World) (H : s.cover tier = c) (hm : s.may tier = true) (he : s.f ≠ s.t) : Calls Tryd.prog 26 #[s.v, .int .i64 tier] w fun e w' => e = .returned (c.v) ∧ Below w.heap.size w w' := by
  have H0 := InOut.new w s
  unfold Sp.cover at H
  have ko := fun w => rok_is s tier _ w (Lib.hid rfl)
  obtain ⟨W, hW⟩ : ∃ W, wid tier = W := ⟨_, rfl⟩
  have kw := fun w => rwidth_is tier W w (Lib.hid hW)
  have hwb := wid_bounds tier
  rw [hW] at H hwb
  rw [if_neg (by rw [hm]; simp)] at H
  obtain ⟨⟨a1, a2, a3⟩, a4⟩ := Sp.may_parts hm
  rw [hW] at a4
  rw [hm] at ko
  have e2 : (W == 0) = false := by rw [beq_eq_false_iff_ne]; omega
  have hW0 : ¬ W = 0 := by omega
  obtain ⟨p1, p2, p3, p4⟩ := mod_facts a1 a4
  obtain ⟨mf, hmf⟩ : ∃ m, s.f % W = m := ⟨_, rfl⟩
  rw [hmf] at p1 p2 p3 p4 H
  rw [if_neg he] at H
  obtain ⟨q1, q2, q3, q4⟩ := mod_facts (show 0 ≤ s.t - 1 by omega) a4
  obtain ⟨mt, hmt⟩ : ∃ m, (s.t - 1) % W = m := ⟨_, rfl⟩
  rw [hmt] at q1 q2 q3 q4 H
  obtain ⟨y, hy⟩ : ∃ y, s.f - mf = y := ⟨_, rfl⟩
  obtain ⟨u, hu⟩ : ∃ u, s.t - 1 - mt + W = u := ⟨_, rfl⟩
  obtain ⟨m, hcm⟩ : ∃ m, cutI u = m := ⟨_, rfl⟩
  have kc := fun w => rcut_is u m w (Lib.hid hcm)
  have HC := Lib.hid (show (Sp.mk y m).v = c.v by rw [← H, hy, hu, hcm])
  obtain ⟨l, hl⟩ : ∃ l, s.t - 1 = l := ⟨_, rfl⟩
  rw [hl] at q1 q4 hu
  have hl2 : 0 ≤ l ∧ l ≤ 1099511627777 := by omega
  have g5 : (s.f == s.t) = false := by simpa using he
  have hwl : IntKind.i64.wrap (s.t - 1) = l := by rw [IntKind.wrap_i64]; omega
  have hwl2 : IntKind.i64.wrap l = l := by rw [IntKind.wrap_i64]; omega
  have hwy : IntKind.i64.wrap (s.f - mf) = y := by rw [IntKind.wrap_i64]; omega
  have hw1 : IntKind.i64.wrap (l - mt) = l - mt := by rw [IntKind.wrap_i64]; omega
  have hw2 : IntKind.i64.wrap (l - mt + W) = u := by rw [IntKind.wrap_i64]; omega
  have hw3 : IntKind.i64.wrap u = u := by rw [IntKind.wrap_i64]; omega
  have hw4 : IntKind.i64.wrap y = y := by rw [IntKind.wrap_i64]; omega
  unfold Sp.v at ko
  rw [show s.v = .agg #[.int .i64 s.f, .int .i64 s.t] from rfl]
  clear H hm hW hmf he hcm hmt
  go_enter Tryd.func26, Tryd.ntmps26
  go_wp2_with (first
    | (go_at_call 46; (with_reducible refine (ko _).mono ?_); rintro e w1 ⟨rfl, hb1⟩; have H1 := H0.keep hb1; have G := H1.i; obtain ⟨x0, x1⟩ := G; have G := H1.o; obtain ⟨⟨z0, z1⟩, g0, g1⟩ := G; dsimp only [Sp.zero] at z0 z1)
    | (go_at_call 12; (with_reducible refine (kw _).mono ?_); rintro e w2 ⟨rfl, rfl⟩))
  refine wp_region_held_drew (S := (SpAt · w.heap.size s)) (by kernel_rfl) H1.drew.i (fun hHeld => ?_)
  refine wpAnyH_take (i := 0) (oi := ?oc1o) (v := ?oc1v) ?oc1h (by kernel_rfl) (by kernel_rfl) (by kernel_rfl) ?oc1q ?oc1y hHeld ?oc1r
  case oc1h => (simp only [List.getElem?_toArray, List.getElem?_cons_zero]; rfl)
  case oc1q => exact fun _ _ _ h => h
  case oc1y => (refine Or.inl ⟨by first | kernel_rfl | rfl, ?_⟩; intro w hSw; (try dsimp only at hSw); obtain ⟨x0, x1⟩ := hSw; go_simp <;> (try with_reducible rfl))
  try simp only [Act.put, List.setIfInBounds_toArray, List.set_cons_zero, List.set_cons_succ]
  refine wpAnyH_take (i := 1) (oi := ?oc2o) (v := ?oc2v) ?oc2h (by kernel_rfl) (by kernel_rfl) (by kernel_rfl) ?oc2q ?oc2y hHeld ?oc2r
  case oc2h => (simp only [List.getElem?_toArray, List.getElem?_cons_succ, List.getElem?_cons_zero]; rfl)
  case oc2q => exact fun _ _ _ h => h
  case oc2y => (refine Or.inl ⟨by first | kernel_rfl | rfl, ?_⟩; intro w hSw; (try dsimp only at hSw); obtain ⟨x0, x1⟩ := hSw; go_simp <;> (try with_reducible rfl))
  try simp only [Act.put, List.setIfInBounds_toArray, List.set_cons_zero, List.set_cons_succ]
  refine wpAnyH_take (i := 2) (oi := ?oc3o) (v := ?oc3v) ?oc3h (by kernel_rfl) (by kernel_rfl) (by kernel_rfl) ?oc3q ?oc3y hHeld ?oc3r
  case oc3h => (simp only [List.getElem?_toArray, List.getElem?_cons_succ, List.getElem?_cons_zero]; rfl)
  case oc3q => exact fun _ _ _ h => h
  case oc3y => (refine Or.inl ⟨by first | kernel_rfl | rfl, ?_⟩; intro w hSw; (try dsimp only at hSw); obtain ⟨x0, x1⟩ := hSw; go_simp <;> (try with_reducible rfl))
  try simp only [Act.put, List.setIfInBounds_toArray, List.set_cons_zero, List.set_cons_succ]
  refine wpAnyH_take (i := 3) (oi := ?oc4o) (v := ?oc4v) ?oc4h (by kernel_rfl) (by kernel_rfl) (by kernel_rfl) ?oc4q ?oc4y hHeld ?oc4r
  case oc4h => (simp only [List.getElem?_toArray, List.getElem?_cons_succ, List.getElem?_cons_zero]; rfl)
  case oc4q => exact fun _ _ _ h => h
  case oc4y => (refine Or.inl ⟨by first | kernel_rfl | rfl, ?_⟩; intro w hSw; (try dsimp only at hSw); obtain ⟨x0, x1⟩ := hSw; go_simp <;> (try with_reducible rfl))
  try simp only [Act.put, List.setIfInBounds_toArray, List.set_cons_zero, List.set_cons_succ]
  refine wpAnyH_take (i := 4) (oi := ?oc5o) (v := ?oc5v) ?oc5h (by kernel_rfl) (by kernel_rfl) (by kernel_rfl) ?oc5q ?oc5y hHeld ?oc5r
  case oc5h => (simp only [List.getElem?_toArray, List.getElem?_cons_succ, List.getElem?_cons_zero]; rfl)
  case oc5q => exact fun _ _ _ h => h
  case oc5y => (refine Or.inl ⟨by first | kernel_rfl | rfl, ?_⟩; intro w hSw; (try dsimp only at hSw); obtain ⟨x0, x1⟩ := hSw; go_simp <;> (try with_reducible rfl))
  try simp only [Act.put, List.setIfInBounds_toArray, List.set_cons_zero, List.set_cons_succ]
  refine wpAnyH_take (i := 5) (oi := ?oc6o) (v := ?oc6v) ?oc6h (by kernel_rfl) (by kernel_rfl) (by kernel_rfl) ?oc6q ?oc6y hHeld ?oc6r
  case oc6h => (simp only [List.getElem?_toArray, List.getElem?_cons_succ, List.getElem?_cons_zero]; rfl)
  case oc6q => exact fun _ _ _ h => h
  case oc6y => (refine Or.inl ⟨by first | kernel_rfl | rfl, ?_⟩; intro w hSw; (try dsimp only at hSw); obtain ⟨x0, x1⟩ := hSw; go_simp <;> (try with_reducible rfl))
  try simp only [Act.put, List.setIfInBounds_toArray, List.set_cons_zero, List.set_cons_succ]
  refine wpAnyH_take (i := 6) (oi := ?oc7o) (v := ?oc7v) ?oc7h (by kernel_rfl) (by kernel_rfl) (by kernel_rfl) ?oc7q ?oc7y hHeld ?oc7r
  case oc7h => (simp only [List.getElem?_toArray, List.getElem?_cons_succ, List.getElem?_cons_zero]; rfl)
  case oc7q => exact fun _ _ _ h => h
  case oc7y => (refine Or.inl ⟨by first | kernel_rfl | rfl, ?_⟩; intro w hSw; (try dsimp only at hSw); obtain ⟨x0, x1⟩ := hSw; go_simp <;> (try with_reducible rfl))
  try simp only [Act.put, List.setIfInBounds_toArray, List.set_cons_zero, List.set_cons_succ]
  refine wpAnyH_take (i := 7) (oi := ?oc8o) (v := ?oc8v) ?oc8h (by kernel_rfl) (by kernel_rfl) (by kernel_rfl) ?oc8q ?oc8y hHeld ?oc8r
  case oc8h => (simp only [List.getElem?_toArray, List.getElem?_cons_succ, List.getElem?_cons_zero]; rfl)
  case oc8q => exact fun _ _ _ h => h
  case oc8y => (refine Or.inl ⟨by first | kernel_rfl | rfl, ?_⟩; intro w hSw; (try dsimp only at hSw); obtain ⟨x0, x1⟩ := hSw; go_simp <;> (try with_reducible rfl))
  try simp only [Act.put, List.setIfInBounds_toArray, List.set_cons_zero, List.set_cons_succ]
  refine wpAnyH_take (i := 8) (oi := ?oc9o) (v := ?oc9v) ?oc9h (by kernel_rfl) (by kernel_rfl) (by kernel_rfl) ?oc9q ?oc9y hHeld ?oc9r
  case oc9h => (simp only [List.getElem?_toArray, List.getElem?_cons_succ, List.getElem?_cons_zero]; rfl)
  case oc9q => exact fun _ _ _ h => h
  case oc9y => (refine Or.inl ⟨by first | kernel_rfl | rfl, ?_⟩; intro w hSw; (try dsimp only at hSw); obtain ⟨x0, x1⟩ := hSw; go_simp <;> (try with_reducible rfl))
  try simp only [Act.put, List.setIfInBounds_toArray, List.set_cons_zero, List.set_cons_succ]
  refine wpAnyH_take (i := 9) (oi := ?oc10o) (v := ?oc10v) ?oc10h (by kernel_rfl) (by kernel_rfl) (by kernel_rfl) ?oc10q ?oc10y hHeld ?oc10r
  case oc10h => (simp only [List.getElem?_toArray, List.getElem?_cons_succ, List.getElem?_cons_zero]; rfl)
  case oc10q => exact fun _ _ _ h => h
  case oc10y => (refine Or.inl ⟨by first | kernel_rfl | rfl, ?_⟩; intro w hSw; (try dsimp only at hSw); obtain ⟨x0, x1⟩ := hSw; go_simp <;> (try with_reducible rfl))
  try simp only [Act.put, List.setIfInBounds_toArray, List.set_cons_zero, List.set_cons_succ]
  refine wpAnyH_take (i := 10) (oi := ?oc11o) (v := ?oc11v) ?oc11h (by kernel_rfl) (by kernel_rfl) (by kernel_rfl) ?oc11q ?oc11y hHeld ?oc11r
  case oc11h => (simp only [List.getElem?_toArray, List.getElem?_cons_succ, List.getElem?_cons_zero]; rfl)
  case oc11q => exact fun _ _ _ h => h
  case oc11y => (refine Or.inl ⟨by first | kernel_rfl | rfl, ?_⟩; intro w hSw; (try dsimp only at hSw); obtain ⟨x0, x1⟩ := hSw; go_simp <;> (try with_reducible rfl))
  try simp only [Act.put, List.setIfInBounds_toArray, List.set_cons_zero, List.set_cons_succ]
  refine wpAnyH_take (i := 11) (oi := ?oc12o) (v := ?oc12v) ?oc12h (by kernel_rfl) (by kernel_rfl) (by kernel_rfl) ?oc12q ?oc12y hHeld ?oc12r
  case oc12h => (simp only [List.getElem?_toArray, List.getElem?_cons_succ, List.getElem?_cons_zero]; rfl)
  case oc12q => exact fun _ _ _ h => h
  case oc12y => (refine Or.inl ⟨by first | kernel_rfl | rfl, ?_⟩; intro w hSw; (try dsimp only at hSw); obtain ⟨x0, x1⟩ := hSw; go_simp <;> (try with_reducible rfl))
  try simp only [Act.put, List.setIfInBounds_toArray, List.set_cons_zero, List.set_cons_succ]
  refine wpAnyH_take (i := 12) (oi := ?oc13o) (v := ?oc13v) ?oc13h (by kernel_rfl) (by kernel_rfl) (by kernel_rfl) ?oc13q ?oc13y hHeld ?oc13r
  case oc13h => (simp only [List.getElem?_toArray, List.getElem?_cons_succ, List.getElem?_cons_zero]; rfl)
  case oc13q => exact fun _ _ _ h => h
  case oc13y => (refine Or.inl ⟨by first | kernel_rfl | rfl, ?_⟩; intro w hSw; (try dsimp only at hSw); obtain ⟨x0, x1⟩ := hSw; go_simp <;> (try with_reducible rfl))
  try simp only [Act.put, List.setIfInBounds_toArray, List.set_cons_zero, List.set_cons_succ]
  refine wpAnyH_take (i := 13) (oi := ?oc14o) (v := ?oc14v) ?oc14h (by kernel_rfl) (by kernel_rfl) (by kernel_rfl) ?oc14q ?oc14y hHeld ?oc14r
  case oc14h => (simp only [List.getElem?_toArray, List.getElem?_cons_succ, List.getElem?_cons_zero]; rfl)
  case oc14q => exact fun _ _ _ h => h
  case oc14y => (refine Or.inl ⟨by first | kernel_rfl | rfl, ?_⟩; intro w hSw; (try dsimp only at hSw); obtain ⟨x0, x1⟩ := hSw; go_simp <;> (try with_reducible rfl))
  try simp only [Act.put, List.setIfInBounds_toArray, List.set_cons_zero, List.set_cons_succ]
  refine wpAnyH_ready (rs := [14]) (by kernel_rfl) (by simp) ?_
  refine (AllReadyH.cons rfl (fun K hK => ?_) AllReadyH.nil)
  go_simp
  ((with_reducible refine (kc _).mono ?_); rintro e w' ⟨rfl, rfl⟩)
  refine hK.out _ _ (hHeld) (fun hHeld => ?_)
  clear hK K
  try simp only [Act.put, List.setIfInBounds_toArray, List.set_cons_zero, List.set_cons_succ]
  refine wpAnyH_take (i := 15) (oi := ?oc15o) (v := ?oc15v) ?oc15h (by kernel_rfl) (by kernel_rfl) (by kernel_rfl) ?oc15q ?oc15y hHeld ?oc15r
  case oc15h => (simp only [List.getElem?_toArray, List.getElem?_cons_succ, List.getElem?_cons_zero]; rfl)
  case oc15q => exact fun _ _ _ h => h
  case oc15y => (refine Or.inl ⟨by first | kernel_rfl | rfl, ?_⟩; intro w hSw; (try dsimp only at hSw); obtain ⟨x0, x1⟩ := hSw; go_simp <;> (try with_reducible rfl))
  try simp only [Act.put, List.setIfInBounds_toArray, List.set_cons_zero, List.set_cons_succ]
  refine wpAnyH_ready (rs := [16]) (by kernel_rfl) (by simp) ?_
  refine (AllReadyH.cons rfl (fun K hK => ?_) AllReadyH.nil)
  go_simp
  skip
  refine hK.out _ _ (SpAt.two hHeld (by omega)) (fun hHeld => ?_)
  clear hK K
  try simp only [Act.put, List.setIfInBounds_toArray, List.set_cons_zero, List.set_cons_succ]
  refine wpAnyH_done (by kernel_rfl) ?_ _
  go_wp2
  refine bodyPost_ret (v := .agg #[.int .i64 y, .int .i64 m]) (by simp [results, Tryd.results26, go_sem, z0, z1]; try rfl) rfl ⟨by first | rfl | (rw [← HC.out]; rfl), ?_⟩
  first | exact H1.bel | exact two_set H1.bel _ (Nat.le_succ _) _ _ | exact (two_set H1.bel _ (Nat.le_succ _) _ _).drew | exact two_set H1.bel.drew _ (Nat.le_succ _) _ _

theorem rcover_is (s c : Sp) (tier : Int) (w : World) (H : Hid (s.cover tier = c)) : Calls Tryd.prog 26 #[s.v, .int .i64 tier] w fun e w' => e = .returned (c.v) ∧ Below w.heap.size w w' := by
  cases hm : s.may tier with
  | false => exact rcover_no s c tier w H.out hm
  | true =>
    by_cases he : s.f = s.t
    · by_cases hE : s.f = 1099511627777
      · exact rcover_end s c tier w H.out hm he hE
      · exact rcover_empty s c tier w H.out hm he hE
    · exact rcover_full s c tier w H.out hm he
end Go.Proofs.YtdkenokjdiamhaaDoor
