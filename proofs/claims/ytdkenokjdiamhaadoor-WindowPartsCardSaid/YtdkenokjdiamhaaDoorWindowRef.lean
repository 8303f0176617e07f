/- The contracts of the document's Width, Start, cut, Of, Is, ok. -/
import Derived.Test.YtdkenokjdiamhaaDoorProg
import Derived.Test.YtdkenokjdiamhaaDoorWindowMath
import Derived.Handy
import Derived.Outline
import Derived.Laws.IdiomStrings
import Derived.Laws.BitsAllLaws
import Derived.IntWalk
import Derived.WalkMore
set_option maxRecDepth 20000
namespace Go.Proofs.YtdkenokjdiamhaaDoor
open Go.RowKit

theorem rwidth_is (tier W : Int) (w : World) (H : Hid (wid tier = W)) : Calls Tryd.prog 12 #[.int .i64 tier] w fun e w' => e = .returned (.int .i64 W) ∧ w = w' := by
  by_cases h0 : tier = 0
  · have HW := Lib.hid (show 1 = W by rw [← H.out]; unfold wid; rw [if_pos h0])
    subst h0
    go_enter Tryd.func12, Tryd.ntmps12
    go_wp2
    go_ret
    exact ⟨by rw [← HW.out]; rfl, rfl⟩
  by_cases h1 : tier = 1
  · have HW := Lib.hid (show 10 = W by rw [← H.out]; unfold wid; rw [if_neg h0, if_pos h1])
    subst h1
    go_enter Tryd.func12, Tryd.ntmps12
    go_wp2
    go_ret
    exact ⟨by rw [← HW.out]; rfl, rfl⟩
  by_cases h2 : tier = 2
  · have HW := Lib.hid (show 60 = W by rw [← H.out]; unfold wid; rw [if_neg h0, if_neg h1, if_pos h2])
    subst h2
    go_enter Tryd.func12, Tryd.ntmps12
    go_wp2
    go_ret
    exact ⟨by rw [← HW.out]; rfl, rfl⟩
  by_cases h3 : tier = 3
  · have HW := Lib.hid (show 3600 = W by rw [← H.out]; unfold wid; rw [if_neg h0, if_neg h1, if_neg h2, if_pos h3])
    subst h3
    go_enter Tryd.func12, Tryd.ntmps12
    go_wp2
    go_ret
    exact ⟨by rw [← HW.out]; rfl, rfl⟩
  have HW := Lib.hid (show 0 = W by rw [← H.out]; unfold wid; rw [if_neg h0, if_neg h1, if_neg h2, if_neg h3])
  have e0 : (tier == 0) = false := by simpa using h0
  have e1 : (tier == 1) = false := by simpa using h1
  have e2 : (tier == 2) = false := by simpa using h2
  have e3 : (tier == 3) = false := by simpa using h3
  clear h0 h1 h2 h3
  go_enter Tryd.func12, Tryd.ntmps12
  go_wp2
  go_ret
  exact ⟨by rw [← HW.out]; rfl, rfl⟩

theorem rcut_is (n m : Int) (w : World) (H : Hid (cutI n = m)) : Calls Tryd.prog 42 #[.int .i64 n] w fun e w' => e = .returned (.int .i64 m) ∧ w = w' := by
  by_cases h : (1099511627777 : Int) < n
  · have HW := Lib.hid (show 1099511627777 = m by rw [← H.out]; exact (if_pos h).symm)
    go_enter Tryd.func42, Tryd.ntmps42
    go_wp2
    go_ret
    exact ⟨by rw [← HW.out]; rfl, rfl⟩
  · have HW := Lib.hid (show n = m by rw [← H.out]; exact (if_neg h).symm)
    go_enter Tryd.func42, Tryd.ntmps42
    go_wp2
    go_ret
    exact ⟨by rw [← HW.out]; rfl, rfl⟩

theorem rstart_is (t tier z : Int) (w : World) (ht : -9223372036854775808 ≤ t ∧ t ≤ 9223372036854775807) (H : Hid (startI t tier = z)) : Calls Tryd.prog 14 #[.int .i64 t, .int .i64 tier] w fun e w' => e = .returned (.int .i64 z) ∧ w = w' := by
  obtain ⟨W, hW⟩ : ∃ W, wid tier = W := ⟨_, rfl⟩
  have kw := fun w => rwidth_is tier W w (Lib.hid hW)
  have hb := wid_bounds tier
  have H := H.out
  unfold startI at H
  rw [hW] at H hb
  by_cases h0 : t < 0
  · have HZ := Lib.hid (show -1 = z by rw [← H, if_neg (by omega)])
    clear H hW
    go_enter Tryd.func14, Tryd.ntmps14
    go_wp2_with (go_at_call 12; (with_reducible refine (kw _).mono ?_); rintro e w1 ⟨rfl, rfl⟩)
    go_ret
    exact ⟨by rw [← HZ.out]; rfl, rfl⟩
  · by_cases h1 : (1099511627777 : Int) ≤ t
    · have HZ := Lib.hid (show -1 = z by rw [← H, if_neg (by omega)])
      clear H hW
      go_enter Tryd.func14, Tryd.ntmps14
      go_wp2_with (go_at_call 12; (with_reducible refine (kw _).mono ?_); rintro e w1 ⟨rfl, rfl⟩)
      go_ret
      exact ⟨by rw [← HZ.out]; rfl, rfl⟩
    · by_cases h2 : W = 0
      · have HZ := Lib.hid (show -1 = z by rw [← H, if_neg (by omega)])
        subst h2
        clear H hW
        go_enter Tryd.func14, Tryd.ntmps14
        go_wp2_with (go_at_call 12; (with_reducible refine (kw _).mono ?_); rintro e w1 ⟨rfl, rfl⟩)
        go_ret
        exact ⟨by rw [← HZ.out]; rfl, rfl⟩
      · have HZ := Lib.hid (show t - t % W = z by rw [← H, if_pos ⟨by omega, by omega, h2⟩])
        have e2 : (W == 0) = false := by simpa using h2
        obtain ⟨m1, m2, m3, m4⟩ := mod_facts (show 0 ≤ t by omega) (show 0 < W by omega)
        obtain ⟨m, hm⟩ : ∃ m, t % W = m := ⟨_, rfl⟩
        rw [hm] at m1 m2 m3 m4
        have HM := Lib.hid hm
        clear H hW hm
        go_enter Tryd.func14, Tryd.ntmps14
        go_wp2_with (go_at_call 12; (with_reducible refine (kw _).mono ?_); rintro e w1 ⟨rfl, rfl⟩)
        go_ret
        exact ⟨by rw [← HZ.out, HM.out]; rfl, rfl⟩

theorem two_set {w a : World} (h : Below w.heap.size w a) (b : Nat) (hb : w.heap.size ≤ b) (v0 v1 : Value) : Below w.heap.size w ((a.setCell ⟨b, 0, none⟩ v0).setCell ⟨b, 1, none⟩ v1) :=
  (h.setCell (p := ⟨b, 0, none⟩) hb _).setCell (p := ⟨b, 1, none⟩) hb _
theorem startI_bounds (t tier : Int) : -1 ≤ startI t tier ∧ startI t tier < 1099511627777 := by
  unfold startI
  split
  · rename_i h
    have := wid_bounds tier
    obtain ⟨-, m2, m3, m4⟩ := mod_facts h.1 (show 0 < wid tier by omega)
    omega
  · omega
theorem rof_is (t tier : Int) (s : Sp) (w : World) (ht : -9223372036854775808 ≤ t ∧ t ≤ 9223372036854775807) (H : Hid (ofI t tier = s)) : Calls Tryd.prog 16 #[.int .i64 t, .int .i64 tier] w fun e w' => e = .returned (s.v) ∧ Below w.heap.size w w' := by
  have hb := startI_bounds t tier
  have H := H.out
  unfold ofI at H
  have ks := fun w => rstart_is t tier _ w ht (Lib.hid rfl)
  obtain ⟨W, hW⟩ : ∃ W, wid tier = W := ⟨_, rfl⟩
  have kw := fun w => rwidth_is tier W w (Lib.hid hW)
  have hwb := wid_bounds tier
  rw [hW] at H hwb
  generalize startI t tier = z at *
  by_cases h : z < 0
  · rw [if_pos h] at H
    subst H
    clear hW
    unfold Sp.v Sp.zero
    dsimp only
    go_enter Tryd.func16, Tryd.ntmps16
    go_wp2_with (first
      | (go_at_call 14; (with_reducible refine (ks _).mono ?_); rintro e w1 ⟨rfl, rfl⟩)
      | (go_at_call 12; (with_reducible refine (kw _).mono ?_); rintro e w1 ⟨rfl, rfl⟩))
    refine bodyPost_ret (v := .agg #[.int .i64 0, .int .i64 0]) (by simp [results, Tryd.results16, go_sem]; try rfl) rfl ⟨rfl, ?_⟩
    first | exact (Below.refl _ _).alloc (Nat.le_refl _) _ | exact two_set ((Below.refl _ _).alloc (Nat.le_refl _) _) _ (Nat.le_refl _) _ _
  · rw [if_neg h] at H
    obtain ⟨m, hm⟩ : ∃ m, cutI (z + W) = m := ⟨_, rfl⟩
    have kc := fun w => rcut_is (z + W) m w (Lib.hid hm)
    rw [hm] at H
    subst H
    clear hW hm
    unfold Sp.v
    dsimp only
    go_enter Tryd.func16, Tryd.ntmps16
    go_wp2_with (first
      | (go_at_call 14; (with_reducible refine (ks _).mono ?_); rintro e w1 ⟨rfl, rfl⟩)
      | (go_at_call 12; (with_reducible refine (kw _).mono ?_); rintro e w1 ⟨rfl, rfl⟩)
      | (go_at_call 42; (with_reducible refine (kc _).mono ?_); rintro e w1 ⟨rfl, rfl⟩))
    refine bodyPost_ret (v := .agg #[.int .i64 z, .int .i64 m]) (by simp [results, Tryd.results16, go_sem]; try rfl) rfl ⟨rfl, ?_⟩
    first | exact (Below.refl _ _).alloc (Nat.le_refl _) _ | exact two_set ((Below.refl _ _).alloc (Nat.le_refl _) _) _ (Nat.le_refl _) _ _

theorem ris_is (s : Sp) (z : Bool) (w : World) (H : Hid (s.is = z)) : Calls Tryd.prog 20 #[s.v] w fun e w' => e = .returned (.bool z) ∧ Below w.heap.size w w' := by
  have hB := (Below.refl w.heap.size w).alloc (Nat.le_refl _) (.cells #[.int .i64 s.f, .int .i64 s.t] 26)
  have H := H.out
  unfold Sp.is at H
  unfold Sp.v
  by_cases h0 : 0 ≤ s.f
  · by_cases h1 : s.f ≤ s.t
    · by_cases h2 : s.t ≤ 1099511627777
      · have HZ := Lib.hid (show true = z by rw [← H]; exact (decide_eq_true ⟨h0, h1, h2⟩).symm)
        clear H
        go_enter Tryd.func20, Tryd.ntmps20
        go_wp2
        go_ret
        exact ⟨by rw [← HZ.out]; rfl, hB⟩
      · have HZ := Lib.hid (show false = z by rw [← H]; exact (decide_eq_false fun h => h2 h.2.2).symm)
        clear H
        go_enter Tryd.func20, Tryd.ntmps20
        go_wp2
        go_ret
        exact ⟨by rw [← HZ.out]; rfl, hB⟩
    · have HZ := Lib.hid (show false = z by rw [← H]; exact (decide_eq_false fun h => h1 h.2.1).symm)
      clear H
      go_enter Tryd.func20, Tryd.ntmps20
      go_wp2
      go_ret
      exact ⟨by rw [← HZ.out]; rfl, hB⟩
  · have HZ := Lib.hid (show false = z by rw [← H]; exact (decide_eq_false fun h => h0 h.1).symm)
    clear H
    go_enter Tryd.func20, Tryd.ntmps20
    go_wp2
    go_ret
    exact ⟨by rw [← HZ.out]; rfl, hB⟩

theorem rok_is (s : Sp) (tier : Int) (z : Bool) (w : World) (H : Hid (s.may tier = z)) : Calls Tryd.prog 46 #[s.v, .int .i64 tier] w fun e w' => e = .returned (.bool z) ∧ Below w.heap.size w w' := by
  have hB := (Below.refl w.heap.size w).alloc (Nat.le_refl _) (.cells #[.int .i64 s.f, .int .i64 s.t] 26)
  have H := H.out
  unfold Sp.may at H
  obtain ⟨W, hW⟩ : ∃ W, wid tier = W := ⟨_, rfl⟩
  have kw := fun w => rwidth_is tier W w (Lib.hid hW)
  have ki := fun w => ris_is s _ w (Lib.hid rfl)
  rw [hW] at H
  unfold Sp.v at ki ⊢
  clear hW
  cases hi : s.is with
  | false =>
    rw [hi] at H ki
    have HZ := Lib.hid (show false = z from H)
    clear H hi
    go_enter Tryd.func46, Tryd.ntmps46
    go_wp2_with (first
      | (go_at_call 20; (with_reducible refine (ki _).mono ?_); rintro e w1 ⟨rfl, hb1⟩)
      | (go_at_call 12; (with_reducible refine (kw _).mono ?_); rintro e w1 ⟨rfl, rfl⟩))
    go_ret
    exact ⟨by rw [← HZ.out]; rfl, bel_next hB hb1⟩
  | true =>
    rw [hi] at H ki
    have HZ := Lib.hid (show decide (0 < W) = z by rw [← H]; rfl)
    clear H hi
    go_enter Tryd.func46, Tryd.ntmps46
    go_wp2_with (first
      | (go_at_call 20; (with_reducible refine (ki _).mono ?_); rintro e w1 ⟨rfl, hb1⟩)
      | (go_at_call 12; (with_reducible refine (kw _).mono ?_); rintro e w1 ⟨rfl, rfl⟩))
    go_ret
    exact ⟨by rw [← HZ.out]; rfl, bel_next hB hb1⟩
end Go.Proofs.YtdkenokjdiamhaaDoor
