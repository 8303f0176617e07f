/- Start and Of of any whole number. -/
import Derived.Test.YtdkenokjdiamhaaDoorWindowFns
set_option maxRecDepth 20000
namespace Go.Proofs.YtdkenokjdiamhaaDoor
open Go.RowKit

theorem start_any (t tier z : Int) (w : World) (hT : Tab w) (H : Hid (startI t tier = z)) : Calls Tryd.prog 13 #[.int .i64 t, .int .i64 tier] w fun e w' => e = .returned (.int .i64 z) ∧ w = w' := by
  obtain ⟨W, hW⟩ : ∃ W, wid tier = W := ⟨_, rfl⟩
  have kw := width_is tier W w hT (Lib.hid hW)
  have hb := wid_bounds tier
  have H := H.out
  unfold startI at H
  rw [hW] at H hb
  by_cases h2 : W = 0
  · have HZ := Lib.hid (show -1 = z by rw [← H, if_neg (by omega)])
    subst h2
    clear H hW
    go_enter Tryd.func13, Tryd.ntmps13
    go_wp2_with (go_at_call 11; (with_reducible refine kw.mono ?_); rintro e w1 ⟨rfl, rfl⟩)
    go_ret
    exact ⟨by rw [← HZ.out]; rfl, rfl⟩
  · have e2 : (W == 0) = false := by simpa using h2
    by_cases h0 : t < 0
    · have HZ := Lib.hid (show -1 = z by rw [← H, if_neg (by omega)])
      clear H hW
      go_enter Tryd.func13, Tryd.ntmps13
      go_wp2_with (go_at_call 11; (with_reducible refine kw.mono ?_); rintro e w1 ⟨rfl, rfl⟩)
      go_ret
      exact ⟨by rw [← HZ.out]; rfl, rfl⟩
    · by_cases h1 : (1099511627776 : Int) < t
      · have HZ := Lib.hid (show -1 = z by rw [← H, if_neg (by omega)])
        clear H hW
        go_enter Tryd.func13, Tryd.ntmps13
        go_wp2_with (go_at_call 11; (with_reducible refine kw.mono ?_); rintro e w1 ⟨rfl, rfl⟩)
        go_ret
        exact ⟨by rw [← HZ.out]; rfl, rfl⟩
      · have HZ := Lib.hid (show t - t % W = z by rw [← H, if_pos ⟨by omega, by omega, h2⟩])
        obtain ⟨m1, m2, m3, m4⟩ := mod_facts (show 0 ≤ t by omega) (show 0 < W by omega)
        obtain ⟨m, hm⟩ : ∃ m, t % W = m := ⟨_, rfl⟩
        rw [hm] at m1 m2 m3 m4
        have HM := Lib.hid hm
        clear H hW hm
        go_enter Tryd.func13, Tryd.ntmps13
        go_wp2_with (go_at_call 11; (with_reducible refine kw.mono ?_); rintro e w1 ⟨rfl, rfl⟩)
        go_ret
        exact ⟨by rw [← HZ.out, HM.out]; rfl, rfl⟩


theorem ofAny_is (t tier : Int) (s : Sp) (w : World) (hT : Tab w) (H : Hid (ofI t tier = s)) : Calls Tryd.prog 15 #[.int .i64 t, .int .i64 tier] w fun e w' => e = .returned (s.v) ∧ Below w.heap.size w w' := by
  have hb := startI_bounds t tier
  have H := H.out
  unfold ofI at H
  have hT1 := hT.alloc (.cells #[.int .i64 0, .int .i64 0] 26)
  have ks := start_any t tier _ _ hT1 (Lib.hid rfl)
  obtain ⟨W, hW⟩ : ∃ W, wid tier = W := ⟨_, rfl⟩
  have kw := width_is tier W _ hT1 (Lib.hid hW)
  have hwb := wid_bounds tier
  rw [hW] at H hwb
  generalize startI t tier = z at *
  by_cases h : z < 0
  · rw [if_pos h] at H
    subst H
    clear hW
    unfold Sp.v Sp.zero
    dsimp only
    go_enter Tryd.func15, Tryd.ntmps15
    go_wp2_with (first
      | (go_at_call 13; (with_reducible refine ks.mono ?_); rintro e w1 ⟨rfl, rfl⟩)
      | (go_at_call 11; (with_reducible refine kw.mono ?_); rintro e w1 ⟨rfl, rfl⟩))
    refine bodyPost_ret (v := .agg #[.int .i64 0, .int .i64 0]) (by simp [results, Tryd.results15, go_sem]; try rfl) rfl ⟨rfl, ?_⟩
    first | exact (Below.refl _ _).alloc (Nat.le_refl _) _ | exact two_set ((Below.refl _ _).alloc (Nat.le_refl _) _) _ (Nat.le_refl _) _ _
  · rw [if_neg h] at H
    by_cases hc : z + W ≤ 1099511627777
    · have hm : cutI (z + W) = z + W := by unfold cutI; rw [if_neg (by omega)]
      rw [hm] at H
      subst H
      clear hW hm
      unfold Sp.v
      dsimp only
      go_enter Tryd.func15, Tryd.ntmps15
      go_wp2_with (first
        | (go_at_call 13; (with_reducible refine ks.mono ?_); rintro e w1 ⟨rfl, rfl⟩)
        | (go_at_call 11; (with_reducible refine kw.mono ?_); rintro e w1 ⟨rfl, rfl⟩))
      refine bodyPost_ret (v := .agg #[.int .i64 z, .int .i64 (z + W)]) (by simp [results, Tryd.results15, go_sem]; try rfl) rfl ⟨rfl, ?_⟩
      first | exact (Below.refl _ _).alloc (Nat.le_refl _) _ | exact two_set ((Below.refl _ _).alloc (Nat.le_refl _) _) _ (Nat.le_refl _) _ _
    · have hm : cutI (z + W) = 1099511627777 := by unfold cutI; rw [if_pos (by omega)]
      rw [hm] at H
      subst H
      clear hW hm
      unfold Sp.v
      dsimp only
      go_enter Tryd.func15, Tryd.ntmps15
      go_wp2_with (first
        | (go_at_call 13; (with_reducible refine ks.mono ?_); rintro e w1 ⟨rfl, rfl⟩)
        | (go_at_call 11; (with_reducible refine kw.mono ?_); rintro e w1 ⟨rfl, rfl⟩))
      refine bodyPost_ret (v := .agg #[.int .i64 z, .int .i64 1099511627777]) (by simp [results, Tryd.results15, go_sem]; try rfl) rfl ⟨rfl, ?_⟩
      first | exact (Below.refl _ _).alloc (Nat.le_refl _) _ | exact two_set ((Below.refl _ _).alloc (Nat.le_refl _) _) _ (Nat.le_refl _) _ _

end Go.Proofs.YtdkenokjdiamhaaDoor
