/- The contracts of the program's Width, Start, Of, Check, fits, border, hasTimes, Aligned. -/
import Derived.Test.YtdkenokjdiamhaaDoorWindowRef4
set_option maxRecDepth 20000
namespace Go.Proofs.YtdkenokjdiamhaaDoor
open Go.RowKit

/-- Where the widths stand. -/
def Tab (w : World) : Prop := ∀ j, j < 4 → w.cell? ⟨0, j, none⟩ = some (.int .i64 (wid (j : Int)))
theorem Tab.room {w : World} (h : Tab w) : 0 < w.heap.size := World.block_lt_of_cell? w _ (h 0 (by omega))
theorem Tab.below {w w' : World} {B : Nat} (h : Tab w) (hb : Below B w w') (hB : 0 < B) : Tab w' := fun j hj =>
  (hb.cell (p := ⟨0, j, none⟩) hB).trans (h j hj)
theorem Tab.next {w a : World} (h : Tab w) (k : Below w.heap.size w a) : Tab a := h.below k h.room
theorem Tab.alloc {w : World} (h : Tab w) (o : Obj) : Tab (w.alloc o) := h.next ((Below.refl _ _).alloc (Nat.le_refl _) _)
theorem Tab.drew {w : World} (h : Tab w) : Tab w.drew := h

theorem width_is (tier W : Int) (w : World) (hT : Tab w) (H : Hid (wid tier = W)) : Calls Tryd.prog 11 #[.int .i64 tier] w fun e w' => e = .returned (.int .i64 W) ∧ w = w' := by
  by_cases h0 : tier < 0
  · have HW := Lib.hid (show 0 = W by rw [← H.out]; unfold wid; rw [if_neg (by omega), if_neg (by omega), if_neg (by omega), if_neg (by omega)])
    go_enter Tryd.func11, Tryd.ntmps11
    go_wp2
    go_ret
    exact ⟨by rw [← HW.out]; rfl, rfl⟩
  · by_cases h4 : 4 ≤ tier
    · have HW := Lib.hid (show 0 = W by rw [← H.out]; unfold wid; rw [if_neg (by omega), if_neg (by omega), if_neg (by omega), if_neg (by omega)])
      go_enter Tryd.func11, Tryd.ntmps11
      go_wp2
      go_ret
      exact ⟨by rw [← HW.out]; rfl, rfl⟩
    · obtain ⟨k, rfl⟩ : ∃ k : Nat, tier = (k : Int) := ⟨tier.toNat, by omega⟩
      have c := hT k (by omega)
      rw [H.out] at c
      have hk : k < 4 := by omega
      go_enter Tryd.func11, Tryd.ntmps11
      go_wp2
      go_ret
      exact ⟨rfl, rfl⟩

theorem start_is (t tier z : Int) (w : World) (hT : Tab w) (ht : -9223372036854775808 ≤ t ∧ t ≤ 9223372036854775807) (H : Hid (startI t tier = z)) : Calls Tryd.prog 13 #[.int .i64 t, .int .i64 tier] w fun e w' => e = .returned (.int .i64 z) ∧ w = w' := by
  obtain ⟨W, hW⟩ : ∃ W, wid tier = W := ⟨_, rfl⟩
  have kw := width_is tier W w hT (Lib.hid hW)
  have hb := wid_bounds tier
  have H := H.out
  unfold startI at H
  rw [hW] at H hb
  by_cases h2 : W = 0
  · have HZ := Lib.hid (show -1 = z by rw [← H, if_neg (by omega)])
    subst h2
    clear H hW
    go_enter Tryd.func13, Tryd.ntmps13
    go_wp2_with (go_at_call 11; (with_reducible refine kw.mono ?_); rintro e w1 ⟨rfl, rfl⟩)
    go_ret
    exact ⟨by rw [← HZ.out]; rfl, rfl⟩
  · have e2 : (W == 0) = false := by simpa using h2
    by_cases h0 : t < 0
    · have HZ := Lib.hid (show -1 = z by rw [← H, if_neg (by omega)])
      clear H hW
      go_enter Tryd.func13, Tryd.ntmps13
      go_wp2_with (go_at_call 11; (with_reducible refine kw.mono ?_); rintro e w1 ⟨rfl, rfl⟩)
      go_ret
      exact ⟨by rw [← HZ.out]; rfl, rfl⟩
    · by_cases h1 : (1099511627776 : Int) < t
      · have HZ := Lib.hid (show -1 = z by rw [← H, if_neg (by omega)])
        clear H hW
        go_enter Tryd.func13, Tryd.ntmps13
        go_wp2_with (go_at_call 11; (with_reducible refine kw.mono ?_); rintro e w1 ⟨rfl, rfl⟩)
        go_ret
        exact ⟨by rw [← HZ.out]; rfl, rfl⟩
      · have HZ := Lib.hid (show t - t % W = z by rw [← H, if_pos ⟨by omega, by omega, h2⟩])
        obtain ⟨m1, m2, m3, m4⟩ := mod_facts (show 0 ≤ t by omega) (show 0 < W by omega)
        obtain ⟨m, hm⟩ : ∃ m, t % W = m := ⟨_, rfl⟩
        rw [hm] at m1 m2 m3 m4
        have HM := Lib.hid hm
        clear H hW hm
        go_enter Tryd.func13, Tryd.ntmps13
        go_wp2_with (go_at_call 11; (with_reducible refine kw.mono ?_); rintro e w1 ⟨rfl, rfl⟩)
        go_ret
        exact ⟨by rw [← HZ.out, HM.out]; rfl, rfl⟩

theorem of_is (t tier : Int) (s : Sp) (w : World) (hT : Tab w) (ht : -9223372036854775808 ≤ t ∧ t ≤ 9223372036854775807) (H : Hid (ofI t tier = s)) : Calls Tryd.prog 15 #[.int .i64 t, .int .i64 tier] w fun e w' => e = .returned (s.v) ∧ Below w.heap.size w w' := by
  have hb := startI_bounds t tier
  have H := H.out
  unfold ofI at H
  have hT1 := hT.alloc (.cells #[.int .i64 0, .int .i64 0] 26)
  have ks := start_is t tier _ _ hT1 ht (Lib.hid rfl)
  obtain ⟨W, hW⟩ : ∃ W, wid tier = W := ⟨_, rfl⟩
  have kw := width_is tier W _ hT1 (Lib.hid hW)
  have hwb := wid_bounds tier
  rw [hW] at H hwb
  generalize startI t tier = z at *
  by_cases h : z < 0
  · rw [if_pos h] at H
    subst H
    clear hW
    unfold Sp.v Sp.zero
    dsimp only
    go_enter Tryd.func15, Tryd.ntmps15
    go_wp2_with (first
      | (go_at_call 13; (with_reducible refine ks.mono ?_); rintro e w1 ⟨rfl, rfl⟩)
      | (go_at_call 11; (with_reducible refine kw.mono ?_); rintro e w1 ⟨rfl, rfl⟩))
    refine bodyPost_ret (v := .agg #[.int .i64 0, .int .i64 0]) (by simp [results, Tryd.results15, go_sem]; try rfl) rfl ⟨rfl, ?_⟩
    first | exact (Below.refl _ _).alloc (Nat.le_refl _) _ | exact two_set ((Below.refl _ _).alloc (Nat.le_refl _) _) _ (Nat.le_refl _) _ _
  · rw [if_neg h] at H
    by_cases hc : z + W ≤ 1099511627777
    · have hm : cutI (z + W) = z + W := by unfold cutI; rw [if_neg (by omega)]
      rw [hm] at H
      subst H
      clear hW hm
      unfold Sp.v
      dsimp only
      go_enter Tryd.func15, Tryd.ntmps15
      go_wp2_with (first
        | (go_at_call 13; (with_reducible refine ks.mono ?_); rintro e w1 ⟨rfl, rfl⟩)
        | (go_at_call 11; (with_reducible refine kw.mono ?_); rintro e w1 ⟨rfl, rfl⟩))
      refine bodyPost_ret (v := .agg #[.int .i64 z, .int .i64 (z + W)]) (by simp [results, Tryd.results15, go_sem]; try rfl) rfl ⟨rfl, ?_⟩
      first | exact (Below.refl _ _).alloc (Nat.le_refl _) _ | exact two_set ((Below.refl _ _).alloc (Nat.le_refl _) _) _ (Nat.le_refl _) _ _
    · have hm : cutI (z + W) = 1099511627777 := by unfold cutI; rw [if_pos (by omega)]
      rw [hm] at H
      subst H
      clear hW hm
      unfold Sp.v
      dsimp only
      go_enter Tryd.func15, Tryd.ntmps15
      go_wp2_with (first
        | (go_at_call 13; (with_reducible refine ks.mono ?_); rintro e w1 ⟨rfl, rfl⟩)
        | (go_at_call 11; (with_reducible refine kw.mono ?_); rintro e w1 ⟨rfl, rfl⟩))
      refine bodyPost_ret (v := .agg #[.int .i64 z, .int .i64 1099511627777]) (by simp [results, Tryd.results15, go_sem]; try rfl) rfl ⟨rfl, ?_⟩
      first | exact (Below.refl _ _).alloc (Nat.le_refl _) _ | exact two_set ((Below.refl _ _).alloc (Nat.le_refl _) _) _ (Nat.le_refl _) _ _

def errI (b : Bool) : Int := if b = true then 0 else 1
theorem check_is (s : Sp) (z : Int) (w : World) (H : Hid (errI s.is = z)) : Calls Tryd.prog 22 #[s.v] w fun e w' => e = .returned (.int .i64 z) ∧ Below w.heap.size w w' := by
  have hB := (Below.refl w.heap.size w).alloc (Nat.le_refl _) (.cells #[.int .i64 s.f, .int .i64 s.t] 26)
  have H := H.out
  unfold Sp.is at H
  unfold Sp.v
  by_cases h0 : s.f < 0
  · have HZ := Lib.hid (show 1 = z by rw [← H, decide_eq_false (by omega)]; rfl)
    clear H
    go_enter Tryd.func22, Tryd.ntmps22
    go_wp2
    go_ret
    exact ⟨by rw [← HZ.out]; rfl, hB⟩
  · by_cases h1 : s.t < s.f
    · have HZ := Lib.hid (show 1 = z by rw [← H, decide_eq_false (by omega)]; rfl)
      clear H
      go_enter Tryd.func22, Tryd.ntmps22
      go_wp2
      go_ret
      exact ⟨by rw [← HZ.out]; rfl, hB⟩
    · by_cases h2 : (1099511627777 : Int) < s.t
      · have HZ := Lib.hid (show 1 = z by rw [← H, decide_eq_false (by omega)]; rfl)
        clear H
        go_enter Tryd.func22, Tryd.ntmps22
        go_wp2
        go_ret
        exact ⟨by rw [← HZ.out]; rfl, hB⟩
      · have HZ := Lib.hid (show 0 = z by rw [← H, decide_eq_true (by omega)]; rfl)
        clear H
        go_enter Tryd.func22, Tryd.ntmps22
        go_wp2
        go_ret
        exact ⟨by rw [← HZ.out]; rfl, hB⟩

theorem fits_is (s : Sp) (tier : Int) (z : Bool) (w : World) (hT : Tab w) (H : Hid (s.may tier = z)) : Calls Tryd.prog 44 #[s.v, .int .i64 tier] w fun e w' => e = .returned (.bool z) ∧ Below w.heap.size w w' := by
  have hB := (Below.refl w.heap.size w).alloc (Nat.le_refl _) (.cells #[.int .i64 s.f, .int .i64 s.t] 26)
  have hT1 := hT.alloc (.cells #[.int .i64 s.f, .int .i64 s.t] 26)
  have H := H.out
  unfold Sp.may at H
  obtain ⟨W, hW⟩ : ∃ W, wid tier = W := ⟨_, rfl⟩
  have kw := fun w hT => width_is tier W w hT (Lib.hid hW)
  have ki := fun w => check_is s _ w (Lib.hid rfl)
  rw [hW] at H
  unfold Sp.v at ki ⊢
  clear hW
  cases hi : s.is with
  | false =>
    rw [hi] at H ki
    have HZ := Lib.hid (show false = z from H)
    have ki := fun w => (show Calls Tryd.prog 22 #[.agg #[.int .i64 s.f, .int .i64 s.t]] w fun e w' => e = .returned (.int .i64 1) ∧ Below w.heap.size w w' from ki w)
    clear H hi
    go_enter Tryd.func44, Tryd.ntmps44
    go_wp2_with (first
      | (go_at_call 22; (with_reducible refine (ki _).mono ?_); rintro e w1 ⟨rfl, hb1⟩))
    go_ret
    exact ⟨by rw [← HZ.out]; rfl, bel_next hB hb1⟩
  | true =>
    rw [hi] at H ki
    have ki := fun w => (show Calls Tryd.prog 22 #[.agg #[.int .i64 s.f, .int .i64 s.t]] w fun e w' => e = .returned (.int .i64 0) ∧ Below w.heap.size w w' from ki w)
    have HZ := Lib.hid (show decide (0 < W) = z by rw [← H]; rfl)
    clear H hi
    go_enter Tryd.func44, Tryd.ntmps44
    go_wp2_with (first
      | (go_at_call 22; (with_reducible refine (ki _).mono ?_); rintro e w1 ⟨rfl, hb1⟩; have hT2 := hT1.next hb1)
      | (go_at_call 11; (with_reducible refine (kw _ hT2).mono ?_); rintro e w1 ⟨rfl, rfl⟩))
    go_ret
    exact ⟨by rw [← HZ.out]; rfl, bel_next hB hb1⟩

/-- A span that is not empty. -/
def Sp.some_ (s : Sp) : Bool := s.is && decide (s.f < s.t)
theorem has_times_is (s : Sp) (z : Bool) (w : World) (H : Hid (s.some_ = z)) : Calls Tryd.prog 50 #[s.v] w fun e w' => e = .returned (.bool z) ∧ Below w.heap.size w w' := by
  have hB := (Below.refl w.heap.size w).alloc (Nat.le_refl _) (.cells #[.int .i64 s.f, .int .i64 s.t] 26)
  have hI := SpAt.new w s 26
  have H := H.out
  unfold Sp.some_ at H
  have ki := fun w => check_is s _ w (Lib.hid rfl)
  unfold Sp.v at ki ⊢
  cases hi : s.is with
  | false =>
    rw [hi] at H ki
    have HZ := Lib.hid (show false = z from H)
    have ki := fun w => (show Calls Tryd.prog 22 #[.agg #[.int .i64 s.f, .int .i64 s.t]] w fun e w' => e = .returned (.int .i64 1) ∧ Below w.heap.size w w' from ki w)
    clear H hi
    go_enter Tryd.func50, Tryd.ntmps50
    go_wp2_with (first
      | (go_at_call 22; (with_reducible refine (ki _).mono ?_); rintro e w1 ⟨rfl, hb1⟩))
    go_ret
    exact ⟨by rw [← HZ.out]; rfl, bel_next hB hb1⟩
  | true =>
    rw [hi] at H ki
    have ki := fun w => (show Calls Tryd.prog 22 #[.agg #[.int .i64 s.f, .int .i64 s.t]] w fun e w' => e = .returned (.int .i64 0) ∧ Below w.heap.size w w' from ki w)
    have HZ := Lib.hid (show decide (s.f < s.t) = z by rw [← H]; rfl)
    clear H hi
    go_enter Tryd.func50, Tryd.ntmps50
    go_wp2_with (first
      | (go_at_call 22; (with_reducible refine (ki _).mono ?_); rintro e w1 ⟨rfl, hb1⟩; have hI1 := hI.below hb1; obtain ⟨x0, x1⟩ := hI1))
    go_ret
    exact ⟨by rw [← HZ.out]; rfl, bel_next hB hb1⟩

def borderB (n tier : Int) : Bool := decide (n = 1099511627777) || decide (startI n tier = n)
theorem border_is (n tier : Int) (z : Bool) (w : World) (hT : Tab w) (hn : -9223372036854775808 ≤ n ∧ n ≤ 9223372036854775807) (H : Hid (borderB n tier = z)) : Calls Tryd.prog 45 #[.int .i64 n, .int .i64 tier] w fun e w' => e = .returned (.bool z) ∧ w = w' := by
  have H := H.out
  unfold borderB at H
  have ks := start_is n tier _ w hT hn (Lib.hid rfl)
  generalize startI n tier = u at H ks
  by_cases h : n = 1099511627777
  · have HZ := Lib.hid (show true = z by rw [← H, decide_eq_true h]; rfl)
    have g : (n == 1099511627777) = true := by simpa using h
    clear H h
    go_enter Tryd.func45, Tryd.ntmps45
    go_wp2
    go_ret
    exact ⟨by rw [← HZ.out]; rfl, rfl⟩
  · have g : (n == 1099511627777) = false := by simpa using h
    have HZ := Lib.hid (show (u == n) = z by rw [← H, decide_eq_false h]; simp [BEq.beq])
    clear H h
    go_enter Tryd.func45, Tryd.ntmps45
    go_wp2_with (first
      | (go_at_call 13; (with_reducible refine ks.mono ?_); rintro e w1 ⟨rfl, rfl⟩))
    go_ret
    exact ⟨by rw [← HZ.out]; rfl, rfl⟩

theorem aligned_parts (s : Sp) (tier : Int) : s.aligned tier = (s.may tier && (borderB s.f tier && borderB s.t tier)) := by
  unfold Sp.aligned
  cases hm : s.may tier with
  | false => rfl
  | true =>
    obtain ⟨⟨h1, h2, h3⟩, h4⟩ := Sp.may_parts hm
    have key : ∀ n : Int, 0 ≤ n → n ≤ 1099511627777 → (borderB n tier = true ↔ (n % wid tier = 0 ∨ n = 1099511627777)) := fun n a b => by
      unfold borderB startI
      obtain ⟨-, m2, m3, m4⟩ := mod_facts a h4
      by_cases e : n = 1099511627777
      · simp [e]
      · rw [if_pos ⟨a, by omega, by omega⟩]
        simp [e]
        omega
    rw [Bool.true_and, Bool.true_and, Bool.eq_iff_iff, Bool.and_eq_true, key _ h1 (by omega), key _ (by omega) h3]
    simp
theorem aligned_is (s : Sp) (tier : Int) (z : Bool) (w : World) (hT : Tab w) (H : Hid (s.aligned tier = z)) : Calls Tryd.prog 23 #[s.v, .int .i64 tier] w fun e w' => e = .returned (.bool z) ∧ Below w.heap.size w w' := by
  have hB := (Below.refl w.heap.size w).alloc (Nat.le_refl _) (.cells #[.int .i64 s.f, .int .i64 s.t] 26)
  have hI := SpAt.new w s 26
  have hT1 := hT.alloc (.cells #[.int .i64 s.f, .int .i64 s.t] 26)
  have H := H.out
  rw [aligned_parts] at H
  have kf := fun w hT => fits_is s tier _ w hT (Lib.hid rfl)
  unfold Sp.v at kf ⊢
  cases hm : s.may tier with
  | false =>
    rw [hm] at H kf
    have HZ := Lib.hid (show false = z from H)
    clear H hm
    go_enter Tryd.func23, Tryd.ntmps23
    go_wp2_with (first
      | (go_at_call 44; (with_reducible refine (kf _ hT1).mono ?_); rintro e w1 ⟨rfl, hb1⟩))
    go_ret
    exact ⟨by rw [← HZ.out]; rfl, bel_next hB hb1⟩
  | true =>
    obtain ⟨⟨h1, h2, h3⟩, h4⟩ := Sp.may_parts hm
    rw [hm] at H kf
    have HZ := Lib.hid (show (borderB s.f tier && borderB s.t tier) = z from H)
    have k1 := fun w hT => border_is s.f tier _ w hT (by omega) (Lib.hid rfl)
    have k2 := fun w hT => border_is s.t tier _ w hT (by omega) (Lib.hid rfl)
    clear H hm
    generalize borderB s.f tier = x at HZ k1
    generalize borderB s.t tier = y at HZ k2
    cases x <;> cases y
    all_goals (
      go_enter Tryd.func23, Tryd.ntmps23
      go_wp2_with (first
        | (go_at_call 44; (with_reducible refine (kf _ hT1).mono ?_); rintro e w1 ⟨rfl, hb1⟩; have hI1 := hI.below hb1; obtain ⟨x0, x1⟩ := hI1; have hT2 := hT1.next hb1)
        | (go_at_call 45; first
          | ((with_reducible refine (k1 _ hT2).mono ?_); rintro e w1 ⟨rfl, rfl⟩)
          | ((with_reducible refine (k2 _ hT2).mono ?_); rintro e w1 ⟨rfl, rfl⟩)))
      go_ret
      exact ⟨by rw [← HZ.out]; rfl, bel_next hB hb1⟩)
end Go.Proofs.YtdkenokjdiamhaaDoor
