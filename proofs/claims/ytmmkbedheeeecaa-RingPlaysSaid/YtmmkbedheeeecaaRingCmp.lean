/- cmp.Compare and cmp.Or, and the order that New hands to the sort. -/
import Derived.Test.YtmmkbedheeeecaaRingAt
import Derived.Deep.RegionHeld
import Derived.Sort.Grow
import Derived.Shelf.SlSortCmp.QuietGrown
set_option maxRecDepth 20000
set_option linter.unusedSimpArgs false
namespace Go.Proofs.Ytmmkbedheeeecaa
open Go.RowKit

def cmpI (x y : Int) : Int := if x < y then -1 else if y < x then 1 else 0
theorem isnanU (x : Int) (w : World) : Calls Try.prog 40 #[.int .u64 x] w fun e w' => e = .returned (.bool false) ∧ w = w' := by
  have h : (x != x) = false := by simp
  go_enter Try.func40, Try.ntmps40
  go_wp2
  go_ret
  exact ⟨rfl, rfl⟩
theorem compareU (x y : Int) (w : World) : Calls Try.prog 31 #[.int .u64 x, .int .u64 y] w fun e w' => e = .returned (.int .i64 (cmpI x y)) ∧ w = w' := by
  have k := isnanU
  by_cases h1 : x < y
  · have HZ := Lib.hid (show -1 = cmpI x y by unfold cmpI; rw [if_pos h1])
    generalize cmpI x y = z at *
    go_enter Try.func31, Try.ntmps31
    go_wp2_with (go_at_call 40; (with_reducible refine (k _ _).mono ?_); rintro e w1 ⟨rfl, rfl⟩)
    go_ret
    exact ⟨by rw [← HZ.out]; rfl, rfl⟩
  · by_cases h2 : y < x
    · have HZ := Lib.hid (show 1 = cmpI x y by unfold cmpI; rw [if_neg h1, if_pos h2])
      generalize cmpI x y = z at *
      go_enter Try.func31, Try.ntmps31
      go_wp2_with (go_at_call 40; (with_reducible refine (k _ _).mono ?_); rintro e w1 ⟨rfl, rfl⟩)
      go_ret
      exact ⟨by rw [← HZ.out]; rfl, rfl⟩
    · have HZ := Lib.hid (show 0 = cmpI x y by unfold cmpI; rw [if_neg h1, if_neg h2])
      generalize cmpI x y = z at *
      go_enter Try.func31, Try.ntmps31
      go_wp2_with (go_at_call 40; (with_reducible refine (k _ _).mono ?_); rintro e w1 ⟨rfl, rfl⟩)
      go_ret
      exact ⟨by rw [← HZ.out]; rfl, rfl⟩
theorem isnanI (x : Int) (w : World) : Calls Try.prog 41 #[.int .i64 x] w fun e w' => e = .returned (.bool false) ∧ w = w' := by
  have h : (x != x) = false := by simp
  go_enter Try.func41, Try.ntmps41
  go_wp2
  go_ret
  exact ⟨rfl, rfl⟩
theorem compareI (x y : Int) (w : World) : Calls Try.prog 32 #[.int .i64 x, .int .i64 y] w fun e w' => e = .returned (.int .i64 (cmpI x y)) ∧ w = w' := by
  have k := isnanI
  by_cases h1 : x < y
  · have HZ := Lib.hid (show -1 = cmpI x y by unfold cmpI; rw [if_pos h1])
    generalize cmpI x y = z at *
    go_enter Try.func32, Try.ntmps32
    go_wp2_with (go_at_call 41; (with_reducible refine (k _ _).mono ?_); rintro e w1 ⟨rfl, rfl⟩)
    go_ret
    exact ⟨by rw [← HZ.out]; rfl, rfl⟩
  · by_cases h2 : y < x
    · have HZ := Lib.hid (show 1 = cmpI x y by unfold cmpI; rw [if_neg h1, if_pos h2])
      generalize cmpI x y = z at *
      go_enter Try.func32, Try.ntmps32
      go_wp2_with (go_at_call 41; (with_reducible refine (k _ _).mono ?_); rintro e w1 ⟨rfl, rfl⟩)
      go_ret
      exact ⟨by rw [← HZ.out]; rfl, rfl⟩
    · have HZ := Lib.hid (show 0 = cmpI x y by unfold cmpI; rw [if_neg h1, if_neg h2])
      generalize cmpI x y = z at *
      go_enter Try.func32, Try.ntmps32
      go_wp2_with (go_at_call 41; (with_reducible refine (k _ _).mono ?_); rintro e w1 ⟨rfl, rfl⟩)
      go_ret
      exact ⟨by rw [← HZ.out]; rfl, rfl⟩

def orI (x y : Int) : Int := if x ≠ 0 then x else y
theorem or_is (b : Nat) (x y : Int) (w : World) (h0 : w.cell? ⟨b, 0, none⟩ = some (.int .i64 x)) (h1 : w.cell? ⟨b, 1, none⟩ = some (.int .i64 y)) : Calls Try.prog 30 #[.slice (some ⟨b, 0, none⟩) 2 2] w fun e w' => e = .returned (.int .i64 (orI x y)) ∧ w = w' := by
  by_cases hx : x = 0
  · subst hx
    by_cases hy : y = 0
    · subst hy
      go_enter Try.func30, Try.ntmps30
      go_wp2
      refine wp_loop_rounds 3 ?_
      rw [rounds_succ]
      go_wp2
      rw [rounds_succ]
      go_wp2
      rw [rounds_succ]
      go_wp2
      go_ret
      exact ⟨rfl, rfl⟩
    · have hq : (y != 0) = true := by simpa using hy
      have HZ := Lib.hid (show y = orI 0 y by unfold orI; simp)
      clear hy
      go_enter Try.func30, Try.ntmps30
      go_wp2
      refine wp_loop_rounds 2 ?_
      rw [rounds_succ]
      go_wp2
      rw [rounds_succ]
      go_wp2
      go_ret
      exact ⟨by rw [← HZ.out]; rfl, rfl⟩
  · have hq : (x != 0) = true := by simpa using hx
    have HZ := Lib.hid (show x = orI x y by unfold orI; rw [if_pos hx])
    clear hx
    go_enter Try.func30, Try.ntmps30
    go_wp2
    refine wp_loop_rounds 1 ?_
    rw [rounds_succ]
    go_wp2
    go_ret
    exact ⟨by rw [← HZ.out]; rfl, rfl⟩
theorem cell_new (w : World) (cs : Array Value) (T : TypeId) (b j : Nat) (hb : b = w.heap.size) : (w.alloc (.cells cs T)).cell? ⟨b, j, none⟩ = cs[j]? := by subst hb; simp [go_sem]
def cfP (x y : Pt) : Int := orI (cmpI x.a y.a) (cmpI x.n y.n)
set_option maxHeartbeats 4000000 in
theorem new1_is (x y : Pt) (w : World) : Calls Try.prog 29 #[.agg (cellsP x).toArray, .agg (cellsP y).toArray] w fun e w' => e = .returned (.int .i64 (cfP x y)) ∧ ∃ q os', w' = Sort.grow (w.drewN q) os' := by
  have k1 := fun w => compareU x.a y.a w
  have k2 := fun w => compareI x.n y.n w
  unfold cfP
  generalize cmpI x.a y.a = z1 at *
  generalize cmpI x.n y.n = z2 at *
  have k3 := fun b w h0 h1 => or_is b z1 z2 w h0 h1
  generalize orI z1 z2 = z at *
  unfold cellsP
  go_enter Try.func29, Try.ntmps29
  go_wp2_with fail
  go_region_held (fun w' => w'.cell? ⟨w.heap.size, 0, none⟩ = some (.int .u64 x.a) ∧ w'.cell? ⟨w.heap.size, 1, none⟩ = some (.int .i64 x.n) ∧ w'.cell? ⟨w.heap.size + 1, 0, none⟩ = some (.int .u64 y.a) ∧ w'.cell? ⟨w.heap.size + 1, 1, none⟩ = some (.int .i64 y.n)) (go_keep)
    (first
      | (go_at_call 31; (with_reducible refine (k1 _).mono ?_); rintro e w1 ⟨rfl, rfl⟩)
      | (go_at_call 32; (with_reducible refine (k2 _).mono ?_); rintro e w1 ⟨rfl, rfl⟩)
      | (go_at_call 30; refine (k3 _ _ (cell_new _ _ _ _ 0 (by simp)) (cell_new _ _ _ _ 1 (by simp))).mono ?_; rintro e w1 ⟨rfl, rfl⟩))
  all_goals go_wp2
  all_goals go_ret
  all_goals exact ⟨rfl, 1, _, by rw [Sort.alloc_eq_grow, Sort.alloc_eq_grow, Sort.alloc_eq_grow, Sort.grow_grow, Sort.grow_grow, Sort.drew_grow]; rfl⟩
end Go.Proofs.Ytmmkbedheeeecaa
