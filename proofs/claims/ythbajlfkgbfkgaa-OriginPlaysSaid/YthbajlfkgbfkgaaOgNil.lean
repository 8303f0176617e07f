/- The methods of no log; a zero log. -/
import Derived.Test.YthbajlfkgbfkgaaOgAwake
set_option maxRecDepth 20000
set_option linter.unusedSimpArgs false
set_option linter.unusedVariables false
namespace Go.Proofs.Ythbajlfkgbfkgaa.Og
open Go.RowKit Go.Proofs.Ythbajlfkgbfkgaa.Vi Go.Proofs.Ythbajlfkgbfkgaa.Mk

theorem ns_nil (w : World) : Ns w (.slice none 0 0) [] := (Nums.nil w none 0).mono (Nat.zero_le _) (Nat.le_refl _)
theorem nil_get (w : World) : Calls Try.prog 22 #[.pointer none, .int .i64 0, .int .i64 1] w fun e w' => ∃ a c, e = .returned (.tuple #[.agg #[.int .i64 0, .string ⟨#[]⟩, .int .i64 0, .int .i64 0, .int .i64 0, .int .i64 0, .int .i64 0, .int .i64 0, .slice a 0 c], .bool false]) ∧ Below w.heap.size w w' := by
  refine (get_nil 0 1 w).mono ?_
  rintro e w' ⟨⟨r, a, c⟩, rfl, hr, -, hb, -⟩
  have hr : r = Rec.zero := hr
  subst hr
  exact ⟨a, c, rfl, hb⟩
theorem base_nil (w : World) : Calls Try.prog 27 #[.pointer none] w (VNew [] w) := by
  have hal := (Below.refl w.heap.size w).alloc (Nat.le_refl _) (.cells #[.pointer none] 26)
  have HAL := Lib.hid hal
  have kk := know_nil (w.alloc (.cells #[.pointer none] 26))
  have hmf := makeFunc_run
  have hal1 := (Below.refl (w.alloc (.cells #[.pointer none] 26)).heap.size (w.alloc (.cells #[.pointer none] 26))).alloc (Nat.le_refl _) (.cells #[.slice none 0 0] 22)
  have HAL1 := Lib.hid hal1
  have h1 : ((w.alloc (.cells #[.pointer none] 26)).alloc (.cells #[.slice none 0 0] 22)).cell? ⟨w.heap.size, 0, none⟩ = some (.pointer none) := by simp [go_sem]
  have h2 : ((w.alloc (.cells #[.pointer none] 26)).alloc (.cells #[.slice none 0 0] 22)).cell? ⟨w.heap.size + 1, 0, none⟩ = some (.slice none 0 0) := by simp [go_sem]
  have HK := Lib.hid (ovec_base (.pointer (some ⟨w.heap.size, 0, none⟩)) (.pointer (some ⟨w.heap.size + 1, 0, none⟩)) (fun i => firstQ (([] : List Rd).map Rd.r) (i : Int) (atL [] (i : Int))) _ (fun k hk u hu =>
    base1_is none w.heap.size (w.heap.size + 1) 0 (.slice none 0 0) (.slice none 0 0) [] [] k u (fun u' hu' => all_nil u') ((hu.cell (p := ⟨w.heap.size, 0, none⟩) (cell_lt h1)).trans h1) ((hu.cell (p := ⟨w.heap.size + 1, 0, none⟩) (cell_lt h2)).trans h2) (ORow.nil _ _) (ns_nil u) (fun y hy => by cases hy) (by simp) hk))
  have HP := Lib.hid (show (vec fun i => cl (firstQ (([] : List Rd).map Rd.r) (i : Int) (atL [] (i : Int)))) = [] from by kernel_rfl)
  clear hal hal1 h1 h2
  go_enter Try.func27, Try.ntmps27
  go_wp2_with (first
    | (go_at_call 26; (with_reducible refine kk.mono ?_); rintro e w1 ⟨rfl, rfl⟩)
    | (go_at_call 34; (with_reducible refine HK.out.mono ?_); rintro e w2 ⟨v2, rfl, hn2, hb2, hf2⟩; (have HN2 := Lib.hid hn2); (have HB2 := Lib.hid (bel_next (bel_next HAL.out HAL1.out) hb2)); (have HF2 := Lib.hid (own_past hf2 (Nat.le_trans HAL.out.size HAL1.out.size))); clear hn2 hb2 hf2))
  go_ret
  refine ⟨_, rfl, ?_, HB2.out, HF2.out⟩
  rw [← HP.out]
  exact HN2.out
theorem nil_all (w : World) : Calls Try.prog 24 #[.pointer none] w fun e w' => e = .returned (.slice none 0 0) ∧ w = w' := by
  have ka := all_nil w
  go_enter Try.func24, Try.ntmps24
  go_wp2_with (go_at_call 38; (with_reducible refine ka.mono ?_); rintro e w1 ⟨rfl, rfl⟩)
  go_loopw [3, 9] (fun o i wr => o = .slice none 0 0 ∧ i = .int .i64 0 ∧ wr = w) (fun _ i _ => 0)
  case atStart => exact ⟨rfl, rfl, rfl⟩
  case round =>
    obtain ⟨rfl, rfl, rfl⟩ := hrel
    go_wp2
    go_ret
    exact ⟨rfl, rfl⟩
theorem nil_trim (w : World) (v : Value) (l : List Int) (h : Ns w v l) : Calls Try.prog 12 #[.pointer none, v] w fun e w' => e = .returned (.int .i64 0) ∧ w = w' := by
  have ka := all_nil w
  obtain ⟨a, c, rfl⟩ := h.slice
  clear h
  go_enter Try.func12, Try.ntmps12
  go_wp2_with (go_at_call 38; (with_reducible refine ka.mono ?_); rintro e w1 ⟨rfl, rfl⟩)
  go_step3
  go_wp2_with (go_at_call 38; (with_reducible refine ka.mono ?_); rintro e w1 ⟨rfl, rfl⟩)
  go_step3
  go_wp2_with (go_at_call 38; (with_reducible refine ka.mono ?_); rintro e w1 ⟨rfl, rfl⟩)
  go_loopw [5, 11] (fun o i wr => o = .int .i64 0 ∧ i = .int .i64 0 ∧ wr = w) (fun _ i _ => 0)
  case atStart => exact ⟨rfl, rfl, by simp⟩
  case round =>
    obtain ⟨rfl, rfl, rfl⟩ := hrel
    go_wp2
    try rw [Exit.noGoto_ret]
    go_ret
    exact ⟨rfl, rfl⟩
/-- A zero log. -/
def zS : OS := ⟨0, [], [], 0⟩
theorem plain_nil : plainL [] = [] := by kernel_rfl
theorem zS_good : Good zS := ⟨by unfold zS; dsimp only; omega, plain_nil, trivial, by unfold zS; dsimp only [List.length_nil]; omega, by unfold zS; dsimp only; omega⟩
theorem Lg.zero (w : World) : Lg w (w.alloc (.cells #[.int .i64 0, .slice none 0 0, .slice none 0 0, .int .i64 0] 58)) w.heap.size zS := by
  refine ⟨fun q => q = w.heap.size, ⟨⟨.slice none 0 0, .slice none 0 0, [], ⟨heap_alloc_new w _, Nat.le_refl _, ORow.nil _ _, ns_nil _, fun x hx => (by cases hx), fun q hq => (by cases hq), fun x hx => (by cases hx), rfl, zS_good⟩, fun q hq => ?_⟩, fun q hq => ⟨by omega, by rw [World.size_alloc]; omega⟩⟩, (Below.refl _ _).alloc (Nat.le_refl _) _⟩
  rcases hq with e | e | e | ⟨x, hx, _⟩
  · exact e
  · cases e
  · cases e
  · cases hx
end Go.Proofs.Ythbajlfkgbfkgaa.Og
