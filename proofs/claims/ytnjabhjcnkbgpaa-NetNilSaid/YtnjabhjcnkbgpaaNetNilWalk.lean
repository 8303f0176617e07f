/- Methods of no network; the walk of NetNil. -/
import Derived.Test.YtnjabhjcnkbgpaaNetOne
set_option maxRecDepth 20000
set_option linter.unusedSimpArgs false
set_option linter.unusedVariables false
namespace Go.Proofs.Ytnjabhjcnkbgpaa
open Go.RowKit

theorem heal_nil (w : World) : Calls Try.prog 21 #[.pointer none] w fun e w' => e = .returned (.tuple #[]) ∧ w = w' := by
  go_enter Try.func21, Try.ntmps21
  go_wp2
  go_end0
  exact ⟨rfl, rfl⟩
theorem tick_nil (w : World) : Calls Try.prog 22 #[.pointer none] w fun e w' => e = .returned (.tuple #[]) ∧ w = w' := by
  go_enter Try.func22, Try.ntmps22
  go_wp2
  (try simp only [Exit.inBlock, Exit.then]); refine bodyPost_ret (results_none rfl _ _ _) rfl ?_
  exact ⟨rfl, rfl⟩
theorem send_nil (f t : Int) (s : ByteArray) (w : World) : Calls Try.prog 27 #[.pointer none, .int .i64 f, .int .i64 t, .string s] w fun e w' => e = .returned (.tuple #[.int .i64 0, .bool false]) ∧ w = w' := by
  go_enter Try.func27, Try.ntmps27
  go_wp2
  go_ret2
  exact ⟨rfl, rfl⟩
theorem set_nil (x y : Int) (v : Bool) (w : World) : Calls Try.prog 43 #[.pointer none, .int .i64 x, .int .i64 y, .bool v] w fun e w' => e = .returned (.bool false) ∧ w = w' := by
  go_enter Try.func43, Try.ntmps43
  go_wp2
  go_ret
  exact ⟨rfl, rfl⟩
theorem part_nil (x y : Int) (w : World) : Calls Try.prog 17 #[.pointer none, .int .i64 x, .int .i64 y] w fun e w' => e = .returned (.bool false) ∧ w = w' := by
  go_enter Try.func17, Try.ntmps17
  go_wp2_with (go_at_call 43; (with_reducible refine (set_nil _ _ _ _).mono ?_); rintro e w1 ⟨rfl, rfl⟩)
  go_ret
  exact ⟨rfl, rfl⟩
theorem join_nil (x y : Int) (w : World) : Calls Try.prog 19 #[.pointer none, .int .i64 x, .int .i64 y] w fun e w' => e = .returned (.bool false) ∧ w = w' := by
  go_enter Try.func19, Try.ntmps19
  go_wp2_with (go_at_call 43; (with_reducible refine (set_nil _ _ _ _).mono ?_); rintro e w1 ⟨rfl, rfl⟩)
  go_ret
  exact ⟨rfl, rfl⟩
theorem parted_nil (x y : Int) (w : World) : Calls Try.prog 34 #[.pointer none, .int .i64 x, .int .i64 y] w fun e w' => e = .returned (.bool false) ∧ w = w' := by
  go_enter Try.func34, Try.ntmps34
  go_wp2
  go_ret
  exact ⟨rfl, rfl⟩
theorem ready_nil (w : World) : Calls Try.prog 29 #[.pointer none] w fun e w' => e = .returned (.slice none 0 0) ∧ w = w' := by
  go_enter Try.func29, Try.ntmps29
  go_wp2
  go_ret
  exact ⟨rfl, rfl⟩
theorem waits_nil (w : World) : Calls Try.prog 31 #[.pointer none] w fun e w' => e = .returned (.int .i64 0) ∧ w = w' := by
  go_enter Try.func31, Try.ntmps31
  go_wp2
  go_ret
  exact ⟨rfl, rfl⟩
theorem oldest_nil (w : World) : Calls Try.prog 32 #[.pointer none] w fun e w' => e = .returned (.int .i64 0) ∧ w = w' := by
  go_enter Try.func32, Try.ntmps32
  go_wp2_with (go_at_call 31; (with_reducible refine (waits_nil _).mono ?_); rintro e w1 ⟨rfl, rfl⟩)
  go_ret
  exact ⟨rfl, rfl⟩
theorem lose_nil (x : Int) (w : World) : Calls Try.prog 24 #[.pointer none, .int .i64 x] w fun e w' => e = .returned (.int .i64 0) ∧ Below w.heap.size w w' := by
  have HB := Lib.hid (bel_al w (.cells #[.int .i64 x] 3))
  go_enter Try.func24, Try.ntmps24
  go_wp2
  go_ret
  exact ⟨rfl, HB.out⟩
theorem drop_nil (x : Int) (w : World) : Calls Try.prog 13 #[.pointer none, .int .i64 x] w fun e w' => e = .returned (.bool false) ∧ w = w' := by
  have ki := index_no x w
  go_enter Try.func13, Try.ntmps13
  go_wp2_with (first
    | (go_at_call 31; (with_reducible refine (waits_nil _).mono ?_); rintro e w1 ⟨rfl, rfl⟩)
    | (go_at_call 37; (with_reducible refine ki.mono ?_); rintro e w1 ⟨rfl, rfl⟩))
  go_ret
  exact ⟨rfl, rfl⟩
theorem double_nil (x : Int) (w : World) : Calls Try.prog 15 #[.pointer none, .int .i64 x] w fun e w' => e = .returned (.bool false) ∧ w = w' := by
  have ki := index_no x w
  go_enter Try.func15, Try.ntmps15
  go_wp2_with (first
    | (go_at_call 31; (with_reducible refine (waits_nil _).mono ?_); rintro e w1 ⟨rfl, rfl⟩)
    | (go_at_call 37; (with_reducible refine ki.mono ?_); rintro e w1 ⟨rfl, rfl⟩))
  go_ret
  exact ⟨rfl, rfl⟩
set_option maxHeartbeats 1000000 in
theorem take_nil (x : Int) (w : World) : Calls Try.prog 11 #[.pointer none, .int .i64 x] w fun e w' => e = .returned (.tuple #[noM, .bool false]) ∧ Below w.heap.size w w' := by
  have hc := heap_alloc_new w (.cells #[.int .i64 0, .int .i64 0, .int .i64 0, .string ⟨#[]⟩, .int .i64 0] 34)
  have HB := Lib.hid (bel_al w (.cells #[.int .i64 0, .int .i64 0, .int .i64 0, .string ⟨#[]⟩, .int .i64 0] 34))
  have HC := Lib.hid hc
  clear hc
  go_enter Try.func11, Try.ntmps11
  go_wp2
  have zx0 := cell_of (j := 0) HC.out
  have zx1 := cell_of (j := 1) HC.out
  have zx2 := cell_of (j := 2) HC.out
  have zx3 := cell_of (j := 3) HC.out
  have zx4 := cell_of (j := 4) HC.out
  refine bodyPost_ret (v := .tuple #[noM, .bool false]) (by unfold noM; simp [results, Try.results11, go_sem, zx0, zx1, zx2, zx3, zx4]; try rfl) rfl ⟨rfl, HB.out⟩
namespace netNil
set_option maxHeartbeats 4000000 in
theorem walk (k : Int) (w : World) (_hk : (Lit.int .i64 k).wf = true) : Calls Try.prog 7 #[.int .i64 k] w fun e w' => e = .returned (.bool true) ∧ Below w.heap.size w w' := by
  have r1 : refuse NS.new 1 2 ⟨#[120]⟩ = false := by kernel_rfl
  have hz : ∀ W : World, (zeroValue 54).run Try.prog W = .ok (.agg (ncells (.slice none 0 0) 0 fun _ => false)) W := fun W => by
    have h := zero54
    rw [zero_cells] at h
    cases hi : Try.prog.info? 54 with
    | none => rw [hi] at h; cases h
    | some i =>
      rw [hi] at h
      have hz : i.zero = some (.agg (ncells (.slice none 0 0) 0 fun _ => false)) := by simpa using h
      simp [zeroValue, typeInfo, hi, hz]
  have hm := One.made w
  have HL := Lib.hid (show (sendS NS.new 1 2 ⟨#[120]⟩).mail.length = 1 by unfold sendS; rw [r1]; rfl)
  have HR := Lib.hid r1
  obtain ⟨C, hC⟩ : ∃ C, ncells (.slice none 0 0) 0 (fun _ => false) = C := ⟨_, rfl⟩
  rw [hC] at hz hm
  have HM := Lib.hid hm
  clear hC hm r1
  go_enter Try.func7, Try.ntmps7
  go_wp2_with (first
    | (go_at_call 21; (with_reducible refine (heal_nil _).mono ?_); rintro e w1 ⟨rfl, rfl⟩)
    | (go_at_call 22; (with_reducible refine (tick_nil _).mono ?_); rintro e w1 ⟨rfl, rfl⟩)
    | (go_at_call 27; (with_reducible refine (send_nil 1 2 ⟨#[120]⟩ _).mono ?_); rintro e w1 ⟨rfl, rfl⟩)
    | (go_at_call 11; (with_reducible refine (take_nil k _).mono ?_); rintro e w2 ⟨rfl, hB⟩; unfold noM; (have HM2 := Lib.hid ((HM.out.later hB).later (bel_al w2 (.cells #[.int .i64 0, .int .i64 0, .int .i64 0, .string ⟨#[]⟩, .int .i64 0] 34)))); clear hB)
    | (go_at_call 27; (have k1 := send_one 1 2 ⟨#[120]⟩ (by decide) HM2.out); rw [HR.out] at k1; (with_reducible refine k1.mono ?_); rintro e w3 ⟨rfl, hO, -, -⟩; (have HM3 := Lib.hid hO); clear hO k1)
    | (go_at_call 9; (with_reducible refine (awake_is _).mono ?_); rintro e w4 ⟨rfl, hB⟩; (have HM4 := Lib.hid (HM3.out.later hB)); clear hB)
    | (go_at_call 17; (with_reducible refine (part_nil 1 2 _).mono ?_); rintro e w1 ⟨rfl, rfl⟩)
    | (go_at_call 19; (with_reducible refine (join_nil 1 2 _).mono ?_); rintro e w1 ⟨rfl, rfl⟩)
    | (go_at_call 34; (with_reducible refine (parted_nil 1 2 _).mono ?_); rintro e w1 ⟨rfl, rfl⟩)
    | (go_at_call 29; (with_reducible refine (ready_nil _).mono ?_); rintro e w1 ⟨rfl, rfl⟩)
    | (go_at_call 31; (with_reducible refine (waits_nil _).mono ?_); rintro e w1 ⟨rfl, rfl⟩)
    | (go_at_call 32; (with_reducible refine (oldest_nil _).mono ?_); rintro e w1 ⟨rfl, rfl⟩)
    | (go_at_call 24; (with_reducible refine (lose_nil k _).mono ?_); rintro e w5 ⟨rfl, hB⟩; (have HM5 := Lib.hid (HM4.out.later hB)); clear hB)
    | (go_at_call 13; (with_reducible refine (drop_nil k _).mono ?_); rintro e w1 ⟨rfl, rfl⟩)
    | (go_at_call 15; (with_reducible refine (double_nil k _).mono ?_); rintro e w1 ⟨rfl, rfl⟩)
    | (go_at_call 31; (have k1 := waits_one HM5.out); rw [HL.out] at k1; (with_reducible refine k1.mono ?_); rintro e w6 ⟨rfl, rfl⟩; clear k1))
  go_ret
  exact ⟨rfl, HM5.out.bel⟩
end netNil
end Go.Proofs.Ytnjabhjcnkbgpaa
