/- The small functions of a network. -/
import Derived.Test.YtnjabhjcnkbgpaaNetRow
import Derived.Laws.MakeOwn
set_option maxRecDepth 20000
set_option linter.unusedSimpArgs false
set_option linter.unusedVariables false
namespace Go.Proofs.Ytnjabhjcnkbgpaa
open Go.RowKit

theorem isEnd_is (a : Int) (w : World) : Calls Try.prog 54 #[.int .i64 a] w fun e w' => e = .returned (.bool (endB a)) ∧ w = w' := by
  by_cases h0 : 0 ≤ a
  · by_cases h1 : a < 64
    · have HZ := Lib.hid (show endB a = true by unfold endB; rw [decide_eq_true h0, decide_eq_true h1]; rfl)
      go_enter Try.func54, Try.ntmps54
      go_wp2
      go_ret
      exact ⟨by rw [HZ.out]; rfl, rfl⟩
    · have HZ := Lib.hid (show endB a = false by unfold endB; rw [decide_eq_true h0, decide_eq_false h1]; rfl)
      go_enter Try.func54, Try.ntmps54
      go_wp2
      go_ret
      exact ⟨by rw [HZ.out]; rfl, rfl⟩
  · have HZ := Lib.hid (show endB a = false by unfold endB; rw [decide_eq_false h0]; rfl)
    go_enter Try.func54, Try.ntmps54
    go_wp2
    go_ret
    exact ⟨by rw [HZ.out]; rfl, rfl⟩
theorem two_is (a b : Int) (w : World) : Calls Try.prog 50 #[.int .i64 a, .int .i64 b] w fun e w' => e = .returned (.bool (twoB a b)) ∧ w = w' := by
  obtain ⟨x, hx⟩ : ∃ x, endB a = x := ⟨_, rfl⟩
  obtain ⟨y, hy⟩ : ∃ y, endB b = y := ⟨_, rfl⟩
  have ka := isEnd_is a w
  have kb := isEnd_is b w
  rw [hx] at ka
  rw [hy] at kb
  have HZ := Lib.hid (show twoB a b = (x && y && !(a == b)) by unfold twoB; rw [hx, hy])
  clear hx hy
  cases x with
  | false =>
    go_enter Try.func50, Try.ntmps50
    go_wp2_with (go_at_call 54; (with_reducible refine ka.mono ?_); rintro e w1 ⟨rfl, rfl⟩)
    go_ret
    exact ⟨by rw [HZ.out]; rfl, rfl⟩
  | true =>
    cases y with
    | false =>
      go_enter Try.func50, Try.ntmps50
      go_wp2_with (first
        | (go_at_call 54; (with_reducible refine ka.mono ?_); rintro e w1 ⟨rfl, rfl⟩; clear ka)
        | (go_at_call 54; (with_reducible refine kb.mono ?_); rintro e w1 ⟨rfl, rfl⟩))
      go_ret
      exact ⟨by rw [HZ.out]; rfl, rfl⟩
    | true =>
      by_cases e : a = b
      · have HE := Lib.hid (show (a == b) = true by simpa using e)
        have h1 : (a == b) = true := HE.out
        have h2 : (a != b) = false := by simpa using e
        clear e
        go_enter Try.func50, Try.ntmps50
        go_wp2_with (first
          | (go_at_call 54; (with_reducible refine ka.mono ?_); rintro e w1 ⟨rfl, rfl⟩; clear ka)
          | (go_at_call 54; (with_reducible refine kb.mono ?_); rintro e w1 ⟨rfl, rfl⟩))
        go_ret
        exact ⟨by rw [HZ.out, HE.out]; rfl, rfl⟩
      · have HE := Lib.hid (show (a == b) = false by simpa using e)
        have h1 : (a == b) = false := HE.out
        have h2 : (a != b) = true := by simpa using e
        clear e
        go_enter Try.func50, Try.ntmps50
        go_wp2_with (first
          | (go_at_call 54; (with_reducible refine ka.mono ?_); rintro e w1 ⟨rfl, rfl⟩; clear ka)
          | (go_at_call 54; (with_reducible refine kb.mono ?_); rintro e w1 ⟨rfl, rfl⟩))
        go_ret
        exact ⟨by rw [HZ.out, HE.out]; rfl, rfl⟩
theorem index_no (x : Int) (w : World) : Calls Try.prog 37 #[.int .i64 x, .int .i64 0] w fun e w' => e = .returned (.tuple #[.int .i64 0, .bool false]) ∧ w = w' := by
  go_enter Try.func37, Try.ntmps37
  go_wp2
  go_ret2
  exact ⟨rfl, rfl⟩
theorem index_is (x : Int) (k : Nat) (w : World) (hx : -9223372036854775808 ≤ x ∧ x ≤ 9223372036854775807) (hk : 0 < k) (hk2 : k ≤ 1000000) : Calls Try.prog 37 #[.int .i64 x, .int .i64 (k : Int)] w fun e w' => e = .returned (.tuple #[.int .i64 (pickN x k : Int), .bool true]) ∧ w = w' := by
  obtain ⟨h0, h1, h2, h3⟩ := pick_lt x hk
  have hz : ((k : Int) == 0) = false := by rw [beq_eq_false_iff_ne]; omega
  have hz2 : ¬ (k : Int) = 0 := by omega
  rw [← h2]
  by_cases hn : x < 0
  · obtain ⟨z, hzz⟩ : ∃ z, (-(x + 1)).tmod (k : Int) = z := ⟨_, rfl⟩
    have HP := Lib.hid (show pickI x k = z by unfold pickI; rw [if_pos hn]; exact hzz)
    have e1 : IntKind.i64.wrap (x + 1) = x + 1 := by rw [IntKind.wrap_i64]; omega
    have e2 : IntKind.i64.wrap (-(x + 1)) = -(x + 1) := by rw [IntKind.wrap_i64]; omega
    have e3 : IntKind.i64.wrap z = z := by rw [IntKind.wrap_i64]; have := HP.out; omega
    rw [HP.out]
    have hh : (x + 1).tmod (k : Int) = -z := by rw [← hzz, Int.neg_tmod]; omega
    clear h0 h1 h2 h3
    go_enter Try.func37, Try.ntmps37
    go_wp2
    go_ret2
    exact ⟨rfl, rfl⟩
  · obtain ⟨z, hzz⟩ : ∃ z, x.tmod (k : Int) = z := ⟨_, rfl⟩
    have HP := Lib.hid (show pickI x k = z by unfold pickI; rw [if_neg hn]; exact hzz)
    have e3 : IntKind.i64.wrap z = z := by rw [IntKind.wrap_i64]; have := HP.out; omega
    rw [HP.out]
    clear h0 h1 h2 h3
    go_enter Try.func37, Try.ntmps37
    go_wp2
    go_ret2
    exact ⟨rfl, rfl⟩
theorem zero54 : (Try.prog.info? 54).map (fun i => i.zero) = some (some (.agg ⟨(.slice none 0 0) :: (.int .i64 0) :: List.replicate 4096 (.bool false)⟩)) := by
  set_option maxRecDepth 1000000 in kernel_rfl
theorem zero_cells : (⟨(.slice none 0 0) :: (.int .i64 0) :: List.replicate 4096 (.bool false)⟩ : Array Value) = ncells (.slice none 0 0) 0 fun _ => false := by
  unfold ncells
  rw [pcells_no]
/-- A new network. -/
theorem nat_new (w : World) (B : Nat) (hB : B ≤ w.heap.size) : NAt (w.alloc (.cells (ncells (.slice none 0 0) 0 fun _ => false) 54)) B w.heap.size (.slice none 0 0) NS.new :=
  ⟨heap_alloc_new w _, MRow.nil _ _, hB, Nat.zero_le _, fun m h => by simp [NS.new] at h⟩
theorem new_is (w : World) : Calls Try.prog 10 #[] w fun e w' => e = .returned (.pointer (some ⟨w.heap.size, 0, none⟩)) ∧ w' = w.alloc (.cells (ncells (.slice none 0 0) 0 fun _ => false) 54) := by
  have hb : ∀ W : World, (zeroValue 54).run Try.prog W = .ok (.agg (ncells (.slice none 0 0) 0 fun _ => false)) W := fun W => by
    have h := zero54
    rw [zero_cells] at h
    cases hi : Try.prog.info? 54 with
    | none => rw [hi] at h; cases h
    | some i =>
      rw [hi] at h
      have hz : i.zero = some (.agg (ncells (.slice none 0 0) 0 fun _ => false)) := by simpa using h
      simp [zeroValue, typeInfo, hi, hz]
  obtain ⟨C, hC⟩ : ∃ C, ncells (.slice none 0 0) 0 (fun _ => false) = C := ⟨_, rfl⟩
  rw [hC] at hb
  rw [hC]
  clear hC
  go_enter Try.func10, Try.ntmps10
  go_wp2
  go_ret
  exact ⟨rfl, rfl⟩
section
variable {w : World} {B b : Nat} {V : Value} {S : NS}
theorem full_is (h : NAt w B b V S) : Calls Try.prog 41 #[.pointer (some ⟨b, 0, none⟩)] w fun e w' => e = .returned (.bool (fullB S)) ∧ w = w' := by
  obtain ⟨a, c, rfl⟩ := h.row.slice
  have c0 := h.c0
  have hl := h.len
  obtain ⟨n, hn⟩ : ∃ n, S.mail.length = n := ⟨_, rfl⟩
  have HZ := Lib.hid (show fullB S = decide (2000 ≤ n) by unfold fullB; rw [hn])
  rw [hn] at c0 hl
  clear hn h
  by_cases hf : 2000 ≤ n
  · have h1 : (2000 : Int) ≤ (n : Int) := by omega
    have HF := Lib.hid hf
    clear hf
    go_enter Try.func41, Try.ntmps41
    go_wp2
    go_ret
    exact ⟨by rw [HZ.out, decide_eq_true HF.out]; rfl, rfl⟩
  · have h1 : ¬ (2000 : Int) ≤ (n : Int) := by omega
    have HF := Lib.hid hf
    clear hf
    go_enter Try.func41, Try.ntmps41
    go_wp2
    go_ret
    exact ⟨by rw [HZ.out, decide_eq_false HF.out]; rfl, rfl⟩
theorem waits_is (h : NAt w B b V S) : Calls Try.prog 31 #[.pointer (some ⟨b, 0, none⟩)] w fun e w' => e = .returned (.int .i64 (S.mail.length : Int)) ∧ w = w' := by
  obtain ⟨a, c, rfl⟩ := h.row.slice
  have c0 := h.c0
  have hl := h.len
  obtain ⟨n, hn⟩ : ∃ n, S.mail.length = n := ⟨_, rfl⟩
  rw [hn] at c0 hl
  rw [hn]
  clear hn h
  go_enter Try.func31, Try.ntmps31
  go_wp2
  go_ret
  exact ⟨rfl, rfl⟩
theorem oldest_is (h : NAt w B b V S) : Calls Try.prog 32 #[.pointer (some ⟨b, 0, none⟩)] w fun e w' => e = .returned (.int .i64 (oldestS S)) ∧ w = w' := by
  have kw := waits_is h
  have c0 := h.c0
  cases hm : S.mail with
  | nil =>
    have HZ := Lib.hid (show oldestS S = 0 by unfold oldestS; rw [hm])
    rw [hm] at kw
    clear hm h
    go_enter Try.func32, Try.ntmps32
    go_wp2_with (go_at_call 31; (with_reducible refine kw.mono ?_); rintro e w1 ⟨rfl, rfl⟩)
    go_ret
    exact ⟨by rw [HZ.out]; rfl, rfl⟩
  | cons m r =>
    have HZ := Lib.hid (show oldestS S = m.a by unfold oldestS; rw [hm])
    have hrow := h.row
    rw [hm] at hrow kw
    obtain ⟨a, c, rfl⟩ := hrow.slice
    obtain ⟨g, rfl, -, -, -, -, hat⟩ := hrow.block (by simp)
    have d := (hat 0 (by simp)).c4
    have hl2 : 0 < (m :: r).length := by simp
    obtain ⟨n, hn⟩ : ∃ n, (m :: r).length = n := ⟨_, rfl⟩
    rw [hn] at c0 kw hl2
    have hne : ((n : Int) == 0) = false := by rw [beq_eq_false_iff_ne]; omega
    have hlt : (0 : Int) < (n : Int) := by omega
    have d' : w.cell? ⟨g, 4, none⟩ = some (.int .i64 m.a) := by simpa using d
    clear hn hm h hrow hat d
    go_enter Try.func32, Try.ntmps32
    go_wp2_with (go_at_call 31; (with_reducible refine kw.mono ?_); rintro e w1 ⟨rfl, rfl⟩)
    go_ret
    exact ⟨by rw [HZ.out]; rfl, rfl⟩
theorem parted_is (x y : Int) (h : NAt w B b V S) : Calls Try.prog 34 #[.pointer (some ⟨b, 0, none⟩), .int .i64 x, .int .i64 y] w fun e w' => e = .returned (.bool (partedB S x y)) ∧ w = w' := by
  have kt := two_is x y w
  cases ht : twoB x y with
  | false =>
    have HZ := Lib.hid (show partedB S x y = false by unfold partedB; rw [ht]; rfl)
    rw [ht] at kt
    clear ht h
    go_enter Try.func34, Try.ntmps34
    go_wp2_with (go_at_call 50; (with_reducible refine kt.mono ?_); rintro e w1 ⟨rfl, rfl⟩)
    go_ret
    exact ⟨by rw [HZ.out]; rfl, rfl⟩
  | true =>
    obtain ⟨i, j, rfl, rfl, hi, hj, -⟩ := twoB_yes ht
    obtain ⟨p, hp⟩ : ∃ p, S.par (i * 64 + j) = p := ⟨_, rfl⟩
    have HZ := Lib.hid (show partedB S i j = p by unfold partedB; rw [ht, spot_nat, hp]; rfl)
    rw [ht] at kt
    have d := h.cp (spot_lt hi hj)
    rw [hp, ← Nat.add_assoc] at d
    have h1 : (i : Int) < 64 := by omega
    have h2 : (j : Int) < 64 := by omega
    clear ht h hp
    go_enter Try.func34, Try.ntmps34
    go_wp2_with (go_at_call 50; (with_reducible refine kt.mono ?_); rintro e w1 ⟨rfl, rfl⟩)
    go_ret
    exact ⟨by rw [HZ.out]; rfl, rfl⟩
end
end Go.Proofs.Ytnjabhjcnkbgpaa
