/- QuorumNil. -/
import Derived.Test.YtcjcbbpolhpphaaQuAwake
set_option maxRecDepth 200000
set_option linter.unusedSimpArgs false
set_option linter.unusedVariables false
namespace Go.Proofs.Ytcjcbbpolhpphaa.Qu
open Go.RowKit Go.Proofs.Ytcjcbbpolhpphaa.Vi

def zeroR : RS := ⟨zeroS, fun _ => [], 0⟩
theorem zero_hear (n : Int) : hearB zeroS n = false := by
  unfold hearB hasB zeroS
  simp
theorem zero_done : doneB zeroS = false := by decide +kernel
theorem zero_mrg : mrgL zeroR = [] := by decide +kernel
theorem zero_ans (n : Int) : ansS zeroR n [] = zeroR := by unfold ansS; rw [show hearB zeroR.S n = false from zero_hear n]; rfl
theorem ack0 (n : Int) {w : World} {b : Nat} (h : WAt w b 64 zeroS) : Calls Try.prog 12 #[.pointer (some ⟨b, 0, none⟩), .int .i64 n] w fun e w' => e = .returned (.bool false) ∧ w = w' := by
  have kk := ack_is n h
  rw [zero_hear] at kk
  refine kk.mono ?_
  rintro e w' ⟨rfl, rfl⟩
  exact ⟨rfl, by unfold hearW; rw [zero_hear]; rfl⟩
namespace quorumNil
set_option maxHeartbeats 16000000 in
theorem walk (n : Int) (w : World) (hn : -9223372036854775808 ≤ n ∧ n ≤ 9223372036854775807) : Calls Try.prog 6 #[.int .i64 n] w fun e w' => e = .returned (.bool true) ∧ Below w.heap.size w w' := by
  obtain ⟨w1, hw1⟩ : ∃ w1, w.alloc (.cells #[.int .i64 0, .bool false, .bool false, .bool false, .bool false, .bool false, .bool false, .bool false, .bool false, .bool false, .bool false, .bool false, .bool false, .bool false, .bool false, .bool false, .bool false, .bool false, .bool false, .bool false, .bool false, .bool false, .bool false, .bool false, .bool false, .bool false, .bool false, .bool false, .bool false, .bool false, .bool false, .bool false, .bool false] 64) = w1 := ⟨_, rfl⟩
  have hx : WAt w1 w.heap.size 64 zeroS := WAt.made _ 0 (fun _ => false) zeroS _ [] rfl (fun _ _ => rfl) (fun _ _ => rfl) (by decide) _ (by rw [← hw1, heap_alloc_new]; rfl)
  have ha1 : Below w.heap.size w w1 := by rw [← hw1]; exact (Below.refl w.heap.size w).alloc (Nat.le_refl _) _
  have hs1 : w1.heap.size = w.heap.size + 1 := by rw [← hw1]; simp
  obtain ⟨w2, hw2⟩ : ∃ w2, w1.alloc (.cells #[.int .i64 0, .bool false, .bool false, .bool false, .bool false, .bool false, .bool false, .bool false, .bool false, .bool false, .bool false, .bool false, .bool false, .bool false, .bool false, .bool false, .bool false, .bool false, .bool false, .bool false, .bool false, .bool false, .bool false, .bool false, .bool false, .bool false, .bool false, .bool false, .bool false, .bool false, .bool false, .bool false, .bool false, .map none] 67) = w2 := ⟨_, rfl⟩
  have ha2 : Below w1.heap.size w1 w2 := by rw [← hw2]; exact (Below.refl w1.heap.size w1).alloc (Nat.le_refl _) _
  have hy0 : w2.heap[w1.heap.size]? = some (.cells #[.int .i64 0, .bool false, .bool false, .bool false, .bool false, .bool false, .bool false, .bool false, .bool false, .bool false, .bool false, .bool false, .bool false, .bool false, .bool false, .bool false, .bool false, .bool false, .bool false, .bool false, .bool false, .bool false, .bool false, .bool false, .bool false, .bool false, .bool false, .bool false, .bool false, .bool false, .bool false, .bool false, .bool false, .map none] 67 (0, 0)) := by rw [← hw2]; exact heap_alloc_new _ _
  have hy : RdAt w2 w.heap.size w1.heap.size zeroR := by
    refine ⟨WAt.made _ 0 (fun _ => false) zeroS _ [Value.map none] rfl (fun _ _ => rfl) (fun _ _ => rfl) (by decide) _ (by rw [hy0]; rfl), by omega, Or.inl ⟨?_, fun i hi => rfl⟩, fun i => by simp [zeroR], fun i p hp => by simp [zeroR] at hp, fun i => rfl⟩
    unfold World.cell?
    dsimp only
    rw [hy0]
    rfl
  rw [hs1] at hy
  have HX := Lib.hid (hx.later ha2)
  have HY := Lib.hid hy
  have HB2 := Lib.hid (show Below w.heap.size w w2 from bel_next ha1 ha2)
  have HW := Lib.hid (show (w.alloc (.cells #[.int .i64 0, .bool false, .bool false, .bool false, .bool false, .bool false, .bool false, .bool false, .bool false, .bool false, .bool false, .bool false, .bool false, .bool false, .bool false, .bool false, .bool false, .bool false, .bool false, .bool false, .bool false, .bool false, .bool false, .bool false, .bool false, .bool false, .bool false, .bool false, .bool false, .bool false, .bool false, .bool false, .bool false] 64)).alloc (.cells #[.int .i64 0, .bool false, .bool false, .bool false, .bool false, .bool false, .bool false, .bool false, .bool false, .bool false, .bool false, .bool false, .bool false, .bool false, .bool false, .bool false, .bool false, .bool false, .bool false, .bool false, .bool false, .bool false, .bool false, .bool false, .bool false, .bool false, .bool false, .bool false, .bool false, .bool false, .bool false, .bool false, .bool false, .map none] 67) = w2 by rw [hw1, hw2])
  clear hx ha1 ha2 hy0 hy hs1 hw2 hw1
  have ka := awake_is w2
  have a0 := fun w => ack_nil n w
  have b0 := fun w => wdone_nil w
  have c0 := fun w => whave_nil w
  have d0 := fun w => wmissing_nil w
  have e0 := fun v w => answer_nil n v w
  have f0 := fun w => rdone_nil w
  have g0 := fun w => rhave_nil w
  have h0 := fun w => rmissing_nil w
  have i0 := fun w => merged_nil w
  have j0 := fun w => repair_nil n w
  go_enter Try.func6, Try.ntmps6
  go_upto_region 5 with fail
  rw [HW.out]
  generalize w.heap.size + 1 = bY at HY ⊢
  refine wp_region_lit ?_
  simp only [List.append_eq, List.cons_append, List.nil_append]
  go_wp2_with (first
    | (go_at_call 8; (with_reducible refine ka.mono ?_); rintro e w3 ⟨rfl, hb3⟩; (have HB3 := Lib.hid (bel_next HB2.out hb3)); (have HX3 := Lib.hid (HX.out.later hb3)); (have HY3 := Lib.hid (HY.out.later hb3)); clear hb3 ka)
    | (go_at_call 12; (with_reducible refine (a0 _).mono ?_); rintro e w9 ⟨rfl, rfl⟩)
    | (go_at_call 18; (with_reducible refine (b0 _).mono ?_); rintro e w9 ⟨rfl, rfl⟩)
    | (go_at_call 15; (with_reducible refine (c0 _).mono ?_); rintro e w9 ⟨rfl, rfl⟩)
    | (go_at_call 17; (with_reducible refine (d0 _).mono ?_); rintro e w9 ⟨rfl, rfl⟩)
    | (go_at_call 21; (with_reducible refine (e0 _ _).mono ?_); rintro e w9 ⟨rfl, rfl⟩)
    | (go_at_call 27; (with_reducible refine (g0 _).mono ?_); rintro e w9 ⟨rfl, rfl⟩)
    | (go_at_call 28; (with_reducible refine (h0 _).mono ?_); rintro e w9 ⟨rfl, rfl⟩)
    | (go_at_call 25; (with_reducible refine (j0 _).mono ?_); rintro e w9 ⟨rfl, rfl⟩)
    | (go_at_call 23; (with_reducible refine (i0 _).mono ?_); rintro e w4 ⟨v4, rfl, hR4, hb4⟩; (obtain ⟨a4, c4, rfl⟩ := hR4.slice); (have HB4 := Lib.hid (bel_next HB3.out hb4)); (have HX4 := Lib.hid (HX3.out.later hb4)); (have HY4 := Lib.hid (HY3.out.later hb4)); clear hb4 hR4)
    | (go_at_call 12; (have kk := ack0 n HX4.out); (with_reducible refine kk.mono ?_); rintro e w5 ⟨rfl, rfl⟩; clear kk)
    | (go_at_call 18; (have kk := wdone_is HX4.out); (rw [zero_done] at kk); (with_reducible refine kk.mono ?_); rintro e w6 ⟨rfl, hb6⟩; (have HB6 := Lib.hid (bel_next HB4.out hb6)); (have HY6 := Lib.hid (HY4.out.later hb6)); clear kk hb6)
    | (go_at_call 21; (have kk := answer_is n none 0 [] HY6.out (Nat.le_trans (by omega : w.heap.size ≤ w.heap.size) HB6.out.size) ⟨⟨Or.inl rfl⟩, Nat.le_refl _, fun _ => rfl⟩ (by decide) (fun p hp => by cases hp) (by decide)); (simp only [List.length_nil] at kk); (with_reducible refine kk.mono ?_); rintro e w7 ⟨he, hr7, hf7, -⟩; (rw [show hearB zeroR.S n = false from zero_hear n] at he); subst he; (rw [zero_ans] at hr7); (have HB7 := Lib.hid (HB6.out.trans (HY6.out.below hf7 HB6.out.size))); (have HY7 := Lib.hid hr7); clear kk hr7 hf7)
    | (go_at_call 29; (have kk := rdone_is HY7.out.at_); (rw [show doneB zeroR.S = false from zero_done] at kk); (with_reducible refine kk.mono ?_); rintro e w8 ⟨rfl, hb8⟩; (have HB8 := Lib.hid (bel_next HB7.out hb8)); (have HY8 := Lib.hid (HY7.out.later hb8)); clear kk hb8)
    | (go_at_call 29; (with_reducible refine (f0 _).mono ?_); rintro e w9 ⟨rfl, rfl⟩)
    | (go_at_call 23; (have kk := merged_is HY8.out HB8.out.size); (rw [zero_mrg] at kk); (with_reducible refine kk.mono ?_); rintro e w9 ⟨v9, rfl, hR9, hb9⟩; (obtain ⟨a9, c9, rfl⟩ := hR9.slice); (have HB9 := Lib.hid (bel_next HB8.out hb9)); clear hb9 hR9 kk))
  go_ret
  exact ⟨rfl, HB9.out⟩
end quorumNil
end Go.Proofs.Ytcjcbbpolhpphaa.Qu
