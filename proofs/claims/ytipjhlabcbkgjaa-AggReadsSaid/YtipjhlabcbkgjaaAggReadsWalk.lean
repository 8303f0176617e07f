/- The walk of AggReads. -/
import Derived.Test.YtipjhlabcbkgjaaAggAwake
import Derived.Test.YtipjhlabcbkgjaaAggRRead
import Derived.Test.YtipjhlabcbkgjaaAggRead
set_option maxRecDepth 20000
set_option linter.unusedSimpArgs false
namespace Go.Proofs.Ytipjhlabcbkgjaa.aggReads
open Go.RowKit Go.Proofs.Ytipjhlabcbkgjaa Go.Proofs.Ytipjhlabcbkgjaa.Wd Go.Proofs.Ytipjhlabcbkgjaa.Vi Go.Proofs.Ytipjhlabcbkgjaa.Mk Go.Proofs.Ytipjhlabcbkgjaa.Ag

/-- Aggregates in their boxes. -/
structure HB (w : World) (gs : List (Nat × Ag)) (W : World) : Prop where
  g : ∀ x ∈ gs, AgAt W x.1 x.2
  bel : Below w.heap.size w W
theorem HB.keep {w : World} {gs : List (Nat × Ag)} {W W' : World} (h : HB w gs W) (k : Below W.heap.size W W') : HB w gs W' := ⟨fun x hx => (h.g x hx).below k, bel_next h.bel k⟩
theorem HB.new {w : World} {gs : List (Nat × Ag)} {W : World} (h : HB w gs W) (a : Ag) :
    ∃ x q, x = stA (W.alloc (.cells #[.int .i64 0, .int .i64 0, .int .u64 0, .int .i64 0, .int .i64 0, .int .i64 0, .int .i64 0, .int .i64 0, .int .i64 0, .int .i64 0, .int .i64 0, .int .i64 0, .int .i64 0, .int .i64 0, .int .i64 0, .int .i64 0, .int .i64 0, .int .i64 0] 29)) W.heap.size a ∧ q = W.heap.size ∧ HB w ((q, a) :: gs) x := by
  have kk := stA_below a (bel_new (Below.refl W.heap.size W) (.cells #[.int .i64 0, .int .i64 0, .int .u64 0, .int .i64 0, .int .i64 0, .int .i64 0, .int .i64 0, .int .i64 0, .int .i64 0, .int .i64 0, .int .i64 0, .int .i64 0, .int .i64 0, .int .i64 0, .int .i64 0, .int .i64 0, .int .i64 0, .int .i64 0] 29)) (Nat.le_refl _)
  refine ⟨_, _, rfl, rfl, fun x hx => ?_, bel_next h.bel kk⟩
  rcases List.mem_cons.1 hx with rfl | hx
  · exact ((AgW.zero W 29).st a).at_
  · exact (h.g x hx).below kk
theorem both (t : ByteArray) (ht : t.size ≤ 1000) : ∃ g er, (∀ W, Calls Try.prog 25 #[.string t] W fun e w' => e = .returned (.tuple #[agV g, .int .i64 er]) ∧ Below W.heap.size W w') ∧ ∀ W, Calls Try.prog 26 #[.string t] W fun e w' => e = .returned (.tuple #[agV g, .int .i64 er]) ∧ Below W.heap.size W w' := by
  obtain ⟨⟨g, er⟩, hg⟩ : ∃ x, readA t = x := ⟨_, rfl⟩
  have ha := answers t
  have kq := fun W => rread8_is t W ht
  rw [hg] at ha
  dsimp only at ha
  rw [← ha.1, ← ha.2] at kq
  exact ⟨g, er, fun W => read8_is t W ht g er (Lib.hid hg), kq⟩
set_option maxHeartbeats 4000000 in
theorem walk (s : ByteArray) (w : World) (_ : s.size ≤ maxLen) : Calls Try.prog 6 #[.string s] w fun e w' => e = .returned (.bool true) ∧ Below w.heap.size w w' := by
  by_cases hl : 300 < s.size
  · obtain ⟨t, ht⟩ : ∃ t, s.extract 0 300 = t := ⟨_, rfl⟩
    have hts : t.size ≤ 1000 := by rw [← ht]; simp; omega
    have hsl : ∀ W, (Instr.slice 9 (.string s) none (some (.int .i64 300)) none).run Try.prog W = .ok (.string t) W := fun W => by
      rw [run_slice_string_h (P := Try.prog) W 9 s Try.underlying9 .i64 300 (by omega) (by omega), ← ht]; rfl
    have hd1 : decide ((300 : Int) < (s.size : Int)) = true := decide_eq_true (by omega)
    have hd2 : decide (300 < s.size) = true := decide_eq_true hl
    have hd3 : (300 : Int) < (s.size : Int) := by omega
    obtain ⟨g, er, kp, kq⟩ := both t hts
    have q0 := fun w => eqAg_self g w
    have g0 := fun x y w => guardAg x y g g w
    clear ht hts hl
    go_enter Try.func6, Try.ntmps6
    go_upto_region 4 with (go_at_call 11; (with_reducible refine (awake_is _).mono ?_); rintro e w1 ⟨rfl, hb1⟩; (have HS := Lib.hid (show HB w [] w1 from ⟨(fun x hx => by cases hx), hb1⟩)); clear hb1)
    go_upto_region 4 with fail
    refine wp_region_lit ?_
    refine wpList_plain rfl fun K hK => ?_
    go_simp
    refine hK _ _ ?_
    clear hK K
    (try simp only [Act.put, List.setIfInBounds_toArray, List.set_cons_zero, List.set_cons_succ])
    refine wpList_plain rfl fun K hK => ?_
    go_simp
    ((with_reducible refine (kp _).mono ?_); rintro e w7 ⟨rfl, hb7⟩)
    refine hK _ _ ?_
    clear hK K
    (try simp only [Act.put, List.setIfInBounds_toArray, List.set_cons_zero, List.set_cons_succ])
    refine wpList_plain rfl fun K hK => ?_
    go_simp
    refine hK _ _ ?_
    clear hK K
    (try simp only [Act.put, List.setIfInBounds_toArray, List.set_cons_zero, List.set_cons_succ])
    refine wpList_plain rfl fun K hK => ?_
    go_simp
    refine hK _ _ ?_
    clear hK K
    (try simp only [Act.put, List.setIfInBounds_toArray, List.set_cons_zero, List.set_cons_succ])
    refine wpList_plain rfl fun K hK => ?_
    go_simp
    refine hK _ _ ?_
    clear hK K
    (try simp only [Act.put, List.setIfInBounds_toArray, List.set_cons_zero, List.set_cons_succ])
    refine wpList_plain rfl fun K hK => ?_
    go_simp
    refine hK _ _ ?_
    clear hK K
    (try simp only [Act.put, List.setIfInBounds_toArray, List.set_cons_zero, List.set_cons_succ])
    refine list_store_ag rfl _ _ rfl w7.heap.size Ag.zero g rfl rfl (AgW.zero w7 _) ?_
    obtain ⟨w4, b4, hw5, hb5, h5⟩ := (HS.out.keep hb7).new g
    (try rw [← hw5])
    (try rw [← hb5])
    replace HS := Lib.hid h5
    clear hw5 hb5 h5 hb7
    refine wpList_plain rfl fun K hK => ?_
    go_simp
    refine hK _ _ ?_
    clear hK K
    (try simp only [Act.put, List.setIfInBounds_toArray, List.set_cons_zero, List.set_cons_succ])
    refine wpList_nil ?_
    go_upto_region 5 with fail
    refine wp_region_lit ?_
    refine wpList_plain rfl fun K hK => ?_
    go_simp
    refine hK _ _ ?_
    clear hK K
    (try simp only [Act.put, List.setIfInBounds_toArray, List.set_cons_zero, List.set_cons_succ])
    refine wpList_plain rfl fun K hK => ?_
    go_simp
    ((with_reducible refine (kq _).mono ?_); rintro e w7 ⟨rfl, hb7⟩)
    refine hK _ _ ?_
    clear hK K
    (try simp only [Act.put, List.setIfInBounds_toArray, List.set_cons_zero, List.set_cons_succ])
    refine wpList_plain rfl fun K hK => ?_
    go_simp
    refine hK _ _ ?_
    clear hK K
    (try simp only [Act.put, List.setIfInBounds_toArray, List.set_cons_zero, List.set_cons_succ])
    refine wpList_plain rfl fun K hK => ?_
    go_simp
    refine hK _ _ ?_
    clear hK K
    (try simp only [Act.put, List.setIfInBounds_toArray, List.set_cons_zero, List.set_cons_succ])
    refine wpList_plain rfl fun K hK => ?_
    go_simp
    refine hK _ _ ?_
    clear hK K
    (try simp only [Act.put, List.setIfInBounds_toArray, List.set_cons_zero, List.set_cons_succ])
    refine wpList_plain rfl fun K hK => ?_
    go_simp
    refine hK _ _ ?_
    clear hK K
    (try simp only [Act.put, List.setIfInBounds_toArray, List.set_cons_zero, List.set_cons_succ])
    refine list_store_ag rfl _ _ rfl w7.heap.size Ag.zero g rfl rfl (AgW.zero w7 _) ?_
    obtain ⟨w6, b6, hw5, hb5, h5⟩ := (HS.out.keep hb7).new g
    (try rw [← hw5])
    (try rw [← hb5])
    replace HS := Lib.hid h5
    clear hw5 hb5 h5 hb7
    refine wpList_plain rfl fun K hK => ?_
    go_simp
    refine hK _ _ ?_
    clear hK K
    (try simp only [Act.put, List.setIfInBounds_toArray, List.set_cons_zero, List.set_cons_succ])
    refine wpList_nil ?_
    go_upto_region 6 with fail
    refine wp_region_lit ?_
    refine wpList_plain rfl fun K hK => ?_
    go_simp
    refine hK _ _ ?_
    clear hK K
    (try simp only [Act.put, List.setIfInBounds_toArray, List.set_cons_zero, List.set_cons_succ])
    refine wpList_plain rfl fun K hK => ?_
    go_simp
    refine hK _ _ ?_
    clear hK K
    (try simp only [Act.put, List.setIfInBounds_toArray, List.set_cons_zero, List.set_cons_succ])
    refine wpList_step fun K hK => ?_
    refine (if_pos (by kernel_rfl)).mpr ?_
    refine load_ag _ rfl b4 g rfl (HS.out.g (b4, g) (by simp)) ?_
    refine hK _ _ ?_
    clear hK K
    (try simp only [Act.put, List.setIfInBounds_toArray, List.set_cons_zero, List.set_cons_succ])
    refine wpList_step fun K hK => ?_
    refine (if_pos (by kernel_rfl)).mpr ?_
    refine load_ag _ rfl b6 g rfl (HS.out.g (b6, g) (by simp)) ?_
    refine hK _ _ ?_
    clear hK K
    (try simp only [Act.put, List.setIfInBounds_toArray, List.set_cons_zero, List.set_cons_succ])
    refine wpList_step fun K hK => ?_
    refine (if_pos (by kernel_rfl)).mpr ?_
    go_simp
    refine hK _ _ ?_
    clear hK K
    (try simp only [Act.put, List.setIfInBounds_toArray, List.set_cons_zero, List.set_cons_succ])
    refine wpList_plain rfl fun K hK => ?_
    go_simp
    refine hK _ _ ?_
    clear hK K
    (try simp only [Act.put, List.setIfInBounds_toArray, List.set_cons_zero, List.set_cons_succ])
    refine wpList_plain rfl fun K hK => ?_
    go_simp
    refine hK _ _ ?_
    clear hK K
    (try simp only [Act.put, List.setIfInBounds_toArray, List.set_cons_zero, List.set_cons_succ])
    refine wpList_step fun K hK => ?_
    refine (if_pos (by kernel_rfl)).mpr ?_
    go_simp
    refine hK _ _ ?_
    clear hK K
    (try simp only [Act.put, List.setIfInBounds_toArray, List.set_cons_zero, List.set_cons_succ])
    refine wpList_step fun K hK => ?_
    refine (if_pos (by kernel_rfl)).mpr ?_
    go_simp
    refine hK _ _ ?_
    clear hK K
    (try simp only [Act.put, List.setIfInBounds_toArray, List.set_cons_zero, List.set_cons_succ])
    refine wpList_step fun K hK => ?_
    refine (if_pos (by kernel_rfl)).mpr ?_
    go_simp
    refine hK _ _ ?_
    clear hK K
    (try simp only [Act.put, List.setIfInBounds_toArray, List.set_cons_zero, List.set_cons_succ])
    refine wpList_plain rfl fun K hK => ?_
    go_simp
    refine hK _ _ ?_
    clear hK K
    (try simp only [Act.put, List.setIfInBounds_toArray, List.set_cons_zero, List.set_cons_succ])
    refine wpList_plain rfl fun K hK => ?_
    go_simp
    refine hK _ _ ?_
    clear hK K
    (try simp only [Act.put, List.setIfInBounds_toArray, List.set_cons_zero, List.set_cons_succ])
    refine wpList_nil ?_
    have hbel := HS.out.bel
    go_wp2
    go_ret
    exact ⟨rfl, hbel⟩
  · obtain ⟨g, er, kp, kq⟩ := both s (by omega)
    have hd1 : decide ((300 : Int) < (s.size : Int)) = false := decide_eq_false (by omega)
    have hd2 : decide (300 < s.size) = false := decide_eq_false hl
    have hd3 : ¬ (300 : Int) < (s.size : Int) := by omega
    have q0 := fun w => eqAg_self g w
    have g0 := fun x y w => guardAg x y g g w
    clear hl
    go_enter Try.func6, Try.ntmps6
    go_upto_region 4 with (go_at_call 11; (with_reducible refine (awake_is _).mono ?_); rintro e w1 ⟨rfl, hb1⟩; (have HS := Lib.hid (show HB w [] w1 from ⟨(fun x hx => by cases hx), hb1⟩)); clear hb1)
    go_upto_region 4 with fail
    refine wp_region_lit ?_
    refine wpList_plain rfl fun K hK => ?_
    go_simp
    refine hK _ _ ?_
    clear hK K
    (try simp only [Act.put, List.setIfInBounds_toArray, List.set_cons_zero, List.set_cons_succ])
    refine wpList_plain rfl fun K hK => ?_
    go_simp
    ((with_reducible refine (kp _).mono ?_); rintro e w7 ⟨rfl, hb7⟩)
    refine hK _ _ ?_
    clear hK K
    (try simp only [Act.put, List.setIfInBounds_toArray, List.set_cons_zero, List.set_cons_succ])
    refine wpList_plain rfl fun K hK => ?_
    go_simp
    refine hK _ _ ?_
    clear hK K
    (try simp only [Act.put, List.setIfInBounds_toArray, List.set_cons_zero, List.set_cons_succ])
    refine wpList_plain rfl fun K hK => ?_
    go_simp
    refine hK _ _ ?_
    clear hK K
    (try simp only [Act.put, List.setIfInBounds_toArray, List.set_cons_zero, List.set_cons_succ])
    refine wpList_plain rfl fun K hK => ?_
    go_simp
    refine hK _ _ ?_
    clear hK K
    (try simp only [Act.put, List.setIfInBounds_toArray, List.set_cons_zero, List.set_cons_succ])
    refine wpList_plain rfl fun K hK => ?_
    go_simp
    refine hK _ _ ?_
    clear hK K
    (try simp only [Act.put, List.setIfInBounds_toArray, List.set_cons_zero, List.set_cons_succ])
    refine list_store_ag rfl _ _ rfl w7.heap.size Ag.zero g rfl rfl (AgW.zero w7 _) ?_
    obtain ⟨w4, b4, hw5, hb5, h5⟩ := (HS.out.keep hb7).new g
    (try rw [← hw5])
    (try rw [← hb5])
    replace HS := Lib.hid h5
    clear hw5 hb5 h5 hb7
    refine wpList_plain rfl fun K hK => ?_
    go_simp
    refine hK _ _ ?_
    clear hK K
    (try simp only [Act.put, List.setIfInBounds_toArray, List.set_cons_zero, List.set_cons_succ])
    refine wpList_nil ?_
    go_upto_region 5 with fail
    refine wp_region_lit ?_
    refine wpList_plain rfl fun K hK => ?_
    go_simp
    refine hK _ _ ?_
    clear hK K
    (try simp only [Act.put, List.setIfInBounds_toArray, List.set_cons_zero, List.set_cons_succ])
    refine wpList_plain rfl fun K hK => ?_
    go_simp
    ((with_reducible refine (kq _).mono ?_); rintro e w7 ⟨rfl, hb7⟩)
    refine hK _ _ ?_
    clear hK K
    (try simp only [Act.put, List.setIfInBounds_toArray, List.set_cons_zero, List.set_cons_succ])
    refine wpList_plain rfl fun K hK => ?_
    go_simp
    refine hK _ _ ?_
    clear hK K
    (try simp only [Act.put, List.setIfInBounds_toArray, List.set_cons_zero, List.set_cons_succ])
    refine wpList_plain rfl fun K hK => ?_
    go_simp
    refine hK _ _ ?_
    clear hK K
    (try simp only [Act.put, List.setIfInBounds_toArray, List.set_cons_zero, List.set_cons_succ])
    refine wpList_plain rfl fun K hK => ?_
    go_simp
    refine hK _ _ ?_
    clear hK K
    (try simp only [Act.put, List.setIfInBounds_toArray, List.set_cons_zero, List.set_cons_succ])
    refine wpList_plain rfl fun K hK => ?_
    go_simp
    refine hK _ _ ?_
    clear hK K
    (try simp only [Act.put, List.setIfInBounds_toArray, List.set_cons_zero, List.set_cons_succ])
    refine list_store_ag rfl _ _ rfl w7.heap.size Ag.zero g rfl rfl (AgW.zero w7 _) ?_
    obtain ⟨w6, b6, hw5, hb5, h5⟩ := (HS.out.keep hb7).new g
    (try rw [← hw5])
    (try rw [← hb5])
    replace HS := Lib.hid h5
    clear hw5 hb5 h5 hb7
    refine wpList_plain rfl fun K hK => ?_
    go_simp
    refine hK _ _ ?_
    clear hK K
    (try simp only [Act.put, List.setIfInBounds_toArray, List.set_cons_zero, List.set_cons_succ])
    refine wpList_nil ?_
    go_upto_region 6 with fail
    refine wp_region_lit ?_
    refine wpList_plain rfl fun K hK => ?_
    go_simp
    refine hK _ _ ?_
    clear hK K
    (try simp only [Act.put, List.setIfInBounds_toArray, List.set_cons_zero, List.set_cons_succ])
    refine wpList_plain rfl fun K hK => ?_
    go_simp
    refine hK _ _ ?_
    clear hK K
    (try simp only [Act.put, List.setIfInBounds_toArray, List.set_cons_zero, List.set_cons_succ])
    refine wpList_step fun K hK => ?_
    refine (if_pos (by kernel_rfl)).mpr ?_
    refine load_ag _ rfl b4 g rfl (HS.out.g (b4, g) (by simp)) ?_
    refine hK _ _ ?_
    clear hK K
    (try simp only [Act.put, List.setIfInBounds_toArray, List.set_cons_zero, List.set_cons_succ])
    refine wpList_step fun K hK => ?_
    refine (if_pos (by kernel_rfl)).mpr ?_
    refine load_ag _ rfl b6 g rfl (HS.out.g (b6, g) (by simp)) ?_
    refine hK _ _ ?_
    clear hK K
    (try simp only [Act.put, List.setIfInBounds_toArray, List.set_cons_zero, List.set_cons_succ])
    refine wpList_step fun K hK => ?_
    refine (if_pos (by kernel_rfl)).mpr ?_
    go_simp
    refine hK _ _ ?_
    clear hK K
    (try simp only [Act.put, List.setIfInBounds_toArray, List.set_cons_zero, List.set_cons_succ])
    refine wpList_plain rfl fun K hK => ?_
    go_simp
    refine hK _ _ ?_
    clear hK K
    (try simp only [Act.put, List.setIfInBounds_toArray, List.set_cons_zero, List.set_cons_succ])
    refine wpList_plain rfl fun K hK => ?_
    go_simp
    refine hK _ _ ?_
    clear hK K
    (try simp only [Act.put, List.setIfInBounds_toArray, List.set_cons_zero, List.set_cons_succ])
    refine wpList_step fun K hK => ?_
    refine (if_pos (by kernel_rfl)).mpr ?_
    go_simp
    refine hK _ _ ?_
    clear hK K
    (try simp only [Act.put, List.setIfInBounds_toArray, List.set_cons_zero, List.set_cons_succ])
    refine wpList_step fun K hK => ?_
    refine (if_pos (by kernel_rfl)).mpr ?_
    go_simp
    refine hK _ _ ?_
    clear hK K
    (try simp only [Act.put, List.setIfInBounds_toArray, List.set_cons_zero, List.set_cons_succ])
    refine wpList_step fun K hK => ?_
    refine (if_pos (by kernel_rfl)).mpr ?_
    go_simp
    refine hK _ _ ?_
    clear hK K
    (try simp only [Act.put, List.setIfInBounds_toArray, List.set_cons_zero, List.set_cons_succ])
    refine wpList_plain rfl fun K hK => ?_
    go_simp
    refine hK _ _ ?_
    clear hK K
    (try simp only [Act.put, List.setIfInBounds_toArray, List.set_cons_zero, List.set_cons_succ])
    refine wpList_plain rfl fun K hK => ?_
    go_simp
    refine hK _ _ ?_
    clear hK K
    (try simp only [Act.put, List.setIfInBounds_toArray, List.set_cons_zero, List.set_cons_succ])
    refine wpList_nil ?_
    have hbel := HS.out.bel
    go_wp2
    go_ret
    exact ⟨rfl, hbel⟩
end Go.Proofs.Ytipjhlabcbkgjaa.aggReads
