/- The walk of FilesSwaps. -/
import Derived.Test.YtbgjcopgipganaaFilesSwapsMath
set_option maxRecDepth 20000
set_option linter.unusedSimpArgs false
set_option linter.unusedVariables false
namespace Go.Proofs.Ytbgjcopgipganaa
open Go.RowKit Go.Maps Go.Shelf

theorem now_len : NOW.size ≤ maxLen := by unfold maxLen; decide
theorem next_len : NEXT.size ≤ maxLen := by unfold maxLen; decide
theorem fresh_ne4 {w : World} {b q r k : Nat} {s : ByteArray} {L : Lay} (h : FsAt w b (W4 q s k) L) (hr : w.heap.size ≤ r) : q ≠ r := fun e => by
  have := h.fresh_id hr
  exact this (by rw [← e]; unfold ids W4; simp)
namespace filesSwaps
set_option maxHeartbeats 16000000 in
theorem walk (t0 t1 : ByteArray) (dir : Bool) (a2 : Option Addr) (n2 c2 : Nat) (w : World) (_w0 : t0.size ≤ maxLen) (_w1 : t1.size ≤ maxLen) (h2 : ArgInts w a2 n2 c2) : Calls Try.prog 5 #[.agg #[.string t0, .string t1], .bool dir, .slice a2 n2 c2] w fun e w' => e = .returned (.bool true) ∧ Below w.heap.size w w' := by
  obtain ⟨p, ep, sp⟩ := is_of_args h2
  have HSP := Lib.hid sp
  have HEP := Lib.hid ep
  have hbox : (w.alloc (.cells #[.string t0, .string t1] 52)).heap[w.heap.size]? = some (.cells #[.string t0, .string t1] 52) := heap_alloc_new w _
  have HBOX := Lib.hid hbox
  have ka := awake_is (w.alloc (.cells #[.string t0, .string t1] 52))
  have hx := cutB_size t0 200
  have hy := cutB_size t1 200
  have kx := fun w => short_is t0 (cutB t0 200) 200 200 w rfl (by omega) (Lib.hid rfl)
  have ky := fun w => short_is t1 (cutB t1 200) 200 200 w rfl (by omega) (Lib.hid rfl)
  obtain ⟨x, ex⟩ : ∃ x, cutB t0 200 = x := ⟨_, rfl⟩
  obtain ⟨y, ey⟩ : ∃ y, cutB t1 200 = y := ⟨_, rfl⟩
  rw [ex] at kx hx
  rw [ey] at ky hy
  clear h2 sp ep ex ey hbox
  cases dir with
  | true =>
    go_enter Try.func5, Try.ntmps5
    go_wp2_with (first
        | (go_at_call 10; (with_reducible refine ka.mono ?_); rintro e w1 ⟨rfl, hB⟩; (have HB1 := Lib.hid (bel_next (bel_al w _) hB)); (have hh : w1.heap[w.heap.size]? = some (.cells #[.string t0, .string t1] 52) := (hB.block w.heap.size (by simp)).trans HBOX.out); (have hc0 : w1.cell? ⟨w.heap.size, 0, none⟩ = some (.string t0) := cell_of hh); (have hc1 : w1.cell? ⟨w.heap.size, 1, none⟩ = some (.string t1) := cell_of hh); (have k2 := new_dir 100000 w1); clear hB ka hh)
        | (go_at_call 13; (with_reducible refine (kx _).mono ?_); rintro e w5 ⟨rfl, rfl⟩)
        | (go_at_call 13; (with_reducible refine (ky _).mono ?_); rintro e w5 ⟨rfl, rfl⟩)
        | (go_at_call 11; (with_reducible refine k2.mono ?_); rintro e w2 ⟨b, L2, rfl, hD, hB, hl⟩; (have hO : One w w2 b (emptyS 100000) L2 := ⟨hD.at_, fun i hi => Nat.le_trans HB1.out.size (hl i hi), bel_next HB1.out hB⟩); (have k3 := create_dir (S := emptyS 100000) NOW hD (by decide) now_len); (have HO2 := Lib.hid hO); clear hD hB hl k2 hO HB1 hc0 hc1)
        | (go_at_call 14; (with_reducible refine k3.mono ?_); rintro e w3 ⟨q, hq, L3, rfl, hW, hD⟩; (have hD' : Dir w3 b (W1 q ⟨#[]⟩ 0) L3 := hD); (have k4 := append_dir NOW x hD' now_len (by omega)); (rw [sw_2 q x hx] at k4); (have HO3 := Lib.hid (show One w w3 b (W1 q ⟨#[]⟩ 0) L3 from HO2.out.turn hW)); clear hq hW hD hD' k3 HO2)
        | (go_at_call 30; (with_reducible refine k4.mono ?_); rintro e w4 ⟨L4, rfl, hW, hD⟩; (have k5 := sync_dir NOW hD now_len); (rw [sw_3] at k5); (have HO4 := Lib.hid (HO3.out.turn hW)); clear hW hD k4 HO3)
        | (go_at_call 16; (with_reducible refine k5.mono ?_); rintro e w5 ⟨L5, rfl, hW, hD⟩; (have k6 := syncdir_dir hD); (rw [sw_4] at k6); (have HO5 := Lib.hid (HO4.out.turn hW)); clear hW hD k5 HO4)
        | (go_at_call 22; (with_reducible refine k6.mono ?_); rintro e w6 ⟨L6, rfl, hW, hD⟩; (have k7 := create_dir NEXT hD (by show 0 ≤ 1000000; decide) next_len); (have HO6 := Lib.hid (HO5.out.turn hW)); clear hW hD k6 HO5)
        | (go_at_call 14; (with_reducible refine k7.mono ?_); rintro e w7 ⟨r, hr, L7, rfl, hW, hD⟩; (have HNE := Lib.hid (fresh_ne4 HO6.out.at_ hr)); (rw [sw_5] at hW hD); (have k8 := append_dir NEXT y hD next_len (by omega)); (rw [sw_6 HNE.out x y hx hy] at k8); (have HO7 := Lib.hid (HO6.out.turn hW)); clear hW hD hr k7 HO6)
        | (go_at_call 30; (with_reducible refine k8.mono ?_); rintro e w8 ⟨L8, rfl, hW, hD⟩; (have k9 := sync_dir NEXT hD next_len); (rw [sw_7 HNE.out] at k9); (have HO8 := Lib.hid (HO7.out.turn hW)); clear hW hD k8 HO7)
        | (go_at_call 16; (with_reducible refine k9.mono ?_); rintro e w9 ⟨L9, rfl, hW, hD⟩; (have k10 := rename_dir NEXT NOW hD (by show 1 ≤ 1000000; decide) next_len now_len); (rw [sw_8] at k10); (have HO9 := Lib.hid (HO8.out.turn hW)); clear hW hD k9 HO8)
        | (go_at_call 20; (with_reducible refine k10.mono ?_); rintro e w10 ⟨L10, rfl, hW, hD⟩; (have k11 := syncdir_dir hD); (rw [sw_9] at k11); (have HO10 := Lib.hid (HO9.out.turn hW)); clear hW hD k10 HO9)
        | (go_at_call 22; (with_reducible refine k11.mono ?_); rintro e w11 ⟨L11, rfl, hW, hD⟩; (have HO11 := Lib.hid (HO10.out.turn hW)); (have k12 := crash_dir (.slice a2 n2 c2) p hD.at_ hD.whole (by show 0 ≤ 1000000; decide) (HO11.out.picks HSP.out)); clear hW hD k11 HO10)
        | (go_at_call 24; (with_reducible refine k12.mono ?_); rintro e w12 ⟨L12, rfl, hW, hD⟩; (have HO12 := Lib.hid (HO11.out.turn hW)); (have k13 := read_is b _ L12 NOW w12 hD.at_ hD.whole.sane now_len); (rw [sw_dir HNE.out] at k13); clear hW hD k12 HO11)
        | (go_at_call 32; (with_reducible refine k13.mono ?_); rintro e w13 ⟨rfl, hB⟩; (have HO13 := Lib.hid (HO12.out.below hB)); clear hB k13 HO12))
    go_ret
    exact ⟨rfl, HO13.out.bel⟩
  | false =>
    go_enter Try.func5, Try.ntmps5
    go_wp2_with (first
        | (go_at_call 10; (with_reducible refine ka.mono ?_); rintro e w1 ⟨rfl, hB⟩; (have HB1 := Lib.hid (bel_next (bel_al w _) hB)); (have hh : w1.heap[w.heap.size]? = some (.cells #[.string t0, .string t1] 52) := (hB.block w.heap.size (by simp)).trans HBOX.out); (have hc0 : w1.cell? ⟨w.heap.size, 0, none⟩ = some (.string t0) := cell_of hh); (have hc1 : w1.cell? ⟨w.heap.size, 1, none⟩ = some (.string t1) := cell_of hh); (have k2 := new_dir 100000 w1); clear hB ka hh)
        | (go_at_call 13; (with_reducible refine (kx _).mono ?_); rintro e w5 ⟨rfl, rfl⟩)
        | (go_at_call 13; (with_reducible refine (ky _).mono ?_); rintro e w5 ⟨rfl, rfl⟩)
        | (go_at_call 11; (with_reducible refine k2.mono ?_); rintro e w2 ⟨b, L2, rfl, hD, hB, hl⟩; (have hO : One w w2 b (emptyS 100000) L2 := ⟨hD.at_, fun i hi => Nat.le_trans HB1.out.size (hl i hi), bel_next HB1.out hB⟩); (have k3 := create_dir (S := emptyS 100000) NOW hD (by decide) now_len); (have HO2 := Lib.hid hO); clear hD hB hl k2 hO HB1 hc0 hc1)
        | (go_at_call 14; (with_reducible refine k3.mono ?_); rintro e w3 ⟨q, hq, L3, rfl, hW, hD⟩; (have hD' : Dir w3 b (W1 q ⟨#[]⟩ 0) L3 := hD); (have k4 := append_dir NOW x hD' now_len (by omega)); (rw [sw_2 q x hx] at k4); (have HO3 := Lib.hid (show One w w3 b (W1 q ⟨#[]⟩ 0) L3 from HO2.out.turn hW)); clear hq hW hD hD' k3 HO2)
        | (go_at_call 30; (with_reducible refine k4.mono ?_); rintro e w4 ⟨L4, rfl, hW, hD⟩; (have k5 := sync_dir NOW hD now_len); (rw [sw_3] at k5); (have HO4 := Lib.hid (HO3.out.turn hW)); clear hW hD k4 HO3)
        | (go_at_call 16; (with_reducible refine k5.mono ?_); rintro e w5 ⟨L5, rfl, hW, hD⟩; (have k6 := syncdir_dir hD); (rw [sw_4] at k6); (have HO5 := Lib.hid (HO4.out.turn hW)); clear hW hD k5 HO4)
        | (go_at_call 22; (with_reducible refine k6.mono ?_); rintro e w6 ⟨L6, rfl, hW, hD⟩; (have k7 := create_dir NEXT hD (by show 0 ≤ 1000000; decide) next_len); (have HO6 := Lib.hid (HO5.out.turn hW)); clear hW hD k6 HO5)
        | (go_at_call 14; (with_reducible refine k7.mono ?_); rintro e w7 ⟨r, hr, L7, rfl, hW, hD⟩; (have HNE := Lib.hid (fresh_ne4 HO6.out.at_ hr)); (rw [sw_5] at hW hD); (have k8 := append_dir NEXT y hD next_len (by omega)); (rw [sw_6 HNE.out x y hx hy] at k8); (have HO7 := Lib.hid (HO6.out.turn hW)); clear hW hD hr k7 HO6)
        | (go_at_call 30; (with_reducible refine k8.mono ?_); rintro e w8 ⟨L8, rfl, hW, hD⟩; (have k9 := sync_dir NEXT hD next_len); (rw [sw_7 HNE.out] at k9); (have HO8 := Lib.hid (HO7.out.turn hW)); clear hW hD k8 HO7)
        | (go_at_call 16; (with_reducible refine k9.mono ?_); rintro e w9 ⟨L9, rfl, hW, hD⟩; (have k10 := rename_dir NEXT NOW hD (by show 1 ≤ 1000000; decide) next_len now_len); (rw [sw_8] at k10); (have HO9 := Lib.hid (HO8.out.turn hW)); clear hW hD k9 HO8)
        | (go_at_call 20; (with_reducible refine k10.mono ?_); rintro e w10 ⟨L10, rfl, hW, hD⟩; (have HO11 := Lib.hid (HO9.out.turn hW)); (have k12 := crash_dir (.slice a2 n2 c2) p hD.at_ hD.whole (by show 2 ≤ 1000000; decide) (HO11.out.picks HSP.out)); clear hW hD k10 HO9)
        | (go_at_call 24; (with_reducible refine k12.mono ?_); rintro e w12 ⟨L12, rfl, hW, hD⟩; (have HO12 := Lib.hid (HO11.out.turn hW)); (have k13 := read_is b _ L12 NOW w12 hD.at_ hD.whole.sane now_len); clear hW hD k12 HO11))
    rcases sw_no HNE.out x y p with e9 | e9
    · rw [e9] at k13
      clear e9
      go_wp2_with (go_at_call 32; (with_reducible refine k13.mono ?_); rintro e w13 ⟨rfl, hB⟩; (have HO13 := Lib.hid (HO12.out.below hB)); clear hB k13 HO12)
      go_ret
      exact ⟨rfl, HO13.out.bel⟩
    · rw [e9] at k13
      clear e9
      by_cases hxy : x = y
      · subst hxy
        go_wp2_with (go_at_call 32; (with_reducible refine k13.mono ?_); rintro e w13 ⟨rfl, hB⟩; (have HO13 := Lib.hid (HO12.out.below hB)); clear hB k13 HO12)
        go_ret
        exact ⟨rfl, HO13.out.bel⟩
      · go_wp2_with (go_at_call 32; (with_reducible refine k13.mono ?_); rintro e w13 ⟨rfl, hB⟩; (have HO13 := Lib.hid (HO12.out.below hB)); clear hB k13 HO12)
        all_goals go_ret
        all_goals exact ⟨rfl, HO13.out.bel⟩
end filesSwaps
end Go.Proofs.Ytbgjcopgipganaa
