/- awake. -/
import Derived.Test.YtbgjcopgipganaaFilesAwake0
set_option maxRecDepth 20000
set_option linter.unusedSimpArgs false
namespace Go.Proofs.Ytbgjcopgipganaa
open Go.RowKit Go.Maps Go.Shelf

theorem lit_two (w : World) : Is (w.alloc (.cells #[.int .i64 0, .int .i64 1] 3)) (.slice (some ⟨w.heap.size, 0, none⟩) 2 2) [0, 1] := lit_is w [0, 1] (by decide) (by decide)
theorem lit_one (w : World) : Is (w.alloc (.cells #[.int .i64 1] 3)) (.slice (some ⟨w.heap.size, 0, none⟩) 1 1) [1] := lit_is w [1] (by decide) (by decide)
theorem bel_al (w : World) (o : Obj) : Below w.heap.size w (w.alloc o) := (Below.refl _ w).alloc (Nat.le_refl _) o
theorem ta_len : TA.size ≤ maxLen := by unfold maxLen; decide
theorem tb_len : TB.size ≤ maxLen := by unfold maxLen; decide
theorem row_one {w : World} {B : Nat} {v : Value} (h : NRow w B v [[97]]) : ∃ g c, v = .slice (some ⟨g, 0, none⟩) 1 c ∧ g < w.heap.size ∧ w.cell? ⟨g, 0, none⟩ = some (.string TA) := by
  obtain ⟨a, c, rfl⟩ := row_slice h
  obtain ⟨g, rfl, hg, hc⟩ := nrow_cell h (show 0 < [[(97 : UInt8)]].length by decide)
  exact ⟨g, c, rfl, hg, hc⟩
set_option maxHeartbeats 4000000 in
theorem awake_is (w : World) : Calls Try.prog 10 #[] w fun e w' => e = .returned (.bool true) ∧ Below w.heap.size w w' := by
  have k1 := new_dir 100 w
  go_enter Try.func10, Try.ntmps10
  go_wp2_with (first
    | (go_at_call 11; (with_reducible refine k1.mono ?_); rintro e w1 ⟨b1, L1, rfl, hD, hB, hl⟩; (have k2 := new_dir 100 w1); (have HD1 := Lib.hid hD); (have HB1 := Lib.hid hB); (have HL1 := Lib.hid hl); clear hD hB hl k1)
    | (go_at_call 11; (with_reducible refine k2.mono ?_); rintro e w2 ⟨b2, L2, rfl, hD, hB, hl⟩; (have k3 := new_dir 100 w2); (have HD2 := Lib.hid hD); (have HB2 := Lib.hid hB); (have HL2 := Lib.hid hl); clear hD hB hl k2)
    | (go_at_call 11; (with_reducible refine k3.mono ?_); rintro e w3 ⟨b3, L3, rfl, hD, hB, hl⟩; (have hT : Three w w3 b1 (emptyS 100) L1 b2 (emptyS 100) L2 b3 (emptyS 100) L3 := Three.made HD1.out HB1.out HL1.out HD2.out HB2.out HL2.out hD hB hl); (have k4 := create_dir TA hT.d1 (by decide) ta_len); (have HT3 := Lib.hid hT); clear hD hB hl k3 hT HD1 HB1 HL1 HD2 HB2 HL2)
    | (go_at_call 14; (with_reducible refine k4.mono ?_); rintro e w4 ⟨q, hq, L4, rfl, hW, hD⟩; (have hT : Three w w4 b1 (F1 q) L4 b2 (emptyS 100) L2 b3 (emptyS 100) L3 := by have h := HT3.out.one hW hD; exact h); (have k5 := append_dir TA XYZ hT.d1 ta_len (by decide)); clear hq; (have HT4 := Lib.hid hT); clear hW hD k4 hT HT3)
    | (go_at_call 30; (with_reducible refine k5.mono ?_); rintro e w5 ⟨L5, rfl, hW, hD⟩; (have hT : Three w w5 b1 (F2 q) L5 b2 (emptyS 100) L2 b3 (emptyS 100) L3 := by have h := HT4.out.one hW hD; rw [aw_f2] at h; exact h); (have k6 := crash_dir (.slice none 0 0) [] hT.d1.at_ hT.d1.whole (by show 1 ≤ 1000000; decide) (fun W _ => Is.nil W)); (have HT5 := Lib.hid hT); clear hW hD k5 hT HT4)
    | (go_at_call 24; (with_reducible refine k6.mono ?_); rintro e w6 ⟨L6, rfl, hW, hD⟩; (have hT : Three w w6 b2 (emptyS 100) L2 b3 (emptyS 100) L3 b1 (F3 q) L6 := by have h := HT5.out.one hW hD; rw [aw_f3] at h; replace h := h.rot; exact h); (have k7 := create_dir TA hT.d1 (by decide) ta_len); (have HT6 := Lib.hid hT); clear hW hD k6 hT HT5)
    | (go_at_call 14; (with_reducible refine k7.mono ?_); rintro e w7 ⟨r, hq, L7, rfl, hW, hD⟩; (have hT : Three w w7 b2 (F1 r) L7 b3 (emptyS 100) L3 b1 (F3 q) L6 := by have h := HT6.out.one hW hD; exact h); (have k8 := syncdir_dir hT.d1); clear hq; (have HT7 := Lib.hid hT); clear hW hD k7 hT HT6)
    | (go_at_call 22; (with_reducible refine k8.mono ?_); rintro e w8 ⟨L8, rfl, hW, hD⟩; (have hT : Three w w8 b2 (G2 r) L8 b3 (emptyS 100) L3 b1 (F3 q) L6 := by have h := HT7.out.one hW hD; rw [aw_g2] at h; exact h); (have k9 := append_dir TA XYZ hT.d1 ta_len (by decide)); (have HT8 := Lib.hid hT); clear hW hD k8 hT HT7)
    | (go_at_call 30; (with_reducible refine k9.mono ?_); rintro e w9 ⟨L9, rfl, hW, hD⟩; (have hT : Three w w9 b2 (G3 r) L9 b3 (emptyS 100) L3 b1 (F3 q) L6 := by have h := HT8.out.one hW hD; rw [aw_g3] at h; exact h); (have k10 := sync_dir TA hT.d1 ta_len); (have HT9 := Lib.hid hT); clear hW hD k9 hT HT8)
    | (go_at_call 16; (with_reducible refine k10.mono ?_); rintro e w10 ⟨L10, rfl, hW, hD⟩; (have hT : Three w w10 b2 (G4 r) L10 b3 (emptyS 100) L3 b1 (F3 q) L6 := by have h := HT9.out.one hW hD; rw [aw_g4] at h; exact h); (have k11 := append_dir TA ⟨#[117, 118]⟩ hT.d1 ta_len (by decide)); (have HT10 := Lib.hid hT); clear hW hD k10 hT HT9)
    | (go_at_call 30; (with_reducible refine k11.mono ?_); rintro e w11 ⟨L11, rfl, hW, hD⟩; (have hT : Three w w11 b2 (G5 r) L11 b3 (emptyS 100) L3 b1 (F3 q) L6 := by have h := HT10.out.one hW hD; rw [aw_g5] at h; exact h); (have hT2 := hT.below (bel_al w11 (.cells #[.int .i64 0, .int .i64 1] 3))); (have k12 := crash_dir _ [0, 1] hT2.d1.at_ hT2.d1.whole (by show 0 ≤ 1000000; decide) (lit_keep hT2.d1.at_ (heap_alloc_new w11 _) (lit_two w11))); replace hT := hT2; clear hT2; (have HT11 := Lib.hid hT); clear hW hD k11 hT HT10)
    | (go_at_call 24; (with_reducible refine k12.mono ?_); rintro e w12 ⟨L12, rfl, hW, hD⟩; (have hT : Three w w12 b2 (G6 r) L12 b3 (emptyS 100) L3 b1 (F3 q) L6 := by have h := HT11.out.one hW hD; rw [aw_g6] at h; exact h); (have k13 := read_is b2 (G6 r) L12 TA w12 hT.d1.at_ hT.d1.whole.sane ta_len); rw [aw_g7] at k13; (have HT12 := Lib.hid hT); clear hW hD k12 hT HT11)
    | (go_at_call 32; (with_reducible refine k13.mono ?_); rintro e w13 ⟨rfl, hB⟩; (have hT : Three w w13 b3 (emptyS 100) L3 b1 (F3 q) L6 b2 (G6 r) L12 := (HT12.out.below hB).rot); (have k14 := create_dir TA hT.d1 (by decide) ta_len); (have HT13 := Lib.hid hT); clear hB hT HT12 k13)
    | (go_at_call 14; (with_reducible refine k14.mono ?_); rintro e w14 ⟨s, hq, L14, rfl, hW, hD⟩; (have hT : Three w w14 b3 (F1 s) L14 b1 (F3 q) L6 b2 (G6 r) L12 := by have h := HT13.out.one hW hD; exact h); (have k15 := create_dir TB hT.d1 (by show 1 ≤ 1000000; decide) tb_len); clear hq; (have HT14 := Lib.hid hT); clear hW hD k14 hT HT13)
    | (go_at_call 14; (with_reducible refine k15.mono ?_); rintro e w15 ⟨s2, hq, L15, rfl, hW, hD⟩; (have hT : Three w w15 b3 (H2 s s2) L15 b1 (F3 q) L6 b2 (G6 r) L12 := by have h := HT14.out.one hW hD; rw [aw_h2] at h; exact h); (have hT2 := hT.below (bel_al w15 (.cells #[.int .i64 1] 3))); (have k16 := crash_dir _ [1] hT2.d1.at_ hT2.d1.whole (by show 2 ≤ 1000000; decide) (lit_keep hT2.d1.at_ (heap_alloc_new w15 _) (lit_one w15))); replace hT := hT2; clear hT2 hq; (have HT15 := Lib.hid hT); clear hW hD k15 hT HT14)
    | (go_at_call 24; (with_reducible refine k16.mono ?_); rintro e w16 ⟨L16, rfl, hW, hD⟩; (have hT : Three w w16 b3 (crashS (H2 s s2) [1]) L16 b1 (F3 q) L6 b2 (G6 r) L12 := by have h := HT15.out.one hW hD; exact h); (have k17 := names_dir hT.d1); rw [aw_h3] at k17; (have HT16 := Lib.hid hT); clear hW hD k16 hT HT15)
    | (go_at_call 35; (with_reducible refine k17.mono ?_); rintro e w17 ⟨v17, rfl, hr, hB⟩; (obtain ⟨g17, c17, rfl, hg17, hc17⟩ := row_one hr); (have hT : Three w w17 b1 (F3 q) L6 b2 (G6 r) L12 b3 (crashS (H2 s s2) [1]) L16 := (HT16.out.below hB).rot); (have k18 := names_dir hT.d1); (have HB17 := Lib.hid hT.bel); clear hB hT HT16 k17 hr)
    | (go_at_call 35; (with_reducible refine k18.mono ?_); rintro e w18 ⟨v18, rfl, hr, hB⟩; (obtain ⟨a18, c18, rfl⟩ := row_slice hr); (have hc18 : w18.cell? ⟨g17, 0, none⟩ = some (.string TA) := (hB.cell (p := ⟨g17, 0, none⟩) hg17).trans hc17); (have HB20 := Lib.hid (bel_next HB17.out hB)); clear hB hr k18 HB17 hc17))
  go_ret
  exact ⟨rfl, HB20.out⟩
end Go.Proofs.Ytbgjcopgipganaa
