/- Contract: times. -/
import Derived.Test.YtipjhlabcbkgjaaAggAt
import Derived.Test.YtipjhlabcbkgjaaWideA
import Derived.Deep.RegionWith
set_option maxRecDepth 20000
namespace Go.Proofs.Ytipjhlabcbkgjaa.Ag
open Go.RowKit Go.Proofs.Ytipjhlabcbkgjaa Go.Proofs.Ytipjhlabcbkgjaa.Wd Go.Proofs.Ytipjhlabcbkgjaa.Vi Go.Proofs.Ytipjhlabcbkgjaa.Mk

/-- A number of 128 bits in block b, which may be written. -/
structure WNum (w : World) (b : Nat) (h l : Int) : Prop where
  c0 : w.cell? ⟨b, 0, none⟩ = some (.int .i64 h)
  c1 : w.cell? ⟨b, 1, none⟩ = some (.int .u64 l)
  f0 : w.frozen? ⟨b, 0, none⟩ = false
  f1 : w.frozen? ⟨b, 1, none⟩ = false
theorem WNum.room {w : World} {b : Nat} {h l : Int} (k : WNum w b h l) : b < w.heap.size := World.block_lt_of_cell? w _ k.c0
theorem WNum.below {w w' : World} {b : Nat} {h l : Int} (k : WNum w b h l) (hb : Below w.heap.size w w') : WNum w' b h l :=
  ⟨(hb.cell (p := ⟨b, 0, none⟩) k.room).trans k.c0, (hb.cell (p := ⟨b, 1, none⟩) k.room).trans k.c1, (hb.frozen (p := ⟨b, 0, none⟩) k.room).trans k.f0, (hb.frozen (p := ⟨b, 1, none⟩) k.room).trans k.f1⟩
theorem WNum.new (w : World) (h l : Int) (t : TypeId) : WNum (w.alloc (.cells #[.int .i64 h, .int .u64 l] t)) w.heap.size h l := ⟨by simp [go_sem], by simp [go_sem], by simp [go_sem], by simp [go_sem]⟩
theorem mul_bounds (v k : Int) (h0 : -9223372036854775808 ≤ v) (h1 : v ≤ 9223372036854775807) (hk : 0 ≤ k) : -(9223372036854775808 * k) ≤ v * k ∧ v * k ≤ 9223372036854775807 * k :=
  ⟨by have := Int.mul_le_mul_of_nonneg_right h0 hk; omega, Int.mul_le_mul_of_nonneg_right h1 hk⟩
set_option maxHeartbeats 4000000 in
theorem times_is (v n : Int) (w : World) (hv : -9223372036854775808 ≤ v ∧ v ≤ 9223372036854775807) (hn : 0 ≤ n ∧ n ≤ 1099511627776) : Calls Try.prog 74 #[.int .i64 v, .int .i64 n] w fun e w' => e = .returned (.agg #[.int .i64 (wh (v * n)), .int .u64 (wl (v * n))]) ∧ Below w.heap.size w w' := by
  obtain ⟨y, hy⟩ : ∃ y, n / 1048576 = y := ⟨_, rfl⟩
  obtain ⟨z, hz⟩ : ∃ z, n % 1048576 = z := ⟨_, rfl⟩
  have hy2 : 0 ≤ y ∧ y ≤ 1048576 := by omega
  have hz2 : 0 ≤ z ∧ z < 1048576 := by omega
  have hnyz : n = y * 1048576 + z := by omega
  have hq : n.tdiv 1048576 = y := by rw [Int.tdiv_eq_ediv_of_nonneg hn.1]; exact hy
  have hr : n.tmod 1048576 = z := by rw [Int.tmod_eq_emod_of_nonneg hn.1]; exact hz
  have hyw : IntKind.i64.wrap y = y := by rw [IntKind.wrap_i64]; omega
  have hyu : IntKind.u32.wrap y = y := by rw [IntKind.wrap_u32]; omega
  have hzu : IntKind.u32.wrap z = z := by rw [IntKind.wrap_u32]; omega
  have e1 : v * y * 1048576 + v * z = v * n := by rw [hnyz, Int.mul_add, Int.mul_assoc]
  have b1 := mul_bounds v y hv.1 hv.2 hy2.1
  have b2 := mul_bounds v z hv.1 hv.2 hz2.1
  have b3 := mul_bounds v n hv.1 hv.2 hn.1
  have i1 : InW (v * y) := by constructor <;> omega
  have i2 : InW (v * y * 1048576) := by constructor <;> omega
  have i3 : InW (v * z) := by constructor <;> omega
  have i4 : InW (v * n) := by constructor <;> omega
  have kof := fun w => of_any v (wh v) (wl v) w hv.1 hv.2 (wrep (inW_small hv))
  have k1 := fun w => times_any (wh v) (wl v) y (wh (v * y)) (wl (v * y)) v (v * y) w hy2.1 (by omega) (wrep (inW_small hv)) (wrep i1) Cong.rfl
  have k2 := fun w => times_any (wh (v * y)) (wl (v * y)) 1048576 (wh (v * y * 1048576)) (wl (v * y * 1048576)) (v * y) (v * y * 1048576) w (by decide) (by decide) (wrep i1) (wrep i2) Cong.rfl
  have k3 := fun w => times_any (wh v) (wl v) z (wh (v * z)) (wl (v * z)) v (v * z) w hz2.1 (by omega) (wrep (inW_small hv)) (wrep i3) Cong.rfl
  have k4 := fun w => add_any (wh (v * y * 1048576)) (wl (v * y * 1048576)) (wh (v * z)) (wl (v * z)) (wh (v * n)) (wl (v * n)) _ _ (v * n) w (wrep i2) (wrep i3) (wrep i4) (by rw [e1]; exact Cong.rfl)
  have hzw : IntKind.i64.wrap z = z := by rw [IntKind.wrap_i64]; omega
  have h0 := WNum.new w 0 0 24
  have hb0 := (Below.refl w.heap.size w).alloc (Nat.le_refl _) (.cells #[.int .i64 0, .int .u64 0] 24)
  generalize hA : wh v = hv1 at kof k1 k3
  generalize hB : wl v = lv1 at kof k1 k3
  generalize hC : wh (v * y) = h2 at k1 k2
  generalize hD : wl (v * y) = l2 at k1 k2
  generalize hE : wh (v * y * 1048576) = h3 at k2 k4
  generalize hF : wl (v * y * 1048576) = l3 at k2 k4
  generalize hG : wh (v * z) = h4 at k3 k4
  generalize hH : wl (v * z) = l4 at k3 k4
  generalize hI : wh (v * n) = h5 at k4 ⊢
  generalize hJ : wl (v * n) = l5 at k4 ⊢
  clear hA hB hC hD hE hF hG hH hI hJ i1 i2 i3 i4 b1 b2 b3 e1 hnyz hy hz
  go_enter Try.func74, Try.ntmps74
  go_wp2_with (go_at_call 32; (with_reducible refine (kof _).mono ?_); rintro e w1 ⟨rfl, hb1⟩)
  have hO1 := (h0.below (w' := w1) hb1).below ((Below.refl _ _).alloc (Nat.le_refl _) (.cells #[.int .i64 hv1, .int .u64 lv1] 24))
  have hV1 := WNum.new w1 hv1 lv1 24
  have hb2 := bel_new (bel_next hb0 hb1) (.cells #[.int .i64 hv1, .int .u64 lv1] 24)
  obtain ⟨W0, hW0⟩ : ∃ W0, W0 = w1.alloc (.cells #[.int .i64 hv1, .int .u64 lv1] 24) := ⟨_, rfl⟩
  obtain ⟨q, hq1⟩ : ∃ q, w1.heap.size = q := ⟨_, rfl⟩
  rw [← hW0] at hO1 hV1 hb2 ⊢
  rw [hq1] at hV1 ⊢
  clear hW0 hb1 hq1 h0 hb0
  have hOd := hO1.below (Below.drew (Below.refl _ _))
  have hVd := hV1.below (Below.drew (Below.refl _ _))
  have hbd := bel_next hb2 (Below.drew (Below.refl _ _))
  have v0z := hV1.c0
  have v1z := hV1.c1
  clear hO1 hV1 hb2
  have hbeld := hbd
  clear hbd
  go_region_with ((first
    | (go_at_call 86; (with_reducible refine (k1 _).mono ?_); rintro e wa ⟨rfl, hba⟩; have hVa := hVd.below hba; have hOa := hOd.below hba; have hbela := bel_next hbeld hba; have v0a := hVa.c0; have v1a := hVa.c1; have o0a := hOa.c0; have o1a := hOa.c1; have o2a := hOa.f0; have o3a := hOa.f1)
    | (go_at_call 86; (with_reducible refine (k2 _).mono ?_); rintro e wb ⟨rfl, hbb⟩; have hVb := hVa.below hbb; have hOb := hOa.below hbb; have hbelb := bel_next hbela hbb; have v0b := hVb.c0; have v1b := hVb.c1; have o0b := hOb.c0; have o1b := hOb.c1; have o2b := hOb.f0; have o3b := hOb.f1)
    | (go_at_call 86; (with_reducible refine (k3 _).mono ?_); rintro e wc ⟨rfl, hbc⟩; have hVc := hVb.below hbc; have hOc := hOb.below hbc; have hbelc := bel_next hbelb hbc; have v0c := hVc.c0; have v1c := hVc.c1; have o0c := hOc.c0; have o1c := hOc.c1; have o2c := hOc.f0; have o3c := hOc.f1)
    | (go_at_call 35; (with_reducible refine (k4 _).mono ?_); rintro e we ⟨rfl, hbe⟩; have hVe := hVc.below hbe; have hOe := hOc.below hbe; have hbele := bel_next hbelc hbe; have v0e := hVe.c0; have v1e := hVe.c1; have o0e := hOe.c0; have o1e := hOe.c1; have o2e := hOe.f0; have o3e := hOe.f1)))
  all_goals
    go_wp2
    exact bodyPost_ret (v := .agg #[.int .i64 h5, .int .u64 l5]) (by simp [results, Try.results74, go_sem, o0e, o1e]) rfl ⟨rfl, (hbele.setCell (p := ⟨w.heap.size, 0, none⟩) (Nat.le_refl _) _).setCell (p := ⟨w.heap.size, 1, none⟩) (Nat.le_refl _) _⟩
end Go.Proofs.Ytipjhlabcbkgjaa.Ag
