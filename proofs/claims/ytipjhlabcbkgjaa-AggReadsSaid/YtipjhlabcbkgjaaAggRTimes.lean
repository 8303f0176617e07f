/- Contract: the document's times. -/
import Derived.Test.YtipjhlabcbkgjaaAggAt
import Derived.Test.YtipjhlabcbkgjaaWideA
import Derived.Deep.RegionWith
import Derived.Test.YtipjhlabcbkgjaaWideC
set_option maxRecDepth 20000
namespace Go.Proofs.Ytipjhlabcbkgjaa.Ag
open Go.RowKit Go.Proofs.Ytipjhlabcbkgjaa Go.Proofs.Ytipjhlabcbkgjaa.Wd Go.Proofs.Ytipjhlabcbkgjaa.Vi Go.Proofs.Ytipjhlabcbkgjaa.Mk

--HELP
/-- A number of 128 bits in block b, which may be written. -/
structure RNum (w : World) (b : Nat) (h l : Int) : Prop where
  c0 : w.cell? ⟨b, 0, none⟩ = some (.int .i64 h)
  c1 : w.cell? ⟨b, 1, none⟩ = some (.int .u64 l)
  f0 : w.frozen? ⟨b, 0, none⟩ = false
  f1 : w.frozen? ⟨b, 1, none⟩ = false
theorem RNum.room {w : World} {b : Nat} {h l : Int} (k : RNum w b h l) : b < w.heap.size := World.block_lt_of_cell? w _ k.c0
theorem RNum.below {w w' : World} {b : Nat} {h l : Int} (k : RNum w b h l) (hb : Below w.heap.size w w') : RNum w' b h l :=
  ⟨(hb.cell (p := ⟨b, 0, none⟩) k.room).trans k.c0, (hb.cell (p := ⟨b, 1, none⟩) k.room).trans k.c1, (hb.frozen (p := ⟨b, 0, none⟩) k.room).trans k.f0, (hb.frozen (p := ⟨b, 1, none⟩) k.room).trans k.f1⟩
theorem RNum.new (w : World) (h l : Int) (t : TypeId) : RNum (w.alloc (.cells #[.int .i64 h, .int .u64 l] t)) w.heap.size h l := ⟨by simp [go_sem], by simp [go_sem], by simp [go_sem], by simp [go_sem]⟩
theorem RNum.upto {w w' : World} {b B : Nat} {h l : Int} (k : RNum w b h l) (hb : Below B w w') (hB : b < B) : RNum w' b h l :=
  ⟨(hb.cell (p := ⟨b, 0, none⟩) hB).trans k.c0, (hb.cell (p := ⟨b, 1, none⟩) hB).trans k.c1, (hb.frozen (p := ⟨b, 0, none⟩) hB).trans k.f0, (hb.frozen (p := ⟨b, 1, none⟩) hB).trans k.f1⟩
theorem RNum.set {w : World} {b : Nat} {h l : Int} (k : RNum w b h l) (h' l' : Int) : RNum ((w.setCell ⟨b, 0, none⟩ (.int .i64 h')).setCell ⟨b, 1, none⟩ (.int .u64 l')) b h' l' := by
  obtain ⟨c0, c1, f0, f1⟩ := k
  constructor <;> simp [go_sem, *]
theorem and20 (n : Int) : bits .and .i64 n 1048575 = n % 1048576 := by
  have hm : (BitVec.ofInt 64 1048575).toNat = 2 ^ 20 - 1 := by decide
  have key : (BitVec.ofInt 64 n &&& BitVec.ofInt 64 1048575).toNat = (n % ((2 ^ 64 : Nat) : Int)).toNat % 2 ^ 20 := by
    rw [BitVec.toNat_and, BitVec.toNat_ofInt, hm, Nat.and_two_pow_sub_one_eq_mod]
  show IntKind.i64.wrap ((BitVec.ofInt 64 n &&& BitVec.ofInt 64 1048575).toNat : Nat) = n % 1048576
  rw [key, IntKind.wrap_i64]
  omega
theorem rmul_bounds (v k : Int) (h0 : -9223372036854775808 ≤ v) (h1 : v ≤ 9223372036854775807) (hk : 0 ≤ k) : -(9223372036854775808 * k) ≤ v * k ∧ v * k ≤ 9223372036854775807 * k :=
  ⟨by have := Int.mul_le_mul_of_nonneg_right h0 hk; omega, Int.mul_le_mul_of_nonneg_right h1 hk⟩
set_option maxHeartbeats 4000000 in
theorem rtimes_is (v n : Int) (w : World) (hv : -9223372036854775808 ≤ v ∧ v ≤ 9223372036854775807) (hn : 0 ≤ n ∧ n ≤ 1099511627776) : Calls Try.prog 52 #[.int .i64 v, .int .i64 n] w fun e w' => e = .returned (.agg #[.int .i64 (wh (v * n)), .int .u64 (wl (v * n))]) ∧ Below w.heap.size w w' := by
  obtain ⟨y, hy⟩ : ∃ y, n / 1048576 = y := ⟨_, rfl⟩
  obtain ⟨z, hz⟩ : ∃ z, n % 1048576 = z := ⟨_, rfl⟩
  have hy2 : 0 ≤ y ∧ y ≤ 1048576 := by omega
  have hz2 : 0 ≤ z ∧ z < 1048576 := by omega
  have hnyz : n = y * 1048576 + z := by omega
  have hq : n.tdiv 1048576 = y := by rw [Int.tdiv_eq_ediv_of_nonneg hn.1]; exact hy
  have hr : n.tmod 1048576 = z := by rw [Int.tmod_eq_emod_of_nonneg hn.1]; exact hz
  have hband : bits .and .i64 n 1048575 = z := (and20 n).trans hz
  have hyw : IntKind.i64.wrap y = y := by rw [IntKind.wrap_i64]; omega
  have hyu : IntKind.u32.wrap y = y := by rw [IntKind.wrap_u32]; omega
  have hzu : IntKind.u32.wrap z = z := by rw [IntKind.wrap_u32]; omega
  have e1 : v * y * 1048576 + v * z = v * n := by rw [hnyz, Int.mul_add, Int.mul_assoc]
  have b1 := rmul_bounds v y hv.1 hv.2 hy2.1
  have b2 := rmul_bounds v z hv.1 hv.2 hz2.1
  have b3 := rmul_bounds v n hv.1 hv.2 hn.1
  have i1 : InW (v * y) := by constructor <;> omega
  have i2 : InW (v * y * 1048576) := by constructor <;> omega
  have i3 : InW (v * z) := by constructor <;> omega
  have i4 : InW (v * n) := by constructor <;> omega
  have kof := fun w => refOf_any v (wh v) (wl v) w hv.1 hv.2 (wrep (inW_small hv))
  have k1 := fun w => refTimes_any (wh v) (wl v) y (wh (v * y)) (wl (v * y)) v (v * y) w hy2.1 (by omega) (wrep (inW_small hv)) (wrep i1) Cong.rfl
  have k2 := fun w => refTimes_any (wh (v * y)) (wl (v * y)) 1048576 (wh (v * y * 1048576)) (wl (v * y * 1048576)) (v * y) (v * y * 1048576) w (by decide) (by decide) (wrep i1) (wrep i2) Cong.rfl
  have k3 := fun w => refTimes_any (wh v) (wl v) z (wh (v * z)) (wl (v * z)) v (v * z) w hz2.1 (by omega) (wrep (inW_small hv)) (wrep i3) Cong.rfl
  have k4 := fun w => refAdd_any (wh (v * y * 1048576)) (wl (v * y * 1048576)) (wh (v * z)) (wl (v * z)) (wh (v * n)) (wl (v * n)) _ _ (v * n) w (wrep i2) (wrep i3) (wrep i4) (by rw [e1]; exact Cong.rfl)
  have hzw : IntKind.i64.wrap z = z := by rw [IntKind.wrap_i64]; omega
  have h0 := RNum.new w 0 0 24
  have hb0 := (Below.refl w.heap.size w).alloc (Nat.le_refl _) (.cells #[.int .i64 0, .int .u64 0] 24)
  generalize hA : wh v = hv1 at kof k1 k3
  generalize hB : wl v = lv1 at kof k1 k3
  generalize hC : wh (v * y) = h2 at k1 k2
  generalize hD : wl (v * y) = l2 at k1 k2
  generalize hE : wh (v * y * 1048576) = h3 at k2 k4
  generalize hF : wl (v * y * 1048576) = l3 at k2 k4
  generalize hG : wh (v * z) = h4 at k3 k4
  generalize hH : wl (v * z) = l4 at k3 k4
  generalize hI : wh (v * n) = h5 at k4 ⊢
  generalize hJ : wl (v * n) = l5 at k4 ⊢
  clear hA hB hC hD hE hF hG hH hI hJ i1 i2 i3 i4 b1 b2 b3 e1 hnyz hz
  go_enter Try.func52, Try.ntmps52
  go_wp2_with (first
    | (go_at_call 33; (with_reducible refine (kof _).mono ?_); rintro e w1 ⟨rfl, hb1⟩)
    | (go_at_call 64; (with_reducible refine (k1 _).mono ?_); rintro e w2 ⟨rfl, hb2⟩)
    | (go_at_call 64; (with_reducible refine (k2 _).mono ?_); rintro e w3 ⟨rfl, hb3⟩; have hV2 := (RNum.new w2 h2 l2 24).below hb3; have q0 := hV2.c0; have q1 := hV2.c1; have q2 := hV2.f0; have q3 := hV2.f1))
  have hb4 := bel_next (bel_new (bel_next (bel_next hb0 hb1) hb2) (.cells #[.int .i64 h2, .int .u64 l2] 24)) hb3
  have hO3 := (((h0.below hb1).below hb2).below ((Below.refl _ _).alloc (Nat.le_refl _) (.cells #[.int .i64 h2, .int .u64 l2] 24))).below hb3
  have hsz : w.heap.size + 1 ≤ w2.heap.size := by have e1 := hb1.size; have e2 := hb2.size; simp at e1; omega
  have hV1 := hV2.set h3 l3
  obtain ⟨q, hq1⟩ : ∃ q, w2.heap.size = q := ⟨_, rfl⟩
  rw [hq1] at hV1 hsz ⊢
  have hset := ((Below.refl (w.heap.size + 1) w3).setCell (p := ⟨q, 0, none⟩) hsz (.int .i64 h3)).setCell (p := ⟨q, 1, none⟩) hsz (.int .u64 l3)
  have hO1 := hO3.upto hset (Nat.lt_succ_self _)
  have hb5 := hb4.trans (hset.mono (Nat.le_succ _))
  obtain ⟨W0, hW0⟩ : ∃ W0, W0 = (w3.setCell ⟨q, 0, none⟩ (.int .i64 h3)).setCell ⟨q, 1, none⟩ (.int .u64 l3) := ⟨_, rfl⟩
  rw [← hW0] at hO1 hV1 hb5 ⊢
  clear hW0 hq1 hset hO3 hV2 q0 q1 q2 q3 hb4 hb1 hb2 hb3 h0 hb0 k1 k2
  have hOd := hO1.below (Below.drew (Below.refl _ _))
  have hVd := hV1.below (Below.drew (Below.refl _ _))
  have hbeld := bel_next hb5 (Below.drew (Below.refl _ _))
  have v0z := hV1.c0
  have v1z := hV1.c1
  clear hO1 hV1 hb5
  go_region_with ((first
    | (go_at_call 33; (with_reducible refine (kof _).mono ?_); rintro e wa ⟨rfl, hba⟩; have hVa := hVd.below hba; have hOa := hOd.below hba; have hbela := bel_next hbeld hba; have v0a := hVa.c0; have v1a := hVa.c1; have o0a := hOa.c0; have o1a := hOa.c1; have o2a := hOa.f0; have o3a := hOa.f1)
    | (go_at_call 64; (with_reducible refine (k3 _).mono ?_); rintro e wc ⟨rfl, hbc⟩; have hVc := hVa.below hbc; have hOc := hOa.below hbc; have hbelc := bel_next hbela hbc; have v0c := hVc.c0; have v1c := hVc.c1; have o0c := hOc.c0; have o1c := hOc.c1; have o2c := hOc.f0; have o3c := hOc.f1)
    | (go_at_call 37; (with_reducible refine (k4 _).mono ?_); rintro e we ⟨rfl, hbe⟩; have hVe := hVc.below hbe; have hOe := hOc.below hbe; have hbele := bel_next hbelc hbe; have v0e := hVe.c0; have v1e := hVe.c1; have o0e := hOe.c0; have o1e := hOe.c1; have o2e := hOe.f0; have o3e := hOe.f1)))
  all_goals
    go_wp2
    exact bodyPost_ret (v := .agg #[.int .i64 h5, .int .u64 l5]) (by simp [results, Try.results52, go_sem, o0e, o1e]) rfl ⟨rfl, (hbele.setCell (p := ⟨w.heap.size, 0, none⟩) (Nat.le_refl _) _).setCell (p := ⟨w.heap.size, 1, none⟩) (Nat.le_refl _) _⟩
end Go.Proofs.Ytipjhlabcbkgjaa.Ag
