/- Contracts of the document's answer for layer 2: differences, orders, small numbers. -/
import Derived.Test.YtafgfpppemdedaaWideRefOps
namespace Go.Proofs.Ytafgfpppemdedaa
open Go.RowKit Go.Proofs.Ytafgfpppemdedaa.Wd

namespace Wd
theorem tailv_dg_eq {h l : Int} (p3 : 0 ≤ l) (p4 : l ≤ 18446744073709551615) : tailv (dg h l) 16 = h % 18446744073709551616 * 18446744073709551616 + l := by
  have e : ∀ i, i < 8 → dg h l i = (h % 18446744073709551616) / 256 ^ (7 - i) % 256 := fun i hi => by unfold dg; rw [if_pos hi]
  have g : ∀ i, ¬ i < 8 → dg h l i = l / 256 ^ (15 - i) % 256 := fun i hi => by unfold dg; rw [if_neg hi]
  simp only [tailv]
  rw [e 0 (by decide), e 1 (by decide), e 2 (by decide), e 3 (by decide), e 4 (by decide), e 5 (by decide), e 6 (by decide), e 7 (by decide), g 8 (by decide), g 9 (by decide), g 10 (by decide), g 11 (by decide), g 12 (by decide), g 13 (by decide), g 14 (by decide), g 15 (by decide)]
  have hu0 : 0 ≤ h % 18446744073709551616 ∧ h % 18446744073709551616 ≤ 18446744073709551615 := by omega
  generalize h % 18446744073709551616 = u at *
  simp only [Nat.reduceSub, Int.reducePow, Nat.sub_zero, Nat.sub_self]
  omega
theorem dg_first (h l : Int) : dg h l 0 = h % 18446744073709551616 / 72057594037927936 % 256 := by
  unfold dg; rw [if_pos (by decide), show (256 : Int) ^ (7 - 0) = 72057594037927936 by decide]
/-- The first digit of a number below 0 is 128 or more. -/
theorem dg_sign {h l a : Int} (A : Rep h l a) : 128 ≤ dg h l 0 ↔ a < 0 := by
  rw [dg_first]
  obtain ⟨p1, p2, p3, p4, p5⟩ := A
  omega
/-- The digits, the first one turned by 128: ordered as the numbers are. -/
def turn (d : Nat → Int) : Nat → Int := fun i => if i = 0 then (d 0 + 128) % 256 else d i
theorem tailv_turn {h l a : Int} (A : Rep h l a) : tailv (turn (dg h l)) 16 = a + 170141183460469231731687303715884105728 := by
  have e1 : tailv (turn (dg h l)) 15 = tailv (dg h l) 15 := tailv_congr 15 (fun m hm => by unfold turn; rw [if_neg (by omega)])
  have e2 : tailv (turn (dg h l)) 16 = tailv (dg h l) 15 + (dg h l 0 + 128) % 256 * 256 ^ 15 := by
    rw [tailv, e1]; rfl
  have e3 : tailv (dg h l) 16 = tailv (dg h l) 15 + dg h l 0 * 256 ^ 15 := by rw [tailv]
  have e4 := tailv_dg_eq (h := h) A.l0 A.l1
  have e5 := dg_first h l
  have e6 : (256 : Int) ^ 15 = 1329227995784915872903807060280344576 := by decide
  rw [e6] at e2 e3
  obtain ⟨p1, p2, p3, p4, p5⟩ := A
  omega
theorem turn_range (h l : Int) (i : Nat) : 0 ≤ turn (dg h l) i ∧ turn (dg h l) i ≤ 255 := by
  unfold turn
  split
  · omega
  · exact dg_range h l i
theorem tailv_range {d : Nat → Int} (h : ∀ i, 0 ≤ d i ∧ d i ≤ 255) : ∀ k, 0 ≤ tailv d k ∧ tailv d k ≤ 256 ^ k - 1
  | 0 => ⟨by show (0 : Int) ≤ 0; decide, by show (0 : Int) ≤ 256 ^ 0 - 1; decide⟩
  | k + 1 => by
    have ih := tailv_range h k
    have hq : (0 : Int) < 256 ^ k := Int.pow_pos (by decide)
    have h1 := Int.mul_nonneg (h (15 - k)).1 (Int.le_of_lt hq)
    have h2 := Int.mul_le_mul_of_nonneg_right (h (15 - k)).2 (Int.le_of_lt hq)
    rw [tailv, Int.pow_succ]
    generalize d (15 - k) * 256 ^ k = P at *
    generalize (256 : Int) ^ k = Q at *
    omega
theorem tailv_lt {d e : Nat → Int} (hd : ∀ i, 0 ≤ d i ∧ d i ≤ 255) (he : ∀ i, 0 ≤ e i ∧ e i ≤ 255) (j : Nat) (hlt : d (15 - j) < e (15 - j)) : ∀ r, (∀ m, j < m → m < j + 1 + r → d (15 - m) = e (15 - m)) → tailv d (j + 1 + r) < tailv e (j + 1 + r)
  | 0, _ => by
    have h1 := tailv_range hd j
    have h2 := tailv_range he j
    have hq : (0 : Int) < 256 ^ j := Int.pow_pos (by decide)
    have h3 := Int.mul_le_mul_of_nonneg_right (show d (15 - j) + 1 ≤ e (15 - j) by omega) (Int.le_of_lt hq)
    rw [Int.add_mul, Int.one_mul] at h3
    rw [Nat.add_zero, tailv, tailv]
    generalize d (15 - j) * 256 ^ j = P at *
    generalize e (15 - j) * 256 ^ j = R at *
    generalize (256 : Int) ^ j = Q at *
    omega
  | r + 1, h => by
    have ih := tailv_lt hd he j hlt r (fun m h1 h2 => h m h1 (by omega))
    rw [← Nat.add_assoc, tailv, tailv, h (j + 1 + r) (by omega) (by omega)]
    omega
/-- The first digit that is unlike decides. -/
theorem first_lt {d e : Nat → Int} (hd : ∀ i, 0 ≤ d i ∧ d i ≤ 255) (he : ∀ i, 0 ≤ e i ∧ e i ≤ 255) (k : Nat) (hk : k < 16) (heq : ∀ i, i < k → d i = e i) (hlt : d k < e k) : tailv d 16 < tailv e 16 := by
  have := tailv_lt hd he (15 - k) (by rw [show 15 - (15 - k) = k by omega]; exact hlt) k (fun m h1 h2 => heq (15 - m) (by omega))
  rwa [show 15 - k + 1 + k = 16 by omega] at this
end Wd

set_option maxHeartbeats 400000 in
theorem refOf_any (n h l : Int) (w : World) (h0 : -9223372036854775808 ≤ n) (h1 : n ≤ 9223372036854775807) (r : Rep h l n) :
    Calls Try.prog 28 #[.int .i64 n] w fun e w' => e = .returned (.agg #[.int .i64 (h), .int .u64 (l)]) ∧ Below w.heap.size w w' := by
  obtain ⟨r1, r2, r3, r4, r5⟩ := r
  by_cases hn : n < 0
  · have e1 : h = -1 := by omega
    have e2 : l = IntKind.u64.wrap n := by rw [IntKind.wrap_u64]; omega
    clear r1 r2 r3 r4 r5
    subst e1
    have E2 := Lib.hid e2
    clear e2
    go_enter Try.func28, Try.ntmps28
    go_wp2
    exact bodyPost_ret (v := .agg #[.int .i64 (-1), .int .u64 (IntKind.u64.wrap n)]) (by simp [results, Try.results28, go_sem]) rfl ⟨agg_eq rfl E2.out, by (repeat (first | exact Below.refl _ _ | assumption | refine below_add ?_ _ | (refine below_on ?_ (by assumption)) | refine Below.drew ?_ | refine below_drewN ?_ _ | (refine Below.setCell ?_ (by simp; try omega) _) | (refine below_new ?_ _ (by simp; try omega)) | (refine below_next ?_ (by assumption) (by simp; try omega))))⟩
  · have e1 : h = 0 := by omega
    have e2 : l = n := by omega
    clear r1 r2 r3 r4 r5
    subst e1
    have E2 := Lib.hid e2
    clear e2
    go_enter Try.func28, Try.ntmps28
    go_wp2
    exact bodyPost_ret (v := .agg #[.int .i64 (0), .int .u64 (n)]) (by simp [results, Try.results28, go_sem]) rfl ⟨agg_eq rfl E2.out, by (repeat (first | exact Below.refl _ _ | assumption | refine below_add ?_ _ | (refine below_on ?_ (by assumption)) | refine Below.drew ?_ | refine below_drewN ?_ _ | (refine Below.setCell ?_ (by simp; try omega) _) | (refine below_new ?_ _ (by simp; try omega)) | (refine below_next ?_ (by assumption) (by simp; try omega))))⟩

set_option maxHeartbeats 400000 in
theorem refBelow_any (h l a : Int) (w : World) (A : Rep h l a) (b : Bool) (hb : Hid (decide (a < 0) = b)) :
    Calls Try.prog 45 #[.agg #[.int .i64 (h), .int .u64 (l)]] w fun e w' => e = .returned (.bool b) ∧ Below w.heap.size w w' := by
  obtain ⟨x, hx⟩ : ∃ x, dg h l = x := ⟨_, rfl⟩
  have k1 := fun w => digits_any h l x w A.l0 A.l1 hx
  have hi : ∀ w, (Instr.index 44 (.agg (arrOf x)) (.int .i64 0)).run Try.prog w = .ok (.int .i64 (x 0)) w := fun _ => by kernel_rfl
  have ht : Hid (decide (128 ≤ x 0) = b) := by
    show _ = _
    rw [← hb.out, ← hx, Bool.eq_iff_iff]
    simp only [decide_eq_true_eq]
    exact dg_sign A
  clear hx A hb
  go_enter Try.func45, Try.ntmps45
  go_wp2_with (go_at_call 33; (with_reducible refine (k1 _).mono ?_); rintro e w1 ⟨rfl, hb1⟩)
  go_ret
  exact ⟨ret_bool ht.out, by (repeat (first | exact Below.refl _ _ | assumption | refine below_add ?_ _ | (refine below_on ?_ (by assumption)) | refine Below.drew ?_ | refine below_drewN ?_ _ | (refine Below.setCell ?_ (by simp; try omega) _) | (refine below_new ?_ _ (by simp; try omega)) | (refine below_next ?_ (by assumption) (by simp; try omega))))⟩

set_option maxHeartbeats 400000 in
theorem refSmall_yes (h l a : Int) (w : World) (A : Rep h l a) (hs : isSmall a = true) :
    Calls Try.prog 13 #[.agg #[.int .i64 (h), .int .u64 (l)]] w fun e w' => e = .returned (.tuple #[.int .i64 a, .bool true]) ∧ Below w.heap.size w w' := by
  have hb := of_decide_eq_true hs
  have hw : wrap64 l = a := by
    obtain ⟨p1, p2, p3, p4, p5⟩ := A
    rw [wrap64_is]; omega
  go_enter Try.func13, Try.ntmps13
  go_wp2_with fail
  go_region_held3 (fun w' => w'.cell? ⟨w.heap.size, 0, none⟩ = some (.int .i64 h) ∧ w'.cell? ⟨w.heap.size, 1, none⟩ = some (.int .u64 l) ∧ Below w.heap.size w w') ((first | exact ⟨by simp [go_sem], by simp [go_sem], by (repeat (first | exact Below.refl _ _ | assumption | refine below_add ?_ _ | (refine below_on ?_ (by assumption)) | refine Below.drew ?_ | refine below_drewN ?_ _ | (refine Below.setCell ?_ (by simp; try omega) _) | (refine below_new ?_ _ (by simp; try omega)) | (refine below_next ?_ (by assumption) (by simp; try omega))))⟩ | exact keep2 (by assumption) (by assumption)))
    ((first | (go_at_call 28; refine (refOf_any a h l _ hb.1 hb.2 A).mono ?_; rintro e w' ⟨rfl, hb'⟩)))
  all_goals
    rename_i hS
    have hbel := hS.2.2
    go_wp2
    go_ret2
    exact ⟨rfl, hbel⟩

set_option maxHeartbeats 400000 in
theorem refSmall_no (h l a : Int) (w : World) (A : Rep h l a) (hs : isSmall a = false) :
    Calls Try.prog 13 #[.agg #[.int .i64 (h), .int .u64 (l)]] w fun e w' => e = .returned (.tuple #[.int .i64 0, .bool false]) ∧ Below w.heap.size w w' := by
  have hb := of_decide_eq_false hs
  obtain ⟨n, hn⟩ : ∃ n, wrap64 l = n := ⟨_, rfl⟩
  have hn1 : -9223372036854775808 ≤ n ∧ n ≤ 9223372036854775807 := by rw [← hn, wrap64_is]; omega
  obtain ⟨x, y, X⟩ := rep_small hn1.1 hn1.2
  have hyl : y = l := by
    obtain ⟨p1, p2, p3, p4, p5⟩ := A
    obtain ⟨q1, q2, q3, q4, q5⟩ := X
    rw [wrap64_is] at hn
    omega
  rw [hyl] at X
  have hne : (x == h) = false := by
    obtain ⟨p1, p2, p3, p4, p5⟩ := A
    obtain ⟨q1, q2, q3, q4, q5⟩ := X
    rw [wrap64_is] at hn
    simp; omega
  clear hyl
  go_enter Try.func13, Try.ntmps13
  go_wp2_with fail
  go_region_held3 (fun w' => w'.cell? ⟨w.heap.size, 0, none⟩ = some (.int .i64 h) ∧ w'.cell? ⟨w.heap.size, 1, none⟩ = some (.int .u64 l) ∧ Below w.heap.size w w') ((first | exact ⟨by simp [go_sem], by simp [go_sem], by (repeat (first | exact Below.refl _ _ | assumption | refine below_add ?_ _ | (refine below_on ?_ (by assumption)) | refine Below.drew ?_ | refine below_drewN ?_ _ | (refine Below.setCell ?_ (by simp; try omega) _) | (refine below_new ?_ _ (by simp; try omega)) | (refine below_next ?_ (by assumption) (by simp; try omega))))⟩ | exact keep2 (by assumption) (by assumption)))
    ((first | (go_at_call 28; refine (refOf_any n x l _ hn1.1 hn1.2 X).mono ?_; rintro e w' ⟨rfl, hb'⟩)))
  all_goals
    rename_i hS
    have hbel := hS.2.2
    go_wp2
    go_ret2
    exact ⟨rfl, hbel⟩

set_option maxHeartbeats 1000000 in
theorem refSub_any (h1 l1 h2 l2 h l a b c : Int) (w : World) (A : Rep h1 l1 a) (B : Rep h2 l2 b) (C : Rep h l c) (E : Cong c (a - b)) :
    Calls Try.prog 19 #[.agg #[.int .i64 (h1), .int .u64 (l1)], .agg #[.int .i64 (h2), .int .u64 (l2)]] w fun e w' => e = .returned (.agg #[.int .i64 (h), .int .u64 (l)]) ∧ Below w.heap.size w w' := by
  obtain ⟨h3, l3, D⟩ := rep_sm (-b)
  have k1 := fun w => refNeg_any h2 l2 h3 l3 b _ w B D (sm_cong _)
  have k2 := fun w => refAdd_any h1 l1 h3 l3 h l a _ c w A D C (by
    have := (Cong.rfl (a := a)).add (sm_cong (-b)).symm
    rw [show a + -b = a - b by omega] at this
    exact E.trans this)
  have hD0 := (Duo.new w h1 l1 h2 l2).alloc (.cells #[.int .i64 0, .int .u64 0] 24)
  have hO := WideAt.new ((w.alloc (.cells #[.int .i64 h1, .int .u64 l1] 24)).alloc (.cells #[.int .i64 h2, .int .u64 l2] 24)) 0 0 24
  simp only [World.size_alloc] at hO
  clear A B C D E
  go_enter Try.func19, Try.ntmps19
  go_wp2_with fail
  obtain ⟨W0, hW0⟩ : ∃ W0, W0 = (((w.alloc (.cells #[.int .i64 h1, .int .u64 l1] 24)).alloc (.cells #[.int .i64 h2, .int .u64 l2] 24)).alloc (.cells #[.int .i64 0, .int .u64 0] 24)) := ⟨_, rfl⟩
  have hbel : Below w.heap.size w W0.drew := by rw [hW0]; (repeat (first | exact Below.refl _ _ | assumption | refine below_add ?_ _ | (refine below_on ?_ (by assumption)) | refine Below.drew ?_ | refine below_drewN ?_ _ | (refine Below.setCell ?_ (by simp; try omega) _) | (refine below_new ?_ _ (by simp; try omega)) | (refine below_next ?_ (by assumption) (by simp; try omega))))
  rw [← hW0] at hD0 hO
  rw [← hW0]
  clear hW0
  have hDd : Duo W0.drew w.heap.size h1 l1 h2 l2 := ⟨hD0.a0, hD0.a1, hD0.b0, hD0.b1⟩
  have hOd := hO.drew
  have a0z := hD0.a0
  have a1z := hD0.a1
  have b0z := hD0.b0
  have b1z := hD0.b1
  clear hD0 hO
  go_region_with ((first
    | (go_at_call 17; refine (k1 _).mono ?_; rintro e wn ⟨rfl, hbn⟩; have hDn := Duo.below (by assumption) hbn; have a0n := hDn.a0; have a1n := hDn.a1; have b0n := hDn.b0; have b1n := hDn.b1; obtain ⟨r0n, r1n⟩ := hDn.room; have hOn := hOd.below hbn)
    | (go_at_call 15; refine (k2 _).mono ?_; rintro e wa ⟨rfl, hba⟩; have hOa := hOn.below hba; have o0 := hOa.c0; have o1 := hOa.c1; have o2 := hOa.f0; have o3 := hOa.f1)))
  all_goals
    go_wp2
    exact bodyPost_ret (v := .agg #[.int .i64 (h), .int .u64 (l)]) (by simp [results, Try.results19, go_sem, o0, o1]) rfl ⟨rfl, by (repeat (first | exact Below.refl _ _ | assumption | refine below_add ?_ _ | (refine below_on ?_ (by assumption)) | refine Below.drew ?_ | refine below_drewN ?_ _ | (refine Below.setCell ?_ (by simp; try omega) _) | (refine below_new ?_ _ (by simp; try omega)) | (refine below_next ?_ (by assumption) (by simp; try omega))))⟩
end Go.Proofs.Ytafgfpppemdedaa
