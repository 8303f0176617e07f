/- The walk of law WideBack: it returns true and turns nothing that was there. -/
import Derived.Test.YtafgfpppemdedaaWideDuo
import Derived.Test.YtafgfpppemdedaaWideBackMath
namespace Go.Proofs.Ytafgfpppemdedaa.wideBack
open Go.RowKit Go.Proofs.Ytafgfpppemdedaa Go.Proofs.Ytafgfpppemdedaa.Wd

theorem text_is (h l a : Int) (s : ByteArray) (A : Rep h l a) (hs : Hid (textB a = s)) (w : World) : Calls Try.prog 25 #[.agg #[.int .i64 (h), .int .u64 (l)]] w fun e w' => e = .returned (.string s) ∧ Below w.heap.size w w' := by
  have := text_any h l a w A
  rw [show (⟨(textOf a).toArray⟩ : ByteArray) = s from hs.out] at this
  exact this
theorem first_minus {s : ByteArray} {a : Int} (A : InW a) (hs : textB a = s) (h0 : 0 < s.size) : ((s[0].toNat : Int) == 45) = decide (a < 0) := by
  rw [byte_45]
  have h1 := textOf_sign A
  rw [← textB_list, hs] at h1
  have h2 : s.data.toList.head? = some s[0] := by
    rw [List.head?_eq_getElem?, List.getElem?_eq_getElem (by rw [← size_list]; exact h0)]; rfl
  rw [h2] at h1
  rw [Bool.eq_iff_iff]
  simp only [decide_eq_true_eq]
  rw [← h1]; simp

set_option maxHeartbeats 4000000 in
theorem core (h1 l1 h2 l2 a b : Int) (w : World) (A : Rep h1 l1 a) (B : Rep h2 l2 b) :
    Calls Try.prog 6 #[.agg #[.int .i64 (h1), .int .u64 (l1)], .agg #[.int .i64 (h2), .int .u64 (l2)]] w fun e w' => e = .returned (.bool true) ∧ Below w.heap.size w w' := by
  obtain ⟨s, hs⟩ : ∃ s, textB a = s := ⟨_, rfl⟩
  obtain ⟨t, ht⟩ : ∃ t, textB b = t := ⟨_, rfl⟩
  obtain ⟨v1, e1⟩ : ∃ v, cmp a b = v := ⟨_, rfl⟩
  obtain ⟨v2, e2⟩ : ∃ v, cmp a 0 = v := ⟨_, rfl⟩
  obtain ⟨e, he⟩ : ∃ e, decide (a = b) = e := ⟨_, rfl⟩
  obtain ⟨g, hg⟩ : ∃ g, decide (a < 0) = g := ⟨_, rfl⟩
  have hlen := textOf_length A.inW
  have hs2 : 0 < s.size := by rw [← hs, textB_size]; exact hlen.1
  have hs1 : s.size ≤ 40 := by rw [← hs, textB_size]; exact hlen.2
  have hst : (s.toList == t.toList) = e := by
    rw [← he, Bool.eq_iff_iff]
    simp only [beq_iff_eq, decide_eq_true_eq]
    rw [← hs, ← ht]; exact textB_eq A.inW B.inW
  have hv1 : (v1 == 0) = e := by
    rw [← he, Bool.eq_iff_iff]
    simp only [beq_iff_eq, decide_eq_true_eq]
    exact cmp_zero e1
  have hm : ((s[0].toNat : Int) == 45) = g := by rw [← hg]; exact first_minus A.inW hs hs2
  have hv2 : decide (v2 < 0) = g := by
    rw [← hg, Bool.eq_iff_iff]
    simp only [decide_eq_true_eq]
    exact cmp_neg e2
  have k1 := text_is h1 l1 a s A hs
  have k2 := text_is h2 l2 b t B ht
  have k3 := fun w => parse_is s h1 l1 0 w (by omega) (by rw [← hs]; exact parse_textB A)
  have k4 := fun w => cmp_is h1 l1 h2 l2 a b v1 w A B e1
  have k5 := fun w => cmp_is h1 l1 0 0 a 0 v2 w A rep_zero e2
  have q1 := eql_is A A true (by show _ = _; simp)
  have q2 := eql_is A B e he
  have hD0 := Duo.new w h1 l1 h2 l2
  clear hs ht e1 e2 he hg hlen A B
  have hs3 : (0 : Int) < (s.size : Int) := by omega
  have hs4 : (s.size : Int) ≤ 40 := by omega
  go_enter Try.func6, Try.ntmps6
  go_wp2_with (first
    | (go_at_call 9; (with_reducible refine (awake_any _).mono ?_); rintro e wz ⟨rfl, hbz⟩; have hDz := Duo.below (by assumption) hbz; have a0z := hDz.a0; have a1z := hDz.a1; have b0z := hDz.b0; have b1z := hDz.b1; obtain ⟨r0z, r1z⟩ := hDz.room)
    | (go_at_call 25; (first | (with_reducible refine (k1 _).mono ?_) | (with_reducible refine (k2 _).mono ?_)); rintro e wz ⟨rfl, hbz⟩; have hDz := Duo.below (by assumption) hbz; have a0z := hDz.a0; have a1z := hDz.a1; have b0z := hDz.b0; have b1z := hDz.b1; obtain ⟨r0z, r1z⟩ := hDz.room)
    | (go_at_call 23; (with_reducible refine (k3 _).mono ?_); rintro e wz ⟨rfl, hbz⟩; have hDz := Duo.below (by assumption) hbz; have a0z := hDz.a0; have a1z := hDz.a1; have b0z := hDz.b0; have b1z := hDz.b1; obtain ⟨r0z, r1z⟩ := hDz.room; have hX := WideAt.new wz h1 l1 24)
    | (go_at_call 10; (with_reducible refine (k4 _).mono ?_); rintro e wy ⟨rfl, hby⟩; have hX2 := hX.below hby; have x0 := hX2.c0; have x1 := hX2.c1; have hDz := hDz.alloc (.cells #[.int .i64 h1, .int .u64 l1] 24); have hDy := Duo.below (by assumption) hby; have a0y := hDy.a0; have a1y := hDy.a1; have b0y := hDy.b0; have b1y := hDy.b1; obtain ⟨r0y, r1y⟩ := hDy.room))
  clear k1 k2 k3 k4 hD0 hX hX2 hDz hDy a0z a1z b0z b1z
  first
  | go_region_held3 (fun w' => w'.cell? ⟨wz.heap.size, 0, none⟩ = some (.int .i64 h1) ∧ w'.cell? ⟨wz.heap.size, 1, none⟩ = some (.int .u64 l1) ∧ w'.cell? ⟨w.heap.size, 0, none⟩ = some (.int .i64 h1) ∧ w'.cell? ⟨w.heap.size, 1, none⟩ = some (.int .u64 l1) ∧ w'.cell? ⟨w.heap.size + 1, 0, none⟩ = some (.int .i64 h2) ∧ w'.cell? ⟨w.heap.size + 1, 1, none⟩ = some (.int .u64 l2) ∧ Below w.heap.size w w')
      ((first | exact ⟨x0, x1, a0y, a1y, b0y, b1y, by (repeat (first | exact Below.refl _ _ | assumption | refine below_add ?_ _ | (refine below_on ?_ (by assumption)) | refine Below.drew ?_ | refine below_drewN ?_ _ | (refine Below.setCell ?_ (by simp; try omega) _) | (refine below_new ?_ _ (by simp; try omega)) | (refine below_next ?_ (by assumption) (by simp; try omega))))⟩ | exact duo3_keep (by assumption) (by assumption) | (refine duo3_keep (by assumption) ?_; exact ⟨x0, x1, a0y, a1y, b0y, b1y, by (repeat (first | exact Below.refl _ _ | assumption | refine below_add ?_ _ | (refine below_on ?_ (by assumption)) | refine Below.drew ?_ | refine below_drewN ?_ _ | (refine Below.setCell ?_ (by simp; try omega) _) | (refine below_new ?_ _ (by simp; try omega)) | (refine below_next ?_ (by assumption) (by simp; try omega))))⟩)))
      ((first
        | (go_at_call 10; refine (k5 _).mono ?_; rintro e w' ⟨rfl, hb'⟩)))
  | fail
  all_goals
    rename_i hS
    have hbel := hS.2.2.2.2.2.2
    go_wp2
    all_goals
      go_ret
      refine ⟨ret_bool ?_, hbel⟩
      first
      | rfl
      | (simp [*])

theorem walk (h1 l1 h2 l2 : Int) (w : World) (A : ∃ a, Rep h1 l1 a) (B : ∃ b, Rep h2 l2 b) :
    Calls Try.prog 6 #[.agg #[.int .i64 (h1), .int .u64 (l1)], .agg #[.int .i64 (h2), .int .u64 (l2)]] w fun e w' => e = .returned (.bool true) ∧ Below w.heap.size w w' := by
  obtain ⟨a, A⟩ := A
  obtain ⟨b, B⟩ := B
  exact core h1 l1 h2 l2 a b w A B
end Go.Proofs.Ytafgfpppemdedaa.wideBack
