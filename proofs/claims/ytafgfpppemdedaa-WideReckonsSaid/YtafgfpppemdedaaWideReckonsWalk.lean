/- The walk of law WideReckons: it returns true and turns nothing that was there. -/
import Derived.Test.YtafgfpppemdedaaWideRefCmp2
import Derived.OpenShut
namespace Go.Proofs.Ytafgfpppemdedaa.wideReckons
open Go.RowKit Go.Proofs.Ytafgfpppemdedaa Go.Proofs.Ytafgfpppemdedaa.Wd

/-- Small's two answers under names of their own, of the program and of the document. -/
theorem small_is {h l a : Int} (A : Rep h l a) : ∃ (s : Int) (e : Bool), (∀ w, Calls Try.prog 12 #[.agg #[.int .i64 (h), .int .u64 (l)]] w fun e' w' => e' = .returned (.tuple #[.int .i64 s, .bool e]) ∧ Below w.heap.size w w') ∧
    (∀ w, Calls Try.prog 13 #[.agg #[.int .i64 (h), .int .u64 (l)]] w fun e' w' => e' = .returned (.tuple #[.int .i64 s, .bool e]) ∧ Below w.heap.size w w') := by
  by_cases h : isSmall a = true
  · exact ⟨a, true, fun w => small_yes _ _ a w A h, fun w => refSmall_yes _ _ a w A h⟩
  · have h : isSmall a = false := by simpa using h
    exact ⟨0, false, fun w => small_no _ _ a w A h, fun w => refSmall_no _ _ a w A h⟩

set_option maxHeartbeats 8000000 in
theorem core (h1 l1 h2 l2 n a b : Int) (w : World) (A : Rep h1 l1 a) (B : Rep h2 l2 b) (hn : 0 ≤ n) (hn1 : n ≤ 4294967295) :
    Calls Try.prog 3 #[.agg #[.int .i64 (h1), .int .u64 (l1)], .agg #[.int .i64 (h2), .int .u64 (l2)], .int .u32 n] w fun e w' => e = .returned (.bool true) ∧ Below w.heap.size w w' := by
  obtain ⟨v, ev⟩ : ∃ v, cmp a b = v := ⟨_, rfl⟩
  obtain ⟨s, sb, k3, k4⟩ := small_is A
  obtain ⟨x1, y1, A1⟩ := rep_sm (a + b)
  obtain ⟨x2, y2, A2⟩ := rep_sm (-a)
  obtain ⟨x3, y3, A3⟩ := rep_sm (a - b)
  obtain ⟨x4, y4, A4⟩ := rep_sm (a * n)
  have k1 := fun w => cmp_is h1 l1 h2 l2 a b v w A B ev
  have k2 := fun w => refCmp_any h1 l1 h2 l2 a b v w A B ev
  have g1 := fun w => add_any h1 l1 h2 l2 x1 y1 a b _ w A B A1 (sm_cong _)
  have g2 := fun w => refAdd_any h1 l1 h2 l2 x1 y1 a b _ w A B A1 (sm_cong _)
  have g3 := fun w => neg_any h1 l1 x2 y2 a _ w A A2 (sm_cong _)
  have g4 := fun w => refNeg_any h1 l1 x2 y2 a _ w A A2 (sm_cong _)
  have g5 := fun w => sub_any h1 l1 h2 l2 x3 y3 a b _ w A B A3 (sm_cong _)
  have g6 := fun w => refSub_any h1 l1 h2 l2 x3 y3 a b _ w A B A3 (sm_cong _)
  have g7 := fun w => times_any h1 l1 n x4 y4 a _ w hn hn1 A A4 (sm_cong _)
  have g8 := fun w => refTimes_any h1 l1 n x4 y4 a _ w hn hn1 A A4 (sm_cong _)
  have q1 := eql_is A1 A1 true (by show _ = _; simp)
  have q2 := eql_is A2 A2 true (by show _ = _; simp)
  have q3 := eql_is A3 A3 true (by show _ = _; simp)
  have q4 := eql_is A4 A4 true (by show _ = _; simp)
  have hD0 := Duo.new w h1 l1 h2 l2
  clear A B A1 A2 A3 A4 ev
  go_enter Try.func3, Try.ntmps3
  go_wp2_with (first
    | (go_at_call 9; (with_reducible refine (awake_any _).mono ?_); rintro e wz ⟨rfl, hbz⟩; have hDz := Duo.below (by assumption) hbz; have a0z := hDz.a0; have a1z := hDz.a1; have b0z := hDz.b0; have b1z := hDz.b1; obtain ⟨r0z, r1z⟩ := hDz.room)
    | (go_at_call 10; (with_reducible refine (k1 _).mono ?_); rintro e wz ⟨rfl, hbz⟩; have hDz := Duo.below (by assumption) hbz; have a0z := hDz.a0; have a1z := hDz.a1; have b0z := hDz.b0; have b1z := hDz.b1; obtain ⟨r0z, r1z⟩ := hDz.room)
    | (go_at_call 11; (with_reducible refine (k2 _).mono ?_); rintro e wz ⟨rfl, hbz⟩; have hDz := Duo.below (by assumption) hbz; have a0z := hDz.a0; have a1z := hDz.a1; have b0z := hDz.b0; have b1z := hDz.b1; obtain ⟨r0z, r1z⟩ := hDz.room)
    | (go_at_call 12; (with_reducible refine (k3 _).mono ?_); rintro e wz ⟨rfl, hbz⟩; have hDz := Duo.below (by assumption) hbz; have a0z := hDz.a0; have a1z := hDz.a1; have b0z := hDz.b0; have b1z := hDz.b1; obtain ⟨r0z, r1z⟩ := hDz.room)
    | (go_at_call 13; (with_reducible refine (k4 _).mono ?_); rintro e wz ⟨rfl, hbz⟩; have hDz := Duo.below (by assumption) hbz; have a0z := hDz.a0; have a1z := hDz.a1; have b0z := hDz.b0; have b1z := hDz.b1; obtain ⟨r0z, r1z⟩ := hDz.room))
  clear k1 k2 k3 k4 hD0 hDz
  first
  | go_region_held3 (fun w' => w'.cell? ⟨w.heap.size, 0, none⟩ = some (.int .i64 h1) ∧ w'.cell? ⟨w.heap.size, 1, none⟩ = some (.int .u64 l1) ∧ w'.cell? ⟨w.heap.size + 1, 0, none⟩ = some (.int .i64 h2) ∧ w'.cell? ⟨w.heap.size + 1, 1, none⟩ = some (.int .u64 l2) ∧ Below w.heap.size w w')
      ((first | exact ⟨a0z, a1z, b0z, b1z, by (repeat (first | exact Below.refl _ _ | assumption | refine below_add ?_ _ | (refine below_on ?_ (by assumption)) | refine Below.drew ?_ | refine below_drewN ?_ _ | (refine Below.setCell ?_ (by simp; try omega) _) | (refine below_new ?_ _ (by simp; try omega)) | (refine below_next ?_ (by assumption) (by simp; try omega))))⟩ | exact duo_keep (by assumption) (by assumption) | (refine duo_keep (by assumption) ?_; exact ⟨a0z, a1z, b0z, b1z, by (repeat (first | exact Below.refl _ _ | assumption | refine below_add ?_ _ | (refine below_on ?_ (by assumption)) | refine Below.drew ?_ | refine below_drewN ?_ _ | (refine Below.setCell ?_ (by simp; try omega) _) | (refine below_new ?_ _ (by simp; try omega)) | (refine below_next ?_ (by assumption) (by simp; try omega))))⟩)))
      ((first
        | (go_at_call 14; refine (g1 _).mono ?_; rintro e w' ⟨rfl, hb'⟩)
        | (go_at_call 15; refine (g2 _).mono ?_; rintro e w' ⟨rfl, hb'⟩)
        | (go_at_call 16; refine (g3 _).mono ?_; rintro e w' ⟨rfl, hb'⟩)
        | (go_at_call 17; refine (g4 _).mono ?_; rintro e w' ⟨rfl, hb'⟩)
        | (go_at_call 18; refine (g5 _).mono ?_; rintro e w' ⟨rfl, hb'⟩)
        | (go_at_call 19; refine (g6 _).mono ?_; rintro e w' ⟨rfl, hb'⟩)
        | (go_at_call 20; refine (g7 _).mono ?_; rintro e w' ⟨rfl, hb'⟩)
        | (go_at_call 21; refine (g8 _).mono ?_; rintro e w' ⟨rfl, hb'⟩)))
  | fail
  all_goals
    rename_i hS
    have hbel := hS.2.2.2.2
    go_wp2
    all_goals
      go_ret
      refine ⟨ret_bool ?_, hbel⟩
      first
      | rfl
      | (simp [*])

theorem walk (h1 l1 h2 l2 n : Int) (w : World) (A : ∃ a, Rep h1 l1 a) (B : ∃ b, Rep h2 l2 b) (hn : (Lit.int .u32 n).wf = true) :
    Calls Try.prog 3 #[.agg #[.int .i64 (h1), .int .u64 (l1)], .agg #[.int .i64 (h2), .int .u64 (l2)], .int .u32 n] w fun e w' => e = .returned (.bool true) ∧ Below w.heap.size w w' := by
  obtain ⟨a, A⟩ := A
  obtain ⟨b, B⟩ := B
  have h := bounds_u32 hn
  exact core h1 l1 h2 l2 n a b w A B (by omega) (by omega)
end Go.Proofs.Ytafgfpppemdedaa.wideReckons
