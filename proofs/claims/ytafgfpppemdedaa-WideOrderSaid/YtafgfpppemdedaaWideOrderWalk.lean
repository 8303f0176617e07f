/- The walk of law WideOrder: it returns true and turns nothing that was there. -/
import Derived.Test.YtafgfpppemdedaaWideTri
namespace Go.Proofs.Ytafgfpppemdedaa.wideOrder
open Go.RowKit Go.Proofs.Ytafgfpppemdedaa Go.Proofs.Ytafgfpppemdedaa.Wd

/-- What is known of the comparisons. -/
structure Facts (a b c v1 v2 v3 v4 : Int) (e la lb : Bool) : Prop where
  c1 : cmp a b = v1
  c2 : cmp b a = v2
  c3 : cmp b c = v3
  c4 : cmp a c = v4
  same : decide (a = b) = e
  leastA : decide (a = -170141183460469231731687303715884105728) = la
  leastB : decide (b = -170141183460469231731687303715884105728) = lb

theorem neg_cmp {a b v : Int} (A : InW a) (B : InW b) (ha : a ≠ -170141183460469231731687303715884105728) (hb : b ≠ -170141183460469231731687303715884105728) (h : cmp (sm (-b)) (sm (-a)) = v) : v < 0 ↔ a < b := by
  obtain ⟨p1, p2⟩ := A
  obtain ⟨q1, q2⟩ := B
  rw [sm_self (by unfold InW; omega), sm_self (by unfold InW; omega)] at h
  rw [cmp_neg h]; omega

set_option maxHeartbeats 8000000 in
theorem core (h1 l1 h2 l2 h3 l3 a b c v1 v2 v3 v4 : Int) (e la lb : Bool) (w : World) (A : Rep h1 l1 a) (B : Rep h2 l2 b) (C : Rep h3 l3 c) (F : Facts a b c v1 v2 v3 v4 e la lb) :
    Calls Try.prog 8 #[.agg #[.int .i64 (h1), .int .u64 (l1)], .agg #[.int .i64 (h2), .int .u64 (l2)], .agg #[.int .i64 (h3), .int .u64 (l3)]] w fun e w' => e = .returned (.bool true) ∧ Below w.heap.size w w' := by
  have k1 := fun w => cmp_is h1 l1 h2 l2 a b v1 w A B F.c1
  have k2 := fun w => cmp_is h2 l2 h1 l1 b a v2 w B A F.c2
  have k3 := fun w => cmp_is h2 l2 h3 l3 b c v3 w B C F.c3
  have k4 := fun w => cmp_is h1 l1 h3 l3 a c v4 w A C F.c4
  have q1 := eql_is A B e F.same
  have q2 := eql_is A rep_least la F.leastA
  have q3 := eql_is B rep_least lb F.leastB
  obtain ⟨h4, l4, D⟩ := rep_sm (-a)
  obtain ⟨h5, l5, E⟩ := rep_sm (-b)
  obtain ⟨v5, e5⟩ : ∃ v, cmp (sm (-b)) (sm (-a)) = v := ⟨_, rfl⟩
  have k5 := fun w => neg_any h1 l1 h4 l4 _ _ w A D (sm_cong _)
  have k6 := fun w => neg_any h2 l2 h5 l5 _ _ w B E (sm_cong _)
  have k7 := fun w => cmp_is h5 l5 h4 l4 _ _ v5 w E D e5
  have hT0 := Tri.new w h1 l1 h2 l2 h3 l3
  have f1 := cmp_neg F.c1
  have f2 := cmp_pos F.c2
  have f3 := cmp_zero F.c1
  have f4 := cmp_neg F.c3
  have f5 := cmp_neg F.c4
  have hcases : (a < b ∧ v1 < 0 ∧ 0 < v2 ∧ (v1 == 0) = false ∧ e = false ∧ ((v3 < 0 ∧ v4 < 0) ∨ ¬ v3 < 0) ∧ (la = true ∨ (la = false ∧ lb = false ∧ v5 < 0))) ∨
      (a = b ∧ ¬ v1 < 0 ∧ ¬ 0 < v2 ∧ (v1 == 0) = true ∧ e = true ∧ (la = true ∨ (la = false ∧ lb = false ∧ ¬ v5 < 0))) ∨
      (b < a ∧ ¬ v1 < 0 ∧ ¬ 0 < v2 ∧ (v1 == 0) = false ∧ e = false ∧ ((la = false ∧ lb = true) ∨ (la = false ∧ lb = false ∧ ¬ v5 < 0))) := by
    have g1 := F.same
    have g2 := F.leastA
    have g3 := F.leastB
    have i1 := A.inW
    have i2 := B.inW
    have hlb : ∀ x : Int, InW x → -170141183460469231731687303715884105728 ≤ x := fun x h => h.1
    have l1 := hlb a i1
    have l2 := hlb b i2
    have hla : la = true ↔ a = -170141183460469231731687303715884105728 := by rw [← g2]; simp
    have hlb : lb = true ↔ b = -170141183460469231731687303715884105728 := by rw [← g3]; simp
    have he : e = true ↔ a = b := by rw [← g1]; simp
    have hv5 : a ≠ -170141183460469231731687303715884105728 → b ≠ -170141183460469231731687303715884105728 → (v5 < 0 ↔ a < b) := fun x y => neg_cmp i1 i2 x y e5
    have z1 : (v1 == 0) = decide (v1 = 0) := by rw [Bool.eq_iff_iff]; simp
    have nt : ∀ x : Bool, x = true ∨ x = false := by intro x; cases x <;> simp
    rcases Int.lt_trichotomy a b with h | h | h
    · left
      have n1 : lb = false := by rcases nt lb with x | x
                                 · have := hlb.1 x; omega
                                 · exact x
      refine ⟨h, f1.2 h, f2.2 h, by rw [z1]; simp; omega, ?_, ?_, ?_⟩
      · rcases nt e with x | x
        · have := he.1 x; omega
        · exact x
      · by_cases h3 : v3 < 0
        · exact Or.inl ⟨h3, f5.2 (by have := f4.1 h3; omega)⟩
        · exact Or.inr h3
      · rcases nt la with x | x
        · exact Or.inl x
        · refine Or.inr ⟨x, n1, (hv5 ?_ ?_).2 h⟩
          · intro y; rw [hla.2 y] at x; exact absurd x (by simp)
          · intro y; rw [hlb.2 y] at n1; exact absurd n1 (by simp)
    · right; left
      refine ⟨h, by omega, by omega, by rw [z1]; simp; omega, he.2 h, ?_⟩
      rcases nt la with x | x
      · exact Or.inl x
      · have n1 : lb = false := by rcases nt lb with y | y
                                   · have := hla.2 (by have := hlb.1 y; omega); rw [this] at x; exact absurd x (by simp)
                                   · exact y
        refine Or.inr ⟨x, n1, fun k => ?_⟩
        have := (hv5 (fun y => by rw [hla.2 y] at x; exact absurd x (by simp)) (fun y => by rw [hlb.2 y] at n1; exact absurd n1 (by simp))).1 k
        omega
    · right; right
      have n1 : la = false := by rcases nt la with x | x
                                 · have := hla.1 x; omega
                                 · exact x
      refine ⟨h, by omega, by omega, by rw [z1]; simp; omega, ?_, ?_⟩
      · rcases nt e with x | x
        · have := he.1 x; omega
        · exact x
      · rcases nt lb with x | x
        · exact Or.inl ⟨n1, x⟩
        · refine Or.inr ⟨n1, x, fun k => ?_⟩
          have := (hv5 (fun y => by rw [hla.2 y] at n1; exact absurd n1 (by simp)) (fun y => by rw [hlb.2 y] at x; exact absurd x (by simp))).1 k
          omega
  clear f1 f2 f3 f4 f5 F e5 A B C D E
  rcases hcases with ⟨_, t1, t2, t3, rfl, ⟨t4, t5⟩ | t4, rfl | ⟨rfl, rfl, t6⟩⟩ | ⟨_, t1, t2, t3, rfl, rfl | ⟨rfl, rfl, t6⟩⟩ | ⟨_, t1, t2, t3, rfl, ⟨rfl, rfl⟩ | ⟨rfl, rfl, t6⟩⟩
  · as_aux_lemma =>
    go_enter Try.func8, Try.ntmps8
    go_wp2_with (first
      | (go_at_call 9; (with_reducible refine (awake_any _).mono ?_); rintro e wz ⟨rfl, hbz⟩; have hTz := Tri.below (by assumption) hbz; have a0z := hTz.a0; have a1z := hTz.a1; have b0z := hTz.b0; have b1z := hTz.b1; have c0z := hTz.c0; have c1z := hTz.c1; obtain ⟨r0z, r1z, r2z⟩ := hTz.room)
      | (go_at_call 10; (first | (with_reducible refine (k1 _).mono ?_) | (with_reducible refine (k2 _).mono ?_) | (with_reducible refine (k3 _).mono ?_) | (with_reducible refine (k4 _).mono ?_)); rintro e wz ⟨rfl, hbz⟩; have hTz := Tri.below (by assumption) hbz; have a0z := hTz.a0; have a1z := hTz.a1; have b0z := hTz.b0; have b1z := hTz.b1; have c0z := hTz.c0; have c1z := hTz.c1; obtain ⟨r0z, r1z, r2z⟩ := hTz.room))
    go_quiet (fail)
    go_wp2
    go_ret
    exact ⟨rfl, by (repeat (first | exact Below.refl _ _ | assumption | refine below_add ?_ _ | (refine below_on ?_ (by assumption)) | refine Below.drew ?_ | refine below_drewN ?_ _ | (refine Below.setCell ?_ (by simp; try omega) _) | (refine below_new ?_ _ (by simp; try omega)) | (refine below_next ?_ (by assumption) (by simp; try omega))))⟩
  · as_aux_lemma =>
    go_enter Try.func8, Try.ntmps8
    go_wp2_with (first
      | (go_at_call 9; (with_reducible refine (awake_any _).mono ?_); rintro e wz ⟨rfl, hbz⟩; have hTz := Tri.below (by assumption) hbz; have a0z := hTz.a0; have a1z := hTz.a1; have b0z := hTz.b0; have b1z := hTz.b1; have c0z := hTz.c0; have c1z := hTz.c1; obtain ⟨r0z, r1z, r2z⟩ := hTz.room)
      | (go_at_call 10; (first | (with_reducible refine (k1 _).mono ?_) | (with_reducible refine (k2 _).mono ?_) | (with_reducible refine (k3 _).mono ?_) | (with_reducible refine (k4 _).mono ?_)); rintro e wz ⟨rfl, hbz⟩; have hTz := Tri.below (by assumption) hbz; have a0z := hTz.a0; have a1z := hTz.a1; have b0z := hTz.b0; have b1z := hTz.b1; have c0z := hTz.c0; have c1z := hTz.c1; obtain ⟨r0z, r1z, r2z⟩ := hTz.room))
    first
    | go_region_held3 (fun w' => w'.cell? ⟨wz.heap.size, 0, none⟩ = some (.int .i64 (-9223372036854775808)) ∧ w'.cell? ⟨wz.heap.size, 1, none⟩ = some (.int .u64 0) ∧ (w'.cell? ⟨w.heap.size, 0, none⟩ = some (.int .i64 h1) ∧ w'.cell? ⟨w.heap.size, 1, none⟩ = some (.int .u64 l1) ∧ w'.cell? ⟨w.heap.size + 1, 0, none⟩ = some (.int .i64 h2) ∧ w'.cell? ⟨w.heap.size + 1, 1, none⟩ = some (.int .u64 l2) ∧ w'.cell? ⟨w.heap.size + 1 + 1, 0, none⟩ = some (.int .i64 h3) ∧ w'.cell? ⟨w.heap.size + 1 + 1, 1, none⟩ = some (.int .u64 l3) ∧ Below w.heap.size w w') )
        ((first | exact ⟨by simp [go_sem], by simp [go_sem], by simp [go_sem, a0z, r0z], by simp [go_sem, a1z, r0z], by simp [go_sem, b0z, r1z], by simp [go_sem, b1z, r1z], by simp [go_sem, c0z, r2z], by simp [go_sem, c1z, r2z], by (repeat (first | exact Below.refl _ _ | assumption | refine below_add ?_ _ | (refine below_on ?_ (by assumption)) | refine Below.drew ?_ | refine below_drewN ?_ _ | (refine Below.setCell ?_ (by simp; try omega) _) | (refine below_new ?_ _ (by simp; try omega)) | (refine below_next ?_ (by assumption) (by simp; try omega))))⟩ | exact quad_keep (by assumption) (by assumption)))
        ((first
          | (go_at_call 16; refine (k5 _).mono ?_; rintro e w' ⟨rfl, hb'⟩)
          | (go_at_call 16; refine (k6 _).mono ?_; rintro e w' ⟨rfl, hb'⟩)
          | (go_at_call 10; refine (k7 _).mono ?_; rintro e w' ⟨rfl, hb'⟩)))
    | fail
    all_goals
      rename_i hS
      have hbel := hS.2.2.2.2.2.2.2.2
      go_wp2
      all_goals
        go_ret
        refine ⟨ret_bool ?_, hbel⟩
        first
        | rfl
        | (simp; omega)
  · as_aux_lemma =>
    go_enter Try.func8, Try.ntmps8
    go_wp2_with (first
      | (go_at_call 9; (with_reducible refine (awake_any _).mono ?_); rintro e wz ⟨rfl, hbz⟩; have hTz := Tri.below (by assumption) hbz; have a0z := hTz.a0; have a1z := hTz.a1; have b0z := hTz.b0; have b1z := hTz.b1; have c0z := hTz.c0; have c1z := hTz.c1; obtain ⟨r0z, r1z, r2z⟩ := hTz.room)
      | (go_at_call 10; (first | (with_reducible refine (k1 _).mono ?_) | (with_reducible refine (k2 _).mono ?_) | (with_reducible refine (k3 _).mono ?_) | (with_reducible refine (k4 _).mono ?_)); rintro e wz ⟨rfl, hbz⟩; have hTz := Tri.below (by assumption) hbz; have a0z := hTz.a0; have a1z := hTz.a1; have b0z := hTz.b0; have b1z := hTz.b1; have c0z := hTz.c0; have c1z := hTz.c1; obtain ⟨r0z, r1z, r2z⟩ := hTz.room))
    go_quiet (fail)
    go_wp2
    go_ret
    exact ⟨rfl, by (repeat (first | exact Below.refl _ _ | assumption | refine below_add ?_ _ | (refine below_on ?_ (by assumption)) | refine Below.drew ?_ | refine below_drewN ?_ _ | (refine Below.setCell ?_ (by simp; try omega) _) | (refine below_new ?_ _ (by simp; try omega)) | (refine below_next ?_ (by assumption) (by simp; try omega))))⟩
  · as_aux_lemma =>
    go_enter Try.func8, Try.ntmps8
    go_wp2_with (first
      | (go_at_call 9; (with_reducible refine (awake_any _).mono ?_); rintro e wz ⟨rfl, hbz⟩; have hTz := Tri.below (by assumption) hbz; have a0z := hTz.a0; have a1z := hTz.a1; have b0z := hTz.b0; have b1z := hTz.b1; have c0z := hTz.c0; have c1z := hTz.c1; obtain ⟨r0z, r1z, r2z⟩ := hTz.room)
      | (go_at_call 10; (first | (with_reducible refine (k1 _).mono ?_) | (with_reducible refine (k2 _).mono ?_) | (with_reducible refine (k3 _).mono ?_) | (with_reducible refine (k4 _).mono ?_)); rintro e wz ⟨rfl, hbz⟩; have hTz := Tri.below (by assumption) hbz; have a0z := hTz.a0; have a1z := hTz.a1; have b0z := hTz.b0; have b1z := hTz.b1; have c0z := hTz.c0; have c1z := hTz.c1; obtain ⟨r0z, r1z, r2z⟩ := hTz.room))
    first
    | go_region_held3 (fun w' => w'.cell? ⟨wz.heap.size, 0, none⟩ = some (.int .i64 (-9223372036854775808)) ∧ w'.cell? ⟨wz.heap.size, 1, none⟩ = some (.int .u64 0) ∧ (w'.cell? ⟨w.heap.size, 0, none⟩ = some (.int .i64 h1) ∧ w'.cell? ⟨w.heap.size, 1, none⟩ = some (.int .u64 l1) ∧ w'.cell? ⟨w.heap.size + 1, 0, none⟩ = some (.int .i64 h2) ∧ w'.cell? ⟨w.heap.size + 1, 1, none⟩ = some (.int .u64 l2) ∧ w'.cell? ⟨w.heap.size + 1 + 1, 0, none⟩ = some (.int .i64 h3) ∧ w'.cell? ⟨w.heap.size + 1 + 1, 1, none⟩ = some (.int .u64 l3) ∧ Below w.heap.size w w') )
        ((first | exact ⟨by simp [go_sem], by simp [go_sem], by simp [go_sem, a0z, r0z], by simp [go_sem, a1z, r0z], by simp [go_sem, b0z, r1z], by simp [go_sem, b1z, r1z], by simp [go_sem, c0z, r2z], by simp [go_sem, c1z, r2z], by (repeat (first | exact Below.refl _ _ | assumption | refine below_add ?_ _ | (refine below_on ?_ (by assumption)) | refine Below.drew ?_ | refine below_drewN ?_ _ | (refine Below.setCell ?_ (by simp; try omega) _) | (refine below_new ?_ _ (by simp; try omega)) | (refine below_next ?_ (by assumption) (by simp; try omega))))⟩ | exact quad_keep (by assumption) (by assumption)))
        ((first
          | (go_at_call 16; refine (k5 _).mono ?_; rintro e w' ⟨rfl, hb'⟩)
          | (go_at_call 16; refine (k6 _).mono ?_; rintro e w' ⟨rfl, hb'⟩)
          | (go_at_call 10; refine (k7 _).mono ?_; rintro e w' ⟨rfl, hb'⟩)))
    | fail
    all_goals
      rename_i hS
      have hbel := hS.2.2.2.2.2.2.2.2
      go_wp2
      all_goals
        go_ret
        refine ⟨ret_bool ?_, hbel⟩
        first
        | rfl
        | (simp; omega)
  · as_aux_lemma =>
    go_enter Try.func8, Try.ntmps8
    go_wp2_with (first
      | (go_at_call 9; (with_reducible refine (awake_any _).mono ?_); rintro e wz ⟨rfl, hbz⟩; have hTz := Tri.below (by assumption) hbz; have a0z := hTz.a0; have a1z := hTz.a1; have b0z := hTz.b0; have b1z := hTz.b1; have c0z := hTz.c0; have c1z := hTz.c1; obtain ⟨r0z, r1z, r2z⟩ := hTz.room)
      | (go_at_call 10; (first | (with_reducible refine (k1 _).mono ?_) | (with_reducible refine (k2 _).mono ?_) | (with_reducible refine (k3 _).mono ?_) | (with_reducible refine (k4 _).mono ?_)); rintro e wz ⟨rfl, hbz⟩; have hTz := Tri.below (by assumption) hbz; have a0z := hTz.a0; have a1z := hTz.a1; have b0z := hTz.b0; have b1z := hTz.b1; have c0z := hTz.c0; have c1z := hTz.c1; obtain ⟨r0z, r1z, r2z⟩ := hTz.room))
    go_quiet (fail)
    go_wp2
    go_ret
    exact ⟨rfl, by (repeat (first | exact Below.refl _ _ | assumption | refine below_add ?_ _ | (refine below_on ?_ (by assumption)) | refine Below.drew ?_ | refine below_drewN ?_ _ | (refine Below.setCell ?_ (by simp; try omega) _) | (refine below_new ?_ _ (by simp; try omega)) | (refine below_next ?_ (by assumption) (by simp; try omega))))⟩
  · as_aux_lemma =>
    go_enter Try.func8, Try.ntmps8
    go_wp2_with (first
      | (go_at_call 9; (with_reducible refine (awake_any _).mono ?_); rintro e wz ⟨rfl, hbz⟩; have hTz := Tri.below (by assumption) hbz; have a0z := hTz.a0; have a1z := hTz.a1; have b0z := hTz.b0; have b1z := hTz.b1; have c0z := hTz.c0; have c1z := hTz.c1; obtain ⟨r0z, r1z, r2z⟩ := hTz.room)
      | (go_at_call 10; (first | (with_reducible refine (k1 _).mono ?_) | (with_reducible refine (k2 _).mono ?_) | (with_reducible refine (k3 _).mono ?_) | (with_reducible refine (k4 _).mono ?_)); rintro e wz ⟨rfl, hbz⟩; have hTz := Tri.below (by assumption) hbz; have a0z := hTz.a0; have a1z := hTz.a1; have b0z := hTz.b0; have b1z := hTz.b1; have c0z := hTz.c0; have c1z := hTz.c1; obtain ⟨r0z, r1z, r2z⟩ := hTz.room))
    first
    | go_region_held3 (fun w' => w'.cell? ⟨wz.heap.size, 0, none⟩ = some (.int .i64 (-9223372036854775808)) ∧ w'.cell? ⟨wz.heap.size, 1, none⟩ = some (.int .u64 0) ∧ (w'.cell? ⟨w.heap.size, 0, none⟩ = some (.int .i64 h1) ∧ w'.cell? ⟨w.heap.size, 1, none⟩ = some (.int .u64 l1) ∧ w'.cell? ⟨w.heap.size + 1, 0, none⟩ = some (.int .i64 h2) ∧ w'.cell? ⟨w.heap.size + 1, 1, none⟩ = some (.int .u64 l2) ∧ w'.cell? ⟨w.heap.size + 1 + 1, 0, none⟩ = some (.int .i64 h3) ∧ w'.cell? ⟨w.heap.size + 1 + 1, 1, none⟩ = some (.int .u64 l3) ∧ Below w.heap.size w w') )
        ((first | exact ⟨by simp [go_sem], by simp [go_sem], by simp [go_sem, a0z, r0z], by simp [go_sem, a1z, r0z], by simp [go_sem, b0z, r1z], by simp [go_sem, b1z, r1z], by simp [go_sem, c0z, r2z], by simp [go_sem, c1z, r2z], by (repeat (first | exact Below.refl _ _ | assumption | refine below_add ?_ _ | (refine below_on ?_ (by assumption)) | refine Below.drew ?_ | refine below_drewN ?_ _ | (refine Below.setCell ?_ (by simp; try omega) _) | (refine below_new ?_ _ (by simp; try omega)) | (refine below_next ?_ (by assumption) (by simp; try omega))))⟩ | exact quad_keep (by assumption) (by assumption)))
        ((first
          | (go_at_call 16; refine (k5 _).mono ?_; rintro e w' ⟨rfl, hb'⟩)
          | (go_at_call 16; refine (k6 _).mono ?_; rintro e w' ⟨rfl, hb'⟩)
          | (go_at_call 10; refine (k7 _).mono ?_; rintro e w' ⟨rfl, hb'⟩)))
    | fail
    all_goals
      rename_i hS
      have hbel := hS.2.2.2.2.2.2.2.2
      go_wp2
      all_goals
        go_ret
        refine ⟨ret_bool ?_, hbel⟩
        first
        | rfl
        | (simp; omega)
  · as_aux_lemma =>
    go_enter Try.func8, Try.ntmps8
    go_wp2_with (first
      | (go_at_call 9; (with_reducible refine (awake_any _).mono ?_); rintro e wz ⟨rfl, hbz⟩; have hTz := Tri.below (by assumption) hbz; have a0z := hTz.a0; have a1z := hTz.a1; have b0z := hTz.b0; have b1z := hTz.b1; have c0z := hTz.c0; have c1z := hTz.c1; obtain ⟨r0z, r1z, r2z⟩ := hTz.room)
      | (go_at_call 10; (first | (with_reducible refine (k1 _).mono ?_) | (with_reducible refine (k2 _).mono ?_) | (with_reducible refine (k3 _).mono ?_) | (with_reducible refine (k4 _).mono ?_)); rintro e wz ⟨rfl, hbz⟩; have hTz := Tri.below (by assumption) hbz; have a0z := hTz.a0; have a1z := hTz.a1; have b0z := hTz.b0; have b1z := hTz.b1; have c0z := hTz.c0; have c1z := hTz.c1; obtain ⟨r0z, r1z, r2z⟩ := hTz.room))
    go_quiet (fail)
    go_wp2
    go_ret
    exact ⟨rfl, by (repeat (first | exact Below.refl _ _ | assumption | refine below_add ?_ _ | (refine below_on ?_ (by assumption)) | refine Below.drew ?_ | refine below_drewN ?_ _ | (refine Below.setCell ?_ (by simp; try omega) _) | (refine below_new ?_ _ (by simp; try omega)) | (refine below_next ?_ (by assumption) (by simp; try omega))))⟩
  · as_aux_lemma =>
    go_enter Try.func8, Try.ntmps8
    go_wp2_with (first
      | (go_at_call 9; (with_reducible refine (awake_any _).mono ?_); rintro e wz ⟨rfl, hbz⟩; have hTz := Tri.below (by assumption) hbz; have a0z := hTz.a0; have a1z := hTz.a1; have b0z := hTz.b0; have b1z := hTz.b1; have c0z := hTz.c0; have c1z := hTz.c1; obtain ⟨r0z, r1z, r2z⟩ := hTz.room)
      | (go_at_call 10; (first | (with_reducible refine (k1 _).mono ?_) | (with_reducible refine (k2 _).mono ?_) | (with_reducible refine (k3 _).mono ?_) | (with_reducible refine (k4 _).mono ?_)); rintro e wz ⟨rfl, hbz⟩; have hTz := Tri.below (by assumption) hbz; have a0z := hTz.a0; have a1z := hTz.a1; have b0z := hTz.b0; have b1z := hTz.b1; have c0z := hTz.c0; have c1z := hTz.c1; obtain ⟨r0z, r1z, r2z⟩ := hTz.room))
    first
    | go_region_held3 (fun w' => w'.cell? ⟨wz.heap.size, 0, none⟩ = some (.int .i64 (-9223372036854775808)) ∧ w'.cell? ⟨wz.heap.size, 1, none⟩ = some (.int .u64 0) ∧ (w'.cell? ⟨w.heap.size, 0, none⟩ = some (.int .i64 h1) ∧ w'.cell? ⟨w.heap.size, 1, none⟩ = some (.int .u64 l1) ∧ w'.cell? ⟨w.heap.size + 1, 0, none⟩ = some (.int .i64 h2) ∧ w'.cell? ⟨w.heap.size + 1, 1, none⟩ = some (.int .u64 l2) ∧ w'.cell? ⟨w.heap.size + 1 + 1, 0, none⟩ = some (.int .i64 h3) ∧ w'.cell? ⟨w.heap.size + 1 + 1, 1, none⟩ = some (.int .u64 l3) ∧ Below w.heap.size w w') )
        ((first | exact ⟨by simp [go_sem], by simp [go_sem], by simp [go_sem, a0z, r0z], by simp [go_sem, a1z, r0z], by simp [go_sem, b0z, r1z], by simp [go_sem, b1z, r1z], by simp [go_sem, c0z, r2z], by simp [go_sem, c1z, r2z], by (repeat (first | exact Below.refl _ _ | assumption | refine below_add ?_ _ | (refine below_on ?_ (by assumption)) | refine Below.drew ?_ | refine below_drewN ?_ _ | (refine Below.setCell ?_ (by simp; try omega) _) | (refine below_new ?_ _ (by simp; try omega)) | (refine below_next ?_ (by assumption) (by simp; try omega))))⟩ | exact quad_keep (by assumption) (by assumption)))
        ((first
          | (go_at_call 16; refine (k5 _).mono ?_; rintro e w' ⟨rfl, hb'⟩)
          | (go_at_call 16; refine (k6 _).mono ?_; rintro e w' ⟨rfl, hb'⟩)
          | (go_at_call 10; refine (k7 _).mono ?_; rintro e w' ⟨rfl, hb'⟩)))
    | fail
    all_goals
      rename_i hS
      have hbel := hS.2.2.2.2.2.2.2.2
      go_wp2
      all_goals
        go_ret
        refine ⟨ret_bool ?_, hbel⟩
        first
        | rfl
        | (simp; omega)

theorem walk (h1 l1 h2 l2 h3 l3 : Int) (w : World) (A : ∃ a, Rep h1 l1 a) (B : ∃ b, Rep h2 l2 b) (C : ∃ c, Rep h3 l3 c) :
    Calls Try.prog 8 #[.agg #[.int .i64 (h1), .int .u64 (l1)], .agg #[.int .i64 (h2), .int .u64 (l2)], .agg #[.int .i64 (h3), .int .u64 (l3)]] w fun e w' => e = .returned (.bool true) ∧ Below w.heap.size w w' := by
  obtain ⟨a, A⟩ := A
  obtain ⟨b, B⟩ := B
  obtain ⟨c, C⟩ := C
  exact core h1 l1 h2 l2 h3 l3 a b c _ _ _ _ _ _ _ w A B C ⟨rfl, rfl, rfl, rfl, rfl, rfl, rfl⟩
end Go.Proofs.Ytafgfpppemdedaa.wideOrder
