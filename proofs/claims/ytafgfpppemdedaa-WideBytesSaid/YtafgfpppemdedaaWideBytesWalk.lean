/- The walk of law WideBytes: it returns true and turns nothing that was there. -/
import Derived.Test.YtafgfpppemdedaaWideBytes
namespace Go.Proofs.Ytafgfpppemdedaa.wideBytes
open Go.RowKit Go.Proofs.Ytafgfpppemdedaa Go.Proofs.Ytafgfpppemdedaa.Wd

/-- A text is cut to at most n bytes. -/
theorem short_is (s : ByteArray) (n : Nat) (m : Int) (hm : m = (n : Int)) (hn : n ≤ 2000) : ∃ t : ByteArray, t.size ≤ n ∧
    ∀ w, Calls Try.prog 22 #[.string s, .int .i64 m] w fun e w' => e = .returned (.string t) ∧ w = w' := by
  by_cases h : n < s.size
  · refine ⟨s.extract 0 n, ?_, fun w => ?_⟩
    · simp; omega
    subst hm
    go_enter Try.func22, Try.ntmps22
    go_wp2
    go_ret
    exact ⟨rfl, rfl⟩
  · refine ⟨s, by omega, fun w => ?_⟩
    subst hm
    go_enter Try.func22, Try.ntmps22
    go_wp2
    go_ret
    exact ⟨rfl, rfl⟩

theorem tailv_inj {d e : Nat → Int} (hd : ∀ i, 0 ≤ d i ∧ d i ≤ 255) (he : ∀ i, 0 ≤ e i ∧ e i ≤ 255) (h : tailv d 16 = tailv e 16) : ∀ k, k ≤ 16 → ∀ i, i < k → d i = e i
  | 0, _, i, hi => absurd hi (by omega)
  | k + 1, hk, i, hi => by
    have ih := tailv_inj hd he h k (by omega)
    by_cases e1 : i = k
    · subst e1
      rcases Int.lt_trichotomy (d i) (e i) with x | x | x
      · have := first_lt hd he i (by omega) ih x; omega
      · exact x
      · have := first_lt he hd i (by omega) (fun j hj => (ih j hj).symm) x; omega
    · exact ih i (by omega)
theorem sb_wideB (h l : Int) (i : Nat) (hi : i < 16) : sb (wideB h l) i = dg h l i := by
  unfold sb
  have : (wideB h l).data.toList.getD i 0 = UInt8.ofNat (dg h l i).toNat := by
    unfold wideB
    rw [List.getD_eq_getElem?_getD]; simp [hi]
  rw [this, dg_byte]
theorem wideB_size (h l : Int) : (wideB h l).size = 16 := by unfold wideB; rw [size_list]; simp
theorem read_wideB {h l a : Int} (A : Rep h l a) : Hid (ReadIs (wideB h l) h l 0) := by
  show ReadIs _ _ _ _
  unfold ReadIs
  rw [if_pos (wideB_size h l)]
  have e : tailv (sb (wideB h l)) 16 = tailv (dg h l) 16 := tailv_congr 16 (fun m hm => sb_wideB h l (15 - m) (by omega))
  rw [e, sm_eq (tailv_dg A), sm_self A.inW]
  exact ⟨A, rfl⟩
theorem bytes_back {t : ByteArray} {x y : Int} (h16 : t.size = 16) (R : Rep x y (sm (tailv (sb t) 16))) : wideB x y = t := by
  have e1 := tailv_dg_eq (h := x) R.l0 R.l1
  have hr := tailv_range (sb_range t) 16
  have e2 : (256 : Int) ^ 16 = 340282366920938463463374607431768211456 := by decide
  rw [e2] at hr
  have e3 : tailv (dg x y) 16 = tailv (sb t) 16 := by
    have hc := sm_cong (tailv (sb t) 16)
    obtain ⟨p1, p2, p3, p4, p5⟩ := R
    obtain ⟨k, hk⟩ := hc
    omega
  have h := tailv_inj (dg_range x y) (sb_range t) e3 16 (Nat.le_refl _)
  apply ByteArray.ext
  apply Array.toList_inj.1
  apply List.ext_getElem
  · rw [← size_list, ← size_list, wideB_size, h16]
  · intro i h1 h2
    have hi : i < 16 := by rw [← size_list, wideB_size] at h1; exact h1
    have g1 := h i hi
    rw [← sb_wideB x y i hi] at g1
    unfold sb at g1
    rw [List.getD_eq_getElem?_getD, List.getD_eq_getElem?_getD, List.getElem?_eq_getElem h1, List.getElem?_eq_getElem h2] at g1
    apply UInt8.toNat_inj.1
    have g2 : (((wideB x y).data.toList[i].toNat : Nat) : Int) = ((t.data.toList[i].toNat : Nat) : Int) := g1
    omega
/-- What Read answers. -/
theorem read_some (t : ByteArray) : ∃ x y er, ReadIs t x y er ∧ ((er = 10) ∨ (er = 0 ∧ wideB x y = t)) := by
  by_cases h : t.size = 16
  · obtain ⟨x, y, R⟩ := rep_sm (tailv (sb t) 16)
    exact ⟨x, y, 0, by unfold ReadIs; rw [if_pos h]; exact ⟨R, rfl⟩, Or.inr ⟨rfl, bytes_back h R⟩⟩
  · exact ⟨0, 0, 10, by unfold ReadIs; rw [if_neg h]; exact ⟨rfl, rfl, rfl⟩, Or.inl rfl⟩

theorem four_keep {w w1 w2 : World} {b1 b2 b3 b4 : Nat} {x1 y1 x2 y2 x3 y3 x4 y4 : Value} (hb : Below w1.heap.size w1 w2)
    (h : w1.cell? ⟨b1, 0, none⟩ = some x1 ∧ w1.cell? ⟨b1, 1, none⟩ = some y1 ∧ w1.cell? ⟨b2, 0, none⟩ = some x2 ∧ w1.cell? ⟨b2, 1, none⟩ = some y2 ∧ w1.cell? ⟨b3, 0, none⟩ = some x3 ∧ w1.cell? ⟨b3, 1, none⟩ = some y3 ∧ w1.cell? ⟨b4, 0, none⟩ = some x4 ∧ w1.cell? ⟨b4, 1, none⟩ = some y4 ∧ Below w.heap.size w w1) :
    w2.cell? ⟨b1, 0, none⟩ = some x1 ∧ w2.cell? ⟨b1, 1, none⟩ = some y1 ∧ w2.cell? ⟨b2, 0, none⟩ = some x2 ∧ w2.cell? ⟨b2, 1, none⟩ = some y2 ∧ w2.cell? ⟨b3, 0, none⟩ = some x3 ∧ w2.cell? ⟨b3, 1, none⟩ = some y3 ∧ w2.cell? ⟨b4, 0, none⟩ = some x4 ∧ w2.cell? ⟨b4, 1, none⟩ = some y4 ∧ Below w.heap.size w w2 := by
  obtain ⟨g1, g2, g3, g4, g5, g6, g7, g8, g9⟩ := h
  have k : ∀ (b o : Nat) (v : Value), w1.cell? ⟨b, o, none⟩ = some v → w2.cell? ⟨b, o, none⟩ = some v := fun b o v hv => (hb.cell (p := ⟨b, o, none⟩) (World.block_lt_of_cell? w1 _ hv)).trans hv
  exact ⟨k _ _ _ g1, k _ _ _ g2, k _ _ _ g3, k _ _ _ g4, k _ _ _ g5, k _ _ _ g6, k _ _ _ g7, k _ _ _ g8, below_on g9 hb⟩

set_option maxHeartbeats 8000000 in
theorem core (h l a : Int) (s : ByteArray) (w : World) (A : Rep h l a) :
    Calls Try.prog 5 #[.agg #[.int .i64 (h), .int .u64 (l)], .string s] w fun e w' => e = .returned (.bool true) ∧ Below w.heap.size w w' := by
  obtain ⟨t, ht, k1⟩ := short_is s 20 20 rfl (by decide)
  obtain ⟨x, y, er, hR, her⟩ := read_some t
  have hR : Hid (ReadIs t x y er) := hR
  obtain ⟨u, hu⟩ : ∃ u, wideB h l = u := ⟨_, rfl⟩
  have hRu : Hid (ReadIs u h l 0) := by rw [← hu]; exact read_wideB A
  have k2 := fun w => read_is t x y er w hR
  have k3 := fun w => refRead_is t x y er w hR
  have k4 := fun w => bytes_is h l u w hu
  have k5 := fun w => refBytes_is h l u w A.l0 A.l1 hu
  have k6 := fun w => read_is u h l 0 w hRu
  have q1 : ∀ w, (binOp .eql 24 (.agg #[.int .i64 (x), .int .u64 (y)]) (.agg #[.int .i64 (x), .int .u64 (y)])).run Try.prog w = .ok (.bool true) w := fun w => by rw [eql_run]; simp
  have q2 := eql_is A A true (by show _ = _; simp)
  have hA0 := WideAt.new w h l 24
  clear A hR hRu hu ht
  rcases her with rfl | ⟨rfl, hb⟩
  · as_aux_lemma =>
    go_enter Try.func5, Try.ntmps5
    go_wp2_with (first
      | (go_at_call 9; (with_reducible refine (awake_any _).mono ?_); rintro e w1 ⟨rfl, hb1⟩; have hA1 := hA0.below hb1)
      | (go_at_call 22; (with_reducible refine (k1 _).mono ?_); rintro e w1' ⟨rfl, rfl⟩)
      | (go_at_call 29; (with_reducible refine (k2 _).mono ?_); rintro e w2 ⟨rfl, hb2⟩; have hA2 := (hA1.below hb2).alloc (.cells #[.int .i64 x, .int .u64 y] 24); have hB2 := WideAt.new w2 x y 24)
      | (go_at_call 30; (with_reducible refine (k3 _).mono ?_); rintro e w3 ⟨rfl, hb3⟩; have hA3 := (hA2.below hb3).alloc (.cells #[.int .i64 x, .int .u64 y] 24); have hB3 := (hB2.below hb3).alloc (.cells #[.int .i64 x, .int .u64 y] 24); have hC3 := WideAt.new w3 x y 24; have p0 := hA3.c0; have p1 := hA3.c1)
      | (go_at_call 31; (with_reducible refine (k4 _).mono ?_); rintro e w4 ⟨rfl, hb4⟩; have hA4 := hA3.below hb4; have hB4 := hB3.below hb4; have hC4 := hC3.below hb4)
      | (go_at_call 29; (with_reducible refine (k6 _).mono ?_); rintro e w5 ⟨rfl, hb5⟩; have hA5 := (hA4.below hb5).alloc (.cells #[.int .i64 h, .int .u64 l] 24); have hB5 := (hB4.below hb5).alloc (.cells #[.int .i64 h, .int .u64 l] 24); have hC5 := (hC4.below hb5).alloc (.cells #[.int .i64 h, .int .u64 l] 24); have hD5 := WideAt.new w5 h l 24))
    have e0 := hA5.c0
    have e1 := hA5.c1
    have e2 := hB5.c0
    have e3 := hB5.c1
    have e4 := hC5.c0
    have e5 := hC5.c1
    have e6 := hD5.c0
    have e7 := hD5.c1
    have hbel : Below w.heap.size w (w5.alloc (.cells #[.int .i64 h, .int .u64 l] 24)) := by (repeat (first | exact Below.refl _ _ | assumption | refine below_add ?_ _ | (refine below_on ?_ (by assumption)) | refine Below.drew ?_ | refine below_drewN ?_ _ | (refine Below.setCell ?_ (by simp; try omega) _) | (refine below_new ?_ _ (by simp; try omega)) | (refine below_next ?_ (by assumption) (by simp; try omega))))
    clear k1 k2 k3 k6 hA0 hA1 hA2 hB2 hA3 hB3 hC3 p0 p1 hA4 hB4 hC4 hA5 hB5 hC5 hD5
    refine wp_region_held_drew (S := (fun w' => w'.cell? ⟨w.heap.size, 0, none⟩ = some (.int .i64 h) ∧ w'.cell? ⟨w.heap.size, 1, none⟩ = some (.int .u64 l) ∧ w'.cell? ⟨w2.heap.size, 0, none⟩ = some (.int .i64 x) ∧ w'.cell? ⟨w2.heap.size, 1, none⟩ = some (.int .u64 y) ∧ w'.cell? ⟨w3.heap.size, 0, none⟩ = some (.int .i64 x) ∧ w'.cell? ⟨w3.heap.size, 1, none⟩ = some (.int .u64 y) ∧ w'.cell? ⟨w5.heap.size, 0, none⟩ = some (.int .i64 h) ∧ w'.cell? ⟨w5.heap.size, 1, none⟩ = some (.int .u64 l) ∧ Below w.heap.size w w')) (by kernel_rfl) ⟨e0, e1, e2, e3, e4, e5, e6, e7, hbel.drew⟩ (fun hHeld => ?_)
    refine wpAnyH_take (i := 0) (oi := ?zao0) (v := ?zav0) ?zah0 (by kernel_rfl) (by kernel_rfl) (by kernel_rfl) ?zaq0 ?zay0 hHeld ?zar0
    case zah0 => (simp only [List.getElem?_toArray, List.getElem?_cons_zero]; rfl)
    case zaq0 => exact fun _ _ _ h => h
    case zay0 => (refine Or.inl ⟨by rfl, ?_⟩; intro w hSw; (try dsimp only at hSw); go_simp <;> (try with_reducible rfl))
    try simp only [Act.put, List.setIfInBounds_toArray, List.set_cons_zero, List.set_cons_succ]
    refine wpAnyH_take (i := 1) (oi := ?zao1) (v := ?zav1) ?zah1 (by kernel_rfl) (by kernel_rfl) (by kernel_rfl) ?zaq1 ?zay1 hHeld ?zar1
    case zah1 => (simp only [List.getElem?_toArray, List.getElem?_cons_succ, List.getElem?_cons_zero]; rfl)
    case zaq1 => exact fun _ _ _ h => h
    case zay1 => (refine Or.inl ⟨by rfl, ?_⟩; intro w hSw; (try dsimp only at hSw); go_simp <;> (try with_reducible rfl))
    try simp only [Act.put, List.setIfInBounds_toArray, List.set_cons_zero, List.set_cons_succ]
    refine wpAnyH_take (i := 2) (oi := ?zao2) (v := ?zav2) ?zah2 (by kernel_rfl) (by kernel_rfl) (by kernel_rfl) ?zaq2 ?zay2 hHeld ?zar2
    case zah2 => (simp only [List.getElem?_toArray, List.getElem?_cons_succ, List.getElem?_cons_zero]; rfl)
    case zaq2 => exact fun _ _ _ h => h
    case zay2 => (refine Or.inl ⟨by rfl, ?_⟩; intro w hSw; (try dsimp only at hSw); go_simp <;> (try with_reducible rfl))
    try simp only [Act.put, List.setIfInBounds_toArray, List.set_cons_zero, List.set_cons_succ]
    refine wpAnyH_take (i := 4) (oi := ?zao4) (v := ?zav4) ?zah4 (by kernel_rfl) (by kernel_rfl) (by kernel_rfl) ?zaq4 ?zay4 hHeld ?zar4
    case zah4 => (simp only [List.getElem?_toArray, List.getElem?_cons_succ, List.getElem?_cons_zero]; rfl)
    case zaq4 => exact fun _ _ _ h => h
    case zay4 => (refine Or.inl ⟨by rfl, ?_⟩; intro w hSw; (try dsimp only at hSw); go_simp <;> (try with_reducible rfl))
    try simp only [Act.put, List.setIfInBounds_toArray, List.set_cons_zero, List.set_cons_succ]
    refine wpAnyH_ready (rs := [3]) (by kernel_rfl) (by simp) ?_
    refine AllReadyH.cons rfl (fun K hK => ?_) AllReadyH.nil
    go_simp
    ((with_reducible refine (k4 _).mono ?_); rintro e w' ⟨rfl, hb'⟩)
    refine hK.out _ _ (four_keep hb' hHeld) (fun hHeld => ?_)
    clear hK K
    try simp only [Act.put, List.setIfInBounds_toArray, List.set_cons_zero, List.set_cons_succ]
    refine wpAnyH_ready (rs := [5]) (by kernel_rfl) (by simp) ?_
    refine AllReadyH.cons rfl (fun K hK => ?_) AllReadyH.nil
    go_simp
    ((with_reducible refine (k5 _).mono ?_); rintro e w' ⟨rfl, hb'⟩)
    refine hK.out _ _ (four_keep hb' hHeld) (fun hHeld => ?_)
    clear hK K
    try simp only [Act.put, List.setIfInBounds_toArray, List.set_cons_zero, List.set_cons_succ]
    refine wpAnyH_take (i := 6) (oi := ?zao6) (v := ?zav6) ?zah6 (by kernel_rfl) (by kernel_rfl) (by kernel_rfl) ?zaq6 ?zay6 hHeld ?zar6
    case zah6 => (simp only [List.getElem?_toArray, List.getElem?_cons_succ, List.getElem?_cons_zero]; rfl)
    case zaq6 => exact fun _ _ _ h => h
    case zay6 => (refine Or.inl ⟨by rfl, ?_⟩; intro w hSw; (try dsimp only at hSw); go_simp <;> (try with_reducible rfl))
    try simp only [Act.put, List.setIfInBounds_toArray, List.set_cons_zero, List.set_cons_succ]
    refine wpAnyH_take (i := 7) (oi := ?zao7) (v := ?zav7) ?zah7 (by kernel_rfl) (by kernel_rfl) (by kernel_rfl) ?zaq7 ?zay7 hHeld ?zar7
    case zah7 => (simp only [List.getElem?_toArray, List.getElem?_cons_succ, List.getElem?_cons_zero]; rfl)
    case zaq7 => exact fun _ _ _ h => h
    case zay7 => (refine Or.inl ⟨by rfl, ?_⟩; intro w hSw; (try dsimp only at hSw); go_simp <;> (try with_reducible rfl))
    try simp only [Act.put, List.setIfInBounds_toArray, List.set_cons_zero, List.set_cons_succ]
    refine wpAnyH_take (i := 8) (oi := ?zao8) (v := ?zav8) ?zah8 (by kernel_rfl) (by kernel_rfl) (by kernel_rfl) ?zaq8 ?zay8 hHeld ?zar8
    case zah8 => (simp only [List.getElem?_toArray, List.getElem?_cons_succ, List.getElem?_cons_zero]; rfl)
    case zaq8 => exact fun _ _ _ h => h
    case zay8 => (refine Or.inl ⟨by rfl, ?_⟩; intro w hSw; (try dsimp only at hSw); go_simp <;> (try with_reducible rfl))
    try simp only [Act.put, List.setIfInBounds_toArray, List.set_cons_zero, List.set_cons_succ]
    refine wpAnyH_take (i := 9) (oi := ?zao9) (v := ?zav9) ?zah9 (by kernel_rfl) (by kernel_rfl) (by kernel_rfl) ?zaq9 ?zay9 hHeld ?zar9
    case zah9 => (simp only [List.getElem?_toArray, List.getElem?_cons_succ, List.getElem?_cons_zero]; rfl)
    case zaq9 => exact fun _ _ _ h => h
    case zay9 => (refine Or.inl ⟨by rfl, ?_⟩; intro w hSw; (try dsimp only at hSw); go_simp <;> (try with_reducible rfl))
    try simp only [Act.put, List.setIfInBounds_toArray, List.set_cons_zero, List.set_cons_succ]
    refine wpAnyH_take (i := 10) (oi := ?zao10) (v := ?zav10) ?zah10 (by kernel_rfl) (by kernel_rfl) (by kernel_rfl) ?zaq10 ?zay10 hHeld ?zar10
    case zah10 => (simp only [List.getElem?_toArray, List.getElem?_cons_succ, List.getElem?_cons_zero]; rfl)
    case zaq10 => exact fun _ _ _ h => h
    case zay10 => (refine Or.inl ⟨by rfl, ?_⟩; intro w hSw; (try dsimp only at hSw); go_simp <;> (try with_reducible rfl))
    try simp only [Act.put, List.setIfInBounds_toArray, List.set_cons_zero, List.set_cons_succ]
    refine wpAnyH_take (i := 11) (oi := ?zao11) (v := ?zav11) ?zah11 (by kernel_rfl) (by kernel_rfl) (by kernel_rfl) ?zaq11 ?zay11 hHeld ?zar11
    case zah11 => (simp only [List.getElem?_toArray, List.getElem?_cons_succ, List.getElem?_cons_zero]; rfl)
    case zaq11 => exact fun _ _ _ h => h
    case zay11 => (refine Or.inl ⟨by rfl, ?_⟩; intro w hSw; (try dsimp only at hSw); go_simp <;> (try with_reducible rfl))
    try simp only [Act.put, List.setIfInBounds_toArray, List.set_cons_zero, List.set_cons_succ]
    refine wpAnyH_take (i := 12) (oi := ?zao12) (v := ?zav12) ?zah12 (by kernel_rfl) (by kernel_rfl) (by kernel_rfl) ?zaq12 ?zay12 hHeld ?zar12
    case zah12 => (simp only [List.getElem?_toArray, List.getElem?_cons_succ, List.getElem?_cons_zero]; rfl)
    case zaq12 => exact fun _ _ _ h => h
    case zay12 => (refine Or.inl ⟨by rfl, ?_⟩; intro w hSw; (try dsimp only at hSw); go_simp <;> (try with_reducible rfl))
    try simp only [Act.put, List.setIfInBounds_toArray, List.set_cons_zero, List.set_cons_succ]
    refine wpAnyH_take (i := 13) (oi := ?zao13) (v := ?zav13) ?zah13 (by kernel_rfl) (by kernel_rfl) (by kernel_rfl) ?zaq13 ?zay13 hHeld ?zar13
    case zah13 => (simp only [List.getElem?_toArray, List.getElem?_cons_succ, List.getElem?_cons_zero]; rfl)
    case zaq13 => exact fun _ _ _ h => h
    case zay13 => (refine Or.inl ⟨by rfl, ?_⟩; intro w hSw; (try dsimp only at hSw); go_simp <;> (try with_reducible rfl))
    try simp only [Act.put, List.setIfInBounds_toArray, List.set_cons_zero, List.set_cons_succ]
    refine wpAnyH_take (i := 14) (oi := ?zao14) (v := ?zav14) ?zah14 (by kernel_rfl) (by kernel_rfl) (by kernel_rfl) ?zaq14 ?zay14 hHeld ?zar14
    case zah14 => (simp only [List.getElem?_toArray, List.getElem?_cons_succ, List.getElem?_cons_zero]; rfl)
    case zaq14 => exact fun _ _ _ h => h
    case zay14 => (refine Or.inl ⟨by rfl, ?_⟩; intro w hSw; (try dsimp only at hSw); go_simp <;> (try with_reducible rfl))
    try simp only [Act.put, List.setIfInBounds_toArray, List.set_cons_zero, List.set_cons_succ]
    refine wpAnyH_take (i := 15) (oi := ?zao15) (v := ?zav15) ?zah15 (by kernel_rfl) (by kernel_rfl) (by kernel_rfl) ?zaq15 ?zay15 hHeld ?zar15
    case zah15 => (simp only [List.getElem?_toArray, List.getElem?_cons_succ, List.getElem?_cons_zero]; rfl)
    case zaq15 => exact fun _ _ _ h => h
    case zay15 => (refine Or.inl ⟨by rfl, ?_⟩; intro w hSw; (try dsimp only at hSw); go_simp <;> (try with_reducible rfl))
    try simp only [Act.put, List.setIfInBounds_toArray, List.set_cons_zero, List.set_cons_succ]
    refine wpAnyH_take (i := 16) (oi := ?zao16) (v := ?zav16) ?zah16 (by kernel_rfl) (by kernel_rfl) (by kernel_rfl) ?zaq16 ?zay16 hHeld ?zar16
    case zah16 => (simp only [List.getElem?_toArray, List.getElem?_cons_succ, List.getElem?_cons_zero]; rfl)
    case zaq16 => exact fun _ _ _ h => h
    case zay16 => (refine Or.inl ⟨by rfl, ?_⟩; intro w hSw; (try dsimp only at hSw); go_simp <;> (try with_reducible rfl))
    try simp only [Act.put, List.setIfInBounds_toArray, List.set_cons_zero, List.set_cons_succ]
    refine wpAnyH_take (i := 17) (oi := ?zao17) (v := ?zav17) ?zah17 (by kernel_rfl) (by kernel_rfl) (by kernel_rfl) ?zaq17 ?zay17 hHeld ?zar17
    case zah17 => (simp only [List.getElem?_toArray, List.getElem?_cons_succ, List.getElem?_cons_zero]; rfl)
    case zaq17 => exact fun _ _ _ h => h
    case zay17 => (refine Or.inl ⟨by rfl, ?_⟩; intro w hSw; (try dsimp only at hSw); go_simp <;> (try with_reducible rfl))
    try simp only [Act.put, List.setIfInBounds_toArray, List.set_cons_zero, List.set_cons_succ]
    refine wpAnyH_take (i := 18) (oi := ?zao18) (v := ?zav18) ?zah18 (by kernel_rfl) (by kernel_rfl) (by kernel_rfl) ?zaq18 ?zay18 hHeld ?zar18
    case zah18 => (simp only [List.getElem?_toArray, List.getElem?_cons_succ, List.getElem?_cons_zero]; rfl)
    case zaq18 => exact fun _ _ _ h => h
    case zay18 => (refine Or.inl ⟨by rfl, ?_⟩; intro w hSw; (try dsimp only at hSw); go_simp <;> (try with_reducible rfl))
    try simp only [Act.put, List.setIfInBounds_toArray, List.set_cons_zero, List.set_cons_succ]
    refine wpAnyH_take (i := 19) (oi := ?zao19) (v := ?zav19) ?zah19 (by kernel_rfl) (by kernel_rfl) (by kernel_rfl) ?zaq19 ?zay19 hHeld ?zar19
    case zah19 => (simp only [List.getElem?_toArray, List.getElem?_cons_succ, List.getElem?_cons_zero]; rfl)
    case zaq19 => exact fun _ _ _ h => h
    case zay19 => (refine Or.inl ⟨by rfl, ?_⟩; intro w hSw; (try dsimp only at hSw); go_simp <;> (try with_reducible rfl))
    try simp only [Act.put, List.setIfInBounds_toArray, List.set_cons_zero, List.set_cons_succ]
    refine wpAnyH_take (i := 20) (oi := ?zao20) (v := ?zav20) ?zah20 (by kernel_rfl) (by kernel_rfl) (by kernel_rfl) ?zaq20 ?zay20 hHeld ?zar20
    case zah20 => (simp only [List.getElem?_toArray, List.getElem?_cons_succ, List.getElem?_cons_zero]; rfl)
    case zaq20 => exact fun _ _ _ h => h
    case zay20 => (refine Or.inl ⟨by rfl, ?_⟩; intro w hSw; (try dsimp only at hSw); go_simp <;> (try with_reducible rfl))
    try simp only [Act.put, List.setIfInBounds_toArray, List.set_cons_zero, List.set_cons_succ]
    refine wpAnyH_take (i := 21) (oi := ?zao21) (v := ?zav21) ?zah21 (by kernel_rfl) (by kernel_rfl) (by kernel_rfl) ?zaq21 ?zay21 hHeld ?zar21
    case zah21 => (simp only [List.getElem?_toArray, List.getElem?_cons_succ, List.getElem?_cons_zero]; rfl)
    case zaq21 => exact fun _ _ _ h => h
    case zay21 => (refine Or.inl ⟨by rfl, ?_⟩; intro w hSw; (try dsimp only at hSw); go_simp <;> (try with_reducible rfl))
    try simp only [Act.put, List.setIfInBounds_toArray, List.set_cons_zero, List.set_cons_succ]
    refine wpAnyH_take (i := 22) (oi := ?zao22) (v := ?zav22) ?zah22 (by kernel_rfl) (by kernel_rfl) (by kernel_rfl) ?zaq22 ?zay22 hHeld ?zar22
    case zah22 => (simp only [List.getElem?_toArray, List.getElem?_cons_succ, List.getElem?_cons_zero]; rfl)
    case zaq22 => exact fun _ _ _ h => h
    case zay22 => (refine Or.inl ⟨by rfl, ?_⟩; intro w hSw; (try dsimp only at hSw); go_simp <;> (try with_reducible rfl))
    try simp only [Act.put, List.setIfInBounds_toArray, List.set_cons_zero, List.set_cons_succ]
    refine wpAnyH_take (i := 23) (oi := ?zao23) (v := ?zav23) ?zah23 (by kernel_rfl) (by kernel_rfl) (by kernel_rfl) ?zaq23 ?zay23 hHeld ?zar23
    case zah23 => (simp only [List.getElem?_toArray, List.getElem?_cons_succ, List.getElem?_cons_zero]; rfl)
    case zaq23 => exact fun _ _ _ h => h
    case zay23 => (refine Or.inl ⟨by rfl, ?_⟩; intro w hSw; (try dsimp only at hSw); go_simp <;> (try with_reducible rfl))
    try simp only [Act.put, List.setIfInBounds_toArray, List.set_cons_zero, List.set_cons_succ]
    refine wpAnyH_take (i := 24) (oi := ?zao24) (v := ?zav24) ?zah24 (by kernel_rfl) (by kernel_rfl) (by kernel_rfl) ?zaq24 ?zay24 hHeld ?zar24
    case zah24 => (simp only [List.getElem?_toArray, List.getElem?_cons_succ, List.getElem?_cons_zero]; rfl)
    case zaq24 => exact fun _ _ _ h => h
    case zay24 => (refine Or.inl ⟨by rfl, ?_⟩; intro w hSw; (try dsimp only at hSw); go_simp <;> (try with_reducible rfl))
    try simp only [Act.put, List.setIfInBounds_toArray, List.set_cons_zero, List.set_cons_succ]
    refine wpAnyH_take (i := 25) (oi := ?zao25) (v := ?zav25) ?zah25 (by kernel_rfl) (by kernel_rfl) (by kernel_rfl) ?zaq25 ?zay25 hHeld ?zar25
    case zah25 => (simp only [List.getElem?_toArray, List.getElem?_cons_succ, List.getElem?_cons_zero]; rfl)
    case zaq25 => exact fun _ _ _ h => h
    case zay25 => (refine Or.inl ⟨by rfl, ?_⟩; intro w hSw; (try dsimp only at hSw); go_simp <;> (try with_reducible rfl))
    try simp only [Act.put, List.setIfInBounds_toArray, List.set_cons_zero, List.set_cons_succ]
    refine wpAnyH_take (i := 26) (oi := ?zao26) (v := ?zav26) ?zah26 (by kernel_rfl) (by kernel_rfl) (by kernel_rfl) ?zaq26 ?zay26 hHeld ?zar26
    case zah26 => (simp only [List.getElem?_toArray, List.getElem?_cons_succ, List.getElem?_cons_zero]; rfl)
    case zaq26 => exact fun _ _ _ h => h
    case zay26 => (refine Or.inl ⟨by rfl, ?_⟩; intro w hSw; (try dsimp only at hSw); go_simp <;> (try with_reducible rfl))
    try simp only [Act.put, List.setIfInBounds_toArray, List.set_cons_zero, List.set_cons_succ]
    refine wpAnyH_take (i := 27) (oi := ?zao27) (v := ?zav27) ?zah27 (by kernel_rfl) (by kernel_rfl) (by kernel_rfl) ?zaq27 ?zay27 hHeld ?zar27
    case zah27 => (simp only [List.getElem?_toArray, List.getElem?_cons_succ, List.getElem?_cons_zero]; rfl)
    case zaq27 => exact fun _ _ _ h => h
    case zay27 => (refine Or.inl ⟨by rfl, ?_⟩; intro w hSw; (try dsimp only at hSw); go_simp <;> (try with_reducible rfl))
    try simp only [Act.put, List.setIfInBounds_toArray, List.set_cons_zero, List.set_cons_succ]
    refine wpAnyH_take (i := 28) (oi := ?zao28) (v := ?zav28) ?zah28 (by kernel_rfl) (by kernel_rfl) (by kernel_rfl) ?zaq28 ?zay28 hHeld ?zar28
    case zah28 => (simp only [List.getElem?_toArray, List.getElem?_cons_succ, List.getElem?_cons_zero]; rfl)
    case zaq28 => exact fun _ _ _ h => h
    case zay28 => (refine Or.inl ⟨by rfl, ?_⟩; intro w hSw; (try dsimp only at hSw); go_simp <;> (try with_reducible rfl))
    try simp only [Act.put, List.setIfInBounds_toArray, List.set_cons_zero, List.set_cons_succ]
    refine wpAnyH_take (i := 29) (oi := ?zao29) (v := ?zav29) ?zah29 (by kernel_rfl) (by kernel_rfl) (by kernel_rfl) ?zaq29 ?zay29 hHeld ?zar29
    case zah29 => (simp only [List.getElem?_toArray, List.getElem?_cons_succ, List.getElem?_cons_zero]; rfl)
    case zaq29 => exact fun _ _ _ h => h
    case zay29 => (refine Or.inl ⟨by rfl, ?_⟩; intro w hSw; (try dsimp only at hSw); go_simp <;> (try with_reducible rfl))
    try simp only [Act.put, List.setIfInBounds_toArray, List.set_cons_zero, List.set_cons_succ]
    refine wpAnyH_take (i := 30) (oi := ?zao30) (v := ?zav30) ?zah30 (by kernel_rfl) (by kernel_rfl) (by kernel_rfl) ?zaq30 ?zay30 hHeld ?zar30
    case zah30 => (simp only [List.getElem?_toArray, List.getElem?_cons_succ, List.getElem?_cons_zero]; rfl)
    case zaq30 => exact fun _ _ _ h => h
    case zay30 => (refine Or.inl ⟨by rfl, ?_⟩; intro w hSw; (try dsimp only at hSw); go_simp <;> (try with_reducible rfl))
    try simp only [Act.put, List.setIfInBounds_toArray, List.set_cons_zero, List.set_cons_succ]
    refine wpAnyH_take (i := 31) (oi := ?zao31) (v := undef) ?zah31 (by kernel_rfl) (by kernel_rfl) (by kernel_rfl) ?zaq31 ?zay31 hHeld ?zar31
    case zah31 => (simp only [List.getElem?_toArray, List.getElem?_cons_succ, List.getElem?_cons_zero]; rfl)
    case zaq31 => exact fun _ _ _ h => h
    case zay31 => exact Or.inr ⟨by rfl, rfl⟩
    try simp only [Act.put, List.setIfInBounds_toArray, List.set_cons_zero, List.set_cons_succ]
    refine wpAnyH_take (i := 32) (oi := ?zao32) (v := undef) ?zah32 (by kernel_rfl) (by kernel_rfl) (by kernel_rfl) ?zaq32 ?zay32 hHeld ?zar32
    case zah32 => (simp only [List.getElem?_toArray, List.getElem?_cons_succ, List.getElem?_cons_zero]; rfl)
    case zaq32 => exact fun _ _ _ h => h
    case zay32 => exact Or.inr ⟨by rfl, rfl⟩
    try simp only [Act.put, List.setIfInBounds_toArray, List.set_cons_zero, List.set_cons_succ]
    refine wpAnyH_take (i := 33) (oi := ?zao33) (v := undef) ?zah33 (by kernel_rfl) (by kernel_rfl) (by kernel_rfl) ?zaq33 ?zay33 hHeld ?zar33
    case zah33 => (simp only [List.getElem?_toArray, List.getElem?_cons_succ, List.getElem?_cons_zero]; rfl)
    case zaq33 => exact fun _ _ _ h => h
    case zay33 => exact Or.inr ⟨by rfl, rfl⟩
    try simp only [Act.put, List.setIfInBounds_toArray, List.set_cons_zero, List.set_cons_succ]
    refine wpAnyH_take (i := 34) (oi := ?zao34) (v := undef) ?zah34 (by kernel_rfl) (by kernel_rfl) (by kernel_rfl) ?zaq34 ?zay34 hHeld ?zar34
    case zah34 => (simp only [List.getElem?_toArray, List.getElem?_cons_succ, List.getElem?_cons_zero]; rfl)
    case zaq34 => exact fun _ _ _ h => h
    case zay34 => exact Or.inr ⟨by rfl, rfl⟩
    try simp only [Act.put, List.setIfInBounds_toArray, List.set_cons_zero, List.set_cons_succ]
    refine wpAnyH_take (i := 35) (oi := ?zao35) (v := ?zav35) ?zah35 (by kernel_rfl) (by kernel_rfl) (by kernel_rfl) ?zaq35 ?zay35 hHeld ?zar35
    case zah35 => (simp only [List.getElem?_toArray, List.getElem?_cons_succ, List.getElem?_cons_zero]; rfl)
    case zaq35 => exact fun _ _ _ h => h
    case zay35 => (refine Or.inl ⟨by rfl, ?_⟩; intro w hSw; (try dsimp only at hSw); go_simp <;> (try with_reducible rfl))
    try simp only [Act.put, List.setIfInBounds_toArray, List.set_cons_zero, List.set_cons_succ]
    refine wpAnyH_take (i := 36) (oi := ?zao36) (v := ?zav36) ?zah36 (by kernel_rfl) (by kernel_rfl) (by kernel_rfl) ?zaq36 ?zay36 hHeld ?zar36
    case zah36 => (simp only [List.getElem?_toArray, List.getElem?_cons_succ, List.getElem?_cons_zero]; rfl)
    case zaq36 => exact fun _ _ _ h => h
    case zay36 => (refine Or.inl ⟨by rfl, ?_⟩; intro w hSw; (try dsimp only at hSw); go_simp <;> (try with_reducible rfl))
    try simp only [Act.put, List.setIfInBounds_toArray, List.set_cons_zero, List.set_cons_succ]
    refine wpAnyH_take (i := 37) (oi := ?zao37) (v := ?zav37) ?zah37 (by kernel_rfl) (by kernel_rfl) (by kernel_rfl) ?zaq37 ?zay37 hHeld ?zar37
    case zah37 => (simp only [List.getElem?_toArray, List.getElem?_cons_succ, List.getElem?_cons_zero]; rfl)
    case zaq37 => exact fun _ _ _ h => h
    case zay37 => (refine Or.inl ⟨by rfl, ?_⟩; intro w hSw; (try dsimp only at hSw); go_simp <;> (try with_reducible rfl))
    try simp only [Act.put, List.setIfInBounds_toArray, List.set_cons_zero, List.set_cons_succ]
    refine wpAnyH_done (by kernel_rfl) ?_ _
    have hbel := hHeld.2.2.2.2.2.2.2.2
    go_wp2
    go_ret
    refine ⟨ret_bool ?_, hbel⟩
    first
    | rfl
    | (simp [*])
  · have k7 := fun w => bytes_is x y t w hb
    as_aux_lemma =>
    go_enter Try.func5, Try.ntmps5
    go_wp2_with (first
      | (go_at_call 9; (with_reducible refine (awake_any _).mono ?_); rintro e w1 ⟨rfl, hb1⟩; have hA1 := hA0.below hb1)
      | (go_at_call 22; (with_reducible refine (k1 _).mono ?_); rintro e w1' ⟨rfl, rfl⟩)
      | (go_at_call 29; (with_reducible refine (k2 _).mono ?_); rintro e w2 ⟨rfl, hb2⟩; have hA2 := (hA1.below hb2).alloc (.cells #[.int .i64 x, .int .u64 y] 24); have hB2 := WideAt.new w2 x y 24)
      | (go_at_call 30; (with_reducible refine (k3 _).mono ?_); rintro e w3 ⟨rfl, hb3⟩; have hA3 := (hA2.below hb3).alloc (.cells #[.int .i64 x, .int .u64 y] 24); have hB3 := (hB2.below hb3).alloc (.cells #[.int .i64 x, .int .u64 y] 24); have hC3 := WideAt.new w3 x y 24; have p0 := hA3.c0; have p1 := hA3.c1)
      | (go_at_call 31; (with_reducible refine (k4 _).mono ?_); rintro e w4 ⟨rfl, hb4⟩; have hA4 := hA3.below hb4; have hB4 := hB3.below hb4; have hC4 := hC3.below hb4)
      | (go_at_call 29; (with_reducible refine (k6 _).mono ?_); rintro e w5 ⟨rfl, hb5⟩; have hA5 := (hA4.below hb5).alloc (.cells #[.int .i64 h, .int .u64 l] 24); have hB5 := (hB4.below hb5).alloc (.cells #[.int .i64 h, .int .u64 l] 24); have hC5 := (hC4.below hb5).alloc (.cells #[.int .i64 h, .int .u64 l] 24); have hD5 := WideAt.new w5 h l 24))
    have e0 := hA5.c0
    have e1 := hA5.c1
    have e2 := hB5.c0
    have e3 := hB5.c1
    have e4 := hC5.c0
    have e5 := hC5.c1
    have e6 := hD5.c0
    have e7 := hD5.c1
    have hbel : Below w.heap.size w (w5.alloc (.cells #[.int .i64 h, .int .u64 l] 24)) := by (repeat (first | exact Below.refl _ _ | assumption | refine below_add ?_ _ | (refine below_on ?_ (by assumption)) | refine Below.drew ?_ | refine below_drewN ?_ _ | (refine Below.setCell ?_ (by simp; try omega) _) | (refine below_new ?_ _ (by simp; try omega)) | (refine below_next ?_ (by assumption) (by simp; try omega))))
    clear k1 k2 k3 k6 hA0 hA1 hA2 hB2 hA3 hB3 hC3 p0 p1 hA4 hB4 hC4 hA5 hB5 hC5 hD5
    refine wp_region_held_drew (S := (fun w' => w'.cell? ⟨w.heap.size, 0, none⟩ = some (.int .i64 h) ∧ w'.cell? ⟨w.heap.size, 1, none⟩ = some (.int .u64 l) ∧ w'.cell? ⟨w2.heap.size, 0, none⟩ = some (.int .i64 x) ∧ w'.cell? ⟨w2.heap.size, 1, none⟩ = some (.int .u64 y) ∧ w'.cell? ⟨w3.heap.size, 0, none⟩ = some (.int .i64 x) ∧ w'.cell? ⟨w3.heap.size, 1, none⟩ = some (.int .u64 y) ∧ w'.cell? ⟨w5.heap.size, 0, none⟩ = some (.int .i64 h) ∧ w'.cell? ⟨w5.heap.size, 1, none⟩ = some (.int .u64 l) ∧ Below w.heap.size w w')) (by kernel_rfl) ⟨e0, e1, e2, e3, e4, e5, e6, e7, hbel.drew⟩ (fun hHeld => ?_)
    refine wpAnyH_take (i := 0) (oi := ?zbo0) (v := ?zbv0) ?zbh0 (by kernel_rfl) (by kernel_rfl) (by kernel_rfl) ?zbq0 ?zby0 hHeld ?zbr0
    case zbh0 => (simp only [List.getElem?_toArray, List.getElem?_cons_zero]; rfl)
    case zbq0 => exact fun _ _ _ h => h
    case zby0 => (refine Or.inl ⟨by rfl, ?_⟩; intro w hSw; (try dsimp only at hSw); go_simp <;> (try with_reducible rfl))
    try simp only [Act.put, List.setIfInBounds_toArray, List.set_cons_zero, List.set_cons_succ]
    refine wpAnyH_take (i := 1) (oi := ?zbo1) (v := ?zbv1) ?zbh1 (by kernel_rfl) (by kernel_rfl) (by kernel_rfl) ?zbq1 ?zby1 hHeld ?zbr1
    case zbh1 => (simp only [List.getElem?_toArray, List.getElem?_cons_succ, List.getElem?_cons_zero]; rfl)
    case zbq1 => exact fun _ _ _ h => h
    case zby1 => (refine Or.inl ⟨by rfl, ?_⟩; intro w hSw; (try dsimp only at hSw); go_simp <;> (try with_reducible rfl))
    try simp only [Act.put, List.setIfInBounds_toArray, List.set_cons_zero, List.set_cons_succ]
    refine wpAnyH_take (i := 2) (oi := ?zbo2) (v := ?zbv2) ?zbh2 (by kernel_rfl) (by kernel_rfl) (by kernel_rfl) ?zbq2 ?zby2 hHeld ?zbr2
    case zbh2 => (simp only [List.getElem?_toArray, List.getElem?_cons_succ, List.getElem?_cons_zero]; rfl)
    case zbq2 => exact fun _ _ _ h => h
    case zby2 => (refine Or.inl ⟨by rfl, ?_⟩; intro w hSw; (try dsimp only at hSw); go_simp <;> (try with_reducible rfl))
    try simp only [Act.put, List.setIfInBounds_toArray, List.set_cons_zero, List.set_cons_succ]
    refine wpAnyH_take (i := 4) (oi := ?zbo4) (v := ?zbv4) ?zbh4 (by kernel_rfl) (by kernel_rfl) (by kernel_rfl) ?zbq4 ?zby4 hHeld ?zbr4
    case zbh4 => (simp only [List.getElem?_toArray, List.getElem?_cons_succ, List.getElem?_cons_zero]; rfl)
    case zbq4 => exact fun _ _ _ h => h
    case zby4 => (refine Or.inl ⟨by rfl, ?_⟩; intro w hSw; (try dsimp only at hSw); go_simp <;> (try with_reducible rfl))
    try simp only [Act.put, List.setIfInBounds_toArray, List.set_cons_zero, List.set_cons_succ]
    refine wpAnyH_ready (rs := [3]) (by kernel_rfl) (by simp) ?_
    refine AllReadyH.cons rfl (fun K hK => ?_) AllReadyH.nil
    go_simp
    ((with_reducible refine (k4 _).mono ?_); rintro e w' ⟨rfl, hb'⟩)
    refine hK.out _ _ (four_keep hb' hHeld) (fun hHeld => ?_)
    clear hK K
    try simp only [Act.put, List.setIfInBounds_toArray, List.set_cons_zero, List.set_cons_succ]
    refine wpAnyH_ready (rs := [5]) (by kernel_rfl) (by simp) ?_
    refine AllReadyH.cons rfl (fun K hK => ?_) AllReadyH.nil
    go_simp
    ((with_reducible refine (k5 _).mono ?_); rintro e w' ⟨rfl, hb'⟩)
    refine hK.out _ _ (four_keep hb' hHeld) (fun hHeld => ?_)
    clear hK K
    try simp only [Act.put, List.setIfInBounds_toArray, List.set_cons_zero, List.set_cons_succ]
    refine wpAnyH_take (i := 6) (oi := ?zbo6) (v := ?zbv6) ?zbh6 (by kernel_rfl) (by kernel_rfl) (by kernel_rfl) ?zbq6 ?zby6 hHeld ?zbr6
    case zbh6 => (simp only [List.getElem?_toArray, List.getElem?_cons_succ, List.getElem?_cons_zero]; rfl)
    case zbq6 => exact fun _ _ _ h => h
    case zby6 => (refine Or.inl ⟨by rfl, ?_⟩; intro w hSw; (try dsimp only at hSw); go_simp <;> (try with_reducible rfl))
    try simp only [Act.put, List.setIfInBounds_toArray, List.set_cons_zero, List.set_cons_succ]
    refine wpAnyH_take (i := 7) (oi := ?zbo7) (v := ?zbv7) ?zbh7 (by kernel_rfl) (by kernel_rfl) (by kernel_rfl) ?zbq7 ?zby7 hHeld ?zbr7
    case zbh7 => (simp only [List.getElem?_toArray, List.getElem?_cons_succ, List.getElem?_cons_zero]; rfl)
    case zbq7 => exact fun _ _ _ h => h
    case zby7 => (refine Or.inl ⟨by rfl, ?_⟩; intro w hSw; (try dsimp only at hSw); go_simp <;> (try with_reducible rfl))
    try simp only [Act.put, List.setIfInBounds_toArray, List.set_cons_zero, List.set_cons_succ]
    refine wpAnyH_take (i := 8) (oi := ?zbo8) (v := ?zbv8) ?zbh8 (by kernel_rfl) (by kernel_rfl) (by kernel_rfl) ?zbq8 ?zby8 hHeld ?zbr8
    case zbh8 => (simp only [List.getElem?_toArray, List.getElem?_cons_succ, List.getElem?_cons_zero]; rfl)
    case zbq8 => exact fun _ _ _ h => h
    case zby8 => (refine Or.inl ⟨by rfl, ?_⟩; intro w hSw; (try dsimp only at hSw); go_simp <;> (try with_reducible rfl))
    try simp only [Act.put, List.setIfInBounds_toArray, List.set_cons_zero, List.set_cons_succ]
    refine wpAnyH_take (i := 9) (oi := ?zbo9) (v := ?zbv9) ?zbh9 (by kernel_rfl) (by kernel_rfl) (by kernel_rfl) ?zbq9 ?zby9 hHeld ?zbr9
    case zbh9 => (simp only [List.getElem?_toArray, List.getElem?_cons_succ, List.getElem?_cons_zero]; rfl)
    case zbq9 => exact fun _ _ _ h => h
    case zby9 => (refine Or.inl ⟨by rfl, ?_⟩; intro w hSw; (try dsimp only at hSw); go_simp <;> (try with_reducible rfl))
    try simp only [Act.put, List.setIfInBounds_toArray, List.set_cons_zero, List.set_cons_succ]
    refine wpAnyH_take (i := 10) (oi := ?zbo10) (v := ?zbv10) ?zbh10 (by kernel_rfl) (by kernel_rfl) (by kernel_rfl) ?zbq10 ?zby10 hHeld ?zbr10
    case zbh10 => (simp only [List.getElem?_toArray, List.getElem?_cons_succ, List.getElem?_cons_zero]; rfl)
    case zbq10 => exact fun _ _ _ h => h
    case zby10 => (refine Or.inl ⟨by rfl, ?_⟩; intro w hSw; (try dsimp only at hSw); go_simp <;> (try with_reducible rfl))
    try simp only [Act.put, List.setIfInBounds_toArray, List.set_cons_zero, List.set_cons_succ]
    refine wpAnyH_take (i := 11) (oi := ?zbo11) (v := ?zbv11) ?zbh11 (by kernel_rfl) (by kernel_rfl) (by kernel_rfl) ?zbq11 ?zby11 hHeld ?zbr11
    case zbh11 => (simp only [List.getElem?_toArray, List.getElem?_cons_succ, List.getElem?_cons_zero]; rfl)
    case zbq11 => exact fun _ _ _ h => h
    case zby11 => (refine Or.inl ⟨by rfl, ?_⟩; intro w hSw; (try dsimp only at hSw); go_simp <;> (try with_reducible rfl))
    try simp only [Act.put, List.setIfInBounds_toArray, List.set_cons_zero, List.set_cons_succ]
    refine wpAnyH_take (i := 12) (oi := ?zbo12) (v := ?zbv12) ?zbh12 (by kernel_rfl) (by kernel_rfl) (by kernel_rfl) ?zbq12 ?zby12 hHeld ?zbr12
    case zbh12 => (simp only [List.getElem?_toArray, List.getElem?_cons_succ, List.getElem?_cons_zero]; rfl)
    case zbq12 => exact fun _ _ _ h => h
    case zby12 => (refine Or.inl ⟨by rfl, ?_⟩; intro w hSw; (try dsimp only at hSw); go_simp <;> (try with_reducible rfl))
    try simp only [Act.put, List.setIfInBounds_toArray, List.set_cons_zero, List.set_cons_succ]
    refine wpAnyH_take (i := 13) (oi := ?zbo13) (v := ?zbv13) ?zbh13 (by kernel_rfl) (by kernel_rfl) (by kernel_rfl) ?zbq13 ?zby13 hHeld ?zbr13
    case zbh13 => (simp only [List.getElem?_toArray, List.getElem?_cons_succ, List.getElem?_cons_zero]; rfl)
    case zbq13 => exact fun _ _ _ h => h
    case zby13 => (refine Or.inl ⟨by rfl, ?_⟩; intro w hSw; (try dsimp only at hSw); go_simp <;> (try with_reducible rfl))
    try simp only [Act.put, List.setIfInBounds_toArray, List.set_cons_zero, List.set_cons_succ]
    refine wpAnyH_take (i := 14) (oi := ?zbo14) (v := ?zbv14) ?zbh14 (by kernel_rfl) (by kernel_rfl) (by kernel_rfl) ?zbq14 ?zby14 hHeld ?zbr14
    case zbh14 => (simp only [List.getElem?_toArray, List.getElem?_cons_succ, List.getElem?_cons_zero]; rfl)
    case zbq14 => exact fun _ _ _ h => h
    case zby14 => (refine Or.inl ⟨by rfl, ?_⟩; intro w hSw; (try dsimp only at hSw); go_simp <;> (try with_reducible rfl))
    try simp only [Act.put, List.setIfInBounds_toArray, List.set_cons_zero, List.set_cons_succ]
    refine wpAnyH_take (i := 15) (oi := ?zbo15) (v := ?zbv15) ?zbh15 (by kernel_rfl) (by kernel_rfl) (by kernel_rfl) ?zbq15 ?zby15 hHeld ?zbr15
    case zbh15 => (simp only [List.getElem?_toArray, List.getElem?_cons_succ, List.getElem?_cons_zero]; rfl)
    case zbq15 => exact fun _ _ _ h => h
    case zby15 => (refine Or.inl ⟨by rfl, ?_⟩; intro w hSw; (try dsimp only at hSw); go_simp <;> (try with_reducible rfl))
    try simp only [Act.put, List.setIfInBounds_toArray, List.set_cons_zero, List.set_cons_succ]
    refine wpAnyH_take (i := 16) (oi := ?zbo16) (v := ?zbv16) ?zbh16 (by kernel_rfl) (by kernel_rfl) (by kernel_rfl) ?zbq16 ?zby16 hHeld ?zbr16
    case zbh16 => (simp only [List.getElem?_toArray, List.getElem?_cons_succ, List.getElem?_cons_zero]; rfl)
    case zbq16 => exact fun _ _ _ h => h
    case zby16 => (refine Or.inl ⟨by rfl, ?_⟩; intro w hSw; (try dsimp only at hSw); go_simp <;> (try with_reducible rfl))
    try simp only [Act.put, List.setIfInBounds_toArray, List.set_cons_zero, List.set_cons_succ]
    refine wpAnyH_take (i := 17) (oi := ?zbo17) (v := ?zbv17) ?zbh17 (by kernel_rfl) (by kernel_rfl) (by kernel_rfl) ?zbq17 ?zby17 hHeld ?zbr17
    case zbh17 => (simp only [List.getElem?_toArray, List.getElem?_cons_succ, List.getElem?_cons_zero]; rfl)
    case zbq17 => exact fun _ _ _ h => h
    case zby17 => (refine Or.inl ⟨by rfl, ?_⟩; intro w hSw; (try dsimp only at hSw); go_simp <;> (try with_reducible rfl))
    try simp only [Act.put, List.setIfInBounds_toArray, List.set_cons_zero, List.set_cons_succ]
    refine wpAnyH_take (i := 18) (oi := ?zbo18) (v := ?zbv18) ?zbh18 (by kernel_rfl) (by kernel_rfl) (by kernel_rfl) ?zbq18 ?zby18 hHeld ?zbr18
    case zbh18 => (simp only [List.getElem?_toArray, List.getElem?_cons_succ, List.getElem?_cons_zero]; rfl)
    case zbq18 => exact fun _ _ _ h => h
    case zby18 => (refine Or.inl ⟨by rfl, ?_⟩; intro w hSw; (try dsimp only at hSw); go_simp <;> (try with_reducible rfl))
    try simp only [Act.put, List.setIfInBounds_toArray, List.set_cons_zero, List.set_cons_succ]
    refine wpAnyH_take (i := 19) (oi := ?zbo19) (v := ?zbv19) ?zbh19 (by kernel_rfl) (by kernel_rfl) (by kernel_rfl) ?zbq19 ?zby19 hHeld ?zbr19
    case zbh19 => (simp only [List.getElem?_toArray, List.getElem?_cons_succ, List.getElem?_cons_zero]; rfl)
    case zbq19 => exact fun _ _ _ h => h
    case zby19 => (refine Or.inl ⟨by rfl, ?_⟩; intro w hSw; (try dsimp only at hSw); go_simp <;> (try with_reducible rfl))
    try simp only [Act.put, List.setIfInBounds_toArray, List.set_cons_zero, List.set_cons_succ]
    refine wpAnyH_take (i := 20) (oi := ?zbo20) (v := ?zbv20) ?zbh20 (by kernel_rfl) (by kernel_rfl) (by kernel_rfl) ?zbq20 ?zby20 hHeld ?zbr20
    case zbh20 => (simp only [List.getElem?_toArray, List.getElem?_cons_succ, List.getElem?_cons_zero]; rfl)
    case zbq20 => exact fun _ _ _ h => h
    case zby20 => (refine Or.inl ⟨by rfl, ?_⟩; intro w hSw; (try dsimp only at hSw); go_simp <;> (try with_reducible rfl))
    try simp only [Act.put, List.setIfInBounds_toArray, List.set_cons_zero, List.set_cons_succ]
    refine wpAnyH_take (i := 21) (oi := ?zbo21) (v := ?zbv21) ?zbh21 (by kernel_rfl) (by kernel_rfl) (by kernel_rfl) ?zbq21 ?zby21 hHeld ?zbr21
    case zbh21 => (simp only [List.getElem?_toArray, List.getElem?_cons_succ, List.getElem?_cons_zero]; rfl)
    case zbq21 => exact fun _ _ _ h => h
    case zby21 => (refine Or.inl ⟨by rfl, ?_⟩; intro w hSw; (try dsimp only at hSw); go_simp <;> (try with_reducible rfl))
    try simp only [Act.put, List.setIfInBounds_toArray, List.set_cons_zero, List.set_cons_succ]
    refine wpAnyH_take (i := 22) (oi := ?zbo22) (v := ?zbv22) ?zbh22 (by kernel_rfl) (by kernel_rfl) (by kernel_rfl) ?zbq22 ?zby22 hHeld ?zbr22
    case zbh22 => (simp only [List.getElem?_toArray, List.getElem?_cons_succ, List.getElem?_cons_zero]; rfl)
    case zbq22 => exact fun _ _ _ h => h
    case zby22 => (refine Or.inl ⟨by rfl, ?_⟩; intro w hSw; (try dsimp only at hSw); go_simp <;> (try with_reducible rfl))
    try simp only [Act.put, List.setIfInBounds_toArray, List.set_cons_zero, List.set_cons_succ]
    refine wpAnyH_take (i := 23) (oi := ?zbo23) (v := ?zbv23) ?zbh23 (by kernel_rfl) (by kernel_rfl) (by kernel_rfl) ?zbq23 ?zby23 hHeld ?zbr23
    case zbh23 => (simp only [List.getElem?_toArray, List.getElem?_cons_succ, List.getElem?_cons_zero]; rfl)
    case zbq23 => exact fun _ _ _ h => h
    case zby23 => (refine Or.inl ⟨by rfl, ?_⟩; intro w hSw; (try dsimp only at hSw); go_simp <;> (try with_reducible rfl))
    try simp only [Act.put, List.setIfInBounds_toArray, List.set_cons_zero, List.set_cons_succ]
    refine wpAnyH_take (i := 24) (oi := ?zbo24) (v := ?zbv24) ?zbh24 (by kernel_rfl) (by kernel_rfl) (by kernel_rfl) ?zbq24 ?zby24 hHeld ?zbr24
    case zbh24 => (simp only [List.getElem?_toArray, List.getElem?_cons_succ, List.getElem?_cons_zero]; rfl)
    case zbq24 => exact fun _ _ _ h => h
    case zby24 => (refine Or.inl ⟨by rfl, ?_⟩; intro w hSw; (try dsimp only at hSw); go_simp <;> (try with_reducible rfl))
    try simp only [Act.put, List.setIfInBounds_toArray, List.set_cons_zero, List.set_cons_succ]
    refine wpAnyH_take (i := 25) (oi := ?zbo25) (v := ?zbv25) ?zbh25 (by kernel_rfl) (by kernel_rfl) (by kernel_rfl) ?zbq25 ?zby25 hHeld ?zbr25
    case zbh25 => (simp only [List.getElem?_toArray, List.getElem?_cons_succ, List.getElem?_cons_zero]; rfl)
    case zbq25 => exact fun _ _ _ h => h
    case zby25 => (refine Or.inl ⟨by rfl, ?_⟩; intro w hSw; (try dsimp only at hSw); go_simp <;> (try with_reducible rfl))
    try simp only [Act.put, List.setIfInBounds_toArray, List.set_cons_zero, List.set_cons_succ]
    refine wpAnyH_take (i := 26) (oi := ?zbo26) (v := ?zbv26) ?zbh26 (by kernel_rfl) (by kernel_rfl) (by kernel_rfl) ?zbq26 ?zby26 hHeld ?zbr26
    case zbh26 => (simp only [List.getElem?_toArray, List.getElem?_cons_succ, List.getElem?_cons_zero]; rfl)
    case zbq26 => exact fun _ _ _ h => h
    case zby26 => (refine Or.inl ⟨by rfl, ?_⟩; intro w hSw; (try dsimp only at hSw); go_simp <;> (try with_reducible rfl))
    try simp only [Act.put, List.setIfInBounds_toArray, List.set_cons_zero, List.set_cons_succ]
    refine wpAnyH_take (i := 27) (oi := ?zbo27) (v := ?zbv27) ?zbh27 (by kernel_rfl) (by kernel_rfl) (by kernel_rfl) ?zbq27 ?zby27 hHeld ?zbr27
    case zbh27 => (simp only [List.getElem?_toArray, List.getElem?_cons_succ, List.getElem?_cons_zero]; rfl)
    case zbq27 => exact fun _ _ _ h => h
    case zby27 => (refine Or.inl ⟨by rfl, ?_⟩; intro w hSw; (try dsimp only at hSw); go_simp <;> (try with_reducible rfl))
    try simp only [Act.put, List.setIfInBounds_toArray, List.set_cons_zero, List.set_cons_succ]
    refine wpAnyH_take (i := 28) (oi := ?zbo28) (v := ?zbv28) ?zbh28 (by kernel_rfl) (by kernel_rfl) (by kernel_rfl) ?zbq28 ?zby28 hHeld ?zbr28
    case zbh28 => (simp only [List.getElem?_toArray, List.getElem?_cons_succ, List.getElem?_cons_zero]; rfl)
    case zbq28 => exact fun _ _ _ h => h
    case zby28 => (refine Or.inl ⟨by rfl, ?_⟩; intro w hSw; (try dsimp only at hSw); go_simp <;> (try with_reducible rfl))
    try simp only [Act.put, List.setIfInBounds_toArray, List.set_cons_zero, List.set_cons_succ]
    refine wpAnyH_take (i := 29) (oi := ?zbo29) (v := ?zbv29) ?zbh29 (by kernel_rfl) (by kernel_rfl) (by kernel_rfl) ?zbq29 ?zby29 hHeld ?zbr29
    case zbh29 => (simp only [List.getElem?_toArray, List.getElem?_cons_succ, List.getElem?_cons_zero]; rfl)
    case zbq29 => exact fun _ _ _ h => h
    case zby29 => (refine Or.inl ⟨by rfl, ?_⟩; intro w hSw; (try dsimp only at hSw); go_simp <;> (try with_reducible rfl))
    try simp only [Act.put, List.setIfInBounds_toArray, List.set_cons_zero, List.set_cons_succ]
    refine wpAnyH_take (i := 30) (oi := ?zbo30) (v := ?zbv30) ?zbh30 (by kernel_rfl) (by kernel_rfl) (by kernel_rfl) ?zbq30 ?zby30 hHeld ?zbr30
    case zbh30 => (simp only [List.getElem?_toArray, List.getElem?_cons_succ, List.getElem?_cons_zero]; rfl)
    case zbq30 => exact fun _ _ _ h => h
    case zby30 => (refine Or.inl ⟨by rfl, ?_⟩; intro w hSw; (try dsimp only at hSw); go_simp <;> (try with_reducible rfl))
    try simp only [Act.put, List.setIfInBounds_toArray, List.set_cons_zero, List.set_cons_succ]
    refine wpAnyH_take (i := 31) (oi := ?zbo31) (v := ?zbv31) ?zbh31 (by kernel_rfl) (by kernel_rfl) (by kernel_rfl) ?zbq31 ?zby31 hHeld ?zbr31
    case zbh31 => (simp only [List.getElem?_toArray, List.getElem?_cons_succ, List.getElem?_cons_zero]; rfl)
    case zbq31 => exact fun _ _ _ h => h
    case zby31 => (refine Or.inl ⟨by rfl, ?_⟩; intro w hSw; (try dsimp only at hSw); go_simp <;> (try with_reducible rfl))
    try simp only [Act.put, List.setIfInBounds_toArray, List.set_cons_zero, List.set_cons_succ]
    refine wpAnyH_take (i := 33) (oi := ?zbo33) (v := ?zbv33) ?zbh33 (by kernel_rfl) (by kernel_rfl) (by kernel_rfl) ?zbq33 ?zby33 hHeld ?zbr33
    case zbh33 => (simp only [List.getElem?_toArray, List.getElem?_cons_succ, List.getElem?_cons_zero]; rfl)
    case zbq33 => exact fun _ _ _ h => h
    case zby33 => (refine Or.inl ⟨by rfl, ?_⟩; intro w hSw; (try dsimp only at hSw); go_simp <;> (try with_reducible rfl))
    try simp only [Act.put, List.setIfInBounds_toArray, List.set_cons_zero, List.set_cons_succ]
    refine wpAnyH_ready (rs := [32]) (by kernel_rfl) (by simp) ?_
    refine AllReadyH.cons rfl (fun K hK => ?_) AllReadyH.nil
    go_simp
    ((with_reducible refine (k7 _).mono ?_); rintro e w' ⟨rfl, hb'⟩)
    refine hK.out _ _ (four_keep hb' hHeld) (fun hHeld => ?_)
    clear hK K
    try simp only [Act.put, List.setIfInBounds_toArray, List.set_cons_zero, List.set_cons_succ]
    refine wpAnyH_take (i := 34) (oi := ?zbo34) (v := ?zbv34) ?zbh34 (by kernel_rfl) (by kernel_rfl) (by kernel_rfl) ?zbq34 ?zby34 hHeld ?zbr34
    case zbh34 => (simp only [List.getElem?_toArray, List.getElem?_cons_succ, List.getElem?_cons_zero]; rfl)
    case zbq34 => exact fun _ _ _ h => h
    case zby34 => (refine Or.inl ⟨by rfl, ?_⟩; intro w hSw; (try dsimp only at hSw); go_simp <;> (try with_reducible rfl))
    try simp only [Act.put, List.setIfInBounds_toArray, List.set_cons_zero, List.set_cons_succ]
    refine wpAnyH_take (i := 35) (oi := ?zbo35) (v := ?zbv35) ?zbh35 (by kernel_rfl) (by kernel_rfl) (by kernel_rfl) ?zbq35 ?zby35 hHeld ?zbr35
    case zbh35 => (simp only [List.getElem?_toArray, List.getElem?_cons_succ, List.getElem?_cons_zero]; rfl)
    case zbq35 => exact fun _ _ _ h => h
    case zby35 => (refine Or.inl ⟨by rfl, ?_⟩; intro w hSw; (try dsimp only at hSw); go_simp <;> (try with_reducible rfl))
    try simp only [Act.put, List.setIfInBounds_toArray, List.set_cons_zero, List.set_cons_succ]
    refine wpAnyH_take (i := 36) (oi := ?zbo36) (v := ?zbv36) ?zbh36 (by kernel_rfl) (by kernel_rfl) (by kernel_rfl) ?zbq36 ?zby36 hHeld ?zbr36
    case zbh36 => (simp only [List.getElem?_toArray, List.getElem?_cons_succ, List.getElem?_cons_zero]; rfl)
    case zbq36 => exact fun _ _ _ h => h
    case zby36 => (refine Or.inl ⟨by rfl, ?_⟩; intro w hSw; (try dsimp only at hSw); go_simp <;> (try with_reducible rfl))
    try simp only [Act.put, List.setIfInBounds_toArray, List.set_cons_zero, List.set_cons_succ]
    refine wpAnyH_take (i := 37) (oi := ?zbo37) (v := ?zbv37) ?zbh37 (by kernel_rfl) (by kernel_rfl) (by kernel_rfl) ?zbq37 ?zby37 hHeld ?zbr37
    case zbh37 => (simp only [List.getElem?_toArray, List.getElem?_cons_succ, List.getElem?_cons_zero]; rfl)
    case zbq37 => exact fun _ _ _ h => h
    case zby37 => (refine Or.inl ⟨by rfl, ?_⟩; intro w hSw; (try dsimp only at hSw); go_simp <;> (try with_reducible rfl))
    try simp only [Act.put, List.setIfInBounds_toArray, List.set_cons_zero, List.set_cons_succ]
    refine wpAnyH_done (by kernel_rfl) ?_ _
    have hbel := hHeld.2.2.2.2.2.2.2.2
    go_wp2
    go_ret
    refine ⟨ret_bool ?_, hbel⟩
    first
    | rfl
    | (simp [*])

theorem walk (h l : Int) (s : ByteArray) (w : World) (A : ∃ a, Rep h l a) (_hs : s.size ≤ maxLen) :
    Calls Try.prog 5 #[.agg #[.int .i64 (h), .int .u64 (l)], .string s] w fun e w' => e = .returned (.bool true) ∧ Below w.heap.size w w' := by
  obtain ⟨a, A⟩ := A
  exact core h l a s w A
end Go.Proofs.Ytafgfpppemdedaa.wideBytes
