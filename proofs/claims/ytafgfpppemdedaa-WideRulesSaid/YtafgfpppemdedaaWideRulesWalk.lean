/- The walk of law WideRules: it returns true and turns nothing that was there. -/
import Derived.Test.YtafgfpppemdedaaWideRulesMath
import Derived.Deep.RegionWith
namespace Go.Proofs.Ytafgfpppemdedaa.wideRules
open Go.RowKit Go.Proofs.Ytafgfpppemdedaa Go.Proofs.Ytafgfpppemdedaa.Wd

theorem tri4_start {w W : World} {d : Nat} {h1 l1 h2 l2 h3 l3 h4 l4 : Int} (T : Tri W w.heap.size h1 l1 h2 l2 h3 l3) (X : WideAt W d h4 l4) (hb : Below w.heap.size w W) :
    W.cell? ⟨d, 0, none⟩ = some (.int .i64 h4) ∧ W.cell? ⟨d, 1, none⟩ = some (.int .u64 l4) ∧ (fun w' => w'.cell? ⟨w.heap.size, 0, none⟩ = some (.int .i64 h1) ∧ w'.cell? ⟨w.heap.size, 1, none⟩ = some (.int .u64 l1) ∧ w'.cell? ⟨w.heap.size + 1, 0, none⟩ = some (.int .i64 h2) ∧ w'.cell? ⟨w.heap.size + 1, 1, none⟩ = some (.int .u64 l2) ∧ w'.cell? ⟨w.heap.size + 1 + 1, 0, none⟩ = some (.int .i64 h3) ∧ w'.cell? ⟨w.heap.size + 1 + 1, 1, none⟩ = some (.int .u64 l3) ∧ Below w.heap.size w w') W := ⟨X.c0, X.c1, T.a0, T.a1, T.b0, T.b1, T.c0, T.c1, hb⟩

theorem tri_set {w w1 : World} {h1 l1 h2 l2 h3 l3 : Int} {d o : Nat} (v : Value) (hd : w.heap.size + 1 + 1 < d) (h : (fun w' => w'.cell? ⟨w.heap.size, 0, none⟩ = some (.int .i64 h1) ∧ w'.cell? ⟨w.heap.size, 1, none⟩ = some (.int .u64 l1) ∧ w'.cell? ⟨w.heap.size + 1, 0, none⟩ = some (.int .i64 h2) ∧ w'.cell? ⟨w.heap.size + 1, 1, none⟩ = some (.int .u64 l2) ∧ w'.cell? ⟨w.heap.size + 1 + 1, 0, none⟩ = some (.int .i64 h3) ∧ w'.cell? ⟨w.heap.size + 1 + 1, 1, none⟩ = some (.int .u64 l3) ∧ Below w.heap.size w w') w1) : (fun w' => w'.cell? ⟨w.heap.size, 0, none⟩ = some (.int .i64 h1) ∧ w'.cell? ⟨w.heap.size, 1, none⟩ = some (.int .u64 l1) ∧ w'.cell? ⟨w.heap.size + 1, 0, none⟩ = some (.int .i64 h2) ∧ w'.cell? ⟨w.heap.size + 1, 1, none⟩ = some (.int .u64 l2) ∧ w'.cell? ⟨w.heap.size + 1 + 1, 0, none⟩ = some (.int .i64 h3) ∧ w'.cell? ⟨w.heap.size + 1 + 1, 1, none⟩ = some (.int .u64 l3) ∧ Below w.heap.size w w') (w1.setCell ⟨d, o, none⟩ v) := by
  obtain ⟨k1, k2, k3, k4, k5, k6, k7⟩ := h
  have e : ∀ b q, b ≠ d → (⟨d, o, none⟩ : Addr) ≠ ⟨b, q, none⟩ := fun b q hb e => hb (congrArg Addr.block e).symm
  exact ⟨by rw [World.cell?_setCell_other _ _ _ _ (e _ _ (by omega))]; exact k1, by rw [World.cell?_setCell_other _ _ _ _ (e _ _ (by omega))]; exact k2, by rw [World.cell?_setCell_other _ _ _ _ (e _ _ (by omega))]; exact k3, by rw [World.cell?_setCell_other _ _ _ _ (e _ _ (by omega))]; exact k4, by rw [World.cell?_setCell_other _ _ _ _ (e _ _ (by omega))]; exact k5, by rw [World.cell?_setCell_other _ _ _ _ (e _ _ (by omega))]; exact k6, k7.setCell (by simp; omega) _⟩
theorem tri_room {w w1 : World} {h1 l1 h2 l2 h3 l3 : Int} (h : (fun w' => w'.cell? ⟨w.heap.size, 0, none⟩ = some (.int .i64 h1) ∧ w'.cell? ⟨w.heap.size, 1, none⟩ = some (.int .u64 l1) ∧ w'.cell? ⟨w.heap.size + 1, 0, none⟩ = some (.int .i64 h2) ∧ w'.cell? ⟨w.heap.size + 1, 1, none⟩ = some (.int .u64 l2) ∧ w'.cell? ⟨w.heap.size + 1 + 1, 0, none⟩ = some (.int .i64 h3) ∧ w'.cell? ⟨w.heap.size + 1 + 1, 1, none⟩ = some (.int .u64 l3) ∧ Below w.heap.size w w') w1) : w.heap.size + 1 + 1 < w1.heap.size := World.block_lt_of_cell? w1 _ h.2.2.2.2.1

theorem tri_alloc {w w1 : World} {h1 l1 h2 l2 h3 l3 : Int} (o : Obj) (h : (fun w' => w'.cell? ⟨w.heap.size, 0, none⟩ = some (.int .i64 h1) ∧ w'.cell? ⟨w.heap.size, 1, none⟩ = some (.int .u64 l1) ∧ w'.cell? ⟨w.heap.size + 1, 0, none⟩ = some (.int .i64 h2) ∧ w'.cell? ⟨w.heap.size + 1, 1, none⟩ = some (.int .u64 l2) ∧ w'.cell? ⟨w.heap.size + 1 + 1, 0, none⟩ = some (.int .i64 h3) ∧ w'.cell? ⟨w.heap.size + 1 + 1, 1, none⟩ = some (.int .u64 l3) ∧ Below w.heap.size w w') w1) : (fun w' => w'.cell? ⟨w.heap.size, 0, none⟩ = some (.int .i64 h1) ∧ w'.cell? ⟨w.heap.size, 1, none⟩ = some (.int .u64 l1) ∧ w'.cell? ⟨w.heap.size + 1, 0, none⟩ = some (.int .i64 h2) ∧ w'.cell? ⟨w.heap.size + 1, 1, none⟩ = some (.int .u64 l2) ∧ w'.cell? ⟨w.heap.size + 1 + 1, 0, none⟩ = some (.int .i64 h3) ∧ w'.cell? ⟨w.heap.size + 1 + 1, 1, none⟩ = some (.int .u64 l3) ∧ Below w.heap.size w w') (w1.alloc o) := tri_keep (by (repeat (first | exact Below.refl _ _ | assumption | refine below_add ?_ _ | (refine below_on ?_ (by assumption)) | refine Below.drew ?_ | refine below_drewN ?_ _ | (refine Below.setCell ?_ (by simp; try omega) _) | (refine below_new ?_ _ (by simp; try omega)) | (refine below_next ?_ (by assumption) (by simp; try omega))))) h

set_option maxHeartbeats 8000000 in
theorem core (h1 l1 h2 l2 h3 l3 a b c : Int) (w : World) (A : Rep h1 l1 a) (B : Rep h2 l2 b) (C : Rep h3 l3 c) :
    Calls Try.prog 7 #[.agg #[.int .i64 (h1), .int .u64 (l1)], .agg #[.int .i64 (h2), .int .u64 (l2)], .agg #[.int .i64 (h3), .int .u64 (l3)]] w fun e w' => e = .returned (.bool true) ∧ Below w.heap.size w w' := by
  obtain ⟨x1, y1, A1⟩ := rep_sm (a + b)
  obtain ⟨x2, y2, A2⟩ := rep_sm (a + b + c)
  obtain ⟨x3, y3, A3⟩ := rep_sm (b + c)
  obtain ⟨x4, y4, A4⟩ := rep_sm (-a)
  obtain ⟨x5, y5, A5⟩ := rep_sm (a - b)
  obtain ⟨x6, y6, A6⟩ := rep_sm (b - a)
  have g1 := fun w => add_any h1 l1 h2 l2 x1 y1 a b _ w A B A1 (sm_cong _)
  have g2 := fun w => add_any h2 l2 h1 l1 x1 y1 b a _ w B A A1 (rule_turned a b)
  have g3 := fun w => add_any x1 y1 h3 l3 x2 y2 _ c _ w A1 C A2 (rule_left a b c)
  have g4 := fun w => add_any h2 l2 h3 l3 x3 y3 b c _ w B C A3 (sm_cong _)
  have g5 := fun w => add_any h1 l1 x3 y3 x2 y2 a _ _ w A A3 A2 (rule_right a b c)
  have g6 := fun w => neg_any h1 l1 x4 y4 a _ w A A4 (sm_cong _)
  have g7 := fun w => add_any h1 l1 x4 y4 0 0 a _ 0 w A A4 rep_zero (rule_none a)
  have g8 := fun w => sub_any h1 l1 h2 l2 x5 y5 a b _ w A B A5 (sm_cong _)
  have g9 := fun w => add_any x5 y5 h2 l2 h1 l1 _ b a w A5 B A (rule_back a b).symm
  have g10 := fun w => sub_any h2 l2 h1 l1 x6 y6 b a _ w B A A6 (sm_cong _)
  have g11 := fun w => neg_any x6 y6 x5 y5 _ _ w A6 A5 (rule_minus a b)
  have q1 : ∀ w, (binOp .eql 24 (.agg #[.int .i64 (x1), .int .u64 (y1)]) (.agg #[.int .i64 (x1), .int .u64 (y1)])).run Try.prog w = .ok (.bool true) w := fun w => by rw [eql_run]; simp
  have q2 : ∀ w, (binOp .eql 24 (.agg #[.int .i64 (x2), .int .u64 (y2)]) (.agg #[.int .i64 (x2), .int .u64 (y2)])).run Try.prog w = .ok (.bool true) w := fun w => by rw [eql_run]; simp
  have q3 : ∀ w, (binOp .eql 24 (.agg #[.int .i64 (h1), .int .u64 (l1)]) (.agg #[.int .i64 (h1), .int .u64 (l1)])).run Try.prog w = .ok (.bool true) w := fun w => by rw [eql_run]; simp
  have q4 : ∀ w, (binOp .eql 24 (.agg #[.int .i64 (x5), .int .u64 (y5)]) (.agg #[.int .i64 (x5), .int .u64 (y5)])).run Try.prog w = .ok (.bool true) w := fun w => by rw [eql_run]; simp
  have hT0 := Tri.new w h1 l1 h2 l2 h3 l3
  go_enter Try.func7, Try.ntmps7
  go_wp2_with (first
    | (go_at_call 9; (with_reducible refine (awake_any _).mono ?_); rintro e w1 ⟨rfl, hb1⟩; have hT1 := hT0.below hb1; have a0 := hT1.a0; have a1 := hT1.a1; have b0 := hT1.b0; have b1 := hT1.b1)
    | (go_at_call 14; (with_reducible refine (g1 _).mono ?_); rintro e w2 ⟨rfl, hb2⟩; have eT := (hT1.below hb2).alloc (.cells #[.int .i64 x1, .int .u64 y1] 24); have eX := WideAt.new w2 x1 y1 24))
  have hbel : Below w.heap.size w (w2.alloc (.cells #[.int .i64 x1, .int .u64 y1] 24)) := by (repeat (first | exact Below.refl _ _ | assumption | refine below_add ?_ _ | (refine below_on ?_ (by assumption)) | refine Below.drew ?_ | refine below_drewN ?_ _ | (refine Below.setCell ?_ (by simp; try omega) _) | (refine below_new ?_ _ (by simp; try omega)) | (refine below_next ?_ (by assumption) (by simp; try omega))))
  clear hT0 hT1 a0 a1 b0 b1
  refine wp_region_held_drew (S := (fun w' => w'.cell? ⟨w2.heap.size, 0, none⟩ = some (.int .i64 x1) ∧ w'.cell? ⟨w2.heap.size, 1, none⟩ = some (.int .u64 y1) ∧ (fun w' => w'.cell? ⟨w.heap.size, 0, none⟩ = some (.int .i64 h1) ∧ w'.cell? ⟨w.heap.size, 1, none⟩ = some (.int .u64 l1) ∧ w'.cell? ⟨w.heap.size + 1, 0, none⟩ = some (.int .i64 h2) ∧ w'.cell? ⟨w.heap.size + 1, 1, none⟩ = some (.int .u64 l2) ∧ w'.cell? ⟨w.heap.size + 1 + 1, 0, none⟩ = some (.int .i64 h3) ∧ w'.cell? ⟨w.heap.size + 1 + 1, 1, none⟩ = some (.int .u64 l3) ∧ Below w.heap.size w w') w')) (by kernel_rfl) ⟨eX.c0, eX.c1, eT.a0, eT.a1, eT.b0, eT.b1, eT.c0, eT.c1, hbel.drew⟩ (fun hHeld => ?_)
  refine wpAnyH_take (i := 0) (oi := ?zao0) (v := ?zav0) ?zah0 (by kernel_rfl) (by kernel_rfl) (by kernel_rfl) ?zaq0 ?zay0 hHeld ?zar0
  case zah0 => (simp only [List.getElem?_toArray, List.getElem?_cons_zero]; rfl)
  case zaq0 => exact fun _ _ _ h => h
  case zay0 => (refine Or.inl ⟨by first | kernel_rfl | rfl, ?_⟩; intro w hSw; (try dsimp only at hSw); go_simp <;> (try with_reducible rfl))
  try simp only [Act.put, List.setIfInBounds_toArray, List.set_cons_zero, List.set_cons_succ]
  refine wpAnyH_take (i := 1) (oi := ?zao1) (v := ?zav1) ?zah1 (by kernel_rfl) (by kernel_rfl) (by kernel_rfl) ?zaq1 ?zay1 hHeld ?zar1
  case zah1 => (simp only [List.getElem?_toArray, List.getElem?_cons_succ, List.getElem?_cons_zero]; rfl)
  case zaq1 => exact fun _ _ _ h => h
  case zay1 => (refine Or.inl ⟨by first | kernel_rfl | rfl, ?_⟩; intro w hSw; (try dsimp only at hSw); go_simp <;> (try with_reducible rfl))
  try simp only [Act.put, List.setIfInBounds_toArray, List.set_cons_zero, List.set_cons_succ]
  refine wpAnyH_take (i := 2) (oi := ?zao2) (v := ?zav2) ?zah2 (by kernel_rfl) (by kernel_rfl) (by kernel_rfl) ?zaq2 ?zay2 hHeld ?zar2
  case zah2 => (simp only [List.getElem?_toArray, List.getElem?_cons_succ, List.getElem?_cons_zero]; rfl)
  case zaq2 => exact fun _ _ _ h => h
  case zay2 => (refine Or.inl ⟨by first | kernel_rfl | rfl, ?_⟩; intro w hSw; (try dsimp only at hSw); go_simp <;> (try with_reducible rfl))
  try simp only [Act.put, List.setIfInBounds_toArray, List.set_cons_zero, List.set_cons_succ]
  refine wpAnyH_ready (rs := [3]) (by kernel_rfl) (by simp) ?_
  refine AllReadyH.cons rfl (fun K hK => ?_) AllReadyH.nil
  go_simp
  ((with_reducible refine (g2 _).mono ?_); rintro e w' ⟨rfl, hb'⟩)
  refine hK.out _ _ (quad_keep hb' hHeld) (fun hHeld => ?_)
  clear hK K
  try simp only [Act.put, List.setIfInBounds_toArray, List.set_cons_zero, List.set_cons_succ]
  refine wpAnyH_take (i := 4) (oi := ?zao4) (v := ?zav4) ?zah4 (by kernel_rfl) (by kernel_rfl) (by kernel_rfl) ?zaq4 ?zay4 hHeld ?zar4
  case zah4 => (simp only [List.getElem?_toArray, List.getElem?_cons_succ, List.getElem?_cons_zero]; rfl)
  case zaq4 => exact fun _ _ _ h => h
  case zay4 => (refine Or.inl ⟨by first | kernel_rfl | rfl, ?_⟩; intro w hSw; (try dsimp only at hSw); go_simp <;> (try with_reducible rfl))
  try simp only [Act.put, List.setIfInBounds_toArray, List.set_cons_zero, List.set_cons_succ]
  refine wpAnyH_take (i := 5) (oi := ?zao5) (v := ?zav5) ?zah5 (by kernel_rfl) (by kernel_rfl) (by kernel_rfl) ?zaq5 ?zay5 hHeld ?zar5
  case zah5 => (simp only [List.getElem?_toArray, List.getElem?_cons_succ, List.getElem?_cons_zero]; rfl)
  case zaq5 => exact fun _ _ _ h => h
  case zay5 => (refine Or.inl ⟨by first | kernel_rfl | rfl, ?_⟩; intro w hSw; (try dsimp only at hSw); go_simp <;> (try with_reducible rfl))
  try simp only [Act.put, List.setIfInBounds_toArray, List.set_cons_zero, List.set_cons_succ]
  refine wpAnyH_take (i := 6) (oi := ?zao6) (v := ?zav6) ?zah6 (by kernel_rfl) (by kernel_rfl) (by kernel_rfl) ?zaq6 ?zay6 hHeld ?zar6
  case zah6 => (simp only [List.getElem?_toArray, List.getElem?_cons_succ, List.getElem?_cons_zero]; rfl)
  case zaq6 => exact fun _ _ _ h => h
  case zay6 => (refine Or.inl ⟨by first | kernel_rfl | rfl, ?_⟩; intro w hSw; (try dsimp only at hSw); go_simp <;> (try with_reducible rfl))
  try simp only [Act.put, List.setIfInBounds_toArray, List.set_cons_zero, List.set_cons_succ]
  refine wpAnyH_take (i := 7) (oi := ?zao7) (v := ?zav7) ?zah7 (by kernel_rfl) (by kernel_rfl) (by kernel_rfl) ?zaq7 ?zay7 hHeld ?zar7
  case zah7 => (simp only [List.getElem?_toArray, List.getElem?_cons_succ, List.getElem?_cons_zero]; rfl)
  case zaq7 => exact fun _ _ _ h => h
  case zay7 => (refine Or.inl ⟨by first | kernel_rfl | rfl, ?_⟩; intro w hSw; (try dsimp only at hSw); go_simp <;> (try with_reducible rfl))
  try simp only [Act.put, List.setIfInBounds_toArray, List.set_cons_zero, List.set_cons_succ]
  refine wpAnyH_take (i := 9) (oi := ?zao9) (v := ?zav9) ?zah9 (by kernel_rfl) (by kernel_rfl) (by kernel_rfl) ?zaq9 ?zay9 hHeld ?zar9
  case zah9 => (simp only [List.getElem?_toArray, List.getElem?_cons_succ, List.getElem?_cons_zero]; rfl)
  case zaq9 => exact fun _ _ _ h => h
  case zay9 => (refine Or.inl ⟨by first | kernel_rfl | rfl, ?_⟩; intro w hSw; (try dsimp only at hSw); go_simp <;> (try with_reducible rfl))
  try simp only [Act.put, List.setIfInBounds_toArray, List.set_cons_zero, List.set_cons_succ]
  refine wpAnyH_take (i := 10) (oi := ?zao10) (v := ?zav10) ?zah10 (by kernel_rfl) (by kernel_rfl) (by kernel_rfl) ?zaq10 ?zay10 hHeld ?zar10
  case zah10 => (simp only [List.getElem?_toArray, List.getElem?_cons_succ, List.getElem?_cons_zero]; rfl)
  case zaq10 => exact fun _ _ _ h => h
  case zay10 => (refine Or.inl ⟨by first | kernel_rfl | rfl, ?_⟩; intro w hSw; (try dsimp only at hSw); go_simp <;> (try with_reducible rfl))
  try simp only [Act.put, List.setIfInBounds_toArray, List.set_cons_zero, List.set_cons_succ]
  refine wpAnyH_take (i := 11) (oi := ?zao11) (v := ?zav11) ?zah11 (by kernel_rfl) (by kernel_rfl) (by kernel_rfl) ?zaq11 ?zay11 hHeld ?zar11
  case zah11 => (simp only [List.getElem?_toArray, List.getElem?_cons_succ, List.getElem?_cons_zero]; rfl)
  case zaq11 => exact fun _ _ _ h => h
  case zay11 => (refine Or.inl ⟨by first | kernel_rfl | rfl, ?_⟩; intro w hSw; (try dsimp only at hSw); go_simp <;> (try with_reducible rfl))
  try simp only [Act.put, List.setIfInBounds_toArray, List.set_cons_zero, List.set_cons_succ]
  refine wpAnyH_ready (rs := [8]) (by kernel_rfl) (by simp) ?_
  refine AllReadyH.cons rfl (fun K hK => ?_) AllReadyH.nil
  go_simp
  ((with_reducible refine (g3 _).mono ?_); rintro e w' ⟨rfl, hb'⟩)
  refine hK.out _ _ (quad_keep hb' hHeld) (fun hHeld => ?_)
  clear hK K
  try simp only [Act.put, List.setIfInBounds_toArray, List.set_cons_zero, List.set_cons_succ]
  refine wpAnyH_ready (rs := [12]) (by kernel_rfl) (by simp) ?_
  refine AllReadyH.cons rfl (fun K hK => ?_) AllReadyH.nil
  go_simp
  ((with_reducible refine (g4 _).mono ?_); rintro e w' ⟨rfl, hb'⟩)
  refine hK.out _ _ (quad_keep hb' hHeld) (fun hHeld => ?_)
  clear hK K
  try simp only [Act.put, List.setIfInBounds_toArray, List.set_cons_zero, List.set_cons_succ]
  refine wpAnyH_ready (rs := [13]) (by kernel_rfl) (by simp) ?_
  refine AllReadyH.cons rfl (fun K hK => ?_) AllReadyH.nil
  go_simp
  ((with_reducible refine (g5 _).mono ?_); rintro e w' ⟨rfl, hb'⟩)
  refine hK.out _ _ (quad_keep hb' hHeld) (fun hHeld => ?_)
  clear hK K
  try simp only [Act.put, List.setIfInBounds_toArray, List.set_cons_zero, List.set_cons_succ]
  refine wpAnyH_take (i := 14) (oi := ?zao14) (v := ?zav14) ?zah14 (by kernel_rfl) (by kernel_rfl) (by kernel_rfl) ?zaq14 ?zay14 hHeld ?zar14
  case zah14 => (simp only [List.getElem?_toArray, List.getElem?_cons_succ, List.getElem?_cons_zero]; rfl)
  case zaq14 => exact fun _ _ _ h => h
  case zay14 => (refine Or.inl ⟨by first | kernel_rfl | rfl, ?_⟩; intro w hSw; (try dsimp only at hSw); go_simp <;> (try with_reducible rfl))
  try simp only [Act.put, List.setIfInBounds_toArray, List.set_cons_zero, List.set_cons_succ]
  refine wpAnyH_take (i := 15) (oi := ?zao15) (v := ?zav15) ?zah15 (by kernel_rfl) (by kernel_rfl) (by kernel_rfl) ?zaq15 ?zay15 hHeld ?zar15
  case zah15 => (simp only [List.getElem?_toArray, List.getElem?_cons_succ, List.getElem?_cons_zero]; rfl)
  case zaq15 => exact fun _ _ _ h => h
  case zay15 => (refine Or.inl ⟨by first | kernel_rfl | rfl, ?_⟩; intro w hSw; (try dsimp only at hSw); go_simp <;> (try with_reducible rfl))
  try simp only [Act.put, List.setIfInBounds_toArray, List.set_cons_zero, List.set_cons_succ]
  refine wpAnyH_take (i := 16) (oi := ?zao16) (v := ?zav16) ?zah16 (by kernel_rfl) (by kernel_rfl) (by kernel_rfl) ?zaq16 ?zay16 hHeld ?zar16
  case zah16 => (simp only [List.getElem?_toArray, List.getElem?_cons_succ, List.getElem?_cons_zero]; rfl)
  case zaq16 => exact fun _ _ _ h => h
  case zay16 => (refine Or.inl ⟨by first | kernel_rfl | rfl, ?_⟩; intro w hSw; (try dsimp only at hSw); go_simp <;> (try with_reducible rfl))
  try simp only [Act.put, List.setIfInBounds_toArray, List.set_cons_zero, List.set_cons_succ]
  refine wpAnyH_done (by kernel_rfl) ?_ _
  obtain ⟨-, -, a0, a1, b0, b1, c0, c1, hbel⟩ := hHeld
  clear eT eX hb1 hb2 g1 g2 g3 g4 g5
  go_upto_region 4 with fail
  go_cut [10] from 37 to 40 (fun v wx => ∃ d, v = .pointer (some ⟨d, 0, none⟩) ∧ wx.cell? ⟨d, 0, none⟩ = some (.int .i64 0) ∧ wx.cell? ⟨d, 1, none⟩ = some (.int .u64 0) ∧ (fun w' => w'.cell? ⟨w.heap.size, 0, none⟩ = some (.int .i64 h1) ∧ w'.cell? ⟨w.heap.size, 1, none⟩ = some (.int .u64 l1) ∧ w'.cell? ⟨w.heap.size + 1, 0, none⟩ = some (.int .i64 h2) ∧ w'.cell? ⟨w.heap.size + 1, 1, none⟩ = some (.int .u64 l2) ∧ w'.cell? ⟨w.heap.size + 1 + 1, 0, none⟩ = some (.int .i64 h3) ∧ w'.cell? ⟨w.heap.size + 1 + 1, 1, none⟩ = some (.int .u64 l3) ∧ Below w.heap.size w w') wx)
  case first =>
    refine wp_region_held_drew (S := (fun w' => w'.cell? ⟨w.heap.size, 0, none⟩ = some (.int .i64 h1) ∧ w'.cell? ⟨w.heap.size, 1, none⟩ = some (.int .u64 l1) ∧ w'.cell? ⟨w.heap.size + 1, 0, none⟩ = some (.int .i64 h2) ∧ w'.cell? ⟨w.heap.size + 1, 1, none⟩ = some (.int .u64 l2) ∧ w'.cell? ⟨w.heap.size + 1 + 1, 0, none⟩ = some (.int .i64 h3) ∧ w'.cell? ⟨w.heap.size + 1 + 1, 1, none⟩ = some (.int .u64 l3) ∧ Below w.heap.size w w')) (by kernel_rfl) ⟨a0, a1, b0, b1, c0, c1, hbel.drew⟩ (fun hHeld => ?_)
    refine wpAnyH_take (i := 0) (oi := ?zbo0) (v := ?zbv0) ?zbh0 (by kernel_rfl) (by kernel_rfl) (by kernel_rfl) ?zbq0 ?zby0 hHeld ?zbr0
    case zbh0 => (simp only [List.getElem?_toArray, List.getElem?_cons_zero]; rfl)
    case zbq0 => exact fun _ _ _ h => h
    case zby0 => (refine Or.inl ⟨by first | kernel_rfl | rfl, ?_⟩; intro w hSw; (try dsimp only at hSw); go_simp <;> (try with_reducible rfl))
    try simp only [Act.put, List.setIfInBounds_toArray, List.set_cons_zero, List.set_cons_succ]
    refine wpAnyH_take (i := 1) (oi := ?zbo1) (v := ?zbv1) ?zbh1 (by kernel_rfl) (by kernel_rfl) (by kernel_rfl) ?zbq1 ?zby1 hHeld ?zbr1
    case zbh1 => (simp only [List.getElem?_toArray, List.getElem?_cons_succ, List.getElem?_cons_zero]; rfl)
    case zbq1 => exact fun _ _ _ h => h
    case zby1 => (refine Or.inl ⟨by first | kernel_rfl | rfl, ?_⟩; intro w hSw; (try dsimp only at hSw); go_simp <;> (try with_reducible rfl))
    try simp only [Act.put, List.setIfInBounds_toArray, List.set_cons_zero, List.set_cons_succ]
    refine wpAnyH_ready (rs := [2, 4]) (by kernel_rfl) (by simp) ?_
    refine AllReadyH.cons rfl (fun K hK => ?_) (AllReadyH.cons rfl (fun K hK => ?_) AllReadyH.nil)
    · go_simp
      ((with_reducible refine (g6 _).mono ?_); rintro e w' ⟨rfl, hb'⟩)
      refine hK.out _ _ (tri_keep hb' hHeld) (fun hHeld => ?_)
      clear hK K
      try simp only [Act.put, List.setIfInBounds_toArray, List.set_cons_zero, List.set_cons_succ]
      refine wpAnyH_ready (rs := [3, 4]) (by kernel_rfl) (by simp) ?_
      refine AllReadyH.cons rfl (fun K hK => ?_) (AllReadyH.cons rfl (fun K hK => ?_) AllReadyH.nil)
      · go_simp
        ((with_reducible refine (g7 _).mono ?_); rintro e w' ⟨rfl, hb'⟩)
        refine hK.out _ _ (tri_keep hb' hHeld) (fun hHeld => ?_)
        clear hK K
        try simp only [Act.put, List.setIfInBounds_toArray, List.set_cons_zero, List.set_cons_succ]
        refine wpAnyH_ready (rs := [4]) (by kernel_rfl) (by simp) ?_
        refine AllReadyH.cons rfl (fun K hK => ?_) AllReadyH.nil
        go_simp
        skip
        refine hK.out _ _ (tri_alloc _ hHeld) (fun hHeld => ?_)
        clear hK K
        try simp only [Act.put, List.setIfInBounds_toArray, List.set_cons_zero, List.set_cons_succ]
        refine wpAnyH_ready (rs := [5]) (by kernel_rfl) (by simp) ?_
        refine AllReadyH.cons rfl (fun K hK => ?_) AllReadyH.nil
        go_simp
        skip
        refine hK.out _ _ (hHeld) (fun hHeld => ?_)
        clear hK K
        try simp only [Act.put, List.setIfInBounds_toArray, List.set_cons_zero, List.set_cons_succ]
        refine wpAnyH_done (by kernel_rfl) ?_ _
        go_wp2_with fail
        go_meet
        exact ⟨_, rfl, by simp [World.cell?_alloc_new], by simp [World.cell?_alloc_new], hHeld⟩
      · have hT := tri_room hHeld
        go_simp
        skip
        refine hK.out _ _ (tri_alloc _ hHeld) (fun hHeld => ?_)
        clear hK K
        try simp only [Act.put, List.setIfInBounds_toArray, List.set_cons_zero, List.set_cons_succ]
        refine wpAnyH_ready (rs := [3]) (by kernel_rfl) (by simp) ?_
        refine AllReadyH.cons rfl (fun K hK => ?_) AllReadyH.nil
        go_simp
        ((with_reducible refine (g7 _).mono ?_); rintro e w' ⟨rfl, hb'⟩; have hX := (WideAt.new _ 0 0 24).below hb'; have z0 := hX.c0; have z1 := hX.c1; have z2 := hX.f0; have z3 := hX.f1; have hr := hX.room)
        refine hK.out _ _ (tri_keep hb' hHeld) (fun hHeld => ?_)
        clear hK K
        try simp only [Act.put, List.setIfInBounds_toArray, List.set_cons_zero, List.set_cons_succ]
        refine wpAnyH_ready (rs := [5]) (by kernel_rfl) (by simp) ?_
        refine AllReadyH.cons rfl (fun K hK => ?_) AllReadyH.nil
        go_simp
        skip
        refine hK.out _ _ (tri_set _ (by assumption) (tri_set _ (by assumption) hHeld)) (fun hHeld => ?_)
        clear hK K
        try simp only [Act.put, List.setIfInBounds_toArray, List.set_cons_zero, List.set_cons_succ]
        refine wpAnyH_done (by kernel_rfl) ?_ _
        go_wp2_with fail
        go_meet
        exact ⟨_, rfl, by simp [go_sem, z0], by simp [go_sem, z1], hHeld⟩
    · have hT := tri_room hHeld
      go_simp
      skip
      refine hK.out _ _ (tri_alloc _ hHeld) (fun hHeld => ?_)
      clear hK K
      try simp only [Act.put, List.setIfInBounds_toArray, List.set_cons_zero, List.set_cons_succ]
      refine wpAnyH_ready (rs := [2]) (by kernel_rfl) (by simp) ?_
      refine AllReadyH.cons rfl (fun K hK => ?_) AllReadyH.nil
      go_simp
      ((with_reducible refine (g6 _).mono ?_); rintro e w' ⟨rfl, hb'⟩; have hX := (WideAt.new _ 0 0 24).drew.below hb'; have z0 := hX.c0; have z1 := hX.c1; have z2 := hX.f0; have z3 := hX.f1; have hr := hX.room)
      refine hK.out _ _ (tri_keep hb' hHeld) (fun hHeld => ?_)
      clear hK K
      try simp only [Act.put, List.setIfInBounds_toArray, List.set_cons_zero, List.set_cons_succ]
      refine wpAnyH_ready (rs := [3]) (by kernel_rfl) (by simp) ?_
      refine AllReadyH.cons rfl (fun K hK => ?_) AllReadyH.nil
      go_simp
      ((with_reducible refine (g7 _).mono ?_); rintro e w' ⟨rfl, hb'⟩; have hX := hX.below hb'; have z0 := hX.c0; have z1 := hX.c1; have z2 := hX.f0; have z3 := hX.f1)
      refine hK.out _ _ (tri_keep hb' hHeld) (fun hHeld => ?_)
      clear hK K
      try simp only [Act.put, List.setIfInBounds_toArray, List.set_cons_zero, List.set_cons_succ]
      refine wpAnyH_ready (rs := [5]) (by kernel_rfl) (by simp) ?_
      refine AllReadyH.cons rfl (fun K hK => ?_) AllReadyH.nil
      go_simp
      skip
      refine hK.out _ _ (tri_set _ (by assumption) (tri_set _ (by assumption) hHeld)) (fun hHeld => ?_)
      clear hK K
      try simp only [Act.put, List.setIfInBounds_toArray, List.set_cons_zero, List.set_cons_succ]
      refine wpAnyH_done (by kernel_rfl) ?_ _
      go_wp2_with fail
      go_meet
      exact ⟨_, rfl, by simp [go_sem, z0], by simp [go_sem, z1], hHeld⟩
  case rest =>
  obtain ⟨d, rfl, d0, d1, a0, a1, b0, b1, c0, c1, hbel⟩ := hcut
  go_upto_region 5 with fail
  refine wp_region_held_drew (S := (fun w' => w'.cell? ⟨d, 0, none⟩ = some (.int .i64 0) ∧ w'.cell? ⟨d, 1, none⟩ = some (.int .u64 0) ∧ (fun w' => w'.cell? ⟨w.heap.size, 0, none⟩ = some (.int .i64 h1) ∧ w'.cell? ⟨w.heap.size, 1, none⟩ = some (.int .u64 l1) ∧ w'.cell? ⟨w.heap.size + 1, 0, none⟩ = some (.int .i64 h2) ∧ w'.cell? ⟨w.heap.size + 1, 1, none⟩ = some (.int .u64 l2) ∧ w'.cell? ⟨w.heap.size + 1 + 1, 0, none⟩ = some (.int .i64 h3) ∧ w'.cell? ⟨w.heap.size + 1 + 1, 1, none⟩ = some (.int .u64 l3) ∧ Below w.heap.size w w') w')) (by kernel_rfl) ⟨d0, d1, a0, a1, b0, b1, c0, c1, hbel.drew⟩ (fun hHeld => ?_)
  refine wpAnyH_take (i := 0) (oi := ?zco0) (v := ?zcv0) ?zch0 (by kernel_rfl) (by kernel_rfl) (by kernel_rfl) ?zcq0 ?zcy0 hHeld ?zcr0
  case zch0 => (simp only [List.getElem?_toArray, List.getElem?_cons_zero]; rfl)
  case zcq0 => exact fun _ _ _ h => h
  case zcy0 => (refine Or.inl ⟨by first | kernel_rfl | rfl, ?_⟩; intro w hSw; (try dsimp only at hSw); go_simp <;> (try with_reducible rfl))
  try simp only [Act.put, List.setIfInBounds_toArray, List.set_cons_zero, List.set_cons_succ]
  refine wpAnyH_take (i := 1) (oi := ?zco1) (v := ?zcv1) ?zch1 (by kernel_rfl) (by kernel_rfl) (by kernel_rfl) ?zcq1 ?zcy1 hHeld ?zcr1
  case zch1 => (simp only [List.getElem?_toArray, List.getElem?_cons_succ, List.getElem?_cons_zero]; rfl)
  case zcq1 => exact fun _ _ _ h => h
  case zcy1 => (refine Or.inl ⟨by first | kernel_rfl | rfl, ?_⟩; intro w hSw; (try dsimp only at hSw); go_simp <;> (try with_reducible rfl))
  try simp only [Act.put, List.setIfInBounds_toArray, List.set_cons_zero, List.set_cons_succ]
  refine wpAnyH_take (i := 3) (oi := ?zco3) (v := ?zcv3) ?zch3 (by kernel_rfl) (by kernel_rfl) (by kernel_rfl) ?zcq3 ?zcy3 hHeld ?zcr3
  case zch3 => (simp only [List.getElem?_toArray, List.getElem?_cons_succ, List.getElem?_cons_zero]; rfl)
  case zcq3 => exact fun _ _ _ h => h
  case zcy3 => (refine Or.inl ⟨by first | kernel_rfl | rfl, ?_⟩; intro w hSw; (try dsimp only at hSw); go_simp <;> (try with_reducible rfl))
  try simp only [Act.put, List.setIfInBounds_toArray, List.set_cons_zero, List.set_cons_succ]
  refine wpAnyH_take (i := 5) (oi := ?zco5) (v := ?zcv5) ?zch5 (by kernel_rfl) (by kernel_rfl) (by kernel_rfl) ?zcq5 ?zcy5 hHeld ?zcr5
  case zch5 => (simp only [List.getElem?_toArray, List.getElem?_cons_succ, List.getElem?_cons_zero]; rfl)
  case zcq5 => exact fun _ _ _ h => h
  case zcy5 => (refine Or.inl ⟨by first | kernel_rfl | rfl, ?_⟩; intro w hSw; (try dsimp only at hSw); go_simp <;> (try with_reducible rfl))
  try simp only [Act.put, List.setIfInBounds_toArray, List.set_cons_zero, List.set_cons_succ]
  refine wpAnyH_ready (rs := [2]) (by kernel_rfl) (by simp) ?_
  refine AllReadyH.cons rfl (fun K hK => ?_) AllReadyH.nil
  go_simp
  ((with_reducible refine (g8 _).mono ?_); rintro e w' ⟨rfl, hb'⟩)
  refine hK.out _ _ (quad_keep hb' hHeld) (fun hHeld => ?_)
  clear hK K
  try simp only [Act.put, List.setIfInBounds_toArray, List.set_cons_zero, List.set_cons_succ]
  refine wpAnyH_ready (rs := [4]) (by kernel_rfl) (by simp) ?_
  refine AllReadyH.cons rfl (fun K hK => ?_) AllReadyH.nil
  go_simp
  ((with_reducible refine (g9 _).mono ?_); rintro e w' ⟨rfl, hb'⟩)
  refine hK.out _ _ (quad_keep hb' hHeld) (fun hHeld => ?_)
  clear hK K
  try simp only [Act.put, List.setIfInBounds_toArray, List.set_cons_zero, List.set_cons_succ]
  refine wpAnyH_take (i := 6) (oi := ?zco6) (v := ?zcv6) ?zch6 (by kernel_rfl) (by kernel_rfl) (by kernel_rfl) ?zcq6 ?zcy6 hHeld ?zcr6
  case zch6 => (simp only [List.getElem?_toArray, List.getElem?_cons_succ, List.getElem?_cons_zero]; rfl)
  case zcq6 => exact fun _ _ _ h => h
  case zcy6 => (refine Or.inl ⟨by first | kernel_rfl | rfl, ?_⟩; intro w hSw; (try dsimp only at hSw); go_simp <;> (try with_reducible rfl))
  try simp only [Act.put, List.setIfInBounds_toArray, List.set_cons_zero, List.set_cons_succ]
  refine wpAnyH_take (i := 7) (oi := ?zco7) (v := ?zcv7) ?zch7 (by kernel_rfl) (by kernel_rfl) (by kernel_rfl) ?zcq7 ?zcy7 hHeld ?zcr7
  case zch7 => (simp only [List.getElem?_toArray, List.getElem?_cons_succ, List.getElem?_cons_zero]; rfl)
  case zcq7 => exact fun _ _ _ h => h
  case zcy7 => (refine Or.inl ⟨by first | kernel_rfl | rfl, ?_⟩; intro w hSw; (try dsimp only at hSw); go_simp <;> (try with_reducible rfl))
  try simp only [Act.put, List.setIfInBounds_toArray, List.set_cons_zero, List.set_cons_succ]
  refine wpAnyH_take (i := 8) (oi := ?zco8) (v := ?zcv8) ?zch8 (by kernel_rfl) (by kernel_rfl) (by kernel_rfl) ?zcq8 ?zcy8 hHeld ?zcr8
  case zch8 => (simp only [List.getElem?_toArray, List.getElem?_cons_succ, List.getElem?_cons_zero]; rfl)
  case zcq8 => exact fun _ _ _ h => h
  case zcy8 => (refine Or.inl ⟨by first | kernel_rfl | rfl, ?_⟩; intro w hSw; (try dsimp only at hSw); go_simp <;> (try with_reducible rfl))
  try simp only [Act.put, List.setIfInBounds_toArray, List.set_cons_zero, List.set_cons_succ]
  refine wpAnyH_take (i := 9) (oi := ?zco9) (v := ?zcv9) ?zch9 (by kernel_rfl) (by kernel_rfl) (by kernel_rfl) ?zcq9 ?zcy9 hHeld ?zcr9
  case zch9 => (simp only [List.getElem?_toArray, List.getElem?_cons_succ, List.getElem?_cons_zero]; rfl)
  case zcq9 => exact fun _ _ _ h => h
  case zcy9 => (refine Or.inl ⟨by first | kernel_rfl | rfl, ?_⟩; intro w hSw; (try dsimp only at hSw); go_simp <;> (try with_reducible rfl))
  try simp only [Act.put, List.setIfInBounds_toArray, List.set_cons_zero, List.set_cons_succ]
  refine wpAnyH_take (i := 11) (oi := ?zco11) (v := ?zcv11) ?zch11 (by kernel_rfl) (by kernel_rfl) (by kernel_rfl) ?zcq11 ?zcy11 hHeld ?zcr11
  case zch11 => (simp only [List.getElem?_toArray, List.getElem?_cons_succ, List.getElem?_cons_zero]; rfl)
  case zcq11 => exact fun _ _ _ h => h
  case zcy11 => (refine Or.inl ⟨by first | kernel_rfl | rfl, ?_⟩; intro w hSw; (try dsimp only at hSw); go_simp <;> (try with_reducible rfl))
  try simp only [Act.put, List.setIfInBounds_toArray, List.set_cons_zero, List.set_cons_succ]
  refine wpAnyH_take (i := 12) (oi := ?zco12) (v := ?zcv12) ?zch12 (by kernel_rfl) (by kernel_rfl) (by kernel_rfl) ?zcq12 ?zcy12 hHeld ?zcr12
  case zch12 => (simp only [List.getElem?_toArray, List.getElem?_cons_succ, List.getElem?_cons_zero]; rfl)
  case zcq12 => exact fun _ _ _ h => h
  case zcy12 => (refine Or.inl ⟨by first | kernel_rfl | rfl, ?_⟩; intro w hSw; (try dsimp only at hSw); go_simp <;> (try with_reducible rfl))
  try simp only [Act.put, List.setIfInBounds_toArray, List.set_cons_zero, List.set_cons_succ]
  refine wpAnyH_ready (rs := [10]) (by kernel_rfl) (by simp) ?_
  refine AllReadyH.cons rfl (fun K hK => ?_) AllReadyH.nil
  go_simp
  ((with_reducible refine (g8 _).mono ?_); rintro e w' ⟨rfl, hb'⟩)
  refine hK.out _ _ (quad_keep hb' hHeld) (fun hHeld => ?_)
  clear hK K
  try simp only [Act.put, List.setIfInBounds_toArray, List.set_cons_zero, List.set_cons_succ]
  refine wpAnyH_ready (rs := [13]) (by kernel_rfl) (by simp) ?_
  refine AllReadyH.cons rfl (fun K hK => ?_) AllReadyH.nil
  go_simp
  ((with_reducible refine (g10 _).mono ?_); rintro e w' ⟨rfl, hb'⟩)
  refine hK.out _ _ (quad_keep hb' hHeld) (fun hHeld => ?_)
  clear hK K
  try simp only [Act.put, List.setIfInBounds_toArray, List.set_cons_zero, List.set_cons_succ]
  refine wpAnyH_ready (rs := [14]) (by kernel_rfl) (by simp) ?_
  refine AllReadyH.cons rfl (fun K hK => ?_) AllReadyH.nil
  go_simp
  ((with_reducible refine (g11 _).mono ?_); rintro e w' ⟨rfl, hb'⟩)
  refine hK.out _ _ (quad_keep hb' hHeld) (fun hHeld => ?_)
  clear hK K
  try simp only [Act.put, List.setIfInBounds_toArray, List.set_cons_zero, List.set_cons_succ]
  refine wpAnyH_take (i := 15) (oi := ?zco15) (v := ?zcv15) ?zch15 (by kernel_rfl) (by kernel_rfl) (by kernel_rfl) ?zcq15 ?zcy15 hHeld ?zcr15
  case zch15 => (simp only [List.getElem?_toArray, List.getElem?_cons_succ, List.getElem?_cons_zero]; rfl)
  case zcq15 => exact fun _ _ _ h => h
  case zcy15 => (refine Or.inl ⟨by first | kernel_rfl | rfl, ?_⟩; intro w hSw; (try dsimp only at hSw); go_simp <;> (try with_reducible rfl))
  try simp only [Act.put, List.setIfInBounds_toArray, List.set_cons_zero, List.set_cons_succ]
  refine wpAnyH_take (i := 16) (oi := ?zco16) (v := ?zcv16) ?zch16 (by kernel_rfl) (by kernel_rfl) (by kernel_rfl) ?zcq16 ?zcy16 hHeld ?zcr16
  case zch16 => (simp only [List.getElem?_toArray, List.getElem?_cons_succ, List.getElem?_cons_zero]; rfl)
  case zcq16 => exact fun _ _ _ h => h
  case zcy16 => (refine Or.inl ⟨by first | kernel_rfl | rfl, ?_⟩; intro w hSw; (try dsimp only at hSw); go_simp <;> (try with_reducible rfl))
  try simp only [Act.put, List.setIfInBounds_toArray, List.set_cons_zero, List.set_cons_succ]
  refine wpAnyH_take (i := 17) (oi := ?zco17) (v := ?zcv17) ?zch17 (by kernel_rfl) (by kernel_rfl) (by kernel_rfl) ?zcq17 ?zcy17 hHeld ?zcr17
  case zch17 => (simp only [List.getElem?_toArray, List.getElem?_cons_succ, List.getElem?_cons_zero]; rfl)
  case zcq17 => exact fun _ _ _ h => h
  case zcy17 => (refine Or.inl ⟨by first | kernel_rfl | rfl, ?_⟩; intro w hSw; (try dsimp only at hSw); go_simp <;> (try with_reducible rfl))
  try simp only [Act.put, List.setIfInBounds_toArray, List.set_cons_zero, List.set_cons_succ]
  refine wpAnyH_take (i := 18) (oi := ?zco18) (v := ?zcv18) ?zch18 (by kernel_rfl) (by kernel_rfl) (by kernel_rfl) ?zcq18 ?zcy18 hHeld ?zcr18
  case zch18 => (simp only [List.getElem?_toArray, List.getElem?_cons_succ, List.getElem?_cons_zero]; rfl)
  case zcq18 => exact fun _ _ _ h => h
  case zcy18 => (refine Or.inl ⟨by first | kernel_rfl | rfl, ?_⟩; intro w hSw; (try dsimp only at hSw); go_simp <;> (try with_reducible rfl))
  try simp only [Act.put, List.setIfInBounds_toArray, List.set_cons_zero, List.set_cons_succ]
  refine wpAnyH_take (i := 19) (oi := ?zco19) (v := ?zcv19) ?zch19 (by kernel_rfl) (by kernel_rfl) (by kernel_rfl) ?zcq19 ?zcy19 hHeld ?zcr19
  case zch19 => (simp only [List.getElem?_toArray, List.getElem?_cons_succ, List.getElem?_cons_zero]; rfl)
  case zcq19 => exact fun _ _ _ h => h
  case zcy19 => (refine Or.inl ⟨by first | kernel_rfl | rfl, ?_⟩; intro w hSw; (try dsimp only at hSw); go_simp <;> (try with_reducible rfl))
  try simp only [Act.put, List.setIfInBounds_toArray, List.set_cons_zero, List.set_cons_succ]
  refine wpAnyH_take (i := 20) (oi := ?zco20) (v := ?zcv20) ?zch20 (by kernel_rfl) (by kernel_rfl) (by kernel_rfl) ?zcq20 ?zcy20 hHeld ?zcr20
  case zch20 => (simp only [List.getElem?_toArray, List.getElem?_cons_succ, List.getElem?_cons_zero]; rfl)
  case zcq20 => exact fun _ _ _ h => h
  case zcy20 => (refine Or.inl ⟨by first | kernel_rfl | rfl, ?_⟩; intro w hSw; (try dsimp only at hSw); go_simp <;> (try with_reducible rfl))
  try simp only [Act.put, List.setIfInBounds_toArray, List.set_cons_zero, List.set_cons_succ]
  refine wpAnyH_take (i := 21) (oi := ?zco21) (v := ?zcv21) ?zch21 (by kernel_rfl) (by kernel_rfl) (by kernel_rfl) ?zcq21 ?zcy21 hHeld ?zcr21
  case zch21 => (simp only [List.getElem?_toArray, List.getElem?_cons_succ, List.getElem?_cons_zero]; rfl)
  case zcq21 => exact fun _ _ _ h => h
  case zcy21 => (refine Or.inl ⟨by first | kernel_rfl | rfl, ?_⟩; intro w hSw; (try dsimp only at hSw); go_simp <;> (try with_reducible rfl))
  try simp only [Act.put, List.setIfInBounds_toArray, List.set_cons_zero, List.set_cons_succ]
  refine wpAnyH_take (i := 22) (oi := ?zco22) (v := ?zcv22) ?zch22 (by kernel_rfl) (by kernel_rfl) (by kernel_rfl) ?zcq22 ?zcy22 hHeld ?zcr22
  case zch22 => (simp only [List.getElem?_toArray, List.getElem?_cons_succ, List.getElem?_cons_zero]; rfl)
  case zcq22 => exact fun _ _ _ h => h
  case zcy22 => (refine Or.inl ⟨by first | kernel_rfl | rfl, ?_⟩; intro w hSw; (try dsimp only at hSw); go_simp <;> (try with_reducible rfl))
  try simp only [Act.put, List.setIfInBounds_toArray, List.set_cons_zero, List.set_cons_succ]
  refine wpAnyH_take (i := 23) (oi := ?zco23) (v := ?zcv23) ?zch23 (by kernel_rfl) (by kernel_rfl) (by kernel_rfl) ?zcq23 ?zcy23 hHeld ?zcr23
  case zch23 => (simp only [List.getElem?_toArray, List.getElem?_cons_succ, List.getElem?_cons_zero]; rfl)
  case zcq23 => exact fun _ _ _ h => h
  case zcy23 => (refine Or.inl ⟨by first | kernel_rfl | rfl, ?_⟩; intro w hSw; (try dsimp only at hSw); go_simp <;> (try with_reducible rfl))
  try simp only [Act.put, List.setIfInBounds_toArray, List.set_cons_zero, List.set_cons_succ]
  refine wpAnyH_take (i := 24) (oi := ?zco24) (v := ?zcv24) ?zch24 (by kernel_rfl) (by kernel_rfl) (by kernel_rfl) ?zcq24 ?zcy24 hHeld ?zcr24
  case zch24 => (simp only [List.getElem?_toArray, List.getElem?_cons_succ, List.getElem?_cons_zero]; rfl)
  case zcq24 => exact fun _ _ _ h => h
  case zcy24 => (refine Or.inl ⟨by first | kernel_rfl | rfl, ?_⟩; intro w hSw; (try dsimp only at hSw); go_simp <;> (try with_reducible rfl))
  try simp only [Act.put, List.setIfInBounds_toArray, List.set_cons_zero, List.set_cons_succ]
  refine wpAnyH_take (i := 25) (oi := ?zco25) (v := ?zcv25) ?zch25 (by kernel_rfl) (by kernel_rfl) (by kernel_rfl) ?zcq25 ?zcy25 hHeld ?zcr25
  case zch25 => (simp only [List.getElem?_toArray, List.getElem?_cons_succ, List.getElem?_cons_zero]; rfl)
  case zcq25 => exact fun _ _ _ h => h
  case zcy25 => (refine Or.inl ⟨by first | kernel_rfl | rfl, ?_⟩; intro w hSw; (try dsimp only at hSw); go_simp <;> (try with_reducible rfl))
  try simp only [Act.put, List.setIfInBounds_toArray, List.set_cons_zero, List.set_cons_succ]
  refine wpAnyH_take (i := 26) (oi := ?zco26) (v := ?zcv26) ?zch26 (by kernel_rfl) (by kernel_rfl) (by kernel_rfl) ?zcq26 ?zcy26 hHeld ?zcr26
  case zch26 => (simp only [List.getElem?_toArray, List.getElem?_cons_succ, List.getElem?_cons_zero]; rfl)
  case zcq26 => exact fun _ _ _ h => h
  case zcy26 => (refine Or.inl ⟨by first | kernel_rfl | rfl, ?_⟩; intro w hSw; (try dsimp only at hSw); go_simp <;> (try with_reducible rfl))
  try simp only [Act.put, List.setIfInBounds_toArray, List.set_cons_zero, List.set_cons_succ]
  refine wpAnyH_take (i := 27) (oi := ?zco27) (v := ?zcv27) ?zch27 (by kernel_rfl) (by kernel_rfl) (by kernel_rfl) ?zcq27 ?zcy27 hHeld ?zcr27
  case zch27 => (simp only [List.getElem?_toArray, List.getElem?_cons_succ, List.getElem?_cons_zero]; rfl)
  case zcq27 => exact fun _ _ _ h => h
  case zcy27 => (refine Or.inl ⟨by first | kernel_rfl | rfl, ?_⟩; intro w hSw; (try dsimp only at hSw); go_simp <;> (try with_reducible rfl))
  try simp only [Act.put, List.setIfInBounds_toArray, List.set_cons_zero, List.set_cons_succ]
  refine wpAnyH_done (by kernel_rfl) ?_ _
  clear d0 d1 a0 a1 b0 b1 c0 c1 hbel g6 g7 g8 g9 g10 g11
  obtain ⟨-, -, a0, a1, b0, b1, c0, c1, hbel⟩ := hHeld


  have hT := (⟨a0, a1, b0, b1, c0, c1, hbel⟩ : (fun w' => w'.cell? ⟨w.heap.size, 0, none⟩ = some (.int .i64 h1) ∧ w'.cell? ⟨w.heap.size, 1, none⟩ = some (.int .u64 l1) ∧ w'.cell? ⟨w.heap.size + 1, 0, none⟩ = some (.int .i64 h2) ∧ w'.cell? ⟨w.heap.size + 1, 1, none⟩ = some (.int .u64 l2) ∧ w'.cell? ⟨w.heap.size + 1 + 1, 0, none⟩ = some (.int .i64 h3) ∧ w'.cell? ⟨w.heap.size + 1 + 1, 1, none⟩ = some (.int .u64 l3) ∧ Below w.heap.size w w') _)
  have hroom := tri_room hT
  have hT := tri_alloc (.cells #[.int .i64 0, .int .u64 0] 24) hT
  have hS := WideAt.new w' 0 0 24
  obtain ⟨n, hn, hn2⟩ : ∃ n : Nat, l3.tmod 41 = (n : Int) ∧ n ≤ 40 := ⟨(l3 % 41).toNat, by rw [Int.tmod_eq_emod_of_nonneg C.l0]; omega, by omega⟩
  have hn3 : wrap64 (n : Int) = (n : Int) := IntWalk.wrap64_in _ (by omega)
  go_wp2_with fail
  clear a0 a1 b0 b1 c0 c1 hbel hn hn3
  go_loopw [14] (fun i wr => ∃ (k : Nat) (h l : Int), k ≤ n ∧ i = .int .i64 (k : Int) ∧ Rep h l (sm (a * (k : Int))) ∧ WideAt wr w'.heap.size h l ∧ (fun w' => w'.cell? ⟨w.heap.size, 0, none⟩ = some (.int .i64 h1) ∧ w'.cell? ⟨w.heap.size, 1, none⟩ = some (.int .u64 l1) ∧ w'.cell? ⟨w.heap.size + 1, 0, none⟩ = some (.int .i64 h2) ∧ w'.cell? ⟨w.heap.size + 1, 1, none⟩ = some (.int .u64 l2) ∧ w'.cell? ⟨w.heap.size + 1 + 1, 0, none⟩ = some (.int .i64 h3) ∧ w'.cell? ⟨w.heap.size + 1 + 1, 1, none⟩ = some (.int .u64 l3) ∧ Below w.heap.size w w') wr) (fun i _ => n - (intOf i).toNat)
  case atStart => exact ⟨0, 0, 0, Nat.zero_le _, rfl, (by rw [show a * ((0 : Nat) : Int) = 0 by simp]; exact rep_zero), hS, hT⟩
  case round =>
    obtain ⟨k, h, l, hk, rfl, R, hS, hT⟩ := hrel
    by_cases hlt : k < n
    · obtain ⟨x7, y7, R2⟩ := rep_sm (a * ((k : Int) + 1))
      have g := fun w => add_any h l h1 l1 x7 y7 _ a _ w R A R2 (by rw [Int.mul_add, Int.mul_one]; exact (sm_cong _).trans ((sm_cong _).symm.add Cong.rfl))
      have hT2 := hT
      obtain ⟨a0, a1, b0, b1, c0, c1, hbel⟩ := hT2
      obtain ⟨s0, s1, s2, s3⟩ := hS
      have hlt2 : (k : Int) < (n : Int) := by omega
      go_wp2_with (first
        | (go_at_call 14; (with_reducible refine (g _).mono ?_); rintro e wa ⟨rfl, hba⟩; have hSa := WideAt.below ⟨s0, s1, s2, s3⟩ hba; have k0 := hSa.c0; have k1 := hSa.c1; have k2 := hSa.f0; have k3 := hSa.f1))
      have hT3 := tri_set (d := w'.heap.size) (o := 1) (.int .u64 y7) hroom (tri_set (d := w'.heap.size) (o := 0) (.int .i64 x7) hroom (tri_keep hba hT))
      go_roundw
      case rel => exact ⟨k + 1, x7, y7, by omega, by go_num, by rw [show ((k + 1 : Nat) : Int) = (k : Int) + 1 by omega]; exact R2, ⟨by simp [go_sem, k0], by simp [go_sem, k1], by simp [go_sem, k2], by simp [go_sem, k3]⟩, hT3⟩
      case measure => simp [intOf]; omega
    · have e : k = n := by omega
      subst e
      obtain ⟨a0, a1, b0, b1, c0, c1, hbel⟩ := hT
      obtain ⟨s0, s1, s2, s3⟩ := hS
      go_upto_region 12 with fail
      go_cut [15] from 81 to 108 (fun v wx => ((v = .bool true ∧ (-2305843009213693952 < h1 ∧ h1 < 2305843009213693952 ∧ -2305843009213693952 < h2 ∧ h2 < 2305843009213693952 ∧ -2305843009213693952 < h3 ∧ h3 < 2305843009213693952)) ∨ v = .bool false) ∧ wx = wr)
      case first =>
        by_cases p1 : -2305843009213693952 < h1
        case neg => (go_wp2_with fail; go_meet; first | exact ⟨Or.inr rfl, rfl⟩ | exact ⟨Or.inl ⟨rfl, by omega⟩, rfl⟩)
        by_cases p2 : h1 < 2305843009213693952
        case neg => (go_wp2_with fail; go_meet; first | exact ⟨Or.inr rfl, rfl⟩ | exact ⟨Or.inl ⟨rfl, by omega⟩, rfl⟩)
        by_cases p3 : -2305843009213693952 < h2
        case neg => (go_wp2_with fail; go_meet; first | exact ⟨Or.inr rfl, rfl⟩ | exact ⟨Or.inl ⟨rfl, by omega⟩, rfl⟩)
        by_cases p4 : h2 < 2305843009213693952
        case neg => (go_wp2_with fail; go_meet; first | exact ⟨Or.inr rfl, rfl⟩ | exact ⟨Or.inl ⟨rfl, by omega⟩, rfl⟩)
        by_cases p5 : -2305843009213693952 < h3
        case neg => (go_wp2_with fail; go_meet; first | exact ⟨Or.inr rfl, rfl⟩ | exact ⟨Or.inl ⟨rfl, by omega⟩, rfl⟩)
        by_cases p6 : h3 < 2305843009213693952
        case neg => (go_wp2_with fail; go_meet; first | exact ⟨Or.inr rfl, rfl⟩ | exact ⟨Or.inl ⟨rfl, by omega⟩, rfl⟩)
        (go_wp2_with fail; go_meet; first | exact ⟨Or.inr rfl, rfl⟩ | exact ⟨Or.inl ⟨rfl, by omega⟩, rfl⟩)
      case rest =>
        obtain ⟨hsmall, rfl⟩ := hcut
        rcases hsmall with ⟨rfl, hsm⟩ | rfl
        · have g20 := fun w => times_any h1 l1 _ h l a _ w (by omega) (by omega) A R (sm_cong _)
          have hw : IntKind.u32.wrap (k : Int) = (k : Int) := by rw [IntKind.wrap_u32]; omega
          have q5 : ∀ w, (binOp .eql 24 (.agg #[.int .i64 (h), .int .u64 (l)]) (.agg #[.int .i64 (h), .int .u64 (l)])).run Try.prog w = .ok (.bool true) w := fun w => by rw [eql_run]; simp
          obtain ⟨v1, e1⟩ : ∃ v, cmp a b = v := ⟨_, rfl⟩
          obtain ⟨x8, y8, A8⟩ := rep_sm (a + c)
          obtain ⟨x9, y9, A9⟩ := rep_sm (b + c)
          obtain ⟨v2, e2⟩ : ∃ v, cmp (sm (a + c)) (sm (b + c)) = v := ⟨_, rfl⟩
          have k20 := fun w => cmp_is h1 l1 h2 l2 a b v1 w A B e1
          have g13 := fun w => add_any h1 l1 h3 l3 x8 y8 a c _ w A C A8 (sm_cong _)
          have g14 := fun w => add_any h2 l2 h3 l3 x9 y9 b c _ w B C A9 (sm_cong _)
          have k21 := fun w => cmp_is x8 y8 x9 y9 _ _ v2 w A8 A9 e2
          have hv : v1 < 0 ↔ v2 < 0 := by
            have w1 : sm (a + c) = a + c := sm_self (by obtain ⟨p1, p2, p3, p4, p5⟩ := A; obtain ⟨r1, r2, r3, r4, r5⟩ := C; unfold InW; omega)
            have w2 : sm (b + c) = b + c := sm_self (by obtain ⟨p1, p2, p3, p4, p5⟩ := B; obtain ⟨r1, r2, r3, r4, r5⟩ := C; unfold InW; omega)
            rw [cmp_neg e1, cmp_neg e2, w1, w2]; omega
          clear hsm e1 e2
          by_cases hv1 : v1 < 0
          · have hv2 := hv.1 hv1
            clear hv
            go_upto_region 13 with fail
            refine wp_region_held_drew (S := (fun wx => wx.cell? ⟨w'.heap.size, 0, none⟩ = some (.int .i64 h) ∧ wx.cell? ⟨w'.heap.size, 1, none⟩ = some (.int .u64 l) ∧ (fun w' => w'.cell? ⟨w.heap.size, 0, none⟩ = some (.int .i64 h1) ∧ w'.cell? ⟨w.heap.size, 1, none⟩ = some (.int .u64 l1) ∧ w'.cell? ⟨w.heap.size + 1, 0, none⟩ = some (.int .i64 h2) ∧ w'.cell? ⟨w.heap.size + 1, 1, none⟩ = some (.int .u64 l2) ∧ w'.cell? ⟨w.heap.size + 1 + 1, 0, none⟩ = some (.int .i64 h3) ∧ w'.cell? ⟨w.heap.size + 1 + 1, 1, none⟩ = some (.int .u64 l3) ∧ Below w.heap.size w w') wx)) (by kernel_rfl) ⟨s0, s1, a0, a1, b0, b1, c0, c1, hbel.drew⟩ (fun hHeld => ?_)
            refine wpAnyH_take (i := 0) (oi := ?zvso0) (v := ?zvsv0) ?zvsh0 (by kernel_rfl) (by kernel_rfl) (by kernel_rfl) ?zvsq0 ?zvsy0 hHeld ?zvsr0
            case zvsh0 => (simp only [List.getElem?_toArray, List.getElem?_cons_zero]; rfl)
            case zvsq0 => exact fun _ _ _ h => h
            case zvsy0 => (refine Or.inl ⟨by first | kernel_rfl | rfl, ?_⟩; intro w hSw; (try dsimp only at hSw); go_simp <;> (try with_reducible rfl))
            try simp only [Act.put, List.setIfInBounds_toArray, List.set_cons_zero, List.set_cons_succ]
            refine wpAnyH_take (i := 1) (oi := ?zvso1) (v := ?zvsv1) ?zvsh1 (by kernel_rfl) (by kernel_rfl) (by kernel_rfl) ?zvsq1 ?zvsy1 hHeld ?zvsr1
            case zvsh1 => (simp only [List.getElem?_toArray, List.getElem?_cons_succ, List.getElem?_cons_zero]; rfl)
            case zvsq1 => exact fun _ _ _ h => h
            case zvsy1 => (refine Or.inl ⟨by first | kernel_rfl | rfl, ?_⟩; intro w hSw; (try dsimp only at hSw); go_simp <;> (try with_reducible rfl))
            try simp only [Act.put, List.setIfInBounds_toArray, List.set_cons_zero, List.set_cons_succ]
            refine wpAnyH_take (i := 2) (oi := ?zvso2) (v := ?zvsv2) ?zvsh2 (by kernel_rfl) (by kernel_rfl) (by kernel_rfl) ?zvsq2 ?zvsy2 hHeld ?zvsr2
            case zvsh2 => (simp only [List.getElem?_toArray, List.getElem?_cons_succ, List.getElem?_cons_zero]; rfl)
            case zvsq2 => exact fun _ _ _ h => h
            case zvsy2 => (refine Or.inl ⟨by first | kernel_rfl | rfl, ?_⟩; intro w hSw; (try dsimp only at hSw); go_simp <;> (try with_reducible rfl))
            try simp only [Act.put, List.setIfInBounds_toArray, List.set_cons_zero, List.set_cons_succ]
            refine wpAnyH_take (i := 3) (oi := ?zvso3) (v := ?zvsv3) ?zvsh3 (by kernel_rfl) (by kernel_rfl) (by kernel_rfl) ?zvsq3 ?zvsy3 hHeld ?zvsr3
            case zvsh3 => (simp only [List.getElem?_toArray, List.getElem?_cons_succ, List.getElem?_cons_zero]; rfl)
            case zvsq3 => exact fun _ _ _ h => h
            case zvsy3 => (refine Or.inl ⟨by first | kernel_rfl | rfl, ?_⟩; intro w hSw; (try dsimp only at hSw); go_simp <;> (try with_reducible rfl))
            try simp only [Act.put, List.setIfInBounds_toArray, List.set_cons_zero, List.set_cons_succ]
            refine wpAnyH_take (i := 4) (oi := ?zvso4) (v := ?zvsv4) ?zvsh4 (by kernel_rfl) (by kernel_rfl) (by kernel_rfl) ?zvsq4 ?zvsy4 hHeld ?zvsr4
            case zvsh4 => (simp only [List.getElem?_toArray, List.getElem?_cons_succ, List.getElem?_cons_zero]; rfl)
            case zvsq4 => exact fun _ _ _ h => h
            case zvsy4 => (refine Or.inl ⟨by first | kernel_rfl | rfl, ?_⟩; intro w hSw; (try dsimp only at hSw); go_simp <;> (try with_reducible rfl))
            try simp only [Act.put, List.setIfInBounds_toArray, List.set_cons_zero, List.set_cons_succ]
            refine wpAnyH_take (i := 7) (oi := ?zvso7) (v := ?zvsv7) ?zvsh7 (by kernel_rfl) (by kernel_rfl) (by kernel_rfl) ?zvsq7 ?zvsy7 hHeld ?zvsr7
            case zvsh7 => (simp only [List.getElem?_toArray, List.getElem?_cons_succ, List.getElem?_cons_zero]; rfl)
            case zvsq7 => exact fun _ _ _ h => h
            case zvsy7 => (refine Or.inl ⟨by first | kernel_rfl | rfl, ?_⟩; intro w hSw; (try dsimp only at hSw); go_simp <;> (try with_reducible rfl))
            try simp only [Act.put, List.setIfInBounds_toArray, List.set_cons_zero, List.set_cons_succ]
            refine wpAnyH_take (i := 8) (oi := ?zvso8) (v := ?zvsv8) ?zvsh8 (by kernel_rfl) (by kernel_rfl) (by kernel_rfl) ?zvsq8 ?zvsy8 hHeld ?zvsr8
            case zvsh8 => (simp only [List.getElem?_toArray, List.getElem?_cons_succ, List.getElem?_cons_zero]; rfl)
            case zvsq8 => exact fun _ _ _ h => h
            case zvsy8 => (refine Or.inl ⟨by first | kernel_rfl | rfl, ?_⟩; intro w hSw; (try dsimp only at hSw); go_simp <;> (try with_reducible rfl))
            try simp only [Act.put, List.setIfInBounds_toArray, List.set_cons_zero, List.set_cons_succ]
            refine wpAnyH_take (i := 10) (oi := ?zvso10) (v := ?zvsv10) ?zvsh10 (by kernel_rfl) (by kernel_rfl) (by kernel_rfl) ?zvsq10 ?zvsy10 hHeld ?zvsr10
            case zvsh10 => (simp only [List.getElem?_toArray, List.getElem?_cons_succ, List.getElem?_cons_zero]; rfl)
            case zvsq10 => exact fun _ _ _ h => h
            case zvsy10 => (refine Or.inl ⟨by first | kernel_rfl | rfl, ?_⟩; intro w hSw; (try dsimp only at hSw); go_simp <;> (try with_reducible rfl))
            try simp only [Act.put, List.setIfInBounds_toArray, List.set_cons_zero, List.set_cons_succ]
            refine wpAnyH_take (i := 11) (oi := ?zvso11) (v := ?zvsv11) ?zvsh11 (by kernel_rfl) (by kernel_rfl) (by kernel_rfl) ?zvsq11 ?zvsy11 hHeld ?zvsr11
            case zvsh11 => (simp only [List.getElem?_toArray, List.getElem?_cons_succ, List.getElem?_cons_zero]; rfl)
            case zvsq11 => exact fun _ _ _ h => h
            case zvsy11 => (refine Or.inl ⟨by first | kernel_rfl | rfl, ?_⟩; intro w hSw; (try dsimp only at hSw); go_simp <;> (try with_reducible rfl))
            try simp only [Act.put, List.setIfInBounds_toArray, List.set_cons_zero, List.set_cons_succ]
            refine wpAnyH_ready (rs := [5]) (by kernel_rfl) (by simp) ?_
            refine AllReadyH.cons rfl (fun K hK => ?_) AllReadyH.nil
            go_simp
            ((with_reducible refine (k20 _).mono ?_); rintro e wz ⟨rfl, hbz⟩)
            refine hK.out _ _ (quad_keep hbz hHeld) (fun hHeld => ?_)
            clear hK K
            try simp only [Act.put, List.setIfInBounds_toArray, List.set_cons_zero, List.set_cons_succ]
            refine wpAnyH_take (i := 6) (oi := ?zvso6) (v := ?zvsv6) ?zvsh6 (by kernel_rfl) (by kernel_rfl) (by kernel_rfl) ?zvsq6 ?zvsy6 hHeld ?zvsr6
            case zvsh6 => (simp only [List.getElem?_toArray, List.getElem?_cons_succ, List.getElem?_cons_zero]; rfl)
            case zvsq6 => exact fun _ _ _ h => h
            case zvsy6 => (refine Or.inl ⟨by first | kernel_rfl | rfl, ?_⟩; intro w hSw; (try dsimp only at hSw); go_simp <;> (try with_reducible rfl))
            try simp only [Act.put, List.setIfInBounds_toArray, List.set_cons_zero, List.set_cons_succ]
            refine wpAnyH_ready (rs := [9]) (by kernel_rfl) (by simp) ?_
            refine AllReadyH.cons rfl (fun K hK => ?_) AllReadyH.nil
            go_simp
            ((with_reducible refine (g13 _).mono ?_); rintro e wz ⟨rfl, hbz⟩)
            refine hK.out _ _ (quad_keep hbz hHeld) (fun hHeld => ?_)
            clear hK K
            try simp only [Act.put, List.setIfInBounds_toArray, List.set_cons_zero, List.set_cons_succ]
            refine wpAnyH_ready (rs := [12]) (by kernel_rfl) (by simp) ?_
            refine AllReadyH.cons rfl (fun K hK => ?_) AllReadyH.nil
            go_simp
            ((with_reducible refine (g14 _).mono ?_); rintro e wz ⟨rfl, hbz⟩)
            refine hK.out _ _ (quad_keep hbz hHeld) (fun hHeld => ?_)
            clear hK K
            try simp only [Act.put, List.setIfInBounds_toArray, List.set_cons_zero, List.set_cons_succ]
            refine wpAnyH_ready (rs := [13]) (by kernel_rfl) (by simp) ?_
            refine AllReadyH.cons rfl (fun K hK => ?_) AllReadyH.nil
            go_simp
            ((with_reducible refine (k21 _).mono ?_); rintro e wz ⟨rfl, hbz⟩)
            refine hK.out _ _ (quad_keep hbz hHeld) (fun hHeld => ?_)
            clear hK K
            try simp only [Act.put, List.setIfInBounds_toArray, List.set_cons_zero, List.set_cons_succ]
            refine wpAnyH_take (i := 14) (oi := ?zvso14) (v := ?zvsv14) ?zvsh14 (by kernel_rfl) (by kernel_rfl) (by kernel_rfl) ?zvsq14 ?zvsy14 hHeld ?zvsr14
            case zvsh14 => (simp only [List.getElem?_toArray, List.getElem?_cons_succ, List.getElem?_cons_zero]; rfl)
            case zvsq14 => exact fun _ _ _ h => h
            case zvsy14 => (refine Or.inl ⟨by first | kernel_rfl | rfl, ?_⟩; intro w hSw; (try dsimp only at hSw); go_simp <;> (try with_reducible rfl))
            try simp only [Act.put, List.setIfInBounds_toArray, List.set_cons_zero, List.set_cons_succ]
            refine wpAnyH_take (i := 15) (oi := ?zvso15) (v := ?zvsv15) ?zvsh15 (by kernel_rfl) (by kernel_rfl) (by kernel_rfl) ?zvsq15 ?zvsy15 hHeld ?zvsr15
            case zvsh15 => (simp only [List.getElem?_toArray, List.getElem?_cons_succ, List.getElem?_cons_zero]; rfl)
            case zvsq15 => exact fun _ _ _ h => h
            case zvsy15 => (refine Or.inl ⟨by first | kernel_rfl | rfl, ?_⟩; intro w hSw; (try dsimp only at hSw); go_simp <;> (try with_reducible rfl))
            try simp only [Act.put, List.setIfInBounds_toArray, List.set_cons_zero, List.set_cons_succ]
            refine wpAnyH_take (i := 16) (oi := ?zvso16) (v := ?zvsv16) ?zvsh16 (by kernel_rfl) (by kernel_rfl) (by kernel_rfl) ?zvsq16 ?zvsy16 hHeld ?zvsr16
            case zvsh16 => (simp only [List.getElem?_toArray, List.getElem?_cons_succ, List.getElem?_cons_zero]; rfl)
            case zvsq16 => exact fun _ _ _ h => h
            case zvsy16 => (refine Or.inl ⟨by first | kernel_rfl | rfl, ?_⟩; intro w hSw; (try dsimp only at hSw); go_simp <;> (try with_reducible rfl))
            try simp only [Act.put, List.setIfInBounds_toArray, List.set_cons_zero, List.set_cons_succ]
            refine wpAnyH_take (i := 17) (oi := ?zvso17) (v := ?zvsv17) ?zvsh17 (by kernel_rfl) (by kernel_rfl) (by kernel_rfl) ?zvsq17 ?zvsy17 hHeld ?zvsr17
            case zvsh17 => (simp only [List.getElem?_toArray, List.getElem?_cons_succ, List.getElem?_cons_zero]; rfl)
            case zvsq17 => exact fun _ _ _ h => h
            case zvsy17 => (refine Or.inl ⟨by first | kernel_rfl | rfl, ?_⟩; intro w hSw; (try dsimp only at hSw); go_simp <;> (try with_reducible rfl))
            try simp only [Act.put, List.setIfInBounds_toArray, List.set_cons_zero, List.set_cons_succ]
            refine wpAnyH_done (by kernel_rfl) ?_ _
            clear s0 s1 a0 a1 b0 b1 c0 c1 hbel
            go_upto_region 14 with fail
            obtain ⟨s0, s1, a0, a1, b0, b1, c0, c1, hbel⟩ := hHeld
            refine wp_region_held_drew (S := (fun wx => wx.cell? ⟨w'.heap.size, 0, none⟩ = some (.int .i64 h) ∧ wx.cell? ⟨w'.heap.size, 1, none⟩ = some (.int .u64 l) ∧ (fun w' => w'.cell? ⟨w.heap.size, 0, none⟩ = some (.int .i64 h1) ∧ w'.cell? ⟨w.heap.size, 1, none⟩ = some (.int .u64 l1) ∧ w'.cell? ⟨w.heap.size + 1, 0, none⟩ = some (.int .i64 h2) ∧ w'.cell? ⟨w.heap.size + 1, 1, none⟩ = some (.int .u64 l2) ∧ w'.cell? ⟨w.heap.size + 1 + 1, 0, none⟩ = some (.int .i64 h3) ∧ w'.cell? ⟨w.heap.size + 1 + 1, 1, none⟩ = some (.int .u64 l3) ∧ Below w.heap.size w w') wx)) (by kernel_rfl) ⟨s0, s1, a0, a1, b0, b1, c0, c1, hbel.drew⟩ (fun hHeld => ?_)
            refine wpAnyH_take (i := 0) (oi := ?zvto0) (v := ?zvtv0) ?zvth0 (by kernel_rfl) (by kernel_rfl) (by kernel_rfl) ?zvtq0 ?zvty0 hHeld ?zvtr0
            case zvth0 => (simp only [List.getElem?_toArray, List.getElem?_cons_zero]; rfl)
            case zvtq0 => exact fun _ _ _ h => h
            case zvty0 => (refine Or.inl ⟨by first | kernel_rfl | rfl, ?_⟩; intro w hSw; (try dsimp only at hSw); go_simp <;> (try with_reducible rfl))
            try simp only [Act.put, List.setIfInBounds_toArray, List.set_cons_zero, List.set_cons_succ]
            refine wpAnyH_take (i := 1) (oi := ?zvto1) (v := ?zvtv1) ?zvth1 (by kernel_rfl) (by kernel_rfl) (by kernel_rfl) ?zvtq1 ?zvty1 hHeld ?zvtr1
            case zvth1 => (simp only [List.getElem?_toArray, List.getElem?_cons_succ, List.getElem?_cons_zero]; rfl)
            case zvtq1 => exact fun _ _ _ h => h
            case zvty1 => (refine Or.inl ⟨by first | kernel_rfl | rfl, ?_⟩; intro w hSw; (try dsimp only at hSw); go_simp <;> (try with_reducible rfl))
            try simp only [Act.put, List.setIfInBounds_toArray, List.set_cons_zero, List.set_cons_succ]
            refine wpAnyH_take (i := 2) (oi := ?zvto2) (v := ?zvtv2) ?zvth2 (by kernel_rfl) (by kernel_rfl) (by kernel_rfl) ?zvtq2 ?zvty2 hHeld ?zvtr2
            case zvth2 => (simp only [List.getElem?_toArray, List.getElem?_cons_succ, List.getElem?_cons_zero]; rfl)
            case zvtq2 => exact fun _ _ _ h => h
            case zvty2 => (refine Or.inl ⟨by first | kernel_rfl | rfl, ?_⟩; intro w hSw; (try dsimp only at hSw); go_simp <;> (try with_reducible rfl))
            try simp only [Act.put, List.setIfInBounds_toArray, List.set_cons_zero, List.set_cons_succ]
            refine wpAnyH_take (i := 3) (oi := ?zvto3) (v := ?zvtv3) ?zvth3 (by kernel_rfl) (by kernel_rfl) (by kernel_rfl) ?zvtq3 ?zvty3 hHeld ?zvtr3
            case zvth3 => (simp only [List.getElem?_toArray, List.getElem?_cons_succ, List.getElem?_cons_zero]; rfl)
            case zvtq3 => exact fun _ _ _ h => h
            case zvty3 => (refine Or.inl ⟨by first | kernel_rfl | rfl, ?_⟩; intro w hSw; (try dsimp only at hSw); go_simp <;> (try with_reducible rfl))
            try simp only [Act.put, List.setIfInBounds_toArray, List.set_cons_zero, List.set_cons_succ]
            refine wpAnyH_take (i := 4) (oi := ?zvto4) (v := ?zvtv4) ?zvth4 (by kernel_rfl) (by kernel_rfl) (by kernel_rfl) ?zvtq4 ?zvty4 hHeld ?zvtr4
            case zvth4 => (simp only [List.getElem?_toArray, List.getElem?_cons_succ, List.getElem?_cons_zero]; rfl)
            case zvtq4 => exact fun _ _ _ h => h
            case zvty4 => (refine Or.inl ⟨by first | kernel_rfl | rfl, ?_⟩; intro w hSw; (try dsimp only at hSw); go_simp <;> (try with_reducible rfl))
            try simp only [Act.put, List.setIfInBounds_toArray, List.set_cons_zero, List.set_cons_succ]
            refine wpAnyH_take (i := 5) (oi := ?zvto5) (v := ?zvtv5) ?zvth5 (by kernel_rfl) (by kernel_rfl) (by kernel_rfl) ?zvtq5 ?zvty5 hHeld ?zvtr5
            case zvth5 => (simp only [List.getElem?_toArray, List.getElem?_cons_succ, List.getElem?_cons_zero]; rfl)
            case zvtq5 => exact fun _ _ _ h => h
            case zvty5 => (refine Or.inl ⟨by first | kernel_rfl | rfl, ?_⟩; intro w hSw; (try dsimp only at hSw); go_simp <;> (try with_reducible rfl))
            try simp only [Act.put, List.setIfInBounds_toArray, List.set_cons_zero, List.set_cons_succ]
            refine wpAnyH_take (i := 6) (oi := ?zvto6) (v := ?zvtv6) ?zvth6 (by kernel_rfl) (by kernel_rfl) (by kernel_rfl) ?zvtq6 ?zvty6 hHeld ?zvtr6
            case zvth6 => (simp only [List.getElem?_toArray, List.getElem?_cons_succ, List.getElem?_cons_zero]; rfl)
            case zvtq6 => exact fun _ _ _ h => h
            case zvty6 => (refine Or.inl ⟨by first | kernel_rfl | rfl, ?_⟩; intro w hSw; (try dsimp only at hSw); go_simp <;> (try with_reducible rfl))
            try simp only [Act.put, List.setIfInBounds_toArray, List.set_cons_zero, List.set_cons_succ]
            refine wpAnyH_take (i := 7) (oi := ?zvto7) (v := ?zvtv7) ?zvth7 (by kernel_rfl) (by kernel_rfl) (by kernel_rfl) ?zvtq7 ?zvty7 hHeld ?zvtr7
            case zvth7 => (simp only [List.getElem?_toArray, List.getElem?_cons_succ, List.getElem?_cons_zero]; rfl)
            case zvtq7 => exact fun _ _ _ h => h
            case zvty7 => (refine Or.inl ⟨by first | kernel_rfl | rfl, ?_⟩; intro w hSw; (try dsimp only at hSw); go_simp <;> (try with_reducible rfl))
            try simp only [Act.put, List.setIfInBounds_toArray, List.set_cons_zero, List.set_cons_succ]
            refine wpAnyH_take (i := 8) (oi := ?zvto8) (v := ?zvtv8) ?zvth8 (by kernel_rfl) (by kernel_rfl) (by kernel_rfl) ?zvtq8 ?zvty8 hHeld ?zvtr8
            case zvth8 => (simp only [List.getElem?_toArray, List.getElem?_cons_succ, List.getElem?_cons_zero]; rfl)
            case zvtq8 => exact fun _ _ _ h => h
            case zvty8 => (refine Or.inl ⟨by first | kernel_rfl | rfl, ?_⟩; intro w hSw; (try dsimp only at hSw); go_simp <;> (try with_reducible rfl))
            try simp only [Act.put, List.setIfInBounds_toArray, List.set_cons_zero, List.set_cons_succ]
            refine wpAnyH_take (i := 9) (oi := ?zvto9) (v := ?zvtv9) ?zvth9 (by kernel_rfl) (by kernel_rfl) (by kernel_rfl) ?zvtq9 ?zvty9 hHeld ?zvtr9
            case zvth9 => (simp only [List.getElem?_toArray, List.getElem?_cons_succ, List.getElem?_cons_zero]; rfl)
            case zvtq9 => exact fun _ _ _ h => h
            case zvty9 => (refine Or.inl ⟨by first | kernel_rfl | rfl, ?_⟩; intro w hSw; (try dsimp only at hSw); go_simp <;> (try with_reducible rfl))
            try simp only [Act.put, List.setIfInBounds_toArray, List.set_cons_zero, List.set_cons_succ]
            refine wpAnyH_take (i := 10) (oi := ?zvto10) (v := ?zvtv10) ?zvth10 (by kernel_rfl) (by kernel_rfl) (by kernel_rfl) ?zvtq10 ?zvty10 hHeld ?zvtr10
            case zvth10 => (simp only [List.getElem?_toArray, List.getElem?_cons_succ, List.getElem?_cons_zero]; rfl)
            case zvtq10 => exact fun _ _ _ h => h
            case zvty10 => (refine Or.inl ⟨by first | kernel_rfl | rfl, ?_⟩; intro w hSw; (try dsimp only at hSw); go_simp <;> (try with_reducible rfl))
            try simp only [Act.put, List.setIfInBounds_toArray, List.set_cons_zero, List.set_cons_succ]
            refine wpAnyH_take (i := 11) (oi := ?zvto11) (v := ?zvtv11) ?zvth11 (by kernel_rfl) (by kernel_rfl) (by kernel_rfl) ?zvtq11 ?zvty11 hHeld ?zvtr11
            case zvth11 => (simp only [List.getElem?_toArray, List.getElem?_cons_succ, List.getElem?_cons_zero]; rfl)
            case zvtq11 => exact fun _ _ _ h => h
            case zvty11 => (refine Or.inl ⟨by first | kernel_rfl | rfl, ?_⟩; intro w hSw; (try dsimp only at hSw); go_simp <;> (try with_reducible rfl))
            try simp only [Act.put, List.setIfInBounds_toArray, List.set_cons_zero, List.set_cons_succ]
            refine wpAnyH_ready (rs := [12]) (by kernel_rfl) (by simp) ?_
            refine AllReadyH.cons rfl (fun K hK => ?_) AllReadyH.nil
            go_simp
            ((with_reducible refine (g20 _).mono ?_); rintro e w' ⟨rfl, hb'⟩)
            refine hK.out _ _ (quad_keep hb' hHeld) (fun hHeld => ?_)
            clear hK K
            try simp only [Act.put, List.setIfInBounds_toArray, List.set_cons_zero, List.set_cons_succ]
            refine wpAnyH_take (i := 13) (oi := ?zvto13) (v := ?zvtv13) ?zvth13 (by kernel_rfl) (by kernel_rfl) (by kernel_rfl) ?zvtq13 ?zvty13 hHeld ?zvtr13
            case zvth13 => (simp only [List.getElem?_toArray, List.getElem?_cons_succ, List.getElem?_cons_zero]; rfl)
            case zvtq13 => exact fun _ _ _ h => h
            case zvty13 => (refine Or.inl ⟨by first | kernel_rfl | rfl, ?_⟩; intro w hSw; (try dsimp only at hSw); go_simp <;> (try with_reducible rfl))
            try simp only [Act.put, List.setIfInBounds_toArray, List.set_cons_zero, List.set_cons_succ]
            refine wpAnyH_take (i := 14) (oi := ?zvto14) (v := ?zvtv14) ?zvth14 (by kernel_rfl) (by kernel_rfl) (by kernel_rfl) ?zvtq14 ?zvty14 hHeld ?zvtr14
            case zvth14 => (simp only [List.getElem?_toArray, List.getElem?_cons_succ, List.getElem?_cons_zero]; rfl)
            case zvtq14 => exact fun _ _ _ h => h
            case zvty14 => (refine Or.inl ⟨by first | kernel_rfl | rfl, ?_⟩; intro w hSw; (try dsimp only at hSw); go_simp <;> (try with_reducible rfl))
            try simp only [Act.put, List.setIfInBounds_toArray, List.set_cons_zero, List.set_cons_succ]
            refine wpAnyH_take (i := 15) (oi := ?zvto15) (v := ?zvtv15) ?zvth15 (by kernel_rfl) (by kernel_rfl) (by kernel_rfl) ?zvtq15 ?zvty15 hHeld ?zvtr15
            case zvth15 => (simp only [List.getElem?_toArray, List.getElem?_cons_succ, List.getElem?_cons_zero]; rfl)
            case zvtq15 => exact fun _ _ _ h => h
            case zvty15 => (refine Or.inl ⟨by first | kernel_rfl | rfl, ?_⟩; intro w hSw; (try dsimp only at hSw); go_simp <;> (try with_reducible rfl))
            try simp only [Act.put, List.setIfInBounds_toArray, List.set_cons_zero, List.set_cons_succ]
            refine wpAnyH_take (i := 16) (oi := ?zvto16) (v := ?zvtv16) ?zvth16 (by kernel_rfl) (by kernel_rfl) (by kernel_rfl) ?zvtq16 ?zvty16 hHeld ?zvtr16
            case zvth16 => (simp only [List.getElem?_toArray, List.getElem?_cons_succ, List.getElem?_cons_zero]; rfl)
            case zvtq16 => exact fun _ _ _ h => h
            case zvty16 => (refine Or.inl ⟨by first | kernel_rfl | rfl, ?_⟩; intro w hSw; (try dsimp only at hSw); go_simp <;> (try with_reducible rfl))
            try simp only [Act.put, List.setIfInBounds_toArray, List.set_cons_zero, List.set_cons_succ]
            refine wpAnyH_take (i := 17) (oi := ?zvto17) (v := ?zvtv17) ?zvth17 (by kernel_rfl) (by kernel_rfl) (by kernel_rfl) ?zvtq17 ?zvty17 hHeld ?zvtr17
            case zvth17 => (simp only [List.getElem?_toArray, List.getElem?_cons_succ, List.getElem?_cons_zero]; rfl)
            case zvtq17 => exact fun _ _ _ h => h
            case zvty17 => (refine Or.inl ⟨by first | kernel_rfl | rfl, ?_⟩; intro w hSw; (try dsimp only at hSw); go_simp <;> (try with_reducible rfl))
            try simp only [Act.put, List.setIfInBounds_toArray, List.set_cons_zero, List.set_cons_succ]
            refine wpAnyH_take (i := 18) (oi := ?zvto18) (v := ?zvtv18) ?zvth18 (by kernel_rfl) (by kernel_rfl) (by kernel_rfl) ?zvtq18 ?zvty18 hHeld ?zvtr18
            case zvth18 => (simp only [List.getElem?_toArray, List.getElem?_cons_succ, List.getElem?_cons_zero]; rfl)
            case zvtq18 => exact fun _ _ _ h => h
            case zvty18 => (refine Or.inl ⟨by first | kernel_rfl | rfl, ?_⟩; intro w hSw; (try dsimp only at hSw); go_simp <;> (try with_reducible rfl))
            try simp only [Act.put, List.setIfInBounds_toArray, List.set_cons_zero, List.set_cons_succ]
            refine wpAnyH_done (by kernel_rfl) ?_ _
            have hbel := hHeld.2.2.2.2.2.2.2.2
            go_wp2
            go_ret
            refine ⟨ret_bool ?_, hbel⟩
            first
            | rfl
            | (simp [*])
          · have hv2 : ¬ v2 < 0 := fun x => hv1 (hv.2 x)
            clear hv
            go_upto_region 13 with fail
            refine wp_region_held_drew (S := (fun wx => wx.cell? ⟨w'.heap.size, 0, none⟩ = some (.int .i64 h) ∧ wx.cell? ⟨w'.heap.size, 1, none⟩ = some (.int .u64 l) ∧ (fun w' => w'.cell? ⟨w.heap.size, 0, none⟩ = some (.int .i64 h1) ∧ w'.cell? ⟨w.heap.size, 1, none⟩ = some (.int .u64 l1) ∧ w'.cell? ⟨w.heap.size + 1, 0, none⟩ = some (.int .i64 h2) ∧ w'.cell? ⟨w.heap.size + 1, 1, none⟩ = some (.int .u64 l2) ∧ w'.cell? ⟨w.heap.size + 1 + 1, 0, none⟩ = some (.int .i64 h3) ∧ w'.cell? ⟨w.heap.size + 1 + 1, 1, none⟩ = some (.int .u64 l3) ∧ Below w.heap.size w w') wx)) (by kernel_rfl) ⟨s0, s1, a0, a1, b0, b1, c0, c1, hbel.drew⟩ (fun hHeld => ?_)
            refine wpAnyH_take (i := 0) (oi := ?zwso0) (v := ?zwsv0) ?zwsh0 (by kernel_rfl) (by kernel_rfl) (by kernel_rfl) ?zwsq0 ?zwsy0 hHeld ?zwsr0
            case zwsh0 => (simp only [List.getElem?_toArray, List.getElem?_cons_zero]; rfl)
            case zwsq0 => exact fun _ _ _ h => h
            case zwsy0 => (refine Or.inl ⟨by first | kernel_rfl | rfl, ?_⟩; intro w hSw; (try dsimp only at hSw); go_simp <;> (try with_reducible rfl))
            try simp only [Act.put, List.setIfInBounds_toArray, List.set_cons_zero, List.set_cons_succ]
            refine wpAnyH_take (i := 1) (oi := ?zwso1) (v := ?zwsv1) ?zwsh1 (by kernel_rfl) (by kernel_rfl) (by kernel_rfl) ?zwsq1 ?zwsy1 hHeld ?zwsr1
            case zwsh1 => (simp only [List.getElem?_toArray, List.getElem?_cons_succ, List.getElem?_cons_zero]; rfl)
            case zwsq1 => exact fun _ _ _ h => h
            case zwsy1 => (refine Or.inl ⟨by first | kernel_rfl | rfl, ?_⟩; intro w hSw; (try dsimp only at hSw); go_simp <;> (try with_reducible rfl))
            try simp only [Act.put, List.setIfInBounds_toArray, List.set_cons_zero, List.set_cons_succ]
            refine wpAnyH_take (i := 2) (oi := ?zwso2) (v := ?zwsv2) ?zwsh2 (by kernel_rfl) (by kernel_rfl) (by kernel_rfl) ?zwsq2 ?zwsy2 hHeld ?zwsr2
            case zwsh2 => (simp only [List.getElem?_toArray, List.getElem?_cons_succ, List.getElem?_cons_zero]; rfl)
            case zwsq2 => exact fun _ _ _ h => h
            case zwsy2 => (refine Or.inl ⟨by first | kernel_rfl | rfl, ?_⟩; intro w hSw; (try dsimp only at hSw); go_simp <;> (try with_reducible rfl))
            try simp only [Act.put, List.setIfInBounds_toArray, List.set_cons_zero, List.set_cons_succ]
            refine wpAnyH_take (i := 3) (oi := ?zwso3) (v := ?zwsv3) ?zwsh3 (by kernel_rfl) (by kernel_rfl) (by kernel_rfl) ?zwsq3 ?zwsy3 hHeld ?zwsr3
            case zwsh3 => (simp only [List.getElem?_toArray, List.getElem?_cons_succ, List.getElem?_cons_zero]; rfl)
            case zwsq3 => exact fun _ _ _ h => h
            case zwsy3 => (refine Or.inl ⟨by first | kernel_rfl | rfl, ?_⟩; intro w hSw; (try dsimp only at hSw); go_simp <;> (try with_reducible rfl))
            try simp only [Act.put, List.setIfInBounds_toArray, List.set_cons_zero, List.set_cons_succ]
            refine wpAnyH_take (i := 4) (oi := ?zwso4) (v := ?zwsv4) ?zwsh4 (by kernel_rfl) (by kernel_rfl) (by kernel_rfl) ?zwsq4 ?zwsy4 hHeld ?zwsr4
            case zwsh4 => (simp only [List.getElem?_toArray, List.getElem?_cons_succ, List.getElem?_cons_zero]; rfl)
            case zwsq4 => exact fun _ _ _ h => h
            case zwsy4 => (refine Or.inl ⟨by first | kernel_rfl | rfl, ?_⟩; intro w hSw; (try dsimp only at hSw); go_simp <;> (try with_reducible rfl))
            try simp only [Act.put, List.setIfInBounds_toArray, List.set_cons_zero, List.set_cons_succ]
            refine wpAnyH_take (i := 7) (oi := ?zwso7) (v := ?zwsv7) ?zwsh7 (by kernel_rfl) (by kernel_rfl) (by kernel_rfl) ?zwsq7 ?zwsy7 hHeld ?zwsr7
            case zwsh7 => (simp only [List.getElem?_toArray, List.getElem?_cons_succ, List.getElem?_cons_zero]; rfl)
            case zwsq7 => exact fun _ _ _ h => h
            case zwsy7 => (refine Or.inl ⟨by first | kernel_rfl | rfl, ?_⟩; intro w hSw; (try dsimp only at hSw); go_simp <;> (try with_reducible rfl))
            try simp only [Act.put, List.setIfInBounds_toArray, List.set_cons_zero, List.set_cons_succ]
            refine wpAnyH_take (i := 8) (oi := ?zwso8) (v := ?zwsv8) ?zwsh8 (by kernel_rfl) (by kernel_rfl) (by kernel_rfl) ?zwsq8 ?zwsy8 hHeld ?zwsr8
            case zwsh8 => (simp only [List.getElem?_toArray, List.getElem?_cons_succ, List.getElem?_cons_zero]; rfl)
            case zwsq8 => exact fun _ _ _ h => h
            case zwsy8 => (refine Or.inl ⟨by first | kernel_rfl | rfl, ?_⟩; intro w hSw; (try dsimp only at hSw); go_simp <;> (try with_reducible rfl))
            try simp only [Act.put, List.setIfInBounds_toArray, List.set_cons_zero, List.set_cons_succ]
            refine wpAnyH_take (i := 10) (oi := ?zwso10) (v := ?zwsv10) ?zwsh10 (by kernel_rfl) (by kernel_rfl) (by kernel_rfl) ?zwsq10 ?zwsy10 hHeld ?zwsr10
            case zwsh10 => (simp only [List.getElem?_toArray, List.getElem?_cons_succ, List.getElem?_cons_zero]; rfl)
            case zwsq10 => exact fun _ _ _ h => h
            case zwsy10 => (refine Or.inl ⟨by first | kernel_rfl | rfl, ?_⟩; intro w hSw; (try dsimp only at hSw); go_simp <;> (try with_reducible rfl))
            try simp only [Act.put, List.setIfInBounds_toArray, List.set_cons_zero, List.set_cons_succ]
            refine wpAnyH_take (i := 11) (oi := ?zwso11) (v := ?zwsv11) ?zwsh11 (by kernel_rfl) (by kernel_rfl) (by kernel_rfl) ?zwsq11 ?zwsy11 hHeld ?zwsr11
            case zwsh11 => (simp only [List.getElem?_toArray, List.getElem?_cons_succ, List.getElem?_cons_zero]; rfl)
            case zwsq11 => exact fun _ _ _ h => h
            case zwsy11 => (refine Or.inl ⟨by first | kernel_rfl | rfl, ?_⟩; intro w hSw; (try dsimp only at hSw); go_simp <;> (try with_reducible rfl))
            try simp only [Act.put, List.setIfInBounds_toArray, List.set_cons_zero, List.set_cons_succ]
            refine wpAnyH_ready (rs := [5]) (by kernel_rfl) (by simp) ?_
            refine AllReadyH.cons rfl (fun K hK => ?_) AllReadyH.nil
            go_simp
            ((with_reducible refine (k20 _).mono ?_); rintro e wz ⟨rfl, hbz⟩)
            refine hK.out _ _ (quad_keep hbz hHeld) (fun hHeld => ?_)
            clear hK K
            try simp only [Act.put, List.setIfInBounds_toArray, List.set_cons_zero, List.set_cons_succ]
            refine wpAnyH_take (i := 6) (oi := ?zwso6) (v := ?zwsv6) ?zwsh6 (by kernel_rfl) (by kernel_rfl) (by kernel_rfl) ?zwsq6 ?zwsy6 hHeld ?zwsr6
            case zwsh6 => (simp only [List.getElem?_toArray, List.getElem?_cons_succ, List.getElem?_cons_zero]; rfl)
            case zwsq6 => exact fun _ _ _ h => h
            case zwsy6 => (refine Or.inl ⟨by first | kernel_rfl | rfl, ?_⟩; intro w hSw; (try dsimp only at hSw); go_simp <;> (try with_reducible rfl))
            try simp only [Act.put, List.setIfInBounds_toArray, List.set_cons_zero, List.set_cons_succ]
            refine wpAnyH_ready (rs := [9]) (by kernel_rfl) (by simp) ?_
            refine AllReadyH.cons rfl (fun K hK => ?_) AllReadyH.nil
            go_simp
            ((with_reducible refine (g13 _).mono ?_); rintro e wz ⟨rfl, hbz⟩)
            refine hK.out _ _ (quad_keep hbz hHeld) (fun hHeld => ?_)
            clear hK K
            try simp only [Act.put, List.setIfInBounds_toArray, List.set_cons_zero, List.set_cons_succ]
            refine wpAnyH_ready (rs := [12]) (by kernel_rfl) (by simp) ?_
            refine AllReadyH.cons rfl (fun K hK => ?_) AllReadyH.nil
            go_simp
            ((with_reducible refine (g14 _).mono ?_); rintro e wz ⟨rfl, hbz⟩)
            refine hK.out _ _ (quad_keep hbz hHeld) (fun hHeld => ?_)
            clear hK K
            try simp only [Act.put, List.setIfInBounds_toArray, List.set_cons_zero, List.set_cons_succ]
            refine wpAnyH_ready (rs := [13]) (by kernel_rfl) (by simp) ?_
            refine AllReadyH.cons rfl (fun K hK => ?_) AllReadyH.nil
            go_simp
            ((with_reducible refine (k21 _).mono ?_); rintro e wz ⟨rfl, hbz⟩)
            refine hK.out _ _ (quad_keep hbz hHeld) (fun hHeld => ?_)
            clear hK K
            try simp only [Act.put, List.setIfInBounds_toArray, List.set_cons_zero, List.set_cons_succ]
            refine wpAnyH_take (i := 14) (oi := ?zwso14) (v := ?zwsv14) ?zwsh14 (by kernel_rfl) (by kernel_rfl) (by kernel_rfl) ?zwsq14 ?zwsy14 hHeld ?zwsr14
            case zwsh14 => (simp only [List.getElem?_toArray, List.getElem?_cons_succ, List.getElem?_cons_zero]; rfl)
            case zwsq14 => exact fun _ _ _ h => h
            case zwsy14 => (refine Or.inl ⟨by first | kernel_rfl | rfl, ?_⟩; intro w hSw; (try dsimp only at hSw); go_simp <;> (try with_reducible rfl))
            try simp only [Act.put, List.setIfInBounds_toArray, List.set_cons_zero, List.set_cons_succ]
            refine wpAnyH_take (i := 15) (oi := ?zwso15) (v := ?zwsv15) ?zwsh15 (by kernel_rfl) (by kernel_rfl) (by kernel_rfl) ?zwsq15 ?zwsy15 hHeld ?zwsr15
            case zwsh15 => (simp only [List.getElem?_toArray, List.getElem?_cons_succ, List.getElem?_cons_zero]; rfl)
            case zwsq15 => exact fun _ _ _ h => h
            case zwsy15 => (refine Or.inl ⟨by first | kernel_rfl | rfl, ?_⟩; intro w hSw; (try dsimp only at hSw); go_simp <;> (try with_reducible rfl))
            try simp only [Act.put, List.setIfInBounds_toArray, List.set_cons_zero, List.set_cons_succ]
            refine wpAnyH_take (i := 16) (oi := ?zwso16) (v := ?zwsv16) ?zwsh16 (by kernel_rfl) (by kernel_rfl) (by kernel_rfl) ?zwsq16 ?zwsy16 hHeld ?zwsr16
            case zwsh16 => (simp only [List.getElem?_toArray, List.getElem?_cons_succ, List.getElem?_cons_zero]; rfl)
            case zwsq16 => exact fun _ _ _ h => h
            case zwsy16 => (refine Or.inl ⟨by first | kernel_rfl | rfl, ?_⟩; intro w hSw; (try dsimp only at hSw); go_simp <;> (try with_reducible rfl))
            try simp only [Act.put, List.setIfInBounds_toArray, List.set_cons_zero, List.set_cons_succ]
            refine wpAnyH_take (i := 17) (oi := ?zwso17) (v := ?zwsv17) ?zwsh17 (by kernel_rfl) (by kernel_rfl) (by kernel_rfl) ?zwsq17 ?zwsy17 hHeld ?zwsr17
            case zwsh17 => (simp only [List.getElem?_toArray, List.getElem?_cons_succ, List.getElem?_cons_zero]; rfl)
            case zwsq17 => exact fun _ _ _ h => h
            case zwsy17 => (refine Or.inl ⟨by first | kernel_rfl | rfl, ?_⟩; intro w hSw; (try dsimp only at hSw); go_simp <;> (try with_reducible rfl))
            try simp only [Act.put, List.setIfInBounds_toArray, List.set_cons_zero, List.set_cons_succ]
            refine wpAnyH_done (by kernel_rfl) ?_ _
            clear s0 s1 a0 a1 b0 b1 c0 c1 hbel
            go_upto_region 14 with fail
            obtain ⟨s0, s1, a0, a1, b0, b1, c0, c1, hbel⟩ := hHeld
            refine wp_region_held_drew (S := (fun wx => wx.cell? ⟨w'.heap.size, 0, none⟩ = some (.int .i64 h) ∧ wx.cell? ⟨w'.heap.size, 1, none⟩ = some (.int .u64 l) ∧ (fun w' => w'.cell? ⟨w.heap.size, 0, none⟩ = some (.int .i64 h1) ∧ w'.cell? ⟨w.heap.size, 1, none⟩ = some (.int .u64 l1) ∧ w'.cell? ⟨w.heap.size + 1, 0, none⟩ = some (.int .i64 h2) ∧ w'.cell? ⟨w.heap.size + 1, 1, none⟩ = some (.int .u64 l2) ∧ w'.cell? ⟨w.heap.size + 1 + 1, 0, none⟩ = some (.int .i64 h3) ∧ w'.cell? ⟨w.heap.size + 1 + 1, 1, none⟩ = some (.int .u64 l3) ∧ Below w.heap.size w w') wx)) (by kernel_rfl) ⟨s0, s1, a0, a1, b0, b1, c0, c1, hbel.drew⟩ (fun hHeld => ?_)
            refine wpAnyH_take (i := 0) (oi := ?zwto0) (v := ?zwtv0) ?zwth0 (by kernel_rfl) (by kernel_rfl) (by kernel_rfl) ?zwtq0 ?zwty0 hHeld ?zwtr0
            case zwth0 => (simp only [List.getElem?_toArray, List.getElem?_cons_zero]; rfl)
            case zwtq0 => exact fun _ _ _ h => h
            case zwty0 => (refine Or.inl ⟨by first | kernel_rfl | rfl, ?_⟩; intro w hSw; (try dsimp only at hSw); go_simp <;> (try with_reducible rfl))
            try simp only [Act.put, List.setIfInBounds_toArray, List.set_cons_zero, List.set_cons_succ]
            refine wpAnyH_take (i := 1) (oi := ?zwto1) (v := ?zwtv1) ?zwth1 (by kernel_rfl) (by kernel_rfl) (by kernel_rfl) ?zwtq1 ?zwty1 hHeld ?zwtr1
            case zwth1 => (simp only [List.getElem?_toArray, List.getElem?_cons_succ, List.getElem?_cons_zero]; rfl)
            case zwtq1 => exact fun _ _ _ h => h
            case zwty1 => (refine Or.inl ⟨by first | kernel_rfl | rfl, ?_⟩; intro w hSw; (try dsimp only at hSw); go_simp <;> (try with_reducible rfl))
            try simp only [Act.put, List.setIfInBounds_toArray, List.set_cons_zero, List.set_cons_succ]
            refine wpAnyH_take (i := 2) (oi := ?zwto2) (v := ?zwtv2) ?zwth2 (by kernel_rfl) (by kernel_rfl) (by kernel_rfl) ?zwtq2 ?zwty2 hHeld ?zwtr2
            case zwth2 => (simp only [List.getElem?_toArray, List.getElem?_cons_succ, List.getElem?_cons_zero]; rfl)
            case zwtq2 => exact fun _ _ _ h => h
            case zwty2 => (refine Or.inl ⟨by first | kernel_rfl | rfl, ?_⟩; intro w hSw; (try dsimp only at hSw); go_simp <;> (try with_reducible rfl))
            try simp only [Act.put, List.setIfInBounds_toArray, List.set_cons_zero, List.set_cons_succ]
            refine wpAnyH_take (i := 3) (oi := ?zwto3) (v := ?zwtv3) ?zwth3 (by kernel_rfl) (by kernel_rfl) (by kernel_rfl) ?zwtq3 ?zwty3 hHeld ?zwtr3
            case zwth3 => (simp only [List.getElem?_toArray, List.getElem?_cons_succ, List.getElem?_cons_zero]; rfl)
            case zwtq3 => exact fun _ _ _ h => h
            case zwty3 => (refine Or.inl ⟨by first | kernel_rfl | rfl, ?_⟩; intro w hSw; (try dsimp only at hSw); go_simp <;> (try with_reducible rfl))
            try simp only [Act.put, List.setIfInBounds_toArray, List.set_cons_zero, List.set_cons_succ]
            refine wpAnyH_take (i := 4) (oi := ?zwto4) (v := ?zwtv4) ?zwth4 (by kernel_rfl) (by kernel_rfl) (by kernel_rfl) ?zwtq4 ?zwty4 hHeld ?zwtr4
            case zwth4 => (simp only [List.getElem?_toArray, List.getElem?_cons_succ, List.getElem?_cons_zero]; rfl)
            case zwtq4 => exact fun _ _ _ h => h
            case zwty4 => (refine Or.inl ⟨by first | kernel_rfl | rfl, ?_⟩; intro w hSw; (try dsimp only at hSw); go_simp <;> (try with_reducible rfl))
            try simp only [Act.put, List.setIfInBounds_toArray, List.set_cons_zero, List.set_cons_succ]
            refine wpAnyH_take (i := 5) (oi := ?zwto5) (v := ?zwtv5) ?zwth5 (by kernel_rfl) (by kernel_rfl) (by kernel_rfl) ?zwtq5 ?zwty5 hHeld ?zwtr5
            case zwth5 => (simp only [List.getElem?_toArray, List.getElem?_cons_succ, List.getElem?_cons_zero]; rfl)
            case zwtq5 => exact fun _ _ _ h => h
            case zwty5 => (refine Or.inl ⟨by first | kernel_rfl | rfl, ?_⟩; intro w hSw; (try dsimp only at hSw); go_simp <;> (try with_reducible rfl))
            try simp only [Act.put, List.setIfInBounds_toArray, List.set_cons_zero, List.set_cons_succ]
            refine wpAnyH_take (i := 6) (oi := ?zwto6) (v := ?zwtv6) ?zwth6 (by kernel_rfl) (by kernel_rfl) (by kernel_rfl) ?zwtq6 ?zwty6 hHeld ?zwtr6
            case zwth6 => (simp only [List.getElem?_toArray, List.getElem?_cons_succ, List.getElem?_cons_zero]; rfl)
            case zwtq6 => exact fun _ _ _ h => h
            case zwty6 => (refine Or.inl ⟨by first | kernel_rfl | rfl, ?_⟩; intro w hSw; (try dsimp only at hSw); go_simp <;> (try with_reducible rfl))
            try simp only [Act.put, List.setIfInBounds_toArray, List.set_cons_zero, List.set_cons_succ]
            refine wpAnyH_take (i := 7) (oi := ?zwto7) (v := ?zwtv7) ?zwth7 (by kernel_rfl) (by kernel_rfl) (by kernel_rfl) ?zwtq7 ?zwty7 hHeld ?zwtr7
            case zwth7 => (simp only [List.getElem?_toArray, List.getElem?_cons_succ, List.getElem?_cons_zero]; rfl)
            case zwtq7 => exact fun _ _ _ h => h
            case zwty7 => (refine Or.inl ⟨by first | kernel_rfl | rfl, ?_⟩; intro w hSw; (try dsimp only at hSw); go_simp <;> (try with_reducible rfl))
            try simp only [Act.put, List.setIfInBounds_toArray, List.set_cons_zero, List.set_cons_succ]
            refine wpAnyH_take (i := 8) (oi := ?zwto8) (v := ?zwtv8) ?zwth8 (by kernel_rfl) (by kernel_rfl) (by kernel_rfl) ?zwtq8 ?zwty8 hHeld ?zwtr8
            case zwth8 => (simp only [List.getElem?_toArray, List.getElem?_cons_succ, List.getElem?_cons_zero]; rfl)
            case zwtq8 => exact fun _ _ _ h => h
            case zwty8 => (refine Or.inl ⟨by first | kernel_rfl | rfl, ?_⟩; intro w hSw; (try dsimp only at hSw); go_simp <;> (try with_reducible rfl))
            try simp only [Act.put, List.setIfInBounds_toArray, List.set_cons_zero, List.set_cons_succ]
            refine wpAnyH_take (i := 9) (oi := ?zwto9) (v := ?zwtv9) ?zwth9 (by kernel_rfl) (by kernel_rfl) (by kernel_rfl) ?zwtq9 ?zwty9 hHeld ?zwtr9
            case zwth9 => (simp only [List.getElem?_toArray, List.getElem?_cons_succ, List.getElem?_cons_zero]; rfl)
            case zwtq9 => exact fun _ _ _ h => h
            case zwty9 => (refine Or.inl ⟨by first | kernel_rfl | rfl, ?_⟩; intro w hSw; (try dsimp only at hSw); go_simp <;> (try with_reducible rfl))
            try simp only [Act.put, List.setIfInBounds_toArray, List.set_cons_zero, List.set_cons_succ]
            refine wpAnyH_take (i := 10) (oi := ?zwto10) (v := ?zwtv10) ?zwth10 (by kernel_rfl) (by kernel_rfl) (by kernel_rfl) ?zwtq10 ?zwty10 hHeld ?zwtr10
            case zwth10 => (simp only [List.getElem?_toArray, List.getElem?_cons_succ, List.getElem?_cons_zero]; rfl)
            case zwtq10 => exact fun _ _ _ h => h
            case zwty10 => (refine Or.inl ⟨by first | kernel_rfl | rfl, ?_⟩; intro w hSw; (try dsimp only at hSw); go_simp <;> (try with_reducible rfl))
            try simp only [Act.put, List.setIfInBounds_toArray, List.set_cons_zero, List.set_cons_succ]
            refine wpAnyH_take (i := 11) (oi := ?zwto11) (v := ?zwtv11) ?zwth11 (by kernel_rfl) (by kernel_rfl) (by kernel_rfl) ?zwtq11 ?zwty11 hHeld ?zwtr11
            case zwth11 => (simp only [List.getElem?_toArray, List.getElem?_cons_succ, List.getElem?_cons_zero]; rfl)
            case zwtq11 => exact fun _ _ _ h => h
            case zwty11 => (refine Or.inl ⟨by first | kernel_rfl | rfl, ?_⟩; intro w hSw; (try dsimp only at hSw); go_simp <;> (try with_reducible rfl))
            try simp only [Act.put, List.setIfInBounds_toArray, List.set_cons_zero, List.set_cons_succ]
            refine wpAnyH_ready (rs := [12]) (by kernel_rfl) (by simp) ?_
            refine AllReadyH.cons rfl (fun K hK => ?_) AllReadyH.nil
            go_simp
            ((with_reducible refine (g20 _).mono ?_); rintro e w' ⟨rfl, hb'⟩)
            refine hK.out _ _ (quad_keep hb' hHeld) (fun hHeld => ?_)
            clear hK K
            try simp only [Act.put, List.setIfInBounds_toArray, List.set_cons_zero, List.set_cons_succ]
            refine wpAnyH_take (i := 13) (oi := ?zwto13) (v := ?zwtv13) ?zwth13 (by kernel_rfl) (by kernel_rfl) (by kernel_rfl) ?zwtq13 ?zwty13 hHeld ?zwtr13
            case zwth13 => (simp only [List.getElem?_toArray, List.getElem?_cons_succ, List.getElem?_cons_zero]; rfl)
            case zwtq13 => exact fun _ _ _ h => h
            case zwty13 => (refine Or.inl ⟨by first | kernel_rfl | rfl, ?_⟩; intro w hSw; (try dsimp only at hSw); go_simp <;> (try with_reducible rfl))
            try simp only [Act.put, List.setIfInBounds_toArray, List.set_cons_zero, List.set_cons_succ]
            refine wpAnyH_take (i := 14) (oi := ?zwto14) (v := ?zwtv14) ?zwth14 (by kernel_rfl) (by kernel_rfl) (by kernel_rfl) ?zwtq14 ?zwty14 hHeld ?zwtr14
            case zwth14 => (simp only [List.getElem?_toArray, List.getElem?_cons_succ, List.getElem?_cons_zero]; rfl)
            case zwtq14 => exact fun _ _ _ h => h
            case zwty14 => (refine Or.inl ⟨by first | kernel_rfl | rfl, ?_⟩; intro w hSw; (try dsimp only at hSw); go_simp <;> (try with_reducible rfl))
            try simp only [Act.put, List.setIfInBounds_toArray, List.set_cons_zero, List.set_cons_succ]
            refine wpAnyH_take (i := 15) (oi := ?zwto15) (v := ?zwtv15) ?zwth15 (by kernel_rfl) (by kernel_rfl) (by kernel_rfl) ?zwtq15 ?zwty15 hHeld ?zwtr15
            case zwth15 => (simp only [List.getElem?_toArray, List.getElem?_cons_succ, List.getElem?_cons_zero]; rfl)
            case zwtq15 => exact fun _ _ _ h => h
            case zwty15 => (refine Or.inl ⟨by first | kernel_rfl | rfl, ?_⟩; intro w hSw; (try dsimp only at hSw); go_simp <;> (try with_reducible rfl))
            try simp only [Act.put, List.setIfInBounds_toArray, List.set_cons_zero, List.set_cons_succ]
            refine wpAnyH_take (i := 16) (oi := ?zwto16) (v := ?zwtv16) ?zwth16 (by kernel_rfl) (by kernel_rfl) (by kernel_rfl) ?zwtq16 ?zwty16 hHeld ?zwtr16
            case zwth16 => (simp only [List.getElem?_toArray, List.getElem?_cons_succ, List.getElem?_cons_zero]; rfl)
            case zwtq16 => exact fun _ _ _ h => h
            case zwty16 => (refine Or.inl ⟨by first | kernel_rfl | rfl, ?_⟩; intro w hSw; (try dsimp only at hSw); go_simp <;> (try with_reducible rfl))
            try simp only [Act.put, List.setIfInBounds_toArray, List.set_cons_zero, List.set_cons_succ]
            refine wpAnyH_take (i := 17) (oi := ?zwto17) (v := ?zwtv17) ?zwth17 (by kernel_rfl) (by kernel_rfl) (by kernel_rfl) ?zwtq17 ?zwty17 hHeld ?zwtr17
            case zwth17 => (simp only [List.getElem?_toArray, List.getElem?_cons_succ, List.getElem?_cons_zero]; rfl)
            case zwtq17 => exact fun _ _ _ h => h
            case zwty17 => (refine Or.inl ⟨by first | kernel_rfl | rfl, ?_⟩; intro w hSw; (try dsimp only at hSw); go_simp <;> (try with_reducible rfl))
            try simp only [Act.put, List.setIfInBounds_toArray, List.set_cons_zero, List.set_cons_succ]
            refine wpAnyH_take (i := 18) (oi := ?zwto18) (v := ?zwtv18) ?zwth18 (by kernel_rfl) (by kernel_rfl) (by kernel_rfl) ?zwtq18 ?zwty18 hHeld ?zwtr18
            case zwth18 => (simp only [List.getElem?_toArray, List.getElem?_cons_succ, List.getElem?_cons_zero]; rfl)
            case zwtq18 => exact fun _ _ _ h => h
            case zwty18 => (refine Or.inl ⟨by first | kernel_rfl | rfl, ?_⟩; intro w hSw; (try dsimp only at hSw); go_simp <;> (try with_reducible rfl))
            try simp only [Act.put, List.setIfInBounds_toArray, List.set_cons_zero, List.set_cons_succ]
            refine wpAnyH_done (by kernel_rfl) ?_ _
            have hbel := hHeld.2.2.2.2.2.2.2.2
            go_wp2
            go_ret
            refine ⟨ret_bool ?_, hbel⟩
            first
            | rfl
            | (simp [*])
        · have g20 := fun w => times_any h1 l1 _ h l a _ w (by omega) (by omega) A R (sm_cong _)
          have hw : IntKind.u32.wrap (k : Int) = (k : Int) := by rw [IntKind.wrap_u32]; omega
          have q5 : ∀ w, (binOp .eql 24 (.agg #[.int .i64 (h), .int .u64 (l)]) (.agg #[.int .i64 (h), .int .u64 (l)])).run Try.prog w = .ok (.bool true) w := fun w => by rw [eql_run]; simp
          go_upto_region 13 with fail
          refine wp_region_held_drew (S := (fun wx => wx.cell? ⟨w'.heap.size, 0, none⟩ = some (.int .i64 h) ∧ wx.cell? ⟨w'.heap.size, 1, none⟩ = some (.int .u64 l) ∧ (fun w' => w'.cell? ⟨w.heap.size, 0, none⟩ = some (.int .i64 h1) ∧ w'.cell? ⟨w.heap.size, 1, none⟩ = some (.int .u64 l1) ∧ w'.cell? ⟨w.heap.size + 1, 0, none⟩ = some (.int .i64 h2) ∧ w'.cell? ⟨w.heap.size + 1, 1, none⟩ = some (.int .u64 l2) ∧ w'.cell? ⟨w.heap.size + 1 + 1, 0, none⟩ = some (.int .i64 h3) ∧ w'.cell? ⟨w.heap.size + 1 + 1, 1, none⟩ = some (.int .u64 l3) ∧ Below w.heap.size w w') wx)) (by kernel_rfl) ⟨s0, s1, a0, a1, b0, b1, c0, c1, hbel.drew⟩ (fun hHeld => ?_)
          refine wpAnyH_take (i := 0) (oi := ?zuo0) (v := ?zuv0) ?zuh0 (by kernel_rfl) (by kernel_rfl) (by kernel_rfl) ?zuq0 ?zuy0 hHeld ?zur0
          case zuh0 => (simp only [List.getElem?_toArray, List.getElem?_cons_zero]; rfl)
          case zuq0 => exact fun _ _ _ h => h
          case zuy0 => (refine Or.inl ⟨by first | kernel_rfl | rfl, ?_⟩; intro w hSw; (try dsimp only at hSw); go_simp <;> (try with_reducible rfl))
          try simp only [Act.put, List.setIfInBounds_toArray, List.set_cons_zero, List.set_cons_succ]
          refine wpAnyH_take (i := 1) (oi := ?zuo1) (v := ?zuv1) ?zuh1 (by kernel_rfl) (by kernel_rfl) (by kernel_rfl) ?zuq1 ?zuy1 hHeld ?zur1
          case zuh1 => (simp only [List.getElem?_toArray, List.getElem?_cons_succ, List.getElem?_cons_zero]; rfl)
          case zuq1 => exact fun _ _ _ h => h
          case zuy1 => (refine Or.inl ⟨by first | kernel_rfl | rfl, ?_⟩; intro w hSw; (try dsimp only at hSw); go_simp <;> (try with_reducible rfl))
          try simp only [Act.put, List.setIfInBounds_toArray, List.set_cons_zero, List.set_cons_succ]
          refine wpAnyH_take (i := 2) (oi := ?zuo2) (v := ?zuv2) ?zuh2 (by kernel_rfl) (by kernel_rfl) (by kernel_rfl) ?zuq2 ?zuy2 hHeld ?zur2
          case zuh2 => (simp only [List.getElem?_toArray, List.getElem?_cons_succ, List.getElem?_cons_zero]; rfl)
          case zuq2 => exact fun _ _ _ h => h
          case zuy2 => (refine Or.inl ⟨by first | kernel_rfl | rfl, ?_⟩; intro w hSw; (try dsimp only at hSw); go_simp <;> (try with_reducible rfl))
          try simp only [Act.put, List.setIfInBounds_toArray, List.set_cons_zero, List.set_cons_succ]
          refine wpAnyH_take (i := 3) (oi := ?zuo3) (v := undef) ?zuh3 (by kernel_rfl) (by kernel_rfl) (by kernel_rfl) ?zuq3 ?zuy3 hHeld ?zur3
          case zuh3 => (simp only [List.getElem?_toArray, List.getElem?_cons_succ, List.getElem?_cons_zero]; rfl)
          case zuq3 => exact fun _ _ _ h => h
          case zuy3 => exact Or.inr ⟨by first | kernel_rfl | rfl, rfl⟩
          try simp only [Act.put, List.setIfInBounds_toArray, List.set_cons_zero, List.set_cons_succ]
          refine wpAnyH_take (i := 4) (oi := ?zuo4) (v := undef) ?zuh4 (by kernel_rfl) (by kernel_rfl) (by kernel_rfl) ?zuq4 ?zuy4 hHeld ?zur4
          case zuh4 => (simp only [List.getElem?_toArray, List.getElem?_cons_succ, List.getElem?_cons_zero]; rfl)
          case zuq4 => exact fun _ _ _ h => h
          case zuy4 => exact Or.inr ⟨by first | kernel_rfl | rfl, rfl⟩
          try simp only [Act.put, List.setIfInBounds_toArray, List.set_cons_zero, List.set_cons_succ]
          refine wpAnyH_take (i := 5) (oi := ?zuo5) (v := undef) ?zuh5 (by kernel_rfl) (by kernel_rfl) (by kernel_rfl) ?zuq5 ?zuy5 hHeld ?zur5
          case zuh5 => (simp only [List.getElem?_toArray, List.getElem?_cons_succ, List.getElem?_cons_zero]; rfl)
          case zuq5 => exact fun _ _ _ h => h
          case zuy5 => exact Or.inr ⟨by first | kernel_rfl | rfl, rfl⟩
          try simp only [Act.put, List.setIfInBounds_toArray, List.set_cons_zero, List.set_cons_succ]
          refine wpAnyH_take (i := 6) (oi := ?zuo6) (v := undef) ?zuh6 (by kernel_rfl) (by kernel_rfl) (by kernel_rfl) ?zuq6 ?zuy6 hHeld ?zur6
          case zuh6 => (simp only [List.getElem?_toArray, List.getElem?_cons_succ, List.getElem?_cons_zero]; rfl)
          case zuq6 => exact fun _ _ _ h => h
          case zuy6 => exact Or.inr ⟨by first | kernel_rfl | rfl, rfl⟩
          try simp only [Act.put, List.setIfInBounds_toArray, List.set_cons_zero, List.set_cons_succ]
          refine wpAnyH_take (i := 7) (oi := ?zuo7) (v := undef) ?zuh7 (by kernel_rfl) (by kernel_rfl) (by kernel_rfl) ?zuq7 ?zuy7 hHeld ?zur7
          case zuh7 => (simp only [List.getElem?_toArray, List.getElem?_cons_succ, List.getElem?_cons_zero]; rfl)
          case zuq7 => exact fun _ _ _ h => h
          case zuy7 => exact Or.inr ⟨by first | kernel_rfl | rfl, rfl⟩
          try simp only [Act.put, List.setIfInBounds_toArray, List.set_cons_zero, List.set_cons_succ]
          refine wpAnyH_take (i := 8) (oi := ?zuo8) (v := undef) ?zuh8 (by kernel_rfl) (by kernel_rfl) (by kernel_rfl) ?zuq8 ?zuy8 hHeld ?zur8
          case zuh8 => (simp only [List.getElem?_toArray, List.getElem?_cons_succ, List.getElem?_cons_zero]; rfl)
          case zuq8 => exact fun _ _ _ h => h
          case zuy8 => exact Or.inr ⟨by first | kernel_rfl | rfl, rfl⟩
          try simp only [Act.put, List.setIfInBounds_toArray, List.set_cons_zero, List.set_cons_succ]
          refine wpAnyH_take (i := 9) (oi := ?zuo9) (v := undef) ?zuh9 (by kernel_rfl) (by kernel_rfl) (by kernel_rfl) ?zuq9 ?zuy9 hHeld ?zur9
          case zuh9 => (simp only [List.getElem?_toArray, List.getElem?_cons_succ, List.getElem?_cons_zero]; rfl)
          case zuq9 => exact fun _ _ _ h => h
          case zuy9 => exact Or.inr ⟨by first | kernel_rfl | rfl, rfl⟩
          try simp only [Act.put, List.setIfInBounds_toArray, List.set_cons_zero, List.set_cons_succ]
          refine wpAnyH_take (i := 10) (oi := ?zuo10) (v := undef) ?zuh10 (by kernel_rfl) (by kernel_rfl) (by kernel_rfl) ?zuq10 ?zuy10 hHeld ?zur10
          case zuh10 => (simp only [List.getElem?_toArray, List.getElem?_cons_succ, List.getElem?_cons_zero]; rfl)
          case zuq10 => exact fun _ _ _ h => h
          case zuy10 => exact Or.inr ⟨by first | kernel_rfl | rfl, rfl⟩
          try simp only [Act.put, List.setIfInBounds_toArray, List.set_cons_zero, List.set_cons_succ]
          refine wpAnyH_take (i := 11) (oi := ?zuo11) (v := undef) ?zuh11 (by kernel_rfl) (by kernel_rfl) (by kernel_rfl) ?zuq11 ?zuy11 hHeld ?zur11
          case zuh11 => (simp only [List.getElem?_toArray, List.getElem?_cons_succ, List.getElem?_cons_zero]; rfl)
          case zuq11 => exact fun _ _ _ h => h
          case zuy11 => exact Or.inr ⟨by first | kernel_rfl | rfl, rfl⟩
          try simp only [Act.put, List.setIfInBounds_toArray, List.set_cons_zero, List.set_cons_succ]
          refine wpAnyH_take (i := 12) (oi := ?zuo12) (v := undef) ?zuh12 (by kernel_rfl) (by kernel_rfl) (by kernel_rfl) ?zuq12 ?zuy12 hHeld ?zur12
          case zuh12 => (simp only [List.getElem?_toArray, List.getElem?_cons_succ, List.getElem?_cons_zero]; rfl)
          case zuq12 => exact fun _ _ _ h => h
          case zuy12 => exact Or.inr ⟨by first | kernel_rfl | rfl, rfl⟩
          try simp only [Act.put, List.setIfInBounds_toArray, List.set_cons_zero, List.set_cons_succ]
          refine wpAnyH_take (i := 13) (oi := ?zuo13) (v := undef) ?zuh13 (by kernel_rfl) (by kernel_rfl) (by kernel_rfl) ?zuq13 ?zuy13 hHeld ?zur13
          case zuh13 => (simp only [List.getElem?_toArray, List.getElem?_cons_succ, List.getElem?_cons_zero]; rfl)
          case zuq13 => exact fun _ _ _ h => h
          case zuy13 => exact Or.inr ⟨by first | kernel_rfl | rfl, rfl⟩
          try simp only [Act.put, List.setIfInBounds_toArray, List.set_cons_zero, List.set_cons_succ]
          refine wpAnyH_take (i := 14) (oi := ?zuo14) (v := undef) ?zuh14 (by kernel_rfl) (by kernel_rfl) (by kernel_rfl) ?zuq14 ?zuy14 hHeld ?zur14
          case zuh14 => (simp only [List.getElem?_toArray, List.getElem?_cons_succ, List.getElem?_cons_zero]; rfl)
          case zuq14 => exact fun _ _ _ h => h
          case zuy14 => exact Or.inr ⟨by first | kernel_rfl | rfl, rfl⟩
          try simp only [Act.put, List.setIfInBounds_toArray, List.set_cons_zero, List.set_cons_succ]
          refine wpAnyH_take (i := 15) (oi := ?zuo15) (v := undef) ?zuh15 (by kernel_rfl) (by kernel_rfl) (by kernel_rfl) ?zuq15 ?zuy15 hHeld ?zur15
          case zuh15 => (simp only [List.getElem?_toArray, List.getElem?_cons_succ, List.getElem?_cons_zero]; rfl)
          case zuq15 => exact fun _ _ _ h => h
          case zuy15 => exact Or.inr ⟨by first | kernel_rfl | rfl, rfl⟩
          try simp only [Act.put, List.setIfInBounds_toArray, List.set_cons_zero, List.set_cons_succ]
          refine wpAnyH_take (i := 16) (oi := ?zuo16) (v := ?zuv16) ?zuh16 (by kernel_rfl) (by kernel_rfl) (by kernel_rfl) ?zuq16 ?zuy16 hHeld ?zur16
          case zuh16 => (simp only [List.getElem?_toArray, List.getElem?_cons_succ, List.getElem?_cons_zero]; rfl)
          case zuq16 => exact fun _ _ _ h => h
          case zuy16 => (refine Or.inl ⟨by first | kernel_rfl | rfl, ?_⟩; intro w hSw; (try dsimp only at hSw); go_simp <;> (try with_reducible rfl))
          try simp only [Act.put, List.setIfInBounds_toArray, List.set_cons_zero, List.set_cons_succ]
          refine wpAnyH_take (i := 17) (oi := ?zuo17) (v := ?zuv17) ?zuh17 (by kernel_rfl) (by kernel_rfl) (by kernel_rfl) ?zuq17 ?zuy17 hHeld ?zur17
          case zuh17 => (simp only [List.getElem?_toArray, List.getElem?_cons_succ, List.getElem?_cons_zero]; rfl)
          case zuq17 => exact fun _ _ _ h => h
          case zuy17 => (refine Or.inl ⟨by first | kernel_rfl | rfl, ?_⟩; intro w hSw; (try dsimp only at hSw); go_simp <;> (try with_reducible rfl))
          try simp only [Act.put, List.setIfInBounds_toArray, List.set_cons_zero, List.set_cons_succ]
          refine wpAnyH_done (by kernel_rfl) ?_ _
          clear s0 s1 a0 a1 b0 b1 c0 c1 hbel
          go_upto_region 14 with fail
          obtain ⟨s0, s1, a0, a1, b0, b1, c0, c1, hbel⟩ := hHeld
          refine wp_region_held_drew (S := (fun wx => wx.cell? ⟨w'.heap.size, 0, none⟩ = some (.int .i64 h) ∧ wx.cell? ⟨w'.heap.size, 1, none⟩ = some (.int .u64 l) ∧ (fun w' => w'.cell? ⟨w.heap.size, 0, none⟩ = some (.int .i64 h1) ∧ w'.cell? ⟨w.heap.size, 1, none⟩ = some (.int .u64 l1) ∧ w'.cell? ⟨w.heap.size + 1, 0, none⟩ = some (.int .i64 h2) ∧ w'.cell? ⟨w.heap.size + 1, 1, none⟩ = some (.int .u64 l2) ∧ w'.cell? ⟨w.heap.size + 1 + 1, 0, none⟩ = some (.int .i64 h3) ∧ w'.cell? ⟨w.heap.size + 1 + 1, 1, none⟩ = some (.int .u64 l3) ∧ Below w.heap.size w w') wx)) (by kernel_rfl) ⟨s0, s1, a0, a1, b0, b1, c0, c1, hbel.drew⟩ (fun hHeld => ?_)
          refine wpAnyH_take (i := 0) (oi := ?zuto0) (v := ?zutv0) ?zuth0 (by kernel_rfl) (by kernel_rfl) (by kernel_rfl) ?zutq0 ?zuty0 hHeld ?zutr0
          case zuth0 => (simp only [List.getElem?_toArray, List.getElem?_cons_zero]; rfl)
          case zutq0 => exact fun _ _ _ h => h
          case zuty0 => (refine Or.inl ⟨by first | kernel_rfl | rfl, ?_⟩; intro w hSw; (try dsimp only at hSw); go_simp <;> (try with_reducible rfl))
          try simp only [Act.put, List.setIfInBounds_toArray, List.set_cons_zero, List.set_cons_succ]
          refine wpAnyH_take (i := 1) (oi := ?zuto1) (v := ?zutv1) ?zuth1 (by kernel_rfl) (by kernel_rfl) (by kernel_rfl) ?zutq1 ?zuty1 hHeld ?zutr1
          case zuth1 => (simp only [List.getElem?_toArray, List.getElem?_cons_succ, List.getElem?_cons_zero]; rfl)
          case zutq1 => exact fun _ _ _ h => h
          case zuty1 => (refine Or.inl ⟨by first | kernel_rfl | rfl, ?_⟩; intro w hSw; (try dsimp only at hSw); go_simp <;> (try with_reducible rfl))
          try simp only [Act.put, List.setIfInBounds_toArray, List.set_cons_zero, List.set_cons_succ]
          refine wpAnyH_take (i := 2) (oi := ?zuto2) (v := ?zutv2) ?zuth2 (by kernel_rfl) (by kernel_rfl) (by kernel_rfl) ?zutq2 ?zuty2 hHeld ?zutr2
          case zuth2 => (simp only [List.getElem?_toArray, List.getElem?_cons_succ, List.getElem?_cons_zero]; rfl)
          case zutq2 => exact fun _ _ _ h => h
          case zuty2 => (refine Or.inl ⟨by first | kernel_rfl | rfl, ?_⟩; intro w hSw; (try dsimp only at hSw); go_simp <;> (try with_reducible rfl))
          try simp only [Act.put, List.setIfInBounds_toArray, List.set_cons_zero, List.set_cons_succ]
          refine wpAnyH_take (i := 3) (oi := ?zuto3) (v := ?zutv3) ?zuth3 (by kernel_rfl) (by kernel_rfl) (by kernel_rfl) ?zutq3 ?zuty3 hHeld ?zutr3
          case zuth3 => (simp only [List.getElem?_toArray, List.getElem?_cons_succ, List.getElem?_cons_zero]; rfl)
          case zutq3 => exact fun _ _ _ h => h
          case zuty3 => (refine Or.inl ⟨by first | kernel_rfl | rfl, ?_⟩; intro w hSw; (try dsimp only at hSw); go_simp <;> (try with_reducible rfl))
          try simp only [Act.put, List.setIfInBounds_toArray, List.set_cons_zero, List.set_cons_succ]
          refine wpAnyH_take (i := 4) (oi := ?zuto4) (v := ?zutv4) ?zuth4 (by kernel_rfl) (by kernel_rfl) (by kernel_rfl) ?zutq4 ?zuty4 hHeld ?zutr4
          case zuth4 => (simp only [List.getElem?_toArray, List.getElem?_cons_succ, List.getElem?_cons_zero]; rfl)
          case zutq4 => exact fun _ _ _ h => h
          case zuty4 => (refine Or.inl ⟨by first | kernel_rfl | rfl, ?_⟩; intro w hSw; (try dsimp only at hSw); go_simp <;> (try with_reducible rfl))
          try simp only [Act.put, List.setIfInBounds_toArray, List.set_cons_zero, List.set_cons_succ]
          refine wpAnyH_take (i := 5) (oi := ?zuto5) (v := ?zutv5) ?zuth5 (by kernel_rfl) (by kernel_rfl) (by kernel_rfl) ?zutq5 ?zuty5 hHeld ?zutr5
          case zuth5 => (simp only [List.getElem?_toArray, List.getElem?_cons_succ, List.getElem?_cons_zero]; rfl)
          case zutq5 => exact fun _ _ _ h => h
          case zuty5 => (refine Or.inl ⟨by first | kernel_rfl | rfl, ?_⟩; intro w hSw; (try dsimp only at hSw); go_simp <;> (try with_reducible rfl))
          try simp only [Act.put, List.setIfInBounds_toArray, List.set_cons_zero, List.set_cons_succ]
          refine wpAnyH_take (i := 6) (oi := ?zuto6) (v := ?zutv6) ?zuth6 (by kernel_rfl) (by kernel_rfl) (by kernel_rfl) ?zutq6 ?zuty6 hHeld ?zutr6
          case zuth6 => (simp only [List.getElem?_toArray, List.getElem?_cons_succ, List.getElem?_cons_zero]; rfl)
          case zutq6 => exact fun _ _ _ h => h
          case zuty6 => (refine Or.inl ⟨by first | kernel_rfl | rfl, ?_⟩; intro w hSw; (try dsimp only at hSw); go_simp <;> (try with_reducible rfl))
          try simp only [Act.put, List.setIfInBounds_toArray, List.set_cons_zero, List.set_cons_succ]
          refine wpAnyH_take (i := 7) (oi := ?zuto7) (v := ?zutv7) ?zuth7 (by kernel_rfl) (by kernel_rfl) (by kernel_rfl) ?zutq7 ?zuty7 hHeld ?zutr7
          case zuth7 => (simp only [List.getElem?_toArray, List.getElem?_cons_succ, List.getElem?_cons_zero]; rfl)
          case zutq7 => exact fun _ _ _ h => h
          case zuty7 => (refine Or.inl ⟨by first | kernel_rfl | rfl, ?_⟩; intro w hSw; (try dsimp only at hSw); go_simp <;> (try with_reducible rfl))
          try simp only [Act.put, List.setIfInBounds_toArray, List.set_cons_zero, List.set_cons_succ]
          refine wpAnyH_take (i := 8) (oi := ?zuto8) (v := ?zutv8) ?zuth8 (by kernel_rfl) (by kernel_rfl) (by kernel_rfl) ?zutq8 ?zuty8 hHeld ?zutr8
          case zuth8 => (simp only [List.getElem?_toArray, List.getElem?_cons_succ, List.getElem?_cons_zero]; rfl)
          case zutq8 => exact fun _ _ _ h => h
          case zuty8 => (refine Or.inl ⟨by first | kernel_rfl | rfl, ?_⟩; intro w hSw; (try dsimp only at hSw); go_simp <;> (try with_reducible rfl))
          try simp only [Act.put, List.setIfInBounds_toArray, List.set_cons_zero, List.set_cons_succ]
          refine wpAnyH_take (i := 9) (oi := ?zuto9) (v := ?zutv9) ?zuth9 (by kernel_rfl) (by kernel_rfl) (by kernel_rfl) ?zutq9 ?zuty9 hHeld ?zutr9
          case zuth9 => (simp only [List.getElem?_toArray, List.getElem?_cons_succ, List.getElem?_cons_zero]; rfl)
          case zutq9 => exact fun _ _ _ h => h
          case zuty9 => (refine Or.inl ⟨by first | kernel_rfl | rfl, ?_⟩; intro w hSw; (try dsimp only at hSw); go_simp <;> (try with_reducible rfl))
          try simp only [Act.put, List.setIfInBounds_toArray, List.set_cons_zero, List.set_cons_succ]
          refine wpAnyH_take (i := 10) (oi := ?zuto10) (v := ?zutv10) ?zuth10 (by kernel_rfl) (by kernel_rfl) (by kernel_rfl) ?zutq10 ?zuty10 hHeld ?zutr10
          case zuth10 => (simp only [List.getElem?_toArray, List.getElem?_cons_succ, List.getElem?_cons_zero]; rfl)
          case zutq10 => exact fun _ _ _ h => h
          case zuty10 => (refine Or.inl ⟨by first | kernel_rfl | rfl, ?_⟩; intro w hSw; (try dsimp only at hSw); go_simp <;> (try with_reducible rfl))
          try simp only [Act.put, List.setIfInBounds_toArray, List.set_cons_zero, List.set_cons_succ]
          refine wpAnyH_take (i := 11) (oi := ?zuto11) (v := ?zutv11) ?zuth11 (by kernel_rfl) (by kernel_rfl) (by kernel_rfl) ?zutq11 ?zuty11 hHeld ?zutr11
          case zuth11 => (simp only [List.getElem?_toArray, List.getElem?_cons_succ, List.getElem?_cons_zero]; rfl)
          case zutq11 => exact fun _ _ _ h => h
          case zuty11 => (refine Or.inl ⟨by first | kernel_rfl | rfl, ?_⟩; intro w hSw; (try dsimp only at hSw); go_simp <;> (try with_reducible rfl))
          try simp only [Act.put, List.setIfInBounds_toArray, List.set_cons_zero, List.set_cons_succ]
          refine wpAnyH_ready (rs := [12]) (by kernel_rfl) (by simp) ?_
          refine AllReadyH.cons rfl (fun K hK => ?_) AllReadyH.nil
          go_simp
          ((with_reducible refine (g20 _).mono ?_); rintro e w' ⟨rfl, hb'⟩)
          refine hK.out _ _ (quad_keep hb' hHeld) (fun hHeld => ?_)
          clear hK K
          try simp only [Act.put, List.setIfInBounds_toArray, List.set_cons_zero, List.set_cons_succ]
          refine wpAnyH_take (i := 13) (oi := ?zuto13) (v := ?zutv13) ?zuth13 (by kernel_rfl) (by kernel_rfl) (by kernel_rfl) ?zutq13 ?zuty13 hHeld ?zutr13
          case zuth13 => (simp only [List.getElem?_toArray, List.getElem?_cons_succ, List.getElem?_cons_zero]; rfl)
          case zutq13 => exact fun _ _ _ h => h
          case zuty13 => (refine Or.inl ⟨by first | kernel_rfl | rfl, ?_⟩; intro w hSw; (try dsimp only at hSw); go_simp <;> (try with_reducible rfl))
          try simp only [Act.put, List.setIfInBounds_toArray, List.set_cons_zero, List.set_cons_succ]
          refine wpAnyH_take (i := 14) (oi := ?zuto14) (v := ?zutv14) ?zuth14 (by kernel_rfl) (by kernel_rfl) (by kernel_rfl) ?zutq14 ?zuty14 hHeld ?zutr14
          case zuth14 => (simp only [List.getElem?_toArray, List.getElem?_cons_succ, List.getElem?_cons_zero]; rfl)
          case zutq14 => exact fun _ _ _ h => h
          case zuty14 => (refine Or.inl ⟨by first | kernel_rfl | rfl, ?_⟩; intro w hSw; (try dsimp only at hSw); go_simp <;> (try with_reducible rfl))
          try simp only [Act.put, List.setIfInBounds_toArray, List.set_cons_zero, List.set_cons_succ]
          refine wpAnyH_take (i := 15) (oi := ?zuto15) (v := ?zutv15) ?zuth15 (by kernel_rfl) (by kernel_rfl) (by kernel_rfl) ?zutq15 ?zuty15 hHeld ?zutr15
          case zuth15 => (simp only [List.getElem?_toArray, List.getElem?_cons_succ, List.getElem?_cons_zero]; rfl)
          case zutq15 => exact fun _ _ _ h => h
          case zuty15 => (refine Or.inl ⟨by first | kernel_rfl | rfl, ?_⟩; intro w hSw; (try dsimp only at hSw); go_simp <;> (try with_reducible rfl))
          try simp only [Act.put, List.setIfInBounds_toArray, List.set_cons_zero, List.set_cons_succ]
          refine wpAnyH_take (i := 16) (oi := ?zuto16) (v := ?zutv16) ?zuth16 (by kernel_rfl) (by kernel_rfl) (by kernel_rfl) ?zutq16 ?zuty16 hHeld ?zutr16
          case zuth16 => (simp only [List.getElem?_toArray, List.getElem?_cons_succ, List.getElem?_cons_zero]; rfl)
          case zutq16 => exact fun _ _ _ h => h
          case zuty16 => (refine Or.inl ⟨by first | kernel_rfl | rfl, ?_⟩; intro w hSw; (try dsimp only at hSw); go_simp <;> (try with_reducible rfl))
          try simp only [Act.put, List.setIfInBounds_toArray, List.set_cons_zero, List.set_cons_succ]
          refine wpAnyH_take (i := 17) (oi := ?zuto17) (v := ?zutv17) ?zuth17 (by kernel_rfl) (by kernel_rfl) (by kernel_rfl) ?zutq17 ?zuty17 hHeld ?zutr17
          case zuth17 => (simp only [List.getElem?_toArray, List.getElem?_cons_succ, List.getElem?_cons_zero]; rfl)
          case zutq17 => exact fun _ _ _ h => h
          case zuty17 => (refine Or.inl ⟨by first | kernel_rfl | rfl, ?_⟩; intro w hSw; (try dsimp only at hSw); go_simp <;> (try with_reducible rfl))
          try simp only [Act.put, List.setIfInBounds_toArray, List.set_cons_zero, List.set_cons_succ]
          refine wpAnyH_take (i := 18) (oi := ?zuto18) (v := ?zutv18) ?zuth18 (by kernel_rfl) (by kernel_rfl) (by kernel_rfl) ?zutq18 ?zuty18 hHeld ?zutr18
          case zuth18 => (simp only [List.getElem?_toArray, List.getElem?_cons_succ, List.getElem?_cons_zero]; rfl)
          case zutq18 => exact fun _ _ _ h => h
          case zuty18 => (refine Or.inl ⟨by first | kernel_rfl | rfl, ?_⟩; intro w hSw; (try dsimp only at hSw); go_simp <;> (try with_reducible rfl))
          try simp only [Act.put, List.setIfInBounds_toArray, List.set_cons_zero, List.set_cons_succ]
          refine wpAnyH_done (by kernel_rfl) ?_ _
          have hbel := hHeld.2.2.2.2.2.2.2.2
          go_wp2
          go_ret
          refine ⟨ret_bool ?_, hbel⟩
          first
          | rfl
          | (simp [*])

theorem walk (h1 l1 h2 l2 h3 l3 : Int) (w : World) (A : ∃ a, Rep h1 l1 a) (B : ∃ b, Rep h2 l2 b) (C : ∃ c, Rep h3 l3 c) :
    Calls Try.prog 7 #[.agg #[.int .i64 (h1), .int .u64 (l1)], .agg #[.int .i64 (h2), .int .u64 (l2)], .agg #[.int .i64 (h3), .int .u64 (l3)]] w fun e w' => e = .returned (.bool true) ∧ Below w.heap.size w w' := by
  obtain ⟨a, A⟩ := A
  obtain ⟨b, B⟩ := B
  obtain ⟨c, C⟩ := C
  exact core h1 l1 h2 l2 h3 l3 a b c w A B C
end Go.Proofs.Ytafgfpppemdedaa.wideRules
