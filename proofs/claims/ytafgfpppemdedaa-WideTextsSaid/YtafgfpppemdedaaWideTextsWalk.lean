/- The walk of law WideTexts: it returns true and turns nothing that was there. -/
import Derived.Test.YtafgfpppemdedaaWideRefParse
import Derived.Test.YtafgfpppemdedaaWideAwake
namespace Go.Proofs.Ytafgfpppemdedaa.wideTexts
open Go.RowKit Go.Proofs.Ytafgfpppemdedaa Go.Proofs.Ytafgfpppemdedaa.Wd

/-- A text is cut to at most n bytes. -/
theorem short_is (s : ByteArray) (n : Nat) (m : Int) (hm : m = (n : Int)) (hn : n ≤ 2000) : ∃ t : ByteArray, t.size ≤ n ∧
    ∀ w, Calls Try.prog 22 #[.string s, .int .i64 m] w fun e w' => e = .returned (.string t) ∧ w = w' := by
  by_cases h : n < s.size
  · refine ⟨s.extract 0 n, ?_, fun w => ?_⟩
    · simp; omega
    subst hm
    go_enter Try.func22, Try.ntmps22
    go_wp2
    go_ret
    exact ⟨rfl, rfl⟩
  · refine ⟨s, by omega, fun w => ?_⟩
    subst hm
    go_enter Try.func22, Try.ntmps22
    go_wp2
    go_ret
    exact ⟨rfl, rfl⟩
theorem parse_some (s : ByteArray) : ∃ x y er, ParseIs s x y er := by
  by_cases hn : numB s.data.toList = false
  · exact ⟨0, 0, 10, by unfold ParseIs; rw [if_pos hn]; exact ⟨rfl, rfl, rfl⟩⟩
  · by_cases ht : textOf (parsed s) = s.data.toList
    · obtain ⟨x, y, R⟩ := rep_of (parsed_in s)
      exact ⟨x, y, 0, by unfold ParseIs; rw [if_neg hn, if_pos ht]; exact ⟨R, rfl⟩⟩
    · exact ⟨0, 0, 11, by unfold ParseIs; rw [if_neg hn, if_neg ht]; exact ⟨rfl, rfl, rfl⟩⟩
theorem three_keep {w w1 w2 : World} {b1 b2 b3 : Nat} {x1 y1 x2 y2 x3 y3 : Value} (hb : Below w1.heap.size w1 w2) (h : w1.cell? ⟨b1, 0, none⟩ = some x1 ∧ w1.cell? ⟨b1, 1, none⟩ = some y1 ∧ w1.cell? ⟨b2, 0, none⟩ = some x2 ∧ w1.cell? ⟨b2, 1, none⟩ = some y2 ∧ w1.cell? ⟨b3, 0, none⟩ = some x3 ∧ w1.cell? ⟨b3, 1, none⟩ = some y3 ∧ Below w.heap.size w w1) : w2.cell? ⟨b1, 0, none⟩ = some x1 ∧ w2.cell? ⟨b1, 1, none⟩ = some y1 ∧ w2.cell? ⟨b2, 0, none⟩ = some x2 ∧ w2.cell? ⟨b2, 1, none⟩ = some y2 ∧ w2.cell? ⟨b3, 0, none⟩ = some x3 ∧ w2.cell? ⟨b3, 1, none⟩ = some y3 ∧ Below w.heap.size w w2 := by
  obtain ⟨g1, g2, g3, g4, g5, g6, g9⟩ := h
  have k : ∀ (b o : Nat) (v : Value), w1.cell? ⟨b, o, none⟩ = some v → w2.cell? ⟨b, o, none⟩ = some v := fun b o v hv => (hb.cell (p := ⟨b, o, none⟩) (World.block_lt_of_cell? w1 _ hv)).trans hv
  exact ⟨k _ _ _ g1, k _ _ _ g2, k _ _ _ g3, k _ _ _ g4, k _ _ _ g5, k _ _ _ g6, below_on g9 hb⟩

set_option maxHeartbeats 8000000 in
theorem core (h l a : Int) (s : ByteArray) (n : Int) (w : World) (A : Rep h l a) (hn0 : -9223372036854775808 ≤ n) (hn1 : n ≤ 9223372036854775807) :
    Calls Try.prog 4 #[.agg #[.int .i64 (h), .int .u64 (l)], .string s, .int .i64 n] w fun e w' => e = .returned (.bool true) ∧ Below w.heap.size w w' := by
  obtain ⟨t, ht, k1⟩ := short_is s 60 60 rfl (by decide)
  obtain ⟨x, y, er, hR⟩ := parse_some t
  have hR : Hid (ParseIs t x y er) := hR
  obtain ⟨T, hT⟩ : ∃ T : ByteArray, (⟨(textOf a).toArray⟩ : ByteArray) = T := ⟨_, rfl⟩
  obtain ⟨p, q, B⟩ := rep_of (a := n) (by unfold InW; omega)
  have k2 := fun w => parse_is t x y er w (by omega) hR
  have k3 := fun w => refParse_is t x y er w (by omega) hR
  have k4 := fun w => text_any h l a w A
  have k5 := fun w => refText_any h l a w A
  have k6 := fun w => of_any n p q w hn0 hn1 B
  have k7 := fun w => refOf_any n p q w hn0 hn1 B
  rw [hT] at k4 k5
  have q1 : ∀ w, (binOp .eql 24 (.agg #[.int .i64 (x), .int .u64 (y)]) (.agg #[.int .i64 (x), .int .u64 (y)])).run Try.prog w = .ok (.bool true) w := fun w => by rw [eql_run]; simp
  have q2 : ∀ w, (binOp .eql 24 (.agg #[.int .i64 (p), .int .u64 (q)]) (.agg #[.int .i64 (p), .int .u64 (q)])).run Try.prog w = .ok (.bool true) w := fun w => by rw [eql_run]; simp
  have hA0 := WideAt.new w h l 24
  clear A B hR hT ht
  go_enter Try.func4, Try.ntmps4
  go_wp2_with (first
    | (go_at_call 9; (with_reducible refine (awake_any _).mono ?_); rintro e w1 ⟨rfl, hb1⟩; have hA1 := hA0.below hb1)
    | (go_at_call 22; (with_reducible refine (k1 _).mono ?_); rintro e w1' ⟨rfl, rfl⟩)
    | (go_at_call 23; (with_reducible refine (k2 _).mono ?_); rintro e w2 ⟨rfl, hb2⟩; have hA2 := (hA1.below hb2).below ((Below.refl _ _).alloc (Nat.le_refl _) (.cells #[.int .i64 x, .int .u64 y] 24)); have hB2 := WideAt.new w2 x y 24)
    | (go_at_call 24; (with_reducible refine (k3 _).mono ?_); rintro e w3 ⟨rfl, hb3⟩; have hA3 := (hA2.below hb3).below ((Below.refl _ _).alloc (Nat.le_refl _) (.cells #[.int .i64 x, .int .u64 y] 24)); have hB3 := (hB2.below hb3).below ((Below.refl _ _).alloc (Nat.le_refl _) (.cells #[.int .i64 x, .int .u64 y] 24)); have hC3 := WideAt.new w3 x y 24))
  have e0 := hA3.c0
  have e1 := hA3.c1
  have e2 := hB3.c0
  have e3 := hB3.c1
  have e4 := hC3.c0
  have e5 := hC3.c1
  have hbel : Below w.heap.size w (w3.alloc (.cells #[.int .i64 x, .int .u64 y] 24)) := by (repeat (first | exact Below.refl _ _ | assumption | refine below_add ?_ _ | (refine below_on ?_ (by assumption)) | refine Below.drew ?_ | refine below_drewN ?_ _ | (refine Below.setCell ?_ (by simp; try omega) _) | (refine below_new ?_ _ (by simp; try omega)) | (refine below_next ?_ (by assumption) (by simp; try omega))))
  clear k1 k2 k3 hA0 hA1 hA2 hB2 hA3 hB3 hC3
  refine wp_region_held_drew (S := (fun w' => w'.cell? ⟨w.heap.size, 0, none⟩ = some (.int .i64 h) ∧ w'.cell? ⟨w.heap.size, 1, none⟩ = some (.int .u64 l) ∧ w'.cell? ⟨w2.heap.size, 0, none⟩ = some (.int .i64 x) ∧ w'.cell? ⟨w2.heap.size, 1, none⟩ = some (.int .u64 y) ∧ w'.cell? ⟨w3.heap.size, 0, none⟩ = some (.int .i64 x) ∧ w'.cell? ⟨w3.heap.size, 1, none⟩ = some (.int .u64 y) ∧ Below w.heap.size w w')) (by kernel_rfl) ⟨e0, e1, e2, e3, e4, e5, hbel.drew⟩ (fun hHeld => ?_)
  refine wpAnyH_take (i := 0) (oi := ?ot1o) (v := ?ot1v) ?ot1h (by kernel_rfl) (by kernel_rfl) (by kernel_rfl) ?ot1q ?ot1y hHeld ?ot1r
  case ot1h => (simp only [List.getElem?_toArray, List.getElem?_cons_zero]; rfl)
  case ot1q => exact fun _ _ _ h => h
  case ot1y => (refine Or.inl ⟨by first | kernel_rfl | rfl, ?_⟩; intro w hSw; (try dsimp only at hSw); go_simp <;> (try with_reducible rfl))
  try simp only [Act.put, List.setIfInBounds_toArray, List.set_cons_zero, List.set_cons_succ]
  refine wpAnyH_take (i := 1) (oi := ?ot2o) (v := ?ot2v) ?ot2h (by kernel_rfl) (by kernel_rfl) (by kernel_rfl) ?ot2q ?ot2y hHeld ?ot2r
  case ot2h => (simp only [List.getElem?_toArray, List.getElem?_cons_succ, List.getElem?_cons_zero]; rfl)
  case ot2q => exact fun _ _ _ h => h
  case ot2y => (refine Or.inl ⟨by first | kernel_rfl | rfl, ?_⟩; intro w hSw; (try dsimp only at hSw); go_simp <;> (try with_reducible rfl))
  try simp only [Act.put, List.setIfInBounds_toArray, List.set_cons_zero, List.set_cons_succ]
  refine wpAnyH_take (i := 2) (oi := ?ot3o) (v := ?ot3v) ?ot3h (by kernel_rfl) (by kernel_rfl) (by kernel_rfl) ?ot3q ?ot3y hHeld ?ot3r
  case ot3h => (simp only [List.getElem?_toArray, List.getElem?_cons_succ, List.getElem?_cons_zero]; rfl)
  case ot3q => exact fun _ _ _ h => h
  case ot3y => (refine Or.inl ⟨by first | kernel_rfl | rfl, ?_⟩; intro w hSw; (try dsimp only at hSw); go_simp <;> (try with_reducible rfl))
  try simp only [Act.put, List.setIfInBounds_toArray, List.set_cons_zero, List.set_cons_succ]
  refine wpAnyH_take (i := 4) (oi := ?ot4o) (v := ?ot4v) ?ot4h (by kernel_rfl) (by kernel_rfl) (by kernel_rfl) ?ot4q ?ot4y hHeld ?ot4r
  case ot4h => (simp only [List.getElem?_toArray, List.getElem?_cons_succ, List.getElem?_cons_zero]; rfl)
  case ot4q => exact fun _ _ _ h => h
  case ot4y => (refine Or.inl ⟨by first | kernel_rfl | rfl, ?_⟩; intro w hSw; (try dsimp only at hSw); go_simp <;> (try with_reducible rfl))
  try simp only [Act.put, List.setIfInBounds_toArray, List.set_cons_zero, List.set_cons_succ]
  refine wpAnyH_ready (rs := [3]) (by kernel_rfl) (by simp) ?_
  refine (AllReadyH.cons rfl (fun K hK => ?_) AllReadyH.nil)
  go_simp
  (go_at_call 25; (with_reducible refine (k4 _).mono ?_); rintro e w' ⟨rfl, hb'⟩)
  refine hK.out _ _ (three_keep hb' hHeld) (fun hHeld => ?_)
  clear hK K
  try simp only [Act.put, List.setIfInBounds_toArray, List.set_cons_zero, List.set_cons_succ]
  refine wpAnyH_ready (rs := [5]) (by kernel_rfl) (by simp) ?_
  refine (AllReadyH.cons rfl (fun K hK => ?_) AllReadyH.nil)
  go_simp
  (go_at_call 26; (with_reducible refine (k5 _).mono ?_); rintro e w' ⟨rfl, hb'⟩)
  refine hK.out _ _ (three_keep hb' hHeld) (fun hHeld => ?_)
  clear hK K
  try simp only [Act.put, List.setIfInBounds_toArray, List.set_cons_zero, List.set_cons_succ]
  refine wpAnyH_take (i := 6) (oi := ?ot5o) (v := ?ot5v) ?ot5h (by kernel_rfl) (by kernel_rfl) (by kernel_rfl) ?ot5q ?ot5y hHeld ?ot5r
  case ot5h => (simp only [List.getElem?_toArray, List.getElem?_cons_succ, List.getElem?_cons_zero]; rfl)
  case ot5q => exact fun _ _ _ h => h
  case ot5y => (refine Or.inl ⟨by first | kernel_rfl | rfl, ?_⟩; intro w hSw; (try dsimp only at hSw); go_simp <;> (try with_reducible rfl))
  try simp only [Act.put, List.setIfInBounds_toArray, List.set_cons_zero, List.set_cons_succ]
  refine wpAnyH_take (i := 7) (oi := ?ot6o) (v := ?ot6v) ?ot6h (by kernel_rfl) (by kernel_rfl) (by kernel_rfl) ?ot6q ?ot6y hHeld ?ot6r
  case ot6h => (simp only [List.getElem?_toArray, List.getElem?_cons_succ, List.getElem?_cons_zero]; rfl)
  case ot6q => exact fun _ _ _ h => h
  case ot6y => (refine Or.inl ⟨by first | kernel_rfl | rfl, ?_⟩; intro w hSw; (try dsimp only at hSw); go_simp <;> (try with_reducible rfl))
  try simp only [Act.put, List.setIfInBounds_toArray, List.set_cons_zero, List.set_cons_succ]
  refine wpAnyH_take (i := 8) (oi := ?ot7o) (v := ?ot7v) ?ot7h (by kernel_rfl) (by kernel_rfl) (by kernel_rfl) ?ot7q ?ot7y hHeld ?ot7r
  case ot7h => (simp only [List.getElem?_toArray, List.getElem?_cons_succ, List.getElem?_cons_zero]; rfl)
  case ot7q => exact fun _ _ _ h => h
  case ot7y => (refine Or.inl ⟨by first | kernel_rfl | rfl, ?_⟩; intro w hSw; (try dsimp only at hSw); go_simp <;> (try with_reducible rfl))
  try simp only [Act.put, List.setIfInBounds_toArray, List.set_cons_zero, List.set_cons_succ]
  refine wpAnyH_take (i := 9) (oi := ?ot8o) (v := ?ot8v) ?ot8h (by kernel_rfl) (by kernel_rfl) (by kernel_rfl) ?ot8q ?ot8y hHeld ?ot8r
  case ot8h => (simp only [List.getElem?_toArray, List.getElem?_cons_succ, List.getElem?_cons_zero]; rfl)
  case ot8q => exact fun _ _ _ h => h
  case ot8y => (refine Or.inl ⟨by first | kernel_rfl | rfl, ?_⟩; intro w hSw; (try dsimp only at hSw); go_simp <;> (try with_reducible rfl))
  try simp only [Act.put, List.setIfInBounds_toArray, List.set_cons_zero, List.set_cons_succ]
  refine wpAnyH_take (i := 10) (oi := ?ot9o) (v := ?ot9v) ?ot9h (by kernel_rfl) (by kernel_rfl) (by kernel_rfl) ?ot9q ?ot9y hHeld ?ot9r
  case ot9h => (simp only [List.getElem?_toArray, List.getElem?_cons_succ, List.getElem?_cons_zero]; rfl)
  case ot9q => exact fun _ _ _ h => h
  case ot9y => (refine Or.inl ⟨by first | kernel_rfl | rfl, ?_⟩; intro w hSw; (try dsimp only at hSw); go_simp <;> (try with_reducible rfl))
  try simp only [Act.put, List.setIfInBounds_toArray, List.set_cons_zero, List.set_cons_succ]
  refine wpAnyH_take (i := 11) (oi := ?ot10o) (v := ?ot10v) ?ot10h (by kernel_rfl) (by kernel_rfl) (by kernel_rfl) ?ot10q ?ot10y hHeld ?ot10r
  case ot10h => (simp only [List.getElem?_toArray, List.getElem?_cons_succ, List.getElem?_cons_zero]; rfl)
  case ot10q => exact fun _ _ _ h => h
  case ot10y => (refine Or.inl ⟨by first | kernel_rfl | rfl, ?_⟩; intro w hSw; (try dsimp only at hSw); go_simp <;> (try with_reducible rfl))
  try simp only [Act.put, List.setIfInBounds_toArray, List.set_cons_zero, List.set_cons_succ]
  refine wpAnyH_take (i := 12) (oi := ?ot11o) (v := ?ot11v) ?ot11h (by kernel_rfl) (by kernel_rfl) (by kernel_rfl) ?ot11q ?ot11y hHeld ?ot11r
  case ot11h => (simp only [List.getElem?_toArray, List.getElem?_cons_succ, List.getElem?_cons_zero]; rfl)
  case ot11q => exact fun _ _ _ h => h
  case ot11y => (refine Or.inl ⟨by first | kernel_rfl | rfl, ?_⟩; intro w hSw; (try dsimp only at hSw); go_simp <;> (try with_reducible rfl))
  try simp only [Act.put, List.setIfInBounds_toArray, List.set_cons_zero, List.set_cons_succ]
  refine wpAnyH_take (i := 13) (oi := ?ot12o) (v := ?ot12v) ?ot12h (by kernel_rfl) (by kernel_rfl) (by kernel_rfl) ?ot12q ?ot12y hHeld ?ot12r
  case ot12h => (simp only [List.getElem?_toArray, List.getElem?_cons_succ, List.getElem?_cons_zero]; rfl)
  case ot12q => exact fun _ _ _ h => h
  case ot12y => (refine Or.inl ⟨by first | kernel_rfl | rfl, ?_⟩; intro w hSw; (try dsimp only at hSw); go_simp <;> (try with_reducible rfl))
  try simp only [Act.put, List.setIfInBounds_toArray, List.set_cons_zero, List.set_cons_succ]
  refine wpAnyH_take (i := 14) (oi := ?ot13o) (v := ?ot13v) ?ot13h (by kernel_rfl) (by kernel_rfl) (by kernel_rfl) ?ot13q ?ot13y hHeld ?ot13r
  case ot13h => (simp only [List.getElem?_toArray, List.getElem?_cons_succ, List.getElem?_cons_zero]; rfl)
  case ot13q => exact fun _ _ _ h => h
  case ot13y => (refine Or.inl ⟨by first | kernel_rfl | rfl, ?_⟩; intro w hSw; (try dsimp only at hSw); go_simp <;> (try with_reducible rfl))
  try simp only [Act.put, List.setIfInBounds_toArray, List.set_cons_zero, List.set_cons_succ]
  refine wpAnyH_take (i := 15) (oi := ?ot14o) (v := ?ot14v) ?ot14h (by kernel_rfl) (by kernel_rfl) (by kernel_rfl) ?ot14q ?ot14y hHeld ?ot14r
  case ot14h => (simp only [List.getElem?_toArray, List.getElem?_cons_succ, List.getElem?_cons_zero]; rfl)
  case ot14q => exact fun _ _ _ h => h
  case ot14y => (refine Or.inl ⟨by first | kernel_rfl | rfl, ?_⟩; intro w hSw; (try dsimp only at hSw); go_simp <;> (try with_reducible rfl))
  try simp only [Act.put, List.setIfInBounds_toArray, List.set_cons_zero, List.set_cons_succ]
  refine wpAnyH_take (i := 16) (oi := ?ot15o) (v := ?ot15v) ?ot15h (by kernel_rfl) (by kernel_rfl) (by kernel_rfl) ?ot15q ?ot15y hHeld ?ot15r
  case ot15h => (simp only [List.getElem?_toArray, List.getElem?_cons_succ, List.getElem?_cons_zero]; rfl)
  case ot15q => exact fun _ _ _ h => h
  case ot15y => (refine Or.inl ⟨by first | kernel_rfl | rfl, ?_⟩; intro w hSw; (try dsimp only at hSw); go_simp <;> (try with_reducible rfl))
  try simp only [Act.put, List.setIfInBounds_toArray, List.set_cons_zero, List.set_cons_succ]
  refine wpAnyH_take (i := 17) (oi := ?ot16o) (v := ?ot16v) ?ot16h (by kernel_rfl) (by kernel_rfl) (by kernel_rfl) ?ot16q ?ot16y hHeld ?ot16r
  case ot16h => (simp only [List.getElem?_toArray, List.getElem?_cons_succ, List.getElem?_cons_zero]; rfl)
  case ot16q => exact fun _ _ _ h => h
  case ot16y => (refine Or.inl ⟨by first | kernel_rfl | rfl, ?_⟩; intro w hSw; (try dsimp only at hSw); go_simp <;> (try with_reducible rfl))
  try simp only [Act.put, List.setIfInBounds_toArray, List.set_cons_zero, List.set_cons_succ]
  refine wpAnyH_take (i := 18) (oi := ?ot17o) (v := ?ot17v) ?ot17h (by kernel_rfl) (by kernel_rfl) (by kernel_rfl) ?ot17q ?ot17y hHeld ?ot17r
  case ot17h => (simp only [List.getElem?_toArray, List.getElem?_cons_succ, List.getElem?_cons_zero]; rfl)
  case ot17q => exact fun _ _ _ h => h
  case ot17y => (refine Or.inl ⟨by first | kernel_rfl | rfl, ?_⟩; intro w hSw; (try dsimp only at hSw); go_simp <;> (try with_reducible rfl))
  try simp only [Act.put, List.setIfInBounds_toArray, List.set_cons_zero, List.set_cons_succ]
  refine wpAnyH_take (i := 19) (oi := ?ot18o) (v := ?ot18v) ?ot18h (by kernel_rfl) (by kernel_rfl) (by kernel_rfl) ?ot18q ?ot18y hHeld ?ot18r
  case ot18h => (simp only [List.getElem?_toArray, List.getElem?_cons_succ, List.getElem?_cons_zero]; rfl)
  case ot18q => exact fun _ _ _ h => h
  case ot18y => (refine Or.inl ⟨by first | kernel_rfl | rfl, ?_⟩; intro w hSw; (try dsimp only at hSw); go_simp <;> (try with_reducible rfl))
  try simp only [Act.put, List.setIfInBounds_toArray, List.set_cons_zero, List.set_cons_succ]
  refine wpAnyH_take (i := 21) (oi := ?ot19o) (v := ?ot19v) ?ot19h (by kernel_rfl) (by kernel_rfl) (by kernel_rfl) ?ot19q ?ot19y hHeld ?ot19r
  case ot19h => (simp only [List.getElem?_toArray, List.getElem?_cons_succ, List.getElem?_cons_zero]; rfl)
  case ot19q => exact fun _ _ _ h => h
  case ot19y => (refine Or.inl ⟨by first | kernel_rfl | rfl, ?_⟩; intro w hSw; (try dsimp only at hSw); go_simp <;> (try with_reducible rfl))
  try simp only [Act.put, List.setIfInBounds_toArray, List.set_cons_zero, List.set_cons_succ]
  refine wpAnyH_ready (rs := [20]) (by kernel_rfl) (by simp) ?_
  refine (AllReadyH.cons rfl (fun K hK => ?_) AllReadyH.nil)
  go_simp
  (go_at_call 27; (with_reducible refine (k6 _).mono ?_); rintro e w' ⟨rfl, hb'⟩)
  refine hK.out _ _ (three_keep hb' hHeld) (fun hHeld => ?_)
  clear hK K
  try simp only [Act.put, List.setIfInBounds_toArray, List.set_cons_zero, List.set_cons_succ]
  refine wpAnyH_ready (rs := [22]) (by kernel_rfl) (by simp) ?_
  refine (AllReadyH.cons rfl (fun K hK => ?_) AllReadyH.nil)
  go_simp
  (go_at_call 28; (with_reducible refine (k7 _).mono ?_); rintro e w' ⟨rfl, hb'⟩)
  refine hK.out _ _ (three_keep hb' hHeld) (fun hHeld => ?_)
  clear hK K
  try simp only [Act.put, List.setIfInBounds_toArray, List.set_cons_zero, List.set_cons_succ]
  refine wpAnyH_take (i := 23) (oi := ?ot20o) (v := ?ot20v) ?ot20h (by kernel_rfl) (by kernel_rfl) (by kernel_rfl) ?ot20q ?ot20y hHeld ?ot20r
  case ot20h => (simp only [List.getElem?_toArray, List.getElem?_cons_succ, List.getElem?_cons_zero]; rfl)
  case ot20q => exact fun _ _ _ h => h
  case ot20y => (refine Or.inl ⟨by first | kernel_rfl | rfl, ?_⟩; intro w hSw; (try dsimp only at hSw); go_simp <;> (try with_reducible rfl))
  try simp only [Act.put, List.setIfInBounds_toArray, List.set_cons_zero, List.set_cons_succ]
  refine wpAnyH_take (i := 24) (oi := ?ot21o) (v := ?ot21v) ?ot21h (by kernel_rfl) (by kernel_rfl) (by kernel_rfl) ?ot21q ?ot21y hHeld ?ot21r
  case ot21h => (simp only [List.getElem?_toArray, List.getElem?_cons_succ, List.getElem?_cons_zero]; rfl)
  case ot21q => exact fun _ _ _ h => h
  case ot21y => (refine Or.inl ⟨by first | kernel_rfl | rfl, ?_⟩; intro w hSw; (try dsimp only at hSw); go_simp <;> (try with_reducible rfl))
  try simp only [Act.put, List.setIfInBounds_toArray, List.set_cons_zero, List.set_cons_succ]
  refine wpAnyH_take (i := 25) (oi := ?ot22o) (v := ?ot22v) ?ot22h (by kernel_rfl) (by kernel_rfl) (by kernel_rfl) ?ot22q ?ot22y hHeld ?ot22r
  case ot22h => (simp only [List.getElem?_toArray, List.getElem?_cons_succ, List.getElem?_cons_zero]; rfl)
  case ot22q => exact fun _ _ _ h => h
  case ot22y => (refine Or.inl ⟨by first | kernel_rfl | rfl, ?_⟩; intro w hSw; (try dsimp only at hSw); go_simp <;> (try with_reducible rfl))
  try simp only [Act.put, List.setIfInBounds_toArray, List.set_cons_zero, List.set_cons_succ]
  refine wpAnyH_done (by kernel_rfl) ?_ _
  have hbel := hHeld.2.2.2.2.2.2
  go_wp2
  go_ret
  exact ⟨rfl, hbel⟩

theorem walk (h l : Int) (s : ByteArray) (n : Int) (w : World) (A : ∃ a, Rep h l a) (_hs : s.size ≤ maxLen) (hn : (Lit.int .i64 n).wf = true) :
    Calls Try.prog 4 #[.agg #[.int .i64 (h), .int .u64 (l)], .string s, .int .i64 n] w fun e w' => e = .returned (.bool true) ∧ Below w.heap.size w w' := by
  obtain ⟨a, A⟩ := A
  have hb := bounds_i64 hn
  exact core h l a s n w A (by omega) (by omega)
end Go.Proofs.Ytafgfpppemdedaa.wideTexts
