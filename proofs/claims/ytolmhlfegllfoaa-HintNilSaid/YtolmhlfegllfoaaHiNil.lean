/- All methods of a nil collection. -/
import Derived.Test.YtolmhlfegllfoaaHiAwake
import Derived.Laws.IdiomRangeMap
set_option maxRecDepth 20000
set_option linter.unusedSimpArgs false
set_option linter.unusedVariables false
namespace Go.Proofs.Ytolmhlfegllfoaa.Qu.Hi
open Go.RowKit Go.Maps Go.Proofs.Ytolmhlfegllfoaa.Vi Go.Proofs.Ytolmhlfegllfoaa.Mk

theorem look0 (w : World) {x : Hk} (hx : x.big) : (Instr.lookup TMM (.map none) (hkV x) true).run Try.prog w = .ok (.tuple #[.agg #[], .bool false]) w :=
  Maps.look_nil (P := Try.prog) (w := w) true klaw undM (zeroU w) (key_is hx)
structure HS0 (w : World) (g : Nat) (x : Hk) (X : World) : Prop where
  key : K7 X g x
  bel : Below w.heap.size w X
  big : x.big
theorem HS0.alloc {w X : World} {g : Nat} {x : Hk} (h : HS0 w g x X) (o : Obj) : HS0 w g x (X.alloc o) := ⟨h.key.later ((Below.refl _ _).alloc (Nat.le_refl _) o), bel_new h.bel o, h.big⟩
theorem HS0.drew {w X : World} {g : Nat} {x : Hk} (h : HS0 w g x X) : HS0 w g x X.drew := ⟨h.key.later (Below.refl _ _).drew, h.bel.drew, h.big⟩
set_option maxHeartbeats 2000000 in
theorem nil_has (w : World) (x : Hk) (hx : x.big) : Calls Try.prog 39 #[.pointer none, hkV x] w fun e w' => e = .returned (.bool false) ∧ Below w.heap.size w w' := by
  have ka := fun (W : World) => all_nil W
  have H0 : HS0 w w.heap.size x (w.alloc (box7 x)) := ⟨K7.new w x, (Below.refl _ _).alloc (Nat.le_refl _) _, hx⟩
  clear hx
  unfold hkV box7 at *
  go_enter Try.func39, Try.ntmps39
  go_wp2_with fail
  refine wp_region_held_drew (S := (HS0 w w.heap.size x)) (by kernel_rfl) H0.drew (fun hHeld => ?_)
  refine wpAnyH_take (i := 0) (oi := ?r1o) (v := ?r1v) ?r1h (by kernel_rfl) (by kernel_rfl) (by kernel_rfl) ?r1q ?r1y hHeld ?r1r
  case r1h => (simp only [List.getElem?_toArray, List.getElem?_cons_zero]; rfl)
  case r1q => exact fun _ _ _ h => h
  case r1y => (refine Or.inl ⟨by first | kernel_rfl | rfl, ?_⟩; intro w hSw; (try dsimp only at hSw); obtain ⟨⟨x0, x1, x2, x3, x4, x5, x6⟩, -, hx7⟩ := hSw; have hl := look0 w hx7; unfold hkV at hl; go_simp <;> (try with_reducible rfl))
  try simp only [Act.put, List.setIfInBounds_toArray, List.set_cons_zero, List.set_cons_succ]
  refine wpAnyH_take (i := 2) (oi := ?r2o) (v := ?r2v) ?r2h (by kernel_rfl) (by kernel_rfl) (by kernel_rfl) ?r2q ?r2y hHeld ?r2r
  case r2h => (simp only [List.getElem?_toArray, List.getElem?_cons_succ, List.getElem?_cons_zero]; rfl)
  case r2q => exact fun _ _ _ h => h
  case r2y => (refine Or.inl ⟨by first | kernel_rfl | rfl, ?_⟩; intro w hSw; (try dsimp only at hSw); obtain ⟨⟨x0, x1, x2, x3, x4, x5, x6⟩, -, hx7⟩ := hSw; have hl := look0 w hx7; unfold hkV at hl; go_simp <;> (try with_reducible rfl))
  try simp only [Act.put, List.setIfInBounds_toArray, List.set_cons_zero, List.set_cons_succ]
  refine wpAnyH_ready (rs := [1, 7]) (by kernel_rfl) (by simp) ?_
  refine (AllReadyH.cons rfl (fun K hK => ?_) (AllReadyH.cons rfl (fun K hK => ?_) AllReadyH.nil))
  ·
    go_simp
    (go_at_call 30; (with_reducible refine (ka _).mono ?_); rintro e w1 ⟨rfl, rfl⟩)
    refine hK.out _ _ (hHeld) (fun hHeld => ?_)
    clear hK K
    try simp only [Act.put, List.setIfInBounds_toArray, List.set_cons_zero, List.set_cons_succ]
    refine wpAnyH_take (i := 3) (oi := ?r3o) (v := ?r3v) ?r3h (by kernel_rfl) (by kernel_rfl) (by kernel_rfl) ?r3q ?r3y hHeld ?r3r
    case r3h => (simp only [List.getElem?_toArray, List.getElem?_cons_succ, List.getElem?_cons_zero]; rfl)
    case r3q => exact fun _ _ _ h => h
    case r3y => (refine Or.inl ⟨by first | kernel_rfl | rfl, ?_⟩; intro w hSw; (try dsimp only at hSw); obtain ⟨⟨x0, x1, x2, x3, x4, x5, x6⟩, -, hx7⟩ := hSw; have hl := look0 w hx7; unfold hkV at hl; go_simp <;> (try with_reducible rfl))
    try simp only [Act.put, List.setIfInBounds_toArray, List.set_cons_zero, List.set_cons_succ]
    refine wpAnyH_take (i := 4) (oi := ?r4o) (v := ?r4v) ?r4h (by kernel_rfl) (by kernel_rfl) (by kernel_rfl) ?r4q ?r4y hHeld ?r4r
    case r4h => (simp only [List.getElem?_toArray, List.getElem?_cons_succ, List.getElem?_cons_zero]; rfl)
    case r4q => exact fun _ _ _ h => h
    case r4y => (refine Or.inl ⟨by first | kernel_rfl | rfl, ?_⟩; intro w hSw; (try dsimp only at hSw); obtain ⟨⟨x0, x1, x2, x3, x4, x5, x6⟩, -, hx7⟩ := hSw; have hl := look0 w hx7; unfold hkV at hl; go_simp <;> (try with_reducible rfl))
    try simp only [Act.put, List.setIfInBounds_toArray, List.set_cons_zero, List.set_cons_succ]
    refine wpAnyH_take (i := 5) (oi := ?r5o) (v := ?r5v) ?r5h (by kernel_rfl) (by kernel_rfl) (by kernel_rfl) ?r5q ?r5y hHeld ?r5r
    case r5h => (simp only [List.getElem?_toArray, List.getElem?_cons_succ, List.getElem?_cons_zero]; rfl)
    case r5q => exact fun _ _ _ h => h
    case r5y => (refine Or.inl ⟨by first | kernel_rfl | rfl, ?_⟩; intro w hSw; (try dsimp only at hSw); obtain ⟨⟨x0, x1, x2, x3, x4, x5, x6⟩, -, hx7⟩ := hSw; have hl := look0 w hx7; unfold hkV at hl; go_simp <;> (try with_reducible rfl))
    try simp only [Act.put, List.setIfInBounds_toArray, List.set_cons_zero, List.set_cons_succ]
    refine wpAnyH_take (i := 6) (oi := ?r6o) (v := ?r6v) ?r6h (by kernel_rfl) (by kernel_rfl) (by kernel_rfl) ?r6q ?r6y hHeld ?r6r
    case r6h => (simp only [List.getElem?_toArray, List.getElem?_cons_succ, List.getElem?_cons_zero]; rfl)
    case r6q => exact fun _ _ _ h => h
    case r6y => (refine Or.inl ⟨by first | kernel_rfl | rfl, ?_⟩; intro w hSw; (try dsimp only at hSw); obtain ⟨⟨x0, x1, x2, x3, x4, x5, x6⟩, -, hx7⟩ := hSw; have hl := look0 w hx7; unfold hkV at hl; go_simp <;> (try with_reducible rfl))
    try simp only [Act.put, List.setIfInBounds_toArray, List.set_cons_zero, List.set_cons_succ]
    refine wpAnyH_ready (rs := [7]) (by kernel_rfl) (by simp) ?_
    refine (AllReadyH.cons rfl (fun K hK => ?_) AllReadyH.nil)
    go_simp
    skip
    refine hK.out _ _ (hHeld.alloc _) (fun hHeld => ?_)
    clear hK K
    try simp only [Act.put, List.setIfInBounds_toArray, List.set_cons_zero, List.set_cons_succ]
    refine wpAnyH_ready (rs := [8]) (by kernel_rfl) (by simp) ?_
    refine (AllReadyH.cons rfl (fun K hK => ?_) AllReadyH.nil)
    go_simp
    skip
    refine hK.out _ _ (hHeld) (fun hHeld => ?_)
    clear hK K
    try simp only [Act.put]
    refine wpAnyH_take (i := 9) (oi := ?r7o) (v := ?r7v) ?r7h (by kernel_rfl) (by kernel_rfl) (by kernel_rfl) ?r7q ?r7y hHeld ?r7r
    case r7h => (simp only [List.getElem?_toArray, List.getElem?_cons_succ, List.getElem?_cons_zero]; rfl)
    case r7q => exact fun _ _ _ h => h
    case r7y => (refine Or.inl ⟨by first | kernel_rfl | rfl, ?_⟩; intro w hSw; (try dsimp only at hSw); obtain ⟨⟨x0, x1, x2, x3, x4, x5, x6⟩, -, hx7⟩ := hSw; have hl := look0 w hx7; unfold hkV at hl; go_simp <;> (try with_reducible rfl))
    try simp only [Act.put, List.setIfInBounds_toArray, List.set_cons_zero, List.set_cons_succ]
    refine wpAnyH_done (by kernel_rfl) ?_ _
    go_wp2
    go_ret
    exact ⟨rfl, hHeld.bel⟩
  ·
    go_simp
    skip
    refine hK.out _ _ (hHeld.alloc _) (fun hHeld => ?_)
    clear hK K
    try simp only [Act.put, List.setIfInBounds_toArray, List.set_cons_zero, List.set_cons_succ]
    refine wpAnyH_ready (rs := [1]) (by kernel_rfl) (by simp) ?_
    refine (AllReadyH.cons rfl (fun K hK => ?_) AllReadyH.nil)
    go_simp
    (go_at_call 30; (with_reducible refine (ka _).mono ?_); rintro e w1 ⟨rfl, rfl⟩)
    refine hK.out _ _ (hHeld) (fun hHeld => ?_)
    clear hK K
    try simp only [Act.put, List.setIfInBounds_toArray, List.set_cons_zero, List.set_cons_succ]
    refine wpAnyH_take (i := 3) (oi := ?r8o) (v := ?r8v) ?r8h (by kernel_rfl) (by kernel_rfl) (by kernel_rfl) ?r8q ?r8y hHeld ?r8r
    case r8h => (simp only [List.getElem?_toArray, List.getElem?_cons_succ, List.getElem?_cons_zero]; rfl)
    case r8q => exact fun _ _ _ h => h
    case r8y => (refine Or.inl ⟨by first | kernel_rfl | rfl, ?_⟩; intro w hSw; (try dsimp only at hSw); obtain ⟨⟨x0, x1, x2, x3, x4, x5, x6⟩, -, hx7⟩ := hSw; have hl := look0 w hx7; unfold hkV at hl; go_simp <;> (try with_reducible rfl))
    try simp only [Act.put, List.setIfInBounds_toArray, List.set_cons_zero, List.set_cons_succ]
    refine wpAnyH_take (i := 4) (oi := ?r9o) (v := ?r9v) ?r9h (by kernel_rfl) (by kernel_rfl) (by kernel_rfl) ?r9q ?r9y hHeld ?r9r
    case r9h => (simp only [List.getElem?_toArray, List.getElem?_cons_succ, List.getElem?_cons_zero]; rfl)
    case r9q => exact fun _ _ _ h => h
    case r9y => (refine Or.inl ⟨by first | kernel_rfl | rfl, ?_⟩; intro w hSw; (try dsimp only at hSw); obtain ⟨⟨x0, x1, x2, x3, x4, x5, x6⟩, -, hx7⟩ := hSw; have hl := look0 w hx7; unfold hkV at hl; go_simp <;> (try with_reducible rfl))
    try simp only [Act.put, List.setIfInBounds_toArray, List.set_cons_zero, List.set_cons_succ]
    refine wpAnyH_take (i := 5) (oi := ?r10o) (v := ?r10v) ?r10h (by kernel_rfl) (by kernel_rfl) (by kernel_rfl) ?r10q ?r10y hHeld ?r10r
    case r10h => (simp only [List.getElem?_toArray, List.getElem?_cons_succ, List.getElem?_cons_zero]; rfl)
    case r10q => exact fun _ _ _ h => h
    case r10y => (refine Or.inl ⟨by first | kernel_rfl | rfl, ?_⟩; intro w hSw; (try dsimp only at hSw); obtain ⟨⟨x0, x1, x2, x3, x4, x5, x6⟩, -, hx7⟩ := hSw; have hl := look0 w hx7; unfold hkV at hl; go_simp <;> (try with_reducible rfl))
    try simp only [Act.put, List.setIfInBounds_toArray, List.set_cons_zero, List.set_cons_succ]
    refine wpAnyH_take (i := 6) (oi := ?r11o) (v := ?r11v) ?r11h (by kernel_rfl) (by kernel_rfl) (by kernel_rfl) ?r11q ?r11y hHeld ?r11r
    case r11h => (simp only [List.getElem?_toArray, List.getElem?_cons_succ, List.getElem?_cons_zero]; rfl)
    case r11q => exact fun _ _ _ h => h
    case r11y => (refine Or.inl ⟨by first | kernel_rfl | rfl, ?_⟩; intro w hSw; (try dsimp only at hSw); obtain ⟨⟨x0, x1, x2, x3, x4, x5, x6⟩, -, hx7⟩ := hSw; have hl := look0 w hx7; unfold hkV at hl; go_simp <;> (try with_reducible rfl))
    try simp only [Act.put, List.setIfInBounds_toArray, List.set_cons_zero, List.set_cons_succ]
    refine wpAnyH_ready (rs := [8]) (by kernel_rfl) (by simp) ?_
    refine (AllReadyH.cons rfl (fun K hK => ?_) AllReadyH.nil)
    go_simp
    skip
    refine hK.out _ _ (hHeld) (fun hHeld => ?_)
    clear hK K
    try simp only [Act.put]
    refine wpAnyH_take (i := 9) (oi := ?r12o) (v := ?r12v) ?r12h (by kernel_rfl) (by kernel_rfl) (by kernel_rfl) ?r12q ?r12y hHeld ?r12r
    case r12h => (simp only [List.getElem?_toArray, List.getElem?_cons_succ, List.getElem?_cons_zero]; rfl)
    case r12q => exact fun _ _ _ h => h
    case r12y => (refine Or.inl ⟨by first | kernel_rfl | rfl, ?_⟩; intro w hSw; (try dsimp only at hSw); obtain ⟨⟨x0, x1, x2, x3, x4, x5, x6⟩, -, hx7⟩ := hSw; have hl := look0 w hx7; unfold hkV at hl; go_simp <;> (try with_reducible rfl))
    try simp only [Act.put, List.setIfInBounds_toArray, List.set_cons_zero, List.set_cons_succ]
    refine wpAnyH_done (by kernel_rfl) ?_ _
    go_wp2
    go_ret
    exact ⟨rfl, hHeld.bel⟩
set_option maxHeartbeats 4000000 in
theorem nil_owed (p : Pt) (hp : ∀ k : Nat, k < 16 → Hk.big ⟨p, (k : Int)⟩) (w : World) : Calls Try.prog 22 #[.pointer none, ptV p] w (IDone [] w) := by
  have kh := fun (x : Hk) (hx : x.big) (W : World) => nil_has W x hx
  have HP := Lib.hid hp
  obtain ⟨Q, hQ⟩ : ∃ Q : Int → Bool, Q = fun n => false := ⟨_, rfl⟩
  have HE := Lib.hid (show ([] : List Int) = pickN Q 16 by rw [hQ]; decide +kernel)
  have HQ := Lib.hid (show ∀ k : Nat, Q (k : Int) = false from fun k => by rw [hQ])
  clear hp hQ
  unfold ptV
  go_enter Try.func22, Try.ntmps22
  go_wp2
  go_loopg [5, 7] 16 (fun g o i wr => ∃ (k : Nat), k + g = 16 ∧ i = .int .i64 (k : Int) ∧ Hid (OwJ w wr Q p k o))
  case atStart => exact ⟨0, by omega, rfl, Lib.hid ⟨IRow.nil _ _, Below.refl _ _⟩⟩
  case round =>
    obtain ⟨k, hk, rfl, HJ⟩ := hrel
    obtain ⟨w3, hw3⟩ : ∃ x, x = wr := ⟨_, rfl⟩
    subst hw3
    obtain ⟨a5, c5, rfl⟩ := HJ.out.row.slice
    obtain ⟨r, hr⟩ : ∃ r, (pickN Q k).length = r := ⟨_, rfl⟩
    have hrk : r ≤ k := by rw [← hr]; exact pickN_len _ _
    rw [hr] at HJ ⊢
    have HRL := Lib.hid hr
    clear hr
    cases gk with
    | zero =>
      obtain rfl : k = 16 := by omega
      clear hk
      go_wp2
      go_ret
      exact ⟨_, rfl, by rw [HE.out]; exact own_base HJ.out.row (by omega), HJ.out.bel⟩
    | succ g =>
      have hlt : (k : Int) < 16 := by omega
      have hk16 : k < 16 := by omega
      obtain ⟨x0, x1, x2, x3, x4, x5⟩ := HJ.out.pt
      have khk := kh ⟨p, (k : Int)⟩ (HP.out k hk16) w3
      unfold hkV at khk
      have hz := HQ.out k
      have HX := Lib.hid (pickN_no (q := Q) hz)
      clear hz hk16
      go_wp2_with (go_at_call 39; (with_reducible refine khk.mono ?_); rintro e w5 ⟨rfl, hb5⟩; (have HB5 := Lib.hid hb5); clear hb5)
      go_roundg g
      case measure => omega
      case rel => exact ⟨k + 1, by omega, by go_num, Lib.hid ⟨by rw [HX.out]; exact HJ.out.row.later HB5.out, HJ.out.bel1.trans (HB5.out.mono HJ.out.sz)⟩⟩

set_option maxHeartbeats 4000000 in
theorem nil_drop (t : Int) (w : World) : Calls Try.prog 14 #[.pointer none, .int .i64 t] w fun e w' => e = .returned (.int .i64 0) ∧ Below w.heap.size w w' := by
  have ka := all_nil w
  have kl := fun W => len_nil W
  have hrg := run_range_nilMap (P := Try.prog) w TMM TKK 72 undM
  have hnx : ∀ ty, (Instr.next (.pointer (some ⟨w.heap.size, 0, none⟩)) false ty).run Try.prog (w.alloc (.mapIter none 0 #[] 0)) = _ := fun ty => run_next_nilMap w ty 0 0 #[]
  have HB := Lib.hid ((Below.refl w.heap.size w).alloc (Nat.le_refl _) (.mapIter none 0 #[] 0))
  obtain ⟨w2, hw2⟩ : ∃ x, x = w.alloc (.mapIter none 0 #[] 0) := ⟨_, rfl⟩
  rw [← hw2] at hrg HB
  simp only [← hw2] at hnx
  clear hw2
  go_enter Try.func14, Try.ntmps14
  go_wp2_with (first
    | (go_at_call 25; (with_reducible refine (kl _).mono ?_); rintro e w9 ⟨rfl, rfl⟩)
    | (go_at_call 30; (with_reducible refine ka.mono ?_); rintro e w9 ⟨rfl, rfl⟩))
  try go_frame
  refine wp_loop_rounds 1 ?_
  rw [rounds_succ]
  go_wp2_with (go_at_call 25; (with_reducible refine (kl _).mono ?_); rintro e w9 ⟨rfl, rfl⟩)
  go_ret
  exact ⟨rfl, HB.out⟩
set_option maxHeartbeats 4000000 in
theorem nil_for (n most : Int) (w : World) : Calls Try.prog 19 #[.pointer none, .int .i64 n, .int .i64 most] w (fun e w' => ∃ a c, e = .returned (.slice a 0 c) ∧ Below w.heap.size w w') := by
  have ka := all_nil w
  have hrg := run_range_nilMap (P := Try.prog) w TMM TKK 72 undM
  have hnx : ∀ ty, (Instr.next (.pointer (some ⟨w.heap.size, 0, none⟩)) false ty).run Try.prog (w.alloc (.mapIter none 0 #[] 0)) = _ := fun ty => run_next_nilMap w ty 0 0 #[]
  have HB := Lib.hid ((Below.refl w.heap.size w).alloc (Nat.le_refl _) (.mapIter none 0 #[] 0))
  obtain ⟨w2, hw2⟩ : ∃ x, x = w.alloc (.mapIter none 0 #[] 0) := ⟨_, rfl⟩
  rw [← hw2] at hrg HB
  simp only [← hw2] at hnx
  clear hw2
  have ks := sortp_is (.slice none 0 0) [] 0 w2 (PRow.nil _ _) (by decide)
  have ko := fun W => own_is none 0 [] W ⟨⟨Or.inl rfl⟩, Nat.le_refl _, fun _ => rfl⟩ (by decide) (fun p hp => by cases hp)
  have hmm : min (max most 0) 0 = 0 := by omega
  simp only [List.length_nil] at ko
  go_enter Try.func19, Try.ntmps19
  go_wp2_with (go_at_call 30; (with_reducible refine ka.mono ?_); rintro e w9 ⟨rfl, rfl⟩)
  try go_frame
  refine wp_loop_rounds 1 ?_
  rw [rounds_succ]
  go_wp2_with (first
    | (go_at_call 35; (with_reducible refine ks.mono ?_); rintro e w3 ⟨rfl, -, hg3⟩; (have HB3 := Lib.hid (HB.out.grown hg3 HB.out.size fun g hg => by cases hg)); clear hg3)
    | (go_at_call 37; (try rw [hmm]); (with_reducible refine (ko _).mono ?_); rintro e w4 ⟨v4, rfl, hR4, hb4⟩; (have HB4 := Lib.hid (bel_next HB3.out hb4)); (obtain ⟨a4, c4, rfl⟩ := hR4.slice); clear hb4 hR4))
  go_ret
  exact ⟨a4, c4, rfl, HB4.out⟩
set_option maxHeartbeats 4000000 in
theorem nil_nodes (w : World) : Calls Try.prog 24 #[.pointer none] w (fun e w' => ∃ a c, e = .returned (.slice a 0 c) ∧ Below w.heap.size w w') := by
  have ka := all_nil w
  have hrg := run_range_nilMap (P := Try.prog) w TMM TKK 72 undM
  have hnx : ∀ ty, (Instr.next (.pointer (some ⟨w.heap.size, 0, none⟩)) false ty).run Try.prog (w.alloc (.mapIter none 0 #[] 0)) = _ := fun ty => run_next_nilMap w ty 0 0 #[]
  have HB := Lib.hid ((Below.refl w.heap.size w).alloc (Nat.le_refl _) (.mapIter none 0 #[] 0))
  obtain ⟨w2, hw2⟩ : ∃ x, x = w.alloc (.mapIter none 0 #[] 0) := ⟨_, rfl⟩
  rw [← hw2] at hrg HB
  simp only [← hw2] at hnx
  clear hw2
  have ks := sorti_is (.slice none 0 0) [] 0 w2 (IRow.nil _ _) (by decide)
  go_enter Try.func24, Try.ntmps24
  go_wp2
  go_step3
  go_wp2
  go_step3
  go_wp2_with (go_at_call 30; (with_reducible refine ka.mono ?_); rintro e w9 ⟨rfl, rfl⟩)
  try go_frame
  refine wp_loop_rounds 1 ?_
  rw [rounds_succ]
  go_wp2_with (go_at_call 40; (with_reducible refine ks.mono ?_); rintro e w3 ⟨rfl, -, hg3⟩; (have HB3 := Lib.hid (HB.out.grown hg3 HB.out.size fun g hg => by cases hg)); clear hg3)
  try unfold Exit.noGoto
  try dsimp only
  go_ret
  exact ⟨_, _, rfl, HB3.out⟩
theorem nil_add (p : Pt) (v : Value) (w : World) : Calls Try.prog 16 #[.pointer none, ptV p, v] w fun e w' => e = .returned (.bool false) ∧ Below w.heap.size w w' := by
  unfold ptV
  go_enter Try.func16, Try.ntmps16
  go_wp2_with fail
  go_ret
  exact ⟨rfl, (Below.refl w.heap.size w).alloc (Nat.le_refl _) _⟩
set_option maxHeartbeats 4000000 in
theorem nil_ack (n : Int) (g : Nat) (p : Pt) (hb : Hk.big ⟨p, n⟩) (w : World) (h : PtAt w g p) : Calls Try.prog 12 #[.pointer none, .int .i64 n, .slice (some ⟨g, 0, none⟩) 1 1] w fun e w' => e = .returned (.int .i64 0) ∧ Below w.heap.size w w' := by
  have kl := fun W => len_nil W
  have ka := fun W => all_nil W
  obtain ⟨x0, x1, x2, x3, x4, x5⟩ := h
  have hal : Below w.heap.size w (w.alloc (.cells #[.string p.s, .int .i64 p.t, .int .i64 p.v, .int .i64 p.st.c, .int .i64 p.st.s, .int .i64 p.st.q] 31)).drew := ((Below.refl _ _).alloc (Nat.le_refl _) _).drew
  have hrun := fun W T => Maps.drop_nil (P := Try.prog) (w := W) klaw undM (key_is hb) T
  unfold hkV at hrun
  have HB := Lib.hid hal
  clear hal hb
  go_enter Try.func12, Try.ntmps12
  go_wp2_with (go_at_call 25; (with_reducible refine (kl _).mono ?_); rintro e w9 ⟨rfl, rfl⟩)
  try go_frame
  refine wp_loop_rounds 2 ?_
  rw [rounds_succ]
  go_wp2_with fail
  refine still_tail 5 (by kernel_rfl) (by kernel_rfl) ?_
  simp only [List.take_succ_cons, List.take_zero, List.drop_succ_cons, List.drop_zero]
  still_step
  refine wpStill_step (fun K hK => ?_)
  go_simp
  refine ⟨_, ((ka _).mono (by rintro e w1 ⟨rfl, rfl⟩; exact ⟨rfl, rfl⟩)), hK _ ?_⟩
  clear hK K
  repeat still_step
  refine wpStill_nil ?_
  go_wp2
  rw [rounds_succ]
  go_wp2_with (go_at_call 25; (with_reducible refine (kl _).mono ?_); rintro e w9 ⟨rfl, rfl⟩)
  go_ret
  exact ⟨rfl, HB.out⟩
end Go.Proofs.Ytolmhlfegllfoaa.Qu.Hi
