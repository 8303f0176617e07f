/- The methods of a write. -/
import Derived.Test.YtcjcbbpolhpphaaQuAt
import Derived.Laws.EntriesVeiled
set_option maxRecDepth 20000
set_option linter.unusedSimpArgs false
set_option linter.unusedVariables false
namespace Go.Proofs.Ytcjcbbpolhpphaa.Qu
open Go.RowKit Go.Proofs.Ytcjcbbpolhpphaa.Vi

theorem isNode_is (a : Int) (w : World) : Calls Try.prog 35 #[.int .i64 a] w fun e w' => e = .returned (.bool (nodeB a)) ∧ w = w' := by
  by_cases h0 : 0 ≤ a
  · by_cases h1 : a < 16
    · have HZ := Lib.hid (show nodeB a = true by unfold nodeB; rw [decide_eq_true h0, decide_eq_true h1]; rfl)
      go_enter Try.func35, Try.ntmps35
      go_wp2
      go_ret
      exact ⟨by rw [HZ.out]; rfl, rfl⟩
    · have HZ := Lib.hid (show nodeB a = false by unfold nodeB; rw [decide_eq_true h0, decide_eq_false h1]; rfl)
      go_enter Try.func35, Try.ntmps35
      go_wp2
      go_ret
      exact ⟨by rw [HZ.out]; rfl, rfl⟩
  · have HZ := Lib.hid (show nodeB a = false by unfold nodeB; rw [decide_eq_false h0]; rfl)
    go_enter Try.func35, Try.ntmps35
    go_wp2
    go_ret
    exact ⟨by rw [HZ.out]; rfl, rfl⟩
theorem node_nat {n : Int} (h : nodeB n = true) : ∃ k : Nat, k < 16 ∧ n = (k : Int) := by
  unfold nodeB at h
  simp only [Bool.and_eq_true, decide_eq_true_eq] at h
  exact ⟨n.toNat, by omega, by omega⟩
section
variable {w : World} {b : Nat} {T : TypeId} {S : QS}
theorem has_is (n : Int) (h : WAt w b T S) : Calls Try.prog 44 #[.pointer (some ⟨b, 0, none⟩), .int .i64 n] w fun e w' => e = .returned (.bool (hasB S n)) ∧ w = w' := by
  have kn := isNode_is n w
  obtain ⟨z, hz⟩ : ∃ z, nodeB n = z := ⟨_, rfl⟩
  rw [hz] at kn
  cases z with
  | false =>
    have HZ := Lib.hid (show hasB S n = false by unfold hasB; rw [hz]; rfl)
    clear hz h
    go_enter Try.func44, Try.ntmps44
    go_wp2_with (go_at_call 35; (with_reducible refine kn.mono ?_); rintro e w1 ⟨rfl, rfl⟩)
    go_ret
    exact ⟨by rw [HZ.out]; rfl, rfl⟩
  | true =>
    obtain ⟨k, hk, rfl⟩ := node_nat hz
    have HZ := Lib.hid (show hasB S (k : Int) = S.nd (k : Int) by unfold hasB; rw [hz]; rfl)
    have c1 := h.nd k hk
    have hk2 : (k : Int) < 16 := by omega
    rw [HZ.out]
    obtain ⟨x, hx⟩ : ∃ x, S.nd (k : Int) = x := ⟨_, rfl⟩
    rw [hx] at c1 ⊢
    clear hx hz h HZ
    go_enter Try.func44, Try.ntmps44
    go_wp2_with (go_at_call 35; (with_reducible refine kn.mono ?_); rintro e w1 ⟨rfl, rfl⟩)
    go_ret
    exact ⟨rfl, rfl⟩
theorem hear_is (n : Int) (h : WAt w b T S) : Calls Try.prog 37 #[.pointer (some ⟨b, 0, none⟩), .int .i64 n] w fun e w' => e = .returned (.bool (hearB S n)) ∧ w' = hearW w b S n := by
  have kn := has_is n h
  obtain ⟨z, hz⟩ : ∃ z, hasB S n = z := ⟨_, rfl⟩
  rw [hz] at kn
  cases z with
  | false =>
    have HZ := Lib.hid (show hearB S n = false by unfold hearB; rw [hz]; rfl)
    have HW := Lib.hid (show hearW w b S n = w by unfold hearW; rw [HZ.out]; rfl)
    clear hz h
    go_enter Try.func37, Try.ntmps37
    go_wp2_with (go_at_call 44; (with_reducible refine kn.mono ?_); rintro e w1 ⟨rfl, rfl⟩)
    go_ret
    exact ⟨by rw [HZ.out]; rfl, by rw [HW.out]⟩
  | true =>
    obtain ⟨k, hk, rfl⟩ := has_node hz
    have c1 := h.hd k hk
    have f1 := h.frozen (17 + k)
    have hk2 : (k : Int) < 16 := by omega
    obtain ⟨x, hx⟩ : ∃ x, S.hd (k : Int) = x := ⟨_, rfl⟩
    rw [hx] at c1
    cases x with
    | true =>
      have HZ := Lib.hid (show hearB S (k : Int) = false by unfold hearB; rw [hz, hx]; rfl)
      have HW := Lib.hid (show hearW w b S (k : Int) = w by unfold hearW; rw [HZ.out]; rfl)
      clear hz h hx
      go_enter Try.func37, Try.ntmps37
      go_wp2_with (go_at_call 44; (with_reducible refine kn.mono ?_); rintro e w1 ⟨rfl, rfl⟩)
      go_ret
      exact ⟨by rw [HZ.out]; rfl, by rw [HW.out]⟩
    | false =>
      have HZ := Lib.hid (show hearB S (k : Int) = true by unfold hearB; rw [hz, hx]; rfl)
      have HW := Lib.hid (show hearW w b S (k : Int) = w.setCell ⟨b, 17 + k, none⟩ (.bool true) by unfold hearW; rw [HZ.out, if_pos rfl, show (k : Int).toNat = k by omega])
      clear hz h hx
      go_enter Try.func37, Try.ntmps37
      go_wp2_with (go_at_call 44; (with_reducible refine kn.mono ?_); rintro e w1 ⟨rfl, rfl⟩)
      go_ret
      exact ⟨by rw [HZ.out]; rfl, by rw [HW.out]⟩
theorem replied1_is (k x : Nat) (hk : k < 16) (h : WAt w b T S) (hx : w.cell? ⟨x, 0, none⟩ = some (.pointer (some ⟨b, 0, none⟩))) : Calls Try.prog 54 #[.int .i64 (k : Int), .pointer (some ⟨x, 0, none⟩)] w fun e w' => e = .returned (.bool (S.hd (k : Int))) ∧ w = w' := by
  have c1 := h.hd k hk
  have hk2 : (k : Int) < 16 := by omega
  obtain ⟨y, hy⟩ : ∃ y, S.hd (k : Int) = y := ⟨_, rfl⟩
  rw [hy] at c1 ⊢
  clear hy h
  go_enter Try.func54, Try.ntmps54
  go_wp2
  go_ret
  exact ⟨rfl, rfl⟩
set_option maxHeartbeats 1000000 in
theorem those_replied (x : Nat) (h : WAt w b T S) (hx : w.cell? ⟨x, 0, none⟩ = some (.pointer (some ⟨b, 0, none⟩))) : Calls Try.prog 53 #[.pointer (some ⟨b, 0, none⟩), .func (.func 54) #[] #[.pointer (some ⟨x, 0, none⟩)]] w (IDone (repL S) w) := by
  have H := Lib.hid h
  have HX := Lib.hid hx
  have hxl := World.block_lt_of_cell? w _ hx
  clear h hx
  go_enter Try.func53, Try.ntmps53
  go_wp2
  go_loopw [5, 7] (fun out i wr => ∃ k : Nat, k ≤ 16 ∧ i = .int .i64 (k : Int) ∧ IRow wr w.heap.size out (pickK (fun i => S.nd i && S.hd i) k) ∧ Below w.heap.size w wr) (fun _ i _ => 16 - (intOf i).toNat)
  case atStart => exact ⟨0, by omega, rfl, IRow.nil _ _, Below.refl _ _⟩
  case round =>
    obtain ⟨k, hk, rfl, hR, hB⟩ := hrel
    obtain ⟨w2, hw2⟩ : ∃ w2, w2 = wr := ⟨_, rfl⟩
    subst hw2
    obtain ⟨a3, d3, rfl⟩ := hR.slice
    have hlen := pickK_len (fun i => S.nd i && S.hd i) k
    by_cases hlt : k < 16
    · have hlt2 : (k : Int) < 16 := by omega
      have h2 := H.out.later hB
      have kh := has_is (k : Int) h2
      have kc := replied1_is k x hlt h2 ((hB.cell (p := ⟨x, 0, none⟩) hxl).trans HX.out)
      have hn : hasB S (k : Int) = S.nd (k : Int) := by unfold hasB nodeB; rw [decide_eq_true (show (0 : Int) ≤ (k : Int) by omega), decide_eq_true hlt2]; rfl
      rw [hn] at kh
      have HYES := Lib.hid (pickK_yes (p := fun i => S.nd i && S.hd i) (k := k))
      have HNO := Lib.hid (pickK_no (p := fun i => S.nd i && S.hd i) (k := k))
      obtain ⟨y, hy⟩ : ∃ y, S.hd (k : Int) = y := ⟨_, rfl⟩
      obtain ⟨z, hz⟩ : ∃ z, S.nd (k : Int) = z := ⟨_, rfl⟩
      simp only [hy, hz] at kc kh HYES HNO
      obtain ⟨l, hl⟩ : ∃ l, pickK (fun i => S.nd i && S.hd i) k = l := ⟨_, rfl⟩
      rw [hl] at hR hlen HYES HNO
      have HR := Lib.hid hR
      have HB := Lib.hid hB
      have HL := Lib.hid hlen
      obtain ⟨m, hm⟩ : ∃ m, l.length = m := ⟨_, rfl⟩
      rw [hm] at HR
      rw [hl, hm]
      have HM := Lib.hid hm
      have hB1 := hB.size
      clear hy hz hl hR hB hlen h2 hn hm
      cases z with
      | false =>
        have HN := Lib.hid (HNO.out rfl)
        clear HYES HNO
        go_wp2_with (go_at_call 44; (with_reducible refine kh.mono ?_); rintro e w3 ⟨rfl, rfl⟩)
        go_roundw
        case rel => exact ⟨k + 1, by omega, by go_num, by rw [HN.out]; exact HR.out, HB.out⟩
        case measure => simp [intOf]; omega
      | true =>
        cases y with
        | false =>
          have HN := Lib.hid (HNO.out rfl)
          clear HYES HNO
          go_wp2_with (first
            | (go_at_call 44; (with_reducible refine kh.mono ?_); rintro e w3 ⟨rfl, rfl⟩)
            | (go_at_call 54; (with_reducible refine kc.mono ?_); rintro e w3 ⟨rfl, rfl⟩))
          go_roundw
          case rel => exact ⟨k + 1, by omega, by go_num, by rw [HN.out]; exact HR.out, HB.out⟩
          case measure => simp [intOf]; omega
        | true =>
          have HN := Lib.hid (HYES.out rfl)
          clear HYES HNO
          have hr := HR.out
          have hl1 := HL.out
          have hm := HM.out
          go_wp2_with (first
            | (go_at_call 44; (with_reducible refine kh.mono ?_); rintro e w3 ⟨rfl, rfl⟩)
            | (go_at_call 54; (with_reducible refine kc.mono ?_); rintro e w3 ⟨rfl, rfl⟩)
            | (at_builtin; refine wpList_irow rfl _ _ rfl w.heap.size (.slice a3 m d3) l rfl (k : Int) rfl hr hB1 (by omega) ?_; intro v4 w4 hr4 hb4 G4; (have HR4 := Lib.hid hr4); (have HB4 := Lib.hid (HB.out.trans hb4)); clear hr4 hb4 G4 hr hl1 hm hB1))
          go_roundw
          case rel => exact ⟨k + 1, by omega, by go_num, by rw [HN.out]; exact HR4.out, HB4.out⟩
          case measure => simp [intOf]; omega
    · obtain rfl : k = 16 := by omega
      have HE := Lib.hid (show pickK (fun i => S.nd i && S.hd i) 16 = repL S from rfl)
      have HR := Lib.hid hR
      have HB := Lib.hid hB
      obtain ⟨l, hl⟩ : ∃ l, pickK (fun i => S.nd i && S.hd i) 16 = l := ⟨_, rfl⟩
      rw [hl] at HR HE ⊢
      clear hR hB hl hlen
      go_wp2
      go_ret
      exact ⟨_, rfl, by rw [← HE.out]; exact HR.out, HB.out⟩
set_option maxHeartbeats 1000000 in
theorem replied_is (h : WAt w b T S) : Calls Try.prog 39 #[.pointer (some ⟨b, 0, none⟩)] w (IDone (repL S) w) := by
  have hal := (Below.refl w.heap.size w).alloc (Nat.le_refl _) (.cells #[.pointer (some ⟨b, 0, none⟩)] 25)
  have kt := those_replied w.heap.size (h.later hal) (by simp [go_sem])
  have HAL := Lib.hid hal
  clear h hal
  go_enter Try.func39, Try.ntmps39
  go_wp2_with (go_at_call 53; (with_reducible refine kt.mono ?_); rintro e w1 ⟨v, rfl, hR, hb1⟩; (have HR := Lib.hid hR); (have HB := Lib.hid hb1); (obtain ⟨a1, c1, rfl⟩ := hR.slice); clear hR hb1)
  go_ret
  exact ⟨_, rfl, own_base HR.out (by simp), HAL.out.trans (HB.out.mono (by simp))⟩
theorem silent1_is (k x : Nat) (hk : k < 16) (h : WAt w b T S) (hx : w.cell? ⟨x, 0, none⟩ = some (.pointer (some ⟨b, 0, none⟩))) : Calls Try.prog 55 #[.int .i64 (k : Int), .pointer (some ⟨x, 0, none⟩)] w fun e w' => e = .returned (.bool (!S.hd (k : Int))) ∧ w = w' := by
  have c1 := h.hd k hk
  have hk2 : (k : Int) < 16 := by omega
  obtain ⟨y, hy⟩ : ∃ y, S.hd (k : Int) = y := ⟨_, rfl⟩
  rw [hy] at c1 ⊢
  clear hy h
  go_enter Try.func55, Try.ntmps55
  go_wp2
  go_ret
  exact ⟨rfl, rfl⟩
set_option maxHeartbeats 1000000 in
theorem those_silent (x : Nat) (h : WAt w b T S) (hx : w.cell? ⟨x, 0, none⟩ = some (.pointer (some ⟨b, 0, none⟩))) : Calls Try.prog 53 #[.pointer (some ⟨b, 0, none⟩), .func (.func 55) #[] #[.pointer (some ⟨x, 0, none⟩)]] w (IDone (silL S) w) := by
  have H := Lib.hid h
  have HX := Lib.hid hx
  have hxl := World.block_lt_of_cell? w _ hx
  clear h hx
  go_enter Try.func53, Try.ntmps53
  go_wp2
  go_loopw [5, 7] (fun out i wr => ∃ k : Nat, k ≤ 16 ∧ i = .int .i64 (k : Int) ∧ IRow wr w.heap.size out (pickK (fun i => S.nd i && !S.hd i) k) ∧ Below w.heap.size w wr) (fun _ i _ => 16 - (intOf i).toNat)
  case atStart => exact ⟨0, by omega, rfl, IRow.nil _ _, Below.refl _ _⟩
  case round =>
    obtain ⟨k, hk, rfl, hR, hB⟩ := hrel
    obtain ⟨w2, hw2⟩ : ∃ w2, w2 = wr := ⟨_, rfl⟩
    subst hw2
    obtain ⟨a3, d3, rfl⟩ := hR.slice
    have hlen := pickK_len (fun i => S.nd i && !S.hd i) k
    by_cases hlt : k < 16
    · have hlt2 : (k : Int) < 16 := by omega
      have h2 := H.out.later hB
      have kh := has_is (k : Int) h2
      have kc := silent1_is k x hlt h2 ((hB.cell (p := ⟨x, 0, none⟩) hxl).trans HX.out)
      have hn : hasB S (k : Int) = S.nd (k : Int) := by unfold hasB nodeB; rw [decide_eq_true (show (0 : Int) ≤ (k : Int) by omega), decide_eq_true hlt2]; rfl
      rw [hn] at kh
      have HYES := Lib.hid (pickK_yes (p := fun i => S.nd i && !S.hd i) (k := k))
      have HNO := Lib.hid (pickK_no (p := fun i => S.nd i && !S.hd i) (k := k))
      obtain ⟨y, hy⟩ : ∃ y, S.hd (k : Int) = y := ⟨_, rfl⟩
      obtain ⟨z, hz⟩ : ∃ z, S.nd (k : Int) = z := ⟨_, rfl⟩
      simp only [hy, hz] at kc kh HYES HNO
      obtain ⟨l, hl⟩ : ∃ l, pickK (fun i => S.nd i && !S.hd i) k = l := ⟨_, rfl⟩
      rw [hl] at hR hlen HYES HNO
      have HR := Lib.hid hR
      have HB := Lib.hid hB
      have HL := Lib.hid hlen
      obtain ⟨m, hm⟩ : ∃ m, l.length = m := ⟨_, rfl⟩
      rw [hm] at HR
      rw [hl, hm]
      have HM := Lib.hid hm
      have hB1 := hB.size
      clear hy hz hl hR hB hlen h2 hn hm
      cases z with
      | false =>
        have HN := Lib.hid (HNO.out rfl)
        clear HYES HNO
        go_wp2_with (go_at_call 44; (with_reducible refine kh.mono ?_); rintro e w3 ⟨rfl, rfl⟩)
        go_roundw
        case rel => exact ⟨k + 1, by omega, by go_num, by rw [HN.out]; exact HR.out, HB.out⟩
        case measure => simp [intOf]; omega
      | true =>
        cases y with
        | true =>
          have HN := Lib.hid (HNO.out rfl)
          clear HYES HNO
          go_wp2_with (first
            | (go_at_call 44; (with_reducible refine kh.mono ?_); rintro e w3 ⟨rfl, rfl⟩)
            | (go_at_call 55; (with_reducible refine kc.mono ?_); rintro e w3 ⟨rfl, rfl⟩))
          go_roundw
          case rel => exact ⟨k + 1, by omega, by go_num, by rw [HN.out]; exact HR.out, HB.out⟩
          case measure => simp [intOf]; omega
        | false =>
          have HN := Lib.hid (HYES.out rfl)
          clear HYES HNO
          have hr := HR.out
          have hl1 := HL.out
          have hm := HM.out
          go_wp2_with (first
            | (go_at_call 44; (with_reducible refine kh.mono ?_); rintro e w3 ⟨rfl, rfl⟩)
            | (go_at_call 55; (with_reducible refine kc.mono ?_); rintro e w3 ⟨rfl, rfl⟩)
            | (at_builtin; refine wpList_irow rfl _ _ rfl w.heap.size (.slice a3 m d3) l rfl (k : Int) rfl hr hB1 (by omega) ?_; intro v4 w4 hr4 hb4 G4; (have HR4 := Lib.hid hr4); (have HB4 := Lib.hid (HB.out.trans hb4)); clear hr4 hb4 G4 hr hl1 hm hB1))
          go_roundw
          case rel => exact ⟨k + 1, by omega, by go_num, by rw [HN.out]; exact HR4.out, HB4.out⟩
          case measure => simp [intOf]; omega
    · obtain rfl : k = 16 := by omega
      have HE := Lib.hid (show pickK (fun i => S.nd i && !S.hd i) 16 = silL S from rfl)
      have HR := Lib.hid hR
      have HB := Lib.hid hB
      obtain ⟨l, hl⟩ : ∃ l, pickK (fun i => S.nd i && !S.hd i) 16 = l := ⟨_, rfl⟩
      rw [hl] at HR HE ⊢
      clear hR hB hl hlen
      go_wp2
      go_ret
      exact ⟨_, rfl, by rw [← HE.out]; exact HR.out, HB.out⟩
set_option maxHeartbeats 1000000 in
theorem silent_is (h : WAt w b T S) : Calls Try.prog 40 #[.pointer (some ⟨b, 0, none⟩)] w (IDone (silL S) w) := by
  have hal := (Below.refl w.heap.size w).alloc (Nat.le_refl _) (.cells #[.pointer (some ⟨b, 0, none⟩)] 25)
  have kt := those_silent w.heap.size (h.later hal) (by simp [go_sem])
  have HAL := Lib.hid hal
  clear h hal
  go_enter Try.func40, Try.ntmps40
  go_wp2_with (go_at_call 53; (with_reducible refine kt.mono ?_); rintro e w1 ⟨v, rfl, hR, hb1⟩; (have HR := Lib.hid hR); (have HB := Lib.hid hb1); (obtain ⟨a1, c1, rfl⟩ := hR.slice); clear hR hb1)
  go_ret
  exact ⟨_, rfl, own_base HR.out (by simp), HAL.out.trans (HB.out.mono (by simp))⟩
set_option maxHeartbeats 1000000 in
theorem enough_is (h : WAt w b T S) : Calls Try.prog 41 #[.pointer (some ⟨b, 0, none⟩)] w fun e w' => e = .returned (.bool (doneB S)) ∧ Below w.heap.size w w' := by
  have kr := fun w (h : WAt w b T S) => replied_is h
  obtain ⟨n, hn⟩ : ∃ n, (repL S).length = n := ⟨_, rfl⟩
  have hn16 : n ≤ 16 := by rw [← hn]; unfold repL pickL; exact pickK_len _ 16
  have H := Lib.hid h
  have HN := Lib.hid hn
  have h1 := (h.later (Below.refl _ _).drew).need
  have hB0 := Lib.hid ((Below.refl w.heap.size w).drew)
  have h0 := h.lt
  have hok := h.ok
  obtain ⟨m, hm⟩ : ∃ m, S.need = m := ⟨_, rfl⟩
  have HZ := Lib.hid (show doneB S = decide (max m 1 ≤ (n : Int)) by unfold doneB; rw [hn, hm])
  rw [hm] at h1 hok
  have HDR := Lib.hid (h.later (Below.refl _ _).drew)
  clear h hn hm
  by_cases hm1 : m < 1
  · have hmx : max m 1 = 1 := by omega
    by_cases hd : (1 : Int) ≤ (n : Int)
    · (have HD := Lib.hid (show decide (max m 1 ≤ (n : Int)) = true by rw [hmx]; exact decide_eq_true hd)); clear hmx
      go_enter Try.func41, Try.ntmps41
      go_wp2_with fail
      refine wp_region_held_drew (S := (fun W => W.cell? ⟨b, 0, none⟩ = some (.int .i64 m))) (by kernel_rfl) h1 (fun hHeld => ?_)
      refine wpAnyH_take (i := 0) (oi := ?p01o) (v := ?p01v) ?p01h (by kernel_rfl) (by kernel_rfl) (by kernel_rfl) ?p01q ?p01y hHeld ?p01r
      case p01h => (simp only [List.getElem?_toArray, List.getElem?_cons_zero]; rfl)
      case p01q => exact fun _ _ _ h => h
      case p01y => (refine Or.inl ⟨by first | kernel_rfl | rfl, ?_⟩; intro w hSw; (try dsimp only at hSw); have y1 := hSw; go_simp <;> (try with_reducible rfl))
      try simp only [Act.put, List.setIfInBounds_toArray, List.set_cons_zero, List.set_cons_succ]
      refine wpAnyH_take (i := 3) (oi := ?p02o) (v := ?p02v) ?p02h (by kernel_rfl) (by kernel_rfl) (by kernel_rfl) ?p02q ?p02y hHeld ?p02r
      case p02h => (simp only [List.getElem?_toArray, List.getElem?_cons_succ, List.getElem?_cons_zero]; rfl)
      case p02q => exact fun _ _ _ h => h
      case p02y => (refine Or.inl ⟨by first | kernel_rfl | rfl, ?_⟩; intro w hSw; (try dsimp only at hSw); have y1 := hSw; go_simp <;> (try with_reducible rfl))
      try simp only [Act.put, List.setIfInBounds_toArray, List.set_cons_zero, List.set_cons_succ]
      refine wpAnyH_take (i := 4) (oi := ?p03o) (v := ?p03v) ?p03h (by kernel_rfl) (by kernel_rfl) (by kernel_rfl) ?p03q ?p03y hHeld ?p03r
      case p03h => (simp only [List.getElem?_toArray, List.getElem?_cons_succ, List.getElem?_cons_zero]; rfl)
      case p03q => exact fun _ _ _ h => h
      case p03y => (refine Or.inl ⟨by first | kernel_rfl | rfl, ?_⟩; intro w hSw; (try dsimp only at hSw); have y1 := hSw; go_simp <;> (try with_reducible rfl))
      try simp only [Act.put, List.setIfInBounds_toArray, List.set_cons_zero, List.set_cons_succ]
      refine wpAnyH_take (i := 5) (oi := ?p04o) (v := ?p04v) ?p04h (by kernel_rfl) (by kernel_rfl) (by kernel_rfl) ?p04q ?p04y hHeld ?p04r
      case p04h => (simp only [List.getElem?_toArray, List.getElem?_cons_succ, List.getElem?_cons_zero]; rfl)
      case p04q => exact fun _ _ _ h => h
      case p04y => (refine Or.inl ⟨by first | kernel_rfl | rfl, ?_⟩; intro w hSw; (try dsimp only at hSw); have y1 := hSw; go_simp <;> (try with_reducible rfl))
      try simp only [Act.put, List.setIfInBounds_toArray, List.set_cons_zero, List.set_cons_succ]
      refine wpAnyH_take (i := 6) (oi := ?p05o) (v := ?p05v) ?p05h (by kernel_rfl) (by kernel_rfl) (by kernel_rfl) ?p05q ?p05y hHeld ?p05r
      case p05h => (simp only [List.getElem?_toArray, List.getElem?_cons_succ, List.getElem?_cons_zero]; rfl)
      case p05q => exact fun _ _ _ h => h
      case p05y => (refine Or.inl ⟨by first | kernel_rfl | rfl, ?_⟩; intro w hSw; (try dsimp only at hSw); have y1 := hSw; go_simp <;> (try with_reducible rfl))
      try simp only [Act.put, List.setIfInBounds_toArray, List.set_cons_zero, List.set_cons_succ]
      refine wpAnyH_take (i := 7) (oi := ?p06o) (v := ?p06v) ?p06h (by kernel_rfl) (by kernel_rfl) (by kernel_rfl) ?p06q ?p06y hHeld ?p06r
      case p06h => (simp only [List.getElem?_toArray, List.getElem?_cons_succ, List.getElem?_cons_zero]; rfl)
      case p06q => exact fun _ _ _ h => h
      case p06y => (refine Or.inl ⟨by first | kernel_rfl | rfl, ?_⟩; intro w hSw; (try dsimp only at hSw); have y1 := hSw; go_simp <;> (try with_reducible rfl))
      try simp only [Act.put, List.setIfInBounds_toArray, List.set_cons_zero, List.set_cons_succ]
      refine wpAnyH_ready (rs := [1]) (by kernel_rfl) (by simp) ?_
      refine (AllReadyH.cons rfl (fun K hK => ?_) AllReadyH.nil)
      go_simp
      (go_at_call 39; (with_reducible refine (kr _ HDR.out).mono ?_); rintro e w1 ⟨v, rfl, hR, hb1⟩; (obtain ⟨a1, c1, rfl⟩ := hR.slice); (have h1 := (hb1.cell (p := ⟨b, 0, none⟩) h0).trans h1); (have HB1 := Lib.hid (hB0.out.trans hb1)); (rw [HN.out]); clear hR hb1)
      refine hK.out _ _ (h1) (fun hHeld => ?_)
      clear hK K
      try simp only [Act.put, List.setIfInBounds_toArray, List.set_cons_zero, List.set_cons_succ]
      refine wpAnyH_take (i := 2) (oi := ?p07o) (v := ?p07v) ?p07h (by kernel_rfl) (by kernel_rfl) (by kernel_rfl) ?p07q ?p07y hHeld ?p07r
      case p07h => (simp only [List.getElem?_toArray, List.getElem?_cons_succ, List.getElem?_cons_zero]; rfl)
      case p07q => exact fun _ _ _ h => h
      case p07y => (refine Or.inl ⟨by first | kernel_rfl | rfl, ?_⟩; intro w hSw; (try dsimp only at hSw); have y1 := hSw; go_simp <;> (try with_reducible rfl))
      try simp only [Act.put, List.setIfInBounds_toArray, List.set_cons_zero, List.set_cons_succ]
      refine wpAnyH_take (i := 8) (oi := ?p08o) (v := ?p08v) ?p08h (by kernel_rfl) (by kernel_rfl) (by kernel_rfl) ?p08q ?p08y hHeld ?p08r
      case p08h => (simp only [List.getElem?_toArray, List.getElem?_cons_succ, List.getElem?_cons_zero]; rfl)
      case p08q => exact fun _ _ _ h => h
      case p08y => (refine Or.inl ⟨by first | kernel_rfl | rfl, ?_⟩; intro w hSw; (try dsimp only at hSw); have y1 := hSw; go_simp <;> (try with_reducible rfl))
      try simp only [Act.put, List.setIfInBounds_toArray, List.set_cons_zero, List.set_cons_succ]
      refine wpAnyH_take (i := 9) (oi := ?p09o) (v := ?p09v) ?p09h (by kernel_rfl) (by kernel_rfl) (by kernel_rfl) ?p09q ?p09y hHeld ?p09r
      case p09h => (simp only [List.getElem?_toArray, List.getElem?_cons_succ, List.getElem?_cons_zero]; rfl)
      case p09q => exact fun _ _ _ h => h
      case p09y => (refine Or.inl ⟨by first | kernel_rfl | rfl, ?_⟩; intro w hSw; (try dsimp only at hSw); have y1 := hSw; go_simp <;> (try with_reducible rfl))
      try simp only [Act.put, List.setIfInBounds_toArray, List.set_cons_zero, List.set_cons_succ]
      refine wpAnyH_done (by kernel_rfl) ?_ _
      go_wp2
      go_ret
      exact ⟨by rw [HZ.out, HD.out]; rfl, HB1.out⟩

    · (have HD := Lib.hid (show decide (max m 1 ≤ (n : Int)) = false by rw [hmx]; exact decide_eq_false hd)); clear hmx
      go_enter Try.func41, Try.ntmps41
      go_wp2_with fail
      refine wp_region_held_drew (S := (fun W => W.cell? ⟨b, 0, none⟩ = some (.int .i64 m))) (by kernel_rfl) h1 (fun hHeld => ?_)
      refine wpAnyH_take (i := 0) (oi := ?p11o) (v := ?p11v) ?p11h (by kernel_rfl) (by kernel_rfl) (by kernel_rfl) ?p11q ?p11y hHeld ?p11r
      case p11h => (simp only [List.getElem?_toArray, List.getElem?_cons_zero]; rfl)
      case p11q => exact fun _ _ _ h => h
      case p11y => (refine Or.inl ⟨by first | kernel_rfl | rfl, ?_⟩; intro w hSw; (try dsimp only at hSw); have y1 := hSw; go_simp <;> (try with_reducible rfl))
      try simp only [Act.put, List.setIfInBounds_toArray, List.set_cons_zero, List.set_cons_succ]
      refine wpAnyH_take (i := 3) (oi := ?p12o) (v := ?p12v) ?p12h (by kernel_rfl) (by kernel_rfl) (by kernel_rfl) ?p12q ?p12y hHeld ?p12r
      case p12h => (simp only [List.getElem?_toArray, List.getElem?_cons_succ, List.getElem?_cons_zero]; rfl)
      case p12q => exact fun _ _ _ h => h
      case p12y => (refine Or.inl ⟨by first | kernel_rfl | rfl, ?_⟩; intro w hSw; (try dsimp only at hSw); have y1 := hSw; go_simp <;> (try with_reducible rfl))
      try simp only [Act.put, List.setIfInBounds_toArray, List.set_cons_zero, List.set_cons_succ]
      refine wpAnyH_take (i := 4) (oi := ?p13o) (v := ?p13v) ?p13h (by kernel_rfl) (by kernel_rfl) (by kernel_rfl) ?p13q ?p13y hHeld ?p13r
      case p13h => (simp only [List.getElem?_toArray, List.getElem?_cons_succ, List.getElem?_cons_zero]; rfl)
      case p13q => exact fun _ _ _ h => h
      case p13y => (refine Or.inl ⟨by first | kernel_rfl | rfl, ?_⟩; intro w hSw; (try dsimp only at hSw); have y1 := hSw; go_simp <;> (try with_reducible rfl))
      try simp only [Act.put, List.setIfInBounds_toArray, List.set_cons_zero, List.set_cons_succ]
      refine wpAnyH_take (i := 5) (oi := ?p14o) (v := ?p14v) ?p14h (by kernel_rfl) (by kernel_rfl) (by kernel_rfl) ?p14q ?p14y hHeld ?p14r
      case p14h => (simp only [List.getElem?_toArray, List.getElem?_cons_succ, List.getElem?_cons_zero]; rfl)
      case p14q => exact fun _ _ _ h => h
      case p14y => (refine Or.inl ⟨by first | kernel_rfl | rfl, ?_⟩; intro w hSw; (try dsimp only at hSw); have y1 := hSw; go_simp <;> (try with_reducible rfl))
      try simp only [Act.put, List.setIfInBounds_toArray, List.set_cons_zero, List.set_cons_succ]
      refine wpAnyH_take (i := 6) (oi := ?p15o) (v := ?p15v) ?p15h (by kernel_rfl) (by kernel_rfl) (by kernel_rfl) ?p15q ?p15y hHeld ?p15r
      case p15h => (simp only [List.getElem?_toArray, List.getElem?_cons_succ, List.getElem?_cons_zero]; rfl)
      case p15q => exact fun _ _ _ h => h
      case p15y => (refine Or.inl ⟨by first | kernel_rfl | rfl, ?_⟩; intro w hSw; (try dsimp only at hSw); have y1 := hSw; go_simp <;> (try with_reducible rfl))
      try simp only [Act.put, List.setIfInBounds_toArray, List.set_cons_zero, List.set_cons_succ]
      refine wpAnyH_take (i := 7) (oi := ?p16o) (v := ?p16v) ?p16h (by kernel_rfl) (by kernel_rfl) (by kernel_rfl) ?p16q ?p16y hHeld ?p16r
      case p16h => (simp only [List.getElem?_toArray, List.getElem?_cons_succ, List.getElem?_cons_zero]; rfl)
      case p16q => exact fun _ _ _ h => h
      case p16y => (refine Or.inl ⟨by first | kernel_rfl | rfl, ?_⟩; intro w hSw; (try dsimp only at hSw); have y1 := hSw; go_simp <;> (try with_reducible rfl))
      try simp only [Act.put, List.setIfInBounds_toArray, List.set_cons_zero, List.set_cons_succ]
      refine wpAnyH_ready (rs := [1]) (by kernel_rfl) (by simp) ?_
      refine (AllReadyH.cons rfl (fun K hK => ?_) AllReadyH.nil)
      go_simp
      (go_at_call 39; (with_reducible refine (kr _ HDR.out).mono ?_); rintro e w1 ⟨v, rfl, hR, hb1⟩; (obtain ⟨a1, c1, rfl⟩ := hR.slice); (have h1 := (hb1.cell (p := ⟨b, 0, none⟩) h0).trans h1); (have HB1 := Lib.hid (hB0.out.trans hb1)); (rw [HN.out]); clear hR hb1)
      refine hK.out _ _ (h1) (fun hHeld => ?_)
      clear hK K
      try simp only [Act.put, List.setIfInBounds_toArray, List.set_cons_zero, List.set_cons_succ]
      refine wpAnyH_take (i := 2) (oi := ?p17o) (v := ?p17v) ?p17h (by kernel_rfl) (by kernel_rfl) (by kernel_rfl) ?p17q ?p17y hHeld ?p17r
      case p17h => (simp only [List.getElem?_toArray, List.getElem?_cons_succ, List.getElem?_cons_zero]; rfl)
      case p17q => exact fun _ _ _ h => h
      case p17y => (refine Or.inl ⟨by first | kernel_rfl | rfl, ?_⟩; intro w hSw; (try dsimp only at hSw); have y1 := hSw; go_simp <;> (try with_reducible rfl))
      try simp only [Act.put, List.setIfInBounds_toArray, List.set_cons_zero, List.set_cons_succ]
      refine wpAnyH_take (i := 8) (oi := ?p18o) (v := ?p18v) ?p18h (by kernel_rfl) (by kernel_rfl) (by kernel_rfl) ?p18q ?p18y hHeld ?p18r
      case p18h => (simp only [List.getElem?_toArray, List.getElem?_cons_succ, List.getElem?_cons_zero]; rfl)
      case p18q => exact fun _ _ _ h => h
      case p18y => (refine Or.inl ⟨by first | kernel_rfl | rfl, ?_⟩; intro w hSw; (try dsimp only at hSw); have y1 := hSw; go_simp <;> (try with_reducible rfl))
      try simp only [Act.put, List.setIfInBounds_toArray, List.set_cons_zero, List.set_cons_succ]
      refine wpAnyH_take (i := 9) (oi := ?p19o) (v := ?p19v) ?p19h (by kernel_rfl) (by kernel_rfl) (by kernel_rfl) ?p19q ?p19y hHeld ?p19r
      case p19h => (simp only [List.getElem?_toArray, List.getElem?_cons_succ, List.getElem?_cons_zero]; rfl)
      case p19q => exact fun _ _ _ h => h
      case p19y => (refine Or.inl ⟨by first | kernel_rfl | rfl, ?_⟩; intro w hSw; (try dsimp only at hSw); have y1 := hSw; go_simp <;> (try with_reducible rfl))
      try simp only [Act.put, List.setIfInBounds_toArray, List.set_cons_zero, List.set_cons_succ]
      refine wpAnyH_done (by kernel_rfl) ?_ _
      go_wp2
      go_ret
      exact ⟨by rw [HZ.out, HD.out]; rfl, HB1.out⟩

  · have hmx : max m 1 = m := by omega
    by_cases hd : m ≤ (n : Int)
    · (have HD := Lib.hid (show decide (max m 1 ≤ (n : Int)) = true by rw [hmx]; exact decide_eq_true hd)); clear hmx
      go_enter Try.func41, Try.ntmps41
      go_wp2_with fail
      refine wp_region_held_drew (S := (fun W => W.cell? ⟨b, 0, none⟩ = some (.int .i64 m))) (by kernel_rfl) h1 (fun hHeld => ?_)
      refine wpAnyH_take (i := 0) (oi := ?p21o) (v := ?p21v) ?p21h (by kernel_rfl) (by kernel_rfl) (by kernel_rfl) ?p21q ?p21y hHeld ?p21r
      case p21h => (simp only [List.getElem?_toArray, List.getElem?_cons_zero]; rfl)
      case p21q => exact fun _ _ _ h => h
      case p21y => (refine Or.inl ⟨by first | kernel_rfl | rfl, ?_⟩; intro w hSw; (try dsimp only at hSw); have y1 := hSw; go_simp <;> (try with_reducible rfl))
      try simp only [Act.put, List.setIfInBounds_toArray, List.set_cons_zero, List.set_cons_succ]
      refine wpAnyH_take (i := 3) (oi := ?p22o) (v := ?p22v) ?p22h (by kernel_rfl) (by kernel_rfl) (by kernel_rfl) ?p22q ?p22y hHeld ?p22r
      case p22h => (simp only [List.getElem?_toArray, List.getElem?_cons_succ, List.getElem?_cons_zero]; rfl)
      case p22q => exact fun _ _ _ h => h
      case p22y => (refine Or.inl ⟨by first | kernel_rfl | rfl, ?_⟩; intro w hSw; (try dsimp only at hSw); have y1 := hSw; go_simp <;> (try with_reducible rfl))
      try simp only [Act.put, List.setIfInBounds_toArray, List.set_cons_zero, List.set_cons_succ]
      refine wpAnyH_take (i := 4) (oi := ?p23o) (v := ?p23v) ?p23h (by kernel_rfl) (by kernel_rfl) (by kernel_rfl) ?p23q ?p23y hHeld ?p23r
      case p23h => (simp only [List.getElem?_toArray, List.getElem?_cons_succ, List.getElem?_cons_zero]; rfl)
      case p23q => exact fun _ _ _ h => h
      case p23y => (refine Or.inl ⟨by first | kernel_rfl | rfl, ?_⟩; intro w hSw; (try dsimp only at hSw); have y1 := hSw; go_simp <;> (try with_reducible rfl))
      try simp only [Act.put, List.setIfInBounds_toArray, List.set_cons_zero, List.set_cons_succ]
      refine wpAnyH_take (i := 5) (oi := ?p24o) (v := ?p24v) ?p24h (by kernel_rfl) (by kernel_rfl) (by kernel_rfl) ?p24q ?p24y hHeld ?p24r
      case p24h => (simp only [List.getElem?_toArray, List.getElem?_cons_succ, List.getElem?_cons_zero]; rfl)
      case p24q => exact fun _ _ _ h => h
      case p24y => (refine Or.inl ⟨by first | kernel_rfl | rfl, ?_⟩; intro w hSw; (try dsimp only at hSw); have y1 := hSw; go_simp <;> (try with_reducible rfl))
      try simp only [Act.put, List.setIfInBounds_toArray, List.set_cons_zero, List.set_cons_succ]
      refine wpAnyH_take (i := 6) (oi := ?p25o) (v := ?p25v) ?p25h (by kernel_rfl) (by kernel_rfl) (by kernel_rfl) ?p25q ?p25y hHeld ?p25r
      case p25h => (simp only [List.getElem?_toArray, List.getElem?_cons_succ, List.getElem?_cons_zero]; rfl)
      case p25q => exact fun _ _ _ h => h
      case p25y => (refine Or.inl ⟨by first | kernel_rfl | rfl, ?_⟩; intro w hSw; (try dsimp only at hSw); have y1 := hSw; go_simp <;> (try with_reducible rfl))
      try simp only [Act.put, List.setIfInBounds_toArray, List.set_cons_zero, List.set_cons_succ]
      refine wpAnyH_take (i := 7) (oi := ?p26o) (v := ?p26v) ?p26h (by kernel_rfl) (by kernel_rfl) (by kernel_rfl) ?p26q ?p26y hHeld ?p26r
      case p26h => (simp only [List.getElem?_toArray, List.getElem?_cons_succ, List.getElem?_cons_zero]; rfl)
      case p26q => exact fun _ _ _ h => h
      case p26y => (refine Or.inl ⟨by first | kernel_rfl | rfl, ?_⟩; intro w hSw; (try dsimp only at hSw); have y1 := hSw; go_simp <;> (try with_reducible rfl))
      try simp only [Act.put, List.setIfInBounds_toArray, List.set_cons_zero, List.set_cons_succ]
      refine wpAnyH_ready (rs := [1]) (by kernel_rfl) (by simp) ?_
      refine (AllReadyH.cons rfl (fun K hK => ?_) AllReadyH.nil)
      go_simp
      (go_at_call 39; (with_reducible refine (kr _ HDR.out).mono ?_); rintro e w1 ⟨v, rfl, hR, hb1⟩; (obtain ⟨a1, c1, rfl⟩ := hR.slice); (have h1 := (hb1.cell (p := ⟨b, 0, none⟩) h0).trans h1); (have HB1 := Lib.hid (hB0.out.trans hb1)); (rw [HN.out]); clear hR hb1)
      refine hK.out _ _ (h1) (fun hHeld => ?_)
      clear hK K
      try simp only [Act.put, List.setIfInBounds_toArray, List.set_cons_zero, List.set_cons_succ]
      refine wpAnyH_take (i := 2) (oi := ?p27o) (v := ?p27v) ?p27h (by kernel_rfl) (by kernel_rfl) (by kernel_rfl) ?p27q ?p27y hHeld ?p27r
      case p27h => (simp only [List.getElem?_toArray, List.getElem?_cons_succ, List.getElem?_cons_zero]; rfl)
      case p27q => exact fun _ _ _ h => h
      case p27y => (refine Or.inl ⟨by first | kernel_rfl | rfl, ?_⟩; intro w hSw; (try dsimp only at hSw); have y1 := hSw; go_simp <;> (try with_reducible rfl))
      try simp only [Act.put, List.setIfInBounds_toArray, List.set_cons_zero, List.set_cons_succ]
      refine wpAnyH_take (i := 8) (oi := ?p28o) (v := ?p28v) ?p28h (by kernel_rfl) (by kernel_rfl) (by kernel_rfl) ?p28q ?p28y hHeld ?p28r
      case p28h => (simp only [List.getElem?_toArray, List.getElem?_cons_succ, List.getElem?_cons_zero]; rfl)
      case p28q => exact fun _ _ _ h => h
      case p28y => (refine Or.inl ⟨by first | kernel_rfl | rfl, ?_⟩; intro w hSw; (try dsimp only at hSw); have y1 := hSw; go_simp <;> (try with_reducible rfl))
      try simp only [Act.put, List.setIfInBounds_toArray, List.set_cons_zero, List.set_cons_succ]
      refine wpAnyH_take (i := 9) (oi := ?p29o) (v := ?p29v) ?p29h (by kernel_rfl) (by kernel_rfl) (by kernel_rfl) ?p29q ?p29y hHeld ?p29r
      case p29h => (simp only [List.getElem?_toArray, List.getElem?_cons_succ, List.getElem?_cons_zero]; rfl)
      case p29q => exact fun _ _ _ h => h
      case p29y => (refine Or.inl ⟨by first | kernel_rfl | rfl, ?_⟩; intro w hSw; (try dsimp only at hSw); have y1 := hSw; go_simp <;> (try with_reducible rfl))
      try simp only [Act.put, List.setIfInBounds_toArray, List.set_cons_zero, List.set_cons_succ]
      refine wpAnyH_done (by kernel_rfl) ?_ _
      go_wp2
      go_ret
      exact ⟨by rw [HZ.out, HD.out]; rfl, HB1.out⟩

    · (have HD := Lib.hid (show decide (max m 1 ≤ (n : Int)) = false by rw [hmx]; exact decide_eq_false hd)); clear hmx
      go_enter Try.func41, Try.ntmps41
      go_wp2_with fail
      refine wp_region_held_drew (S := (fun W => W.cell? ⟨b, 0, none⟩ = some (.int .i64 m))) (by kernel_rfl) h1 (fun hHeld => ?_)
      refine wpAnyH_take (i := 0) (oi := ?p31o) (v := ?p31v) ?p31h (by kernel_rfl) (by kernel_rfl) (by kernel_rfl) ?p31q ?p31y hHeld ?p31r
      case p31h => (simp only [List.getElem?_toArray, List.getElem?_cons_zero]; rfl)
      case p31q => exact fun _ _ _ h => h
      case p31y => (refine Or.inl ⟨by first | kernel_rfl | rfl, ?_⟩; intro w hSw; (try dsimp only at hSw); have y1 := hSw; go_simp <;> (try with_reducible rfl))
      try simp only [Act.put, List.setIfInBounds_toArray, List.set_cons_zero, List.set_cons_succ]
      refine wpAnyH_take (i := 3) (oi := ?p32o) (v := ?p32v) ?p32h (by kernel_rfl) (by kernel_rfl) (by kernel_rfl) ?p32q ?p32y hHeld ?p32r
      case p32h => (simp only [List.getElem?_toArray, List.getElem?_cons_succ, List.getElem?_cons_zero]; rfl)
      case p32q => exact fun _ _ _ h => h
      case p32y => (refine Or.inl ⟨by first | kernel_rfl | rfl, ?_⟩; intro w hSw; (try dsimp only at hSw); have y1 := hSw; go_simp <;> (try with_reducible rfl))
      try simp only [Act.put, List.setIfInBounds_toArray, List.set_cons_zero, List.set_cons_succ]
      refine wpAnyH_take (i := 4) (oi := ?p33o) (v := ?p33v) ?p33h (by kernel_rfl) (by kernel_rfl) (by kernel_rfl) ?p33q ?p33y hHeld ?p33r
      case p33h => (simp only [List.getElem?_toArray, List.getElem?_cons_succ, List.getElem?_cons_zero]; rfl)
      case p33q => exact fun _ _ _ h => h
      case p33y => (refine Or.inl ⟨by first | kernel_rfl | rfl, ?_⟩; intro w hSw; (try dsimp only at hSw); have y1 := hSw; go_simp <;> (try with_reducible rfl))
      try simp only [Act.put, List.setIfInBounds_toArray, List.set_cons_zero, List.set_cons_succ]
      refine wpAnyH_take (i := 5) (oi := ?p34o) (v := ?p34v) ?p34h (by kernel_rfl) (by kernel_rfl) (by kernel_rfl) ?p34q ?p34y hHeld ?p34r
      case p34h => (simp only [List.getElem?_toArray, List.getElem?_cons_succ, List.getElem?_cons_zero]; rfl)
      case p34q => exact fun _ _ _ h => h
      case p34y => (refine Or.inl ⟨by first | kernel_rfl | rfl, ?_⟩; intro w hSw; (try dsimp only at hSw); have y1 := hSw; go_simp <;> (try with_reducible rfl))
      try simp only [Act.put, List.setIfInBounds_toArray, List.set_cons_zero, List.set_cons_succ]
      refine wpAnyH_take (i := 6) (oi := ?p35o) (v := ?p35v) ?p35h (by kernel_rfl) (by kernel_rfl) (by kernel_rfl) ?p35q ?p35y hHeld ?p35r
      case p35h => (simp only [List.getElem?_toArray, List.getElem?_cons_succ, List.getElem?_cons_zero]; rfl)
      case p35q => exact fun _ _ _ h => h
      case p35y => (refine Or.inl ⟨by first | kernel_rfl | rfl, ?_⟩; intro w hSw; (try dsimp only at hSw); have y1 := hSw; go_simp <;> (try with_reducible rfl))
      try simp only [Act.put, List.setIfInBounds_toArray, List.set_cons_zero, List.set_cons_succ]
      refine wpAnyH_take (i := 7) (oi := ?p36o) (v := ?p36v) ?p36h (by kernel_rfl) (by kernel_rfl) (by kernel_rfl) ?p36q ?p36y hHeld ?p36r
      case p36h => (simp only [List.getElem?_toArray, List.getElem?_cons_succ, List.getElem?_cons_zero]; rfl)
      case p36q => exact fun _ _ _ h => h
      case p36y => (refine Or.inl ⟨by first | kernel_rfl | rfl, ?_⟩; intro w hSw; (try dsimp only at hSw); have y1 := hSw; go_simp <;> (try with_reducible rfl))
      try simp only [Act.put, List.setIfInBounds_toArray, List.set_cons_zero, List.set_cons_succ]
      refine wpAnyH_ready (rs := [1]) (by kernel_rfl) (by simp) ?_
      refine (AllReadyH.cons rfl (fun K hK => ?_) AllReadyH.nil)
      go_simp
      (go_at_call 39; (with_reducible refine (kr _ HDR.out).mono ?_); rintro e w1 ⟨v, rfl, hR, hb1⟩; (obtain ⟨a1, c1, rfl⟩ := hR.slice); (have h1 := (hb1.cell (p := ⟨b, 0, none⟩) h0).trans h1); (have HB1 := Lib.hid (hB0.out.trans hb1)); (rw [HN.out]); clear hR hb1)
      refine hK.out _ _ (h1) (fun hHeld => ?_)
      clear hK K
      try simp only [Act.put, List.setIfInBounds_toArray, List.set_cons_zero, List.set_cons_succ]
      refine wpAnyH_take (i := 2) (oi := ?p37o) (v := ?p37v) ?p37h (by kernel_rfl) (by kernel_rfl) (by kernel_rfl) ?p37q ?p37y hHeld ?p37r
      case p37h => (simp only [List.getElem?_toArray, List.getElem?_cons_succ, List.getElem?_cons_zero]; rfl)
      case p37q => exact fun _ _ _ h => h
      case p37y => (refine Or.inl ⟨by first | kernel_rfl | rfl, ?_⟩; intro w hSw; (try dsimp only at hSw); have y1 := hSw; go_simp <;> (try with_reducible rfl))
      try simp only [Act.put, List.setIfInBounds_toArray, List.set_cons_zero, List.set_cons_succ]
      refine wpAnyH_take (i := 8) (oi := ?p38o) (v := ?p38v) ?p38h (by kernel_rfl) (by kernel_rfl) (by kernel_rfl) ?p38q ?p38y hHeld ?p38r
      case p38h => (simp only [List.getElem?_toArray, List.getElem?_cons_succ, List.getElem?_cons_zero]; rfl)
      case p38q => exact fun _ _ _ h => h
      case p38y => (refine Or.inl ⟨by first | kernel_rfl | rfl, ?_⟩; intro w hSw; (try dsimp only at hSw); have y1 := hSw; go_simp <;> (try with_reducible rfl))
      try simp only [Act.put, List.setIfInBounds_toArray, List.set_cons_zero, List.set_cons_succ]
      refine wpAnyH_take (i := 9) (oi := ?p39o) (v := ?p39v) ?p39h (by kernel_rfl) (by kernel_rfl) (by kernel_rfl) ?p39q ?p39y hHeld ?p39r
      case p39h => (simp only [List.getElem?_toArray, List.getElem?_cons_succ, List.getElem?_cons_zero]; rfl)
      case p39q => exact fun _ _ _ h => h
      case p39y => (refine Or.inl ⟨by first | kernel_rfl | rfl, ?_⟩; intro w hSw; (try dsimp only at hSw); have y1 := hSw; go_simp <;> (try with_reducible rfl))
      try simp only [Act.put, List.setIfInBounds_toArray, List.set_cons_zero, List.set_cons_succ]
      refine wpAnyH_done (by kernel_rfl) ?_ _
      go_wp2
      go_ret
      exact ⟨by rw [HZ.out, HD.out]; rfl, HB1.out⟩

theorem ack_is (n : Int) (h : WAt w b T S) : Calls Try.prog 12 #[.pointer (some ⟨b, 0, none⟩), .int .i64 n] w fun e w' => e = .returned (.bool (hearB S n)) ∧ w' = hearW w b S n := by
  have kh := hear_is n h
  obtain ⟨z, hz⟩ : ∃ z, hearB S n = z := ⟨_, rfl⟩
  rw [hz] at kh ⊢
  clear hz h
  go_enter Try.func12, Try.ntmps12
  go_wp2_with (go_at_call 37; (with_reducible refine kh.mono ?_); rintro e w1 ⟨rfl, rfl⟩)
  go_ret
  exact ⟨rfl, rfl⟩
theorem whave_is (h : WAt w b T S) : Calls Try.prog 15 #[.pointer (some ⟨b, 0, none⟩)] w (IDone (repL S) w) := by
  have kr := replied_is h
  clear h
  go_enter Try.func15, Try.ntmps15
  go_wp2_with (go_at_call 39; (with_reducible refine kr.mono ?_); rintro e w1 ⟨v, rfl, hR, hb1⟩; (have HR := Lib.hid hR); (obtain ⟨a1, c1, rfl⟩ := hR.slice); clear hR)
  go_ret
  exact ⟨_, rfl, HR.out, hb1⟩
theorem whave_nil (w : World) : Calls Try.prog 15 #[.pointer none] w fun e w' => e = .returned (.slice none 0 0) ∧ w = w' := by
  go_enter Try.func15, Try.ntmps15
  go_wp2
  go_ret
  exact ⟨rfl, rfl⟩
theorem wmissing_is (h : WAt w b T S) : Calls Try.prog 17 #[.pointer (some ⟨b, 0, none⟩)] w (IDone (silL S) w) := by
  have kr := silent_is h
  clear h
  go_enter Try.func17, Try.ntmps17
  go_wp2_with (go_at_call 40; (with_reducible refine kr.mono ?_); rintro e w1 ⟨v, rfl, hR, hb1⟩; (have HR := Lib.hid hR); (obtain ⟨a1, c1, rfl⟩ := hR.slice); clear hR)
  go_ret
  exact ⟨_, rfl, HR.out, hb1⟩
theorem wmissing_nil (w : World) : Calls Try.prog 17 #[.pointer none] w fun e w' => e = .returned (.slice none 0 0) ∧ w = w' := by
  go_enter Try.func17, Try.ntmps17
  go_wp2
  go_ret
  exact ⟨rfl, rfl⟩
theorem wdone_is (h : WAt w b T S) : Calls Try.prog 18 #[.pointer (some ⟨b, 0, none⟩)] w fun e w' => e = .returned (.bool (doneB S)) ∧ Below w.heap.size w w' := by
  have kr := enough_is h
  obtain ⟨z, hz⟩ : ∃ z, doneB S = z := ⟨_, rfl⟩
  rw [hz] at kr ⊢
  clear h hz
  go_enter Try.func18, Try.ntmps18
  go_wp2_with (go_at_call 41; (with_reducible refine kr.mono ?_); rintro e w1 ⟨rfl, hb1⟩)
  go_ret
  exact ⟨rfl, hb1⟩
theorem wdone_nil (w : World) : Calls Try.prog 18 #[.pointer none] w fun e w' => e = .returned (.bool false) ∧ w = w' := by
  go_enter Try.func18, Try.ntmps18
  go_wp2
  go_ret
  exact ⟨rfl, rfl⟩
theorem rhave_is (h : WAt w b T S) : Calls Try.prog 27 #[.pointer (some ⟨b, 0, none⟩)] w (IDone (repL S) w) := by
  have kr := replied_is h
  clear h
  go_enter Try.func27, Try.ntmps27
  go_wp2_with (go_at_call 39; (with_reducible refine kr.mono ?_); rintro e w1 ⟨v, rfl, hR, hb1⟩; (have HR := Lib.hid hR); (obtain ⟨a1, c1, rfl⟩ := hR.slice); clear hR)
  go_ret
  exact ⟨_, rfl, HR.out, hb1⟩
theorem rhave_nil (w : World) : Calls Try.prog 27 #[.pointer none] w fun e w' => e = .returned (.slice none 0 0) ∧ w = w' := by
  go_enter Try.func27, Try.ntmps27
  go_wp2
  go_ret
  exact ⟨rfl, rfl⟩
theorem rmissing_is (h : WAt w b T S) : Calls Try.prog 28 #[.pointer (some ⟨b, 0, none⟩)] w (IDone (silL S) w) := by
  have kr := silent_is h
  clear h
  go_enter Try.func28, Try.ntmps28
  go_wp2_with (go_at_call 40; (with_reducible refine kr.mono ?_); rintro e w1 ⟨v, rfl, hR, hb1⟩; (have HR := Lib.hid hR); (obtain ⟨a1, c1, rfl⟩ := hR.slice); clear hR)
  go_ret
  exact ⟨_, rfl, HR.out, hb1⟩
theorem rmissing_nil (w : World) : Calls Try.prog 28 #[.pointer none] w fun e w' => e = .returned (.slice none 0 0) ∧ w = w' := by
  go_enter Try.func28, Try.ntmps28
  go_wp2
  go_ret
  exact ⟨rfl, rfl⟩
theorem rdone_is (h : WAt w b T S) : Calls Try.prog 29 #[.pointer (some ⟨b, 0, none⟩)] w fun e w' => e = .returned (.bool (doneB S)) ∧ Below w.heap.size w w' := by
  have kr := enough_is h
  obtain ⟨z, hz⟩ : ∃ z, doneB S = z := ⟨_, rfl⟩
  rw [hz] at kr ⊢
  clear h hz
  go_enter Try.func29, Try.ntmps29
  go_wp2_with (go_at_call 41; (with_reducible refine kr.mono ?_); rintro e w1 ⟨rfl, hb1⟩)
  go_ret
  exact ⟨rfl, hb1⟩
theorem rdone_nil (w : World) : Calls Try.prog 29 #[.pointer none] w fun e w' => e = .returned (.bool false) ∧ w = w' := by
  go_enter Try.func29, Try.ntmps29
  go_wp2
  go_ret
  exact ⟨rfl, rfl⟩
theorem ack_nil (n : Int) (w : World) : Calls Try.prog 12 #[.pointer none, .int .i64 n] w fun e w' => e = .returned (.bool false) ∧ w = w' := by
  go_enter Try.func12, Try.ntmps12
  go_wp2
  go_ret
  exact ⟨rfl, rfl⟩
end
end Go.Proofs.Ytcjcbbpolhpphaa.Qu
