/- The contracts of order, of slices.BinarySearchFunc at points, and of place. -/
import Derived.Test.YtcjcbbpolhpphaaBlockSort
import Derived.Test.YtcjcbbpolhpphaaBlockFindMath
set_option maxRecDepth 20000
set_option linter.unusedSimpArgs false
namespace Go.Proofs.Ytcjcbbpolhpphaa
open Go.RowKit Go.Proofs.Ytcjcbbpolhpphaa.Vi Go.Proofs.Ytcjcbbpolhpphaa.Mk

def ordI (a b : Pt) : Int := if a.before b = true then -1 else if b.before a = true then 1 else 0
theorem ordI_neg (a b : Pt) : decide (ordI a b < 0) = a.before b := by
  unfold ordI
  cases h1 : a.before b
  · cases h2 : b.before a <;> simp
  · simp
theorem ordI_zero (a b : Pt) : (ordI a b == 0) = a.eqp b := by
  unfold ordI
  cases h1 : a.before b with
  | true => rw [bef_eqp h1]; simp
  | false =>
    cases h2 : b.before a with
    | true =>
      have : a.eqp b = false := by
        apply Bool.eq_false_iff.2
        intro k
        have := bef_eqp h2
        rw [Pt.eqp_symm k] at this; cases this
      rw [this]; simp
    | false => rw [bef_tri h1 h2]; simp
theorem lowN_of {l : List Pt} (hs : srtB l = true) {p : Pt} {i : Nat} (hle : i ≤ l.length) (h1 : ∀ q (hq : q < l.length), q + 1 = i → (l[q]).before p = true) (h2 : ∀ hi : i < l.length, (l[i]).before p = false) : lowN l p = i := by
  have hl := lowN_le l p
  by_cases e : lowN l p < i
  · have := h1 (i - 1) (by omega) (by omega)
    rw [lowN_ge hs (by omega) (by omega)] at this; cases this
  · by_cases e2 : i < lowN l p
    · have hi : i < l.length := by omega
      have := h2 hi
      rw [(lowN_lt e2).2] at this; cases this
    · omega
/-- Held: two points, each in a block of its own. -/
structure PQ (w : World) (A B : Nat) (a b : Pt) (w' : World) : Prop where
  x : PtAt w' A a
  y : PtAt w' B b
  bel : Below w.heap.size w w'
theorem PQ.keep {w w1 w2 : World} {A B : Nat} {a b : Pt} (h : PQ w A B a b w1) (k : Below w1.heap.size w1 w2) : PQ w A B a b w2 := ⟨h.x.later k, h.y.later k, bel_next h.bel k⟩
theorem PQ.new (w : World) (a b : Pt) : PQ w w.heap.size (w.heap.size + 1) a b ((w.alloc (.cells #[.string a.s, .int .i64 a.t, .int .i64 a.v, .int .i64 a.st.c, .int .i64 a.st.s, .int .i64 a.st.q] 55)).alloc (.cells #[.string b.s, .int .i64 b.t, .int .i64 b.v, .int .i64 b.st.c, .int .i64 b.st.s, .int .i64 b.st.q] 55)) := by
  refine ⟨(PtAt.new w a).alloc _, ?_, bel_new ((Below.refl _ _).alloc (Nat.le_refl _) _) _⟩
  have := PtAt.new (w.alloc (.cells #[.string a.s, .int .i64 a.t, .int .i64 a.v, .int .i64 a.st.c, .int .i64 a.st.s, .int .i64 a.st.q] 55)) b
  simpa using this

set_option maxHeartbeats 4000000 in
theorem order_is (a b : Pt) (w : World) : Calls Try.prog 68 #[ptV a, ptV b] w fun e w' => e = .returned (.int .i64 (ordI a b)) ∧ Below w.heap.size w w' := by
  obtain ⟨z1, h1⟩ : ∃ z, a.before b = z := ⟨_, rfl⟩
  obtain ⟨z2, h2⟩ : ∃ z, b.before a = z := ⟨_, rfl⟩
  have k1 := fun w => before_is a b z1 w (Lib.hid h1)
  have k2 := fun w => before_is b a z2 w (Lib.hid h2)
  have H0 := PQ.new w a b
  have HE := Lib.hid (show ordI a b = if z1 = true then -1 else if z2 = true then 1 else 0 by unfold ordI; rw [h1, h2])
  unfold ptV at k1 k2 ⊢
  have HH := Lib.hid H0
  obtain ⟨⟨x0, x1, x2, x3, x4, x5⟩, ⟨y0, y1, y2, y3, y4, y5⟩, -⟩ := H0
  clear h1 h2
  cases z1 with
  | true =>
    go_enter Try.func68, Try.ntmps68
    go_wp2_with (go_at_call 70; (with_reducible refine (k1 _).mono ?_); rintro e w1 ⟨rfl, hb1⟩)
    go_ret
    exact ⟨by rw [HE.out]; rfl, bel_next HH.out.bel hb1⟩
  | false =>
    cases z2
    all_goals
      go_enter Try.func68, Try.ntmps68
      go_wp2_with (go_at_call 70; first
        | ((with_reducible refine (k1 _).mono ?_); rintro e w1 ⟨rfl, hb1⟩; (have HH1 := Lib.hid (HH.out.keep hb1)); (have HO := HH1.out); clear x0 x1 x2 x3 x4 x5 y0 y1 y2 y3 y4 y5; (obtain ⟨⟨x0, x1, x2, x3, x4, x5⟩, ⟨y0, y1, y2, y3, y4, y5⟩, -⟩ := HO))
        | ((with_reducible refine (k2 _).mono ?_); rintro e w2 ⟨rfl, hb2⟩))
      go_ret
      exact ⟨by rw [HE.out]; rfl, bel_next HH1.out.bel hb2⟩
abbrev ORD : Value := .func (.func 68) #[] #[]
/-- Held: a point of a list, and one in a block of its own. -/
structure PT (w : World) (b i T : Nat) (q p : Pt) (w' : World) : Prop where
  x : PtO w' b i q
  y : PtAt w' T p
  bel : Below w.heap.size w w'
theorem PT.keep {w w1 w2 : World} {b i T : Nat} {p q : Pt} (h : PT w b i T q p w1) (k : Below w1.heap.size w1 w2) : PT w b i T q p w2 := ⟨h.x.below k h.x.room, h.y.later k, bel_next h.bel k⟩
theorem PT.drew {w w1 : World} {b i T : Nat} {p q : Pt} (h : PT w b i T q p w1) : PT w b i T q p w1.drew := h.keep ((Below.refl _ _).drew)
set_option maxHeartbeats 8000000 in
theorem search6_is (a0 : Option Addr) (c0 : Nat) (l : List Pt) (p : Pt) (w : World) (hS : Lst w w.heap.size a0 c0 l) (hl : l.length ≤ 200000) (hs : srtB l = true) :
    Calls Try.prog 67 #[.slice a0 l.length c0, ptV p, ORD] w fun e w' => e = .returned (.tuple #[.int .i64 (lowN l p : Int), .bool (hasN l p)]) ∧ Below w.heap.size w w' := by
  obtain ⟨n, hn⟩ : ∃ n, l.length = n := ⟨_, rfl⟩
  have HS := Lib.hid hS
  have HSR := Lib.hid hs
  have HT0 := Lib.hid (PtAt.new w p)
  have HB0 := Lib.hid ((Below.refl w.heap.size w).alloc (Nat.le_refl _) (.cells #[.string p.s, .int .i64 p.t, .int .i64 p.v, .int .i64 p.st.c, .int .i64 p.st.s, .int .i64 p.st.q] 55))
  rw [hn] at hl ⊢
  have HN := Lib.hid hn
  unfold ptV
  clear hs hS hn
  go_enter Try.func67, Try.ntmps67
  go_wp2
  obtain ⟨T, hT⟩ : ∃ T, w.heap.size = T := ⟨_, rfl⟩
  rw [hT] at HT0
  simp only [hT]
  go_loopw [9, 10] (fun si sj wr => ∃ i j : Nat, i ≤ j ∧ j ≤ n ∧ si = .int .i64 (i : Int) ∧ sj = .int .i64 (j : Int) ∧ Hid (∀ q (hq : q < l.length), q + 1 = i → (l[q]).before p = true) ∧ Hid (∀ hj : j < l.length, (l[j]).before p = false) ∧ Below w.heap.size w wr ∧ Hid (PtAt wr T p)) (fun si sj _ => (intOf sj).toNat - (intOf si).toNat)
  case atStart => exact ⟨0, n, Nat.zero_le _, Nat.le_refl _, rfl, rfl, Lib.hid fun q _ h => by omega, Lib.hid fun h => absurd h (by rw [HN.out]; omega), HB0.out, HT0⟩
  case round =>
    obtain ⟨i, j, hij, hjn, rfl, rfl, HLO, HHI, hB, HP⟩ := hrel
    clear HT0 HB0
    obtain ⟨w3, hw3⟩ : ∃ x, x = wr := ⟨_, rfl⟩
    subst hw3
    have HB := Lib.hid hB
    by_cases hlt : i < j
    · have hlt2 : (i : Int) < (j : Int) := by omega
      obtain ⟨m, hm⟩ : ∃ m : Nat, (i + j) / 2 = m := ⟨_, rfl⟩
      have w1 : IntKind.i64.wrap ((i : Int) + (j : Int)) = (i : Int) + (j : Int) := by rw [IntKind.wrap_i64]; omega
      have w2' : IntKind.u64.wrap ((i : Int) + (j : Int)) = (i : Int) + (j : Int) := by rw [IntKind.wrap_u64]; omega
      have w3' : ((i : Int) + (j : Int)) / 2 = (m : Int) := by omega
      have w4 : IntKind.i64.wrap (m : Int) = (m : Int) := by rw [IntKind.wrap_i64]; omega
      have w5 : IntKind.i64.wrap ((m : Int) + 1) = (m : Int) + 1 := by rw [IntKind.wrap_i64]; omega
      have hmj : m < j := by omega
      have him : i ≤ m := by omega
      have hmn : m < n := by omega
      have hmn2 : (m : Int) < (n : Int) := by omega
      have hmP : m < l.length := by rw [HN.out]; exact hmn
      rcases HS.out.pts.at_ with hl0 | ⟨b, off, rfl, hbw, hc⟩
      · rw [hl0] at hmP; simp at hmP
      · have hA := (hc m hmP).below hB hbw
        obtain ⟨q, hq⟩ : ∃ q, l[m] = q := ⟨_, rfl⟩
        obtain ⟨ip, hip⟩ : ∃ ip, off + m * 6 = ip := ⟨_, rfl⟩
        rw [hq, hip] at hA
        have H0 : PT w b ip T q p w3 := ⟨hA, HP.out, hB⟩
        obtain ⟨z, hz⟩ : ∃ z, q.before p = z := ⟨_, rfl⟩
        have ko := fun w => order_is q p w
        have hzd := ordI_neg q p
        rw [hz] at hzd
        unfold ptV at ko
        obtain ⟨o, ho⟩ : ∃ o, ordI q p = o := ⟨_, rfl⟩
        rw [ho] at ko hzd
        have HZ := Lib.hid (show (l[m]).before p = z by rw [hq]; exact hz)
        clear hc hq hA hB hm ho hz
        cases z with
        | true =>
          have hzi : o < 0 := of_decide_eq_true hzd
          go_wp2_with fail
          refine wp_region_held_drew (S := (PT w b ip T q p)) (by kernel_rfl) H0.drew (fun hHeld => ?_)
          refine wpAnyH_take (i := 0) (oi := ?sa1o) (v := ?sa1v) ?sa1h (by kernel_rfl) (by kernel_rfl) (by kernel_rfl) ?sa1q ?sa1y hHeld ?sa1r
          case sa1h => (simp only [List.getElem?_toArray, List.getElem?_cons_zero]; rfl)
          case sa1q => exact fun _ _ _ h => h
          case sa1y => (refine Or.inl ⟨by first | kernel_rfl | rfl, ?_⟩; intro w hSw; (try dsimp only at hSw); obtain ⟨⟨c0, c1, c2, c3, c4, c5⟩, ⟨d0, d1, d2, d3, d4, d5⟩, -⟩ := hSw; go_simp <;> (try with_reducible rfl))
          try simp only [Act.put, List.setIfInBounds_toArray, List.set_cons_zero, List.set_cons_succ]
          refine wpAnyH_take (i := 1) (oi := ?sa2o) (v := ?sa2v) ?sa2h (by kernel_rfl) (by kernel_rfl) (by kernel_rfl) ?sa2q ?sa2y hHeld ?sa2r
          case sa2h => (simp only [List.getElem?_toArray, List.getElem?_cons_succ, List.getElem?_cons_zero]; rfl)
          case sa2q => exact fun _ _ _ h => h
          case sa2y => (refine Or.inl ⟨by first | kernel_rfl | rfl, ?_⟩; intro w hSw; (try dsimp only at hSw); obtain ⟨⟨c0, c1, c2, c3, c4, c5⟩, ⟨d0, d1, d2, d3, d4, d5⟩, -⟩ := hSw; go_simp <;> (try with_reducible rfl))
          try simp only [Act.put, List.setIfInBounds_toArray, List.set_cons_zero, List.set_cons_succ]
          refine wpAnyH_take (i := 2) (oi := ?sa3o) (v := ?sa3v) ?sa3h (by kernel_rfl) (by kernel_rfl) (by kernel_rfl) ?sa3q ?sa3y hHeld ?sa3r
          case sa3h => (simp only [List.getElem?_toArray, List.getElem?_cons_succ, List.getElem?_cons_zero]; rfl)
          case sa3q => exact fun _ _ _ h => h
          case sa3y => (refine Or.inl ⟨by first | kernel_rfl | rfl, ?_⟩; intro w hSw; (try dsimp only at hSw); obtain ⟨⟨c0, c1, c2, c3, c4, c5⟩, ⟨d0, d1, d2, d3, d4, d5⟩, -⟩ := hSw; go_simp <;> (try with_reducible rfl))
          try simp only [Act.put, List.setIfInBounds_toArray, List.set_cons_zero, List.set_cons_succ]
          refine wpAnyH_take (i := 3) (oi := ?sa4o) (v := ?sa4v) ?sa4h (by kernel_rfl) (by kernel_rfl) (by kernel_rfl) ?sa4q ?sa4y hHeld ?sa4r
          case sa4h => (simp only [List.getElem?_toArray, List.getElem?_cons_succ, List.getElem?_cons_zero]; rfl)
          case sa4q => exact fun _ _ _ h => h
          case sa4y => (refine Or.inl ⟨by first | kernel_rfl | rfl, ?_⟩; intro w hSw; (try dsimp only at hSw); obtain ⟨⟨c0, c1, c2, c3, c4, c5⟩, ⟨d0, d1, d2, d3, d4, d5⟩, -⟩ := hSw; go_simp <;> (try with_reducible rfl))
          try simp only [Act.put, List.setIfInBounds_toArray, List.set_cons_zero, List.set_cons_succ]
          refine wpAnyH_take (i := 4) (oi := ?sa5o) (v := ?sa5v) ?sa5h (by kernel_rfl) (by kernel_rfl) (by kernel_rfl) ?sa5q ?sa5y hHeld ?sa5r
          case sa5h => (simp only [List.getElem?_toArray, List.getElem?_cons_succ, List.getElem?_cons_zero]; rfl)
          case sa5q => exact fun _ _ _ h => h
          case sa5y => (refine Or.inl ⟨by first | kernel_rfl | rfl, ?_⟩; intro w hSw; (try dsimp only at hSw); obtain ⟨⟨c0, c1, c2, c3, c4, c5⟩, ⟨d0, d1, d2, d3, d4, d5⟩, -⟩ := hSw; go_simp <;> (try with_reducible rfl))
          try simp only [Act.put, List.setIfInBounds_toArray, List.set_cons_zero, List.set_cons_succ]
          refine wpAnyH_take (i := 5) (oi := ?sa6o) (v := ?sa6v) ?sa6h (by kernel_rfl) (by kernel_rfl) (by kernel_rfl) ?sa6q ?sa6y hHeld ?sa6r
          case sa6h => (simp only [List.getElem?_toArray, List.getElem?_cons_succ, List.getElem?_cons_zero]; rfl)
          case sa6q => exact fun _ _ _ h => h
          case sa6y => (refine Or.inl ⟨by first | kernel_rfl | rfl, ?_⟩; intro w hSw; (try dsimp only at hSw); obtain ⟨⟨c0, c1, c2, c3, c4, c5⟩, ⟨d0, d1, d2, d3, d4, d5⟩, -⟩ := hSw; go_simp <;> (try with_reducible rfl))
          try simp only [Act.put, List.setIfInBounds_toArray, List.set_cons_zero, List.set_cons_succ]
          refine wpAnyH_ready (rs := [6]) (by kernel_rfl) (by simp) ?_
          refine (AllReadyH.cons rfl (fun K hK => ?_) AllReadyH.nil)
          go_simp
          (go_at_call 68; (with_reducible refine (ko _).mono ?_); rintro e w7 ⟨rfl, hb7⟩)
          refine hK.out _ _ (hHeld.keep hb7) (fun hHeld => ?_)
          clear hK K
          try simp only [Act.put, List.setIfInBounds_toArray, List.set_cons_zero, List.set_cons_succ]
          refine wpAnyH_take (i := 7) (oi := ?sa7o) (v := ?sa7v) ?sa7h (by kernel_rfl) (by kernel_rfl) (by kernel_rfl) ?sa7q ?sa7y hHeld ?sa7r
          case sa7h => (simp only [List.getElem?_toArray, List.getElem?_cons_succ, List.getElem?_cons_zero]; rfl)
          case sa7q => exact fun _ _ _ h => h
          case sa7y => (refine Or.inl ⟨by first | kernel_rfl | rfl, ?_⟩; intro w hSw; (try dsimp only at hSw); obtain ⟨⟨c0, c1, c2, c3, c4, c5⟩, ⟨d0, d1, d2, d3, d4, d5⟩, -⟩ := hSw; go_simp <;> (try with_reducible rfl))
          try simp only [Act.put, List.setIfInBounds_toArray, List.set_cons_zero, List.set_cons_succ]
          refine wpAnyH_done (by kernel_rfl) ?_ _
          have HH := Lib.hid hHeld
          clear hHeld
          go_wp2
          go_roundw
          case rel => exact ⟨m + 1, j, by omega, hjn, by go_num, rfl, Lib.hid (fun q1 hq1 he => by obtain rfl : q1 = m := by omega
                                                                                                   exact HZ.out), HHI, HH.out.bel, Lib.hid HH.out.y⟩
          case measure => simp [intOf]; omega
        | false =>
          have hzi : ¬ o < 0 := of_decide_eq_false hzd
          go_wp2_with fail
          refine wp_region_held_drew (S := (PT w b ip T q p)) (by kernel_rfl) H0.drew (fun hHeld => ?_)
          refine wpAnyH_take (i := 0) (oi := ?sb1o) (v := ?sb1v) ?sb1h (by kernel_rfl) (by kernel_rfl) (by kernel_rfl) ?sb1q ?sb1y hHeld ?sb1r
          case sb1h => (simp only [List.getElem?_toArray, List.getElem?_cons_zero]; rfl)
          case sb1q => exact fun _ _ _ h => h
          case sb1y => (refine Or.inl ⟨by first | kernel_rfl | rfl, ?_⟩; intro w hSw; (try dsimp only at hSw); obtain ⟨⟨c0, c1, c2, c3, c4, c5⟩, ⟨d0, d1, d2, d3, d4, d5⟩, -⟩ := hSw; go_simp <;> (try with_reducible rfl))
          try simp only [Act.put, List.setIfInBounds_toArray, List.set_cons_zero, List.set_cons_succ]
          refine wpAnyH_take (i := 1) (oi := ?sb2o) (v := ?sb2v) ?sb2h (by kernel_rfl) (by kernel_rfl) (by kernel_rfl) ?sb2q ?sb2y hHeld ?sb2r
          case sb2h => (simp only [List.getElem?_toArray, List.getElem?_cons_succ, List.getElem?_cons_zero]; rfl)
          case sb2q => exact fun _ _ _ h => h
          case sb2y => (refine Or.inl ⟨by first | kernel_rfl | rfl, ?_⟩; intro w hSw; (try dsimp only at hSw); obtain ⟨⟨c0, c1, c2, c3, c4, c5⟩, ⟨d0, d1, d2, d3, d4, d5⟩, -⟩ := hSw; go_simp <;> (try with_reducible rfl))
          try simp only [Act.put, List.setIfInBounds_toArray, List.set_cons_zero, List.set_cons_succ]
          refine wpAnyH_take (i := 2) (oi := ?sb3o) (v := ?sb3v) ?sb3h (by kernel_rfl) (by kernel_rfl) (by kernel_rfl) ?sb3q ?sb3y hHeld ?sb3r
          case sb3h => (simp only [List.getElem?_toArray, List.getElem?_cons_succ, List.getElem?_cons_zero]; rfl)
          case sb3q => exact fun _ _ _ h => h
          case sb3y => (refine Or.inl ⟨by first | kernel_rfl | rfl, ?_⟩; intro w hSw; (try dsimp only at hSw); obtain ⟨⟨c0, c1, c2, c3, c4, c5⟩, ⟨d0, d1, d2, d3, d4, d5⟩, -⟩ := hSw; go_simp <;> (try with_reducible rfl))
          try simp only [Act.put, List.setIfInBounds_toArray, List.set_cons_zero, List.set_cons_succ]
          refine wpAnyH_take (i := 3) (oi := ?sb4o) (v := ?sb4v) ?sb4h (by kernel_rfl) (by kernel_rfl) (by kernel_rfl) ?sb4q ?sb4y hHeld ?sb4r
          case sb4h => (simp only [List.getElem?_toArray, List.getElem?_cons_succ, List.getElem?_cons_zero]; rfl)
          case sb4q => exact fun _ _ _ h => h
          case sb4y => (refine Or.inl ⟨by first | kernel_rfl | rfl, ?_⟩; intro w hSw; (try dsimp only at hSw); obtain ⟨⟨c0, c1, c2, c3, c4, c5⟩, ⟨d0, d1, d2, d3, d4, d5⟩, -⟩ := hSw; go_simp <;> (try with_reducible rfl))
          try simp only [Act.put, List.setIfInBounds_toArray, List.set_cons_zero, List.set_cons_succ]
          refine wpAnyH_take (i := 4) (oi := ?sb5o) (v := ?sb5v) ?sb5h (by kernel_rfl) (by kernel_rfl) (by kernel_rfl) ?sb5q ?sb5y hHeld ?sb5r
          case sb5h => (simp only [List.getElem?_toArray, List.getElem?_cons_succ, List.getElem?_cons_zero]; rfl)
          case sb5q => exact fun _ _ _ h => h
          case sb5y => (refine Or.inl ⟨by first | kernel_rfl | rfl, ?_⟩; intro w hSw; (try dsimp only at hSw); obtain ⟨⟨c0, c1, c2, c3, c4, c5⟩, ⟨d0, d1, d2, d3, d4, d5⟩, -⟩ := hSw; go_simp <;> (try with_reducible rfl))
          try simp only [Act.put, List.setIfInBounds_toArray, List.set_cons_zero, List.set_cons_succ]
          refine wpAnyH_take (i := 5) (oi := ?sb6o) (v := ?sb6v) ?sb6h (by kernel_rfl) (by kernel_rfl) (by kernel_rfl) ?sb6q ?sb6y hHeld ?sb6r
          case sb6h => (simp only [List.getElem?_toArray, List.getElem?_cons_succ, List.getElem?_cons_zero]; rfl)
          case sb6q => exact fun _ _ _ h => h
          case sb6y => (refine Or.inl ⟨by first | kernel_rfl | rfl, ?_⟩; intro w hSw; (try dsimp only at hSw); obtain ⟨⟨c0, c1, c2, c3, c4, c5⟩, ⟨d0, d1, d2, d3, d4, d5⟩, -⟩ := hSw; go_simp <;> (try with_reducible rfl))
          try simp only [Act.put, List.setIfInBounds_toArray, List.set_cons_zero, List.set_cons_succ]
          refine wpAnyH_ready (rs := [6]) (by kernel_rfl) (by simp) ?_
          refine (AllReadyH.cons rfl (fun K hK => ?_) AllReadyH.nil)
          go_simp
          (go_at_call 68; (with_reducible refine (ko _).mono ?_); rintro e w7 ⟨rfl, hb7⟩)
          refine hK.out _ _ (hHeld.keep hb7) (fun hHeld => ?_)
          clear hK K
          try simp only [Act.put, List.setIfInBounds_toArray, List.set_cons_zero, List.set_cons_succ]
          refine wpAnyH_take (i := 7) (oi := ?sb7o) (v := ?sb7v) ?sb7h (by kernel_rfl) (by kernel_rfl) (by kernel_rfl) ?sb7q ?sb7y hHeld ?sb7r
          case sb7h => (simp only [List.getElem?_toArray, List.getElem?_cons_succ, List.getElem?_cons_zero]; rfl)
          case sb7q => exact fun _ _ _ h => h
          case sb7y => (refine Or.inl ⟨by first | kernel_rfl | rfl, ?_⟩; intro w hSw; (try dsimp only at hSw); obtain ⟨⟨c0, c1, c2, c3, c4, c5⟩, ⟨d0, d1, d2, d3, d4, d5⟩, -⟩ := hSw; go_simp <;> (try with_reducible rfl))
          try simp only [Act.put, List.setIfInBounds_toArray, List.set_cons_zero, List.set_cons_succ]
          refine wpAnyH_done (by kernel_rfl) ?_ _
          have HH := Lib.hid hHeld
          clear hHeld
          go_wp2
          go_roundw
          case rel => exact ⟨i, m, him, by omega, rfl, rfl, HLO, Lib.hid fun _ => HZ.out, HH.out.bel, Lib.hid HH.out.y⟩
          case measure => simp [intOf]; omega
    · obtain rfl : i = j := by omega
      have hlt2 : ¬ (i : Int) < (i : Int) := by omega
      have hI := lowN_of HSR.out (by rw [HN.out]; exact hjn) HLO.out HHI.out
      have HI := Lib.hid hI
      clear hlt hij
      by_cases hin : i < n
      · have hin2 : (i : Int) < (n : Int) := by omega
        have hiP : i < l.length := by rw [HN.out]; exact hin
        rcases HS.out.pts.at_ with hl0 | ⟨b, off, rfl, hbw, hc⟩
        · rw [hl0] at hiP; simp at hiP
        · have hA := (hc i hiP).below hB hbw
          have hha : hasN l p = (l[i]).eqp p := by unfold hasN; simp only [hI]; exact dif_pos hiP
          obtain ⟨q, hq⟩ : ∃ q, l[i] = q := ⟨_, rfl⟩
          obtain ⟨ip, hip⟩ : ∃ ip, off + i * 6 = ip := ⟨_, rfl⟩
          rw [hq, hip] at hA
          rw [hq] at hha
          have H0 : PT w b ip T q p w3 := ⟨hA, HP.out, hB⟩
          have ko := fun w => order_is q p w
          have hzd := ordI_zero q p
          unfold ptV at ko
          obtain ⟨o, ho⟩ : ∃ o, ordI q p = o := ⟨_, rfl⟩
          rw [ho] at ko hzd
          have HZ := Lib.hid (show (o == 0) = hasN l p by rw [hha]; exact hzd)
          have hdn : decide (i < n) = true := decide_eq_true hin
          clear hc hq hA hB hha ho hzd hI
          go_wp2_with fail
          refine wp_region_held_drew (S := (PT w b ip T q p)) (by kernel_rfl) H0.drew (fun hHeld => ?_)
          refine wpAnyH_take (i := 0) (oi := ?sc1o) (v := ?sc1v) ?sc1h (by kernel_rfl) (by kernel_rfl) (by kernel_rfl) ?sc1q ?sc1y hHeld ?sc1r
          case sc1h => (simp only [List.getElem?_toArray, List.getElem?_cons_zero]; rfl)
          case sc1q => exact fun _ _ _ h => h
          case sc1y => (refine Or.inl ⟨by first | kernel_rfl | rfl, ?_⟩; intro w hSw; (try dsimp only at hSw); obtain ⟨⟨c0, c1, c2, c3, c4, c5⟩, ⟨d0, d1, d2, d3, d4, d5⟩, -⟩ := hSw; go_simp <;> (try with_reducible rfl))
          try simp only [Act.put, List.setIfInBounds_toArray, List.set_cons_zero, List.set_cons_succ]
          refine wpAnyH_take (i := 1) (oi := ?sc2o) (v := ?sc2v) ?sc2h (by kernel_rfl) (by kernel_rfl) (by kernel_rfl) ?sc2q ?sc2y hHeld ?sc2r
          case sc2h => (simp only [List.getElem?_toArray, List.getElem?_cons_succ, List.getElem?_cons_zero]; rfl)
          case sc2q => exact fun _ _ _ h => h
          case sc2y => (refine Or.inl ⟨by first | kernel_rfl | rfl, ?_⟩; intro w hSw; (try dsimp only at hSw); obtain ⟨⟨c0, c1, c2, c3, c4, c5⟩, ⟨d0, d1, d2, d3, d4, d5⟩, -⟩ := hSw; go_simp <;> (try with_reducible rfl))
          try simp only [Act.put, List.setIfInBounds_toArray, List.set_cons_zero, List.set_cons_succ]
          refine wpAnyH_take (i := 2) (oi := ?sc3o) (v := ?sc3v) ?sc3h (by kernel_rfl) (by kernel_rfl) (by kernel_rfl) ?sc3q ?sc3y hHeld ?sc3r
          case sc3h => (simp only [List.getElem?_toArray, List.getElem?_cons_succ, List.getElem?_cons_zero]; rfl)
          case sc3q => exact fun _ _ _ h => h
          case sc3y => (refine Or.inl ⟨by first | kernel_rfl | rfl, ?_⟩; intro w hSw; (try dsimp only at hSw); obtain ⟨⟨c0, c1, c2, c3, c4, c5⟩, ⟨d0, d1, d2, d3, d4, d5⟩, -⟩ := hSw; go_simp <;> (try with_reducible rfl))
          try simp only [Act.put, List.setIfInBounds_toArray, List.set_cons_zero, List.set_cons_succ]
          refine wpAnyH_take (i := 3) (oi := ?sc4o) (v := ?sc4v) ?sc4h (by kernel_rfl) (by kernel_rfl) (by kernel_rfl) ?sc4q ?sc4y hHeld ?sc4r
          case sc4h => (simp only [List.getElem?_toArray, List.getElem?_cons_succ, List.getElem?_cons_zero]; rfl)
          case sc4q => exact fun _ _ _ h => h
          case sc4y => (refine Or.inl ⟨by first | kernel_rfl | rfl, ?_⟩; intro w hSw; (try dsimp only at hSw); obtain ⟨⟨c0, c1, c2, c3, c4, c5⟩, ⟨d0, d1, d2, d3, d4, d5⟩, -⟩ := hSw; go_simp <;> (try with_reducible rfl))
          try simp only [Act.put, List.setIfInBounds_toArray, List.set_cons_zero, List.set_cons_succ]
          refine wpAnyH_take (i := 4) (oi := ?sc5o) (v := ?sc5v) ?sc5h (by kernel_rfl) (by kernel_rfl) (by kernel_rfl) ?sc5q ?sc5y hHeld ?sc5r
          case sc5h => (simp only [List.getElem?_toArray, List.getElem?_cons_succ, List.getElem?_cons_zero]; rfl)
          case sc5q => exact fun _ _ _ h => h
          case sc5y => (refine Or.inl ⟨by first | kernel_rfl | rfl, ?_⟩; intro w hSw; (try dsimp only at hSw); obtain ⟨⟨c0, c1, c2, c3, c4, c5⟩, ⟨d0, d1, d2, d3, d4, d5⟩, -⟩ := hSw; go_simp <;> (try with_reducible rfl))
          try simp only [Act.put, List.setIfInBounds_toArray, List.set_cons_zero, List.set_cons_succ]
          refine wpAnyH_take (i := 5) (oi := ?sc6o) (v := ?sc6v) ?sc6h (by kernel_rfl) (by kernel_rfl) (by kernel_rfl) ?sc6q ?sc6y hHeld ?sc6r
          case sc6h => (simp only [List.getElem?_toArray, List.getElem?_cons_succ, List.getElem?_cons_zero]; rfl)
          case sc6q => exact fun _ _ _ h => h
          case sc6y => (refine Or.inl ⟨by first | kernel_rfl | rfl, ?_⟩; intro w hSw; (try dsimp only at hSw); obtain ⟨⟨c0, c1, c2, c3, c4, c5⟩, ⟨d0, d1, d2, d3, d4, d5⟩, -⟩ := hSw; go_simp <;> (try with_reducible rfl))
          try simp only [Act.put, List.setIfInBounds_toArray, List.set_cons_zero, List.set_cons_succ]
          refine wpAnyH_take (i := 6) (oi := ?sc7o) (v := ?sc7v) ?sc7h (by kernel_rfl) (by kernel_rfl) (by kernel_rfl) ?sc7q ?sc7y hHeld ?sc7r
          case sc7h => (simp only [List.getElem?_toArray, List.getElem?_cons_succ, List.getElem?_cons_zero]; rfl)
          case sc7q => exact fun _ _ _ h => h
          case sc7y => (refine Or.inl ⟨by first | kernel_rfl | rfl, ?_⟩; intro w hSw; (try dsimp only at hSw); obtain ⟨⟨c0, c1, c2, c3, c4, c5⟩, ⟨d0, d1, d2, d3, d4, d5⟩, -⟩ := hSw; go_simp <;> (try with_reducible rfl))
          try simp only [Act.put, List.setIfInBounds_toArray, List.set_cons_zero, List.set_cons_succ]
          refine wpAnyH_take (i := 7) (oi := ?sc8o) (v := ?sc8v) ?sc8h (by kernel_rfl) (by kernel_rfl) (by kernel_rfl) ?sc8q ?sc8y hHeld ?sc8r
          case sc8h => (simp only [List.getElem?_toArray, List.getElem?_cons_succ, List.getElem?_cons_zero]; rfl)
          case sc8q => exact fun _ _ _ h => h
          case sc8y => (refine Or.inl ⟨by first | kernel_rfl | rfl, ?_⟩; intro w hSw; (try dsimp only at hSw); obtain ⟨⟨c0, c1, c2, c3, c4, c5⟩, ⟨d0, d1, d2, d3, d4, d5⟩, -⟩ := hSw; go_simp <;> (try with_reducible rfl))
          try simp only [Act.put, List.setIfInBounds_toArray, List.set_cons_zero, List.set_cons_succ]
          refine wpAnyH_take (i := 8) (oi := ?sc9o) (v := ?sc9v) ?sc9h (by kernel_rfl) (by kernel_rfl) (by kernel_rfl) ?sc9q ?sc9y hHeld ?sc9r
          case sc9h => (simp only [List.getElem?_toArray, List.getElem?_cons_succ, List.getElem?_cons_zero]; rfl)
          case sc9q => exact fun _ _ _ h => h
          case sc9y => (refine Or.inl ⟨by first | kernel_rfl | rfl, ?_⟩; intro w hSw; (try dsimp only at hSw); obtain ⟨⟨c0, c1, c2, c3, c4, c5⟩, ⟨d0, d1, d2, d3, d4, d5⟩, -⟩ := hSw; go_simp <;> (try with_reducible rfl))
          try simp only [Act.put, List.setIfInBounds_toArray, List.set_cons_zero, List.set_cons_succ]
          refine wpAnyH_take (i := 9) (oi := ?sc10o) (v := ?sc10v) ?sc10h (by kernel_rfl) (by kernel_rfl) (by kernel_rfl) ?sc10q ?sc10y hHeld ?sc10r
          case sc10h => (simp only [List.getElem?_toArray, List.getElem?_cons_succ, List.getElem?_cons_zero]; rfl)
          case sc10q => exact fun _ _ _ h => h
          case sc10y => (refine Or.inl ⟨by first | kernel_rfl | rfl, ?_⟩; intro w hSw; (try dsimp only at hSw); obtain ⟨⟨c0, c1, c2, c3, c4, c5⟩, ⟨d0, d1, d2, d3, d4, d5⟩, -⟩ := hSw; go_simp <;> (try with_reducible rfl))
          try simp only [Act.put, List.setIfInBounds_toArray, List.set_cons_zero, List.set_cons_succ]
          refine wpAnyH_take (i := 10) (oi := ?sc11o) (v := ?sc11v) ?sc11h (by kernel_rfl) (by kernel_rfl) (by kernel_rfl) ?sc11q ?sc11y hHeld ?sc11r
          case sc11h => (simp only [List.getElem?_toArray, List.getElem?_cons_succ, List.getElem?_cons_zero]; rfl)
          case sc11q => exact fun _ _ _ h => h
          case sc11y => (refine Or.inl ⟨by first | kernel_rfl | rfl, ?_⟩; intro w hSw; (try dsimp only at hSw); obtain ⟨⟨c0, c1, c2, c3, c4, c5⟩, ⟨d0, d1, d2, d3, d4, d5⟩, -⟩ := hSw; go_simp <;> (try with_reducible rfl))
          try simp only [Act.put, List.setIfInBounds_toArray, List.set_cons_zero, List.set_cons_succ]
          refine wpAnyH_ready (rs := [11]) (by kernel_rfl) (by simp) ?_
          refine (AllReadyH.cons rfl (fun K hK => ?_) AllReadyH.nil)
          go_simp
          (go_at_call 68; (with_reducible refine (ko _).mono ?_); rintro e w7 ⟨rfl, hb7⟩)
          refine hK.out _ _ (hHeld.keep hb7) (fun hHeld => ?_)
          clear hK K
          try simp only [Act.put, List.setIfInBounds_toArray, List.set_cons_zero, List.set_cons_succ]
          refine wpAnyH_take (i := 12) (oi := ?sc12o) (v := ?sc12v) ?sc12h (by kernel_rfl) (by kernel_rfl) (by kernel_rfl) ?sc12q ?sc12y hHeld ?sc12r
          case sc12h => (simp only [List.getElem?_toArray, List.getElem?_cons_succ, List.getElem?_cons_zero]; rfl)
          case sc12q => exact fun _ _ _ h => h
          case sc12y => (refine Or.inl ⟨by first | kernel_rfl | rfl, ?_⟩; intro w hSw; (try dsimp only at hSw); obtain ⟨⟨c0, c1, c2, c3, c4, c5⟩, ⟨d0, d1, d2, d3, d4, d5⟩, -⟩ := hSw; go_simp <;> (try with_reducible rfl))
          try simp only [Act.put, List.setIfInBounds_toArray, List.set_cons_zero, List.set_cons_succ]
          refine wpAnyH_take (i := 13) (oi := ?sc13o) (v := ?sc13v) ?sc13h (by kernel_rfl) (by kernel_rfl) (by kernel_rfl) ?sc13q ?sc13y hHeld ?sc13r
          case sc13h => (simp only [List.getElem?_toArray, List.getElem?_cons_succ, List.getElem?_cons_zero]; rfl)
          case sc13q => exact fun _ _ _ h => h
          case sc13y => (refine Or.inl ⟨by first | kernel_rfl | rfl, ?_⟩; intro w hSw; (try dsimp only at hSw); obtain ⟨⟨c0, c1, c2, c3, c4, c5⟩, ⟨d0, d1, d2, d3, d4, d5⟩, -⟩ := hSw; go_simp <;> (try with_reducible rfl))
          try simp only [Act.put, List.setIfInBounds_toArray, List.set_cons_zero, List.set_cons_succ]
          refine wpAnyH_take (i := 14) (oi := ?sc14o) (v := ?sc14v) ?sc14h (by kernel_rfl) (by kernel_rfl) (by kernel_rfl) ?sc14q ?sc14y hHeld ?sc14r
          case sc14h => (simp only [List.getElem?_toArray, List.getElem?_cons_succ, List.getElem?_cons_zero]; rfl)
          case sc14q => exact fun _ _ _ h => h
          case sc14y => (refine Or.inl ⟨by first | kernel_rfl | rfl, ?_⟩; intro w hSw; (try dsimp only at hSw); obtain ⟨⟨c0, c1, c2, c3, c4, c5⟩, ⟨d0, d1, d2, d3, d4, d5⟩, -⟩ := hSw; go_simp <;> (try with_reducible rfl))
          try simp only [Act.put, List.setIfInBounds_toArray, List.set_cons_zero, List.set_cons_succ]
          refine wpAnyH_take (i := 15) (oi := ?sc15o) (v := ?sc15v) ?sc15h (by kernel_rfl) (by kernel_rfl) (by kernel_rfl) ?sc15q ?sc15y hHeld ?sc15r
          case sc15h => (simp only [List.getElem?_toArray, List.getElem?_cons_succ, List.getElem?_cons_zero]; rfl)
          case sc15q => exact fun _ _ _ h => h
          case sc15y => (refine Or.inl ⟨by first | kernel_rfl | rfl, ?_⟩; intro w hSw; (try dsimp only at hSw); obtain ⟨⟨c0, c1, c2, c3, c4, c5⟩, ⟨d0, d1, d2, d3, d4, d5⟩, -⟩ := hSw; go_simp <;> (try with_reducible rfl))
          try simp only [Act.put, List.setIfInBounds_toArray, List.set_cons_zero, List.set_cons_succ]
          refine wpAnyH_done (by kernel_rfl) ?_ _
          have HH := Lib.hid hHeld
          clear hHeld
          go_wp2
          go_ret2
          exact ⟨by rw [HI.out, ← HZ.out]; rfl, HH.out.bel⟩
      · have hdn : decide (i < n) = false := decide_eq_false hin
        have hnl : ¬ i < l.length := by rw [HN.out]; exact hin
        have hin2 : ¬ (i : Int) < (n : Int) := by omega
        have HZ := Lib.hid (show false = hasN l p by unfold hasN; simp only [hI]; rw [dif_neg hnl])
        obtain rfl : i = n := by omega
        clear hI hin hdn
        go_wp2_with fail
        refine wp_region_held_drew (S := (Below w.heap.size w)) (by kernel_rfl) (HB.out.drew) (fun hHeld => ?_)
        refine wpAnyH_take (i := 0) (oi := ?sd1o) (v := ?sd1v) ?sd1h (by kernel_rfl) (by kernel_rfl) (by kernel_rfl) ?sd1q ?sd1y hHeld ?sd1r
        case sd1h => (simp only [List.getElem?_toArray, List.getElem?_cons_zero]; rfl)
        case sd1q => exact fun _ _ _ h => h
        case sd1y => (refine Or.inl ⟨by first | kernel_rfl | rfl, ?_⟩; intro w hSw; (try dsimp only at hSw); go_simp <;> (try with_reducible rfl))
        try simp only [Act.put, List.setIfInBounds_toArray, List.set_cons_zero, List.set_cons_succ]
        refine wpAnyH_take (i := 1) (oi := ?sd2o) (v := ?sd2v) ?sd2h (by kernel_rfl) (by kernel_rfl) (by kernel_rfl) ?sd2q ?sd2y hHeld ?sd2r
        case sd2h => (simp only [List.getElem?_toArray, List.getElem?_cons_succ, List.getElem?_cons_zero]; rfl)
        case sd2q => exact fun _ _ _ h => h
        case sd2y => (refine Or.inl ⟨by first | kernel_rfl | rfl, ?_⟩; intro w hSw; (try dsimp only at hSw); go_simp <;> (try with_reducible rfl))
        try simp only [Act.put, List.setIfInBounds_toArray, List.set_cons_zero, List.set_cons_succ]
        refine wpAnyH_take (i := 2) (oi := ?sd3o) (v := ?sd3v) ?sd3h (by kernel_rfl) (by kernel_rfl) (by kernel_rfl) ?sd3q ?sd3y hHeld ?sd3r
        case sd3h => (simp only [List.getElem?_toArray, List.getElem?_cons_succ, List.getElem?_cons_zero]; rfl)
        case sd3q => exact fun _ _ _ h => h
        case sd3y => (refine Or.inl ⟨by first | kernel_rfl | rfl, ?_⟩; intro w hSw; (try dsimp only at hSw); go_simp <;> (try with_reducible rfl))
        try simp only [Act.put, List.setIfInBounds_toArray, List.set_cons_zero, List.set_cons_succ]
        refine wpAnyH_take (i := 3) (oi := ?sd4o) (v := ?sd4v) ?sd4h (by kernel_rfl) (by kernel_rfl) (by kernel_rfl) ?sd4q ?sd4y hHeld ?sd4r
        case sd4h => (simp only [List.getElem?_toArray, List.getElem?_cons_succ, List.getElem?_cons_zero]; rfl)
        case sd4q => exact fun _ _ _ h => h
        case sd4y => (refine Or.inl ⟨by first | kernel_rfl | rfl, ?_⟩; intro w hSw; (try dsimp only at hSw); go_simp <;> (try with_reducible rfl))
        try simp only [Act.put, List.setIfInBounds_toArray, List.set_cons_zero, List.set_cons_succ]
        refine wpAnyH_take (i := 4) (oi := ?sd5o) (v := ?sd5v) ?sd5h (by kernel_rfl) (by kernel_rfl) (by kernel_rfl) ?sd5q ?sd5y hHeld ?sd5r
        case sd5h => (simp only [List.getElem?_toArray, List.getElem?_cons_succ, List.getElem?_cons_zero]; rfl)
        case sd5q => exact fun _ _ _ h => h
        case sd5y => (refine Or.inl ⟨by first | kernel_rfl | rfl, ?_⟩; intro w hSw; (try dsimp only at hSw); go_simp <;> (try with_reducible rfl))
        try simp only [Act.put, List.setIfInBounds_toArray, List.set_cons_zero, List.set_cons_succ]
        refine wpAnyH_take (i := 5) (oi := ?sd6o) (v := undef) ?sd6h (by kernel_rfl) (by kernel_rfl) (by kernel_rfl) ?sd6q ?sd6y hHeld ?sd6r
        case sd6h => (simp only [List.getElem?_toArray, List.getElem?_cons_succ, List.getElem?_cons_zero]; rfl)
        case sd6q => exact fun _ _ _ h => h
        case sd6y => exact Or.inr ⟨by first | kernel_rfl | rfl, rfl⟩
        try simp only [Act.put, List.setIfInBounds_toArray, List.set_cons_zero, List.set_cons_succ]
        refine wpAnyH_take (i := 6) (oi := ?sd7o) (v := undef) ?sd7h (by kernel_rfl) (by kernel_rfl) (by kernel_rfl) ?sd7q ?sd7y hHeld ?sd7r
        case sd7h => (simp only [List.getElem?_toArray, List.getElem?_cons_succ, List.getElem?_cons_zero]; rfl)
        case sd7q => exact fun _ _ _ h => h
        case sd7y => exact Or.inr ⟨by first | kernel_rfl | rfl, rfl⟩
        try simp only [Act.put, List.setIfInBounds_toArray, List.set_cons_zero, List.set_cons_succ]
        refine wpAnyH_take (i := 7) (oi := ?sd8o) (v := undef) ?sd8h (by kernel_rfl) (by kernel_rfl) (by kernel_rfl) ?sd8q ?sd8y hHeld ?sd8r
        case sd8h => (simp only [List.getElem?_toArray, List.getElem?_cons_succ, List.getElem?_cons_zero]; rfl)
        case sd8q => exact fun _ _ _ h => h
        case sd8y => exact Or.inr ⟨by first | kernel_rfl | rfl, rfl⟩
        try simp only [Act.put, List.setIfInBounds_toArray, List.set_cons_zero, List.set_cons_succ]
        refine wpAnyH_take (i := 8) (oi := ?sd9o) (v := undef) ?sd9h (by kernel_rfl) (by kernel_rfl) (by kernel_rfl) ?sd9q ?sd9y hHeld ?sd9r
        case sd9h => (simp only [List.getElem?_toArray, List.getElem?_cons_succ, List.getElem?_cons_zero]; rfl)
        case sd9q => exact fun _ _ _ h => h
        case sd9y => exact Or.inr ⟨by first | kernel_rfl | rfl, rfl⟩
        try simp only [Act.put, List.setIfInBounds_toArray, List.set_cons_zero, List.set_cons_succ]
        refine wpAnyH_take (i := 9) (oi := ?sd10o) (v := undef) ?sd10h (by kernel_rfl) (by kernel_rfl) (by kernel_rfl) ?sd10q ?sd10y hHeld ?sd10r
        case sd10h => (simp only [List.getElem?_toArray, List.getElem?_cons_succ, List.getElem?_cons_zero]; rfl)
        case sd10q => exact fun _ _ _ h => h
        case sd10y => exact Or.inr ⟨by first | kernel_rfl | rfl, rfl⟩
        try simp only [Act.put, List.setIfInBounds_toArray, List.set_cons_zero, List.set_cons_succ]
        refine wpAnyH_take (i := 10) (oi := ?sd11o) (v := undef) ?sd11h (by kernel_rfl) (by kernel_rfl) (by kernel_rfl) ?sd11q ?sd11y hHeld ?sd11r
        case sd11h => (simp only [List.getElem?_toArray, List.getElem?_cons_succ, List.getElem?_cons_zero]; rfl)
        case sd11q => exact fun _ _ _ h => h
        case sd11y => exact Or.inr ⟨by first | kernel_rfl | rfl, rfl⟩
        try simp only [Act.put, List.setIfInBounds_toArray, List.set_cons_zero, List.set_cons_succ]
        refine wpAnyH_take (i := 11) (oi := ?sd12o) (v := undef) ?sd12h (by kernel_rfl) (by kernel_rfl) (by kernel_rfl) ?sd12q ?sd12y hHeld ?sd12r
        case sd12h => (simp only [List.getElem?_toArray, List.getElem?_cons_succ, List.getElem?_cons_zero]; rfl)
        case sd12q => exact fun _ _ _ h => h
        case sd12y => exact Or.inr ⟨by first | kernel_rfl | rfl, rfl⟩
        try simp only [Act.put, List.setIfInBounds_toArray, List.set_cons_zero, List.set_cons_succ]
        refine wpAnyH_take (i := 12) (oi := ?sd13o) (v := undef) ?sd13h (by kernel_rfl) (by kernel_rfl) (by kernel_rfl) ?sd13q ?sd13y hHeld ?sd13r
        case sd13h => (simp only [List.getElem?_toArray, List.getElem?_cons_succ, List.getElem?_cons_zero]; rfl)
        case sd13q => exact fun _ _ _ h => h
        case sd13y => exact Or.inr ⟨by first | kernel_rfl | rfl, rfl⟩
        try simp only [Act.put, List.setIfInBounds_toArray, List.set_cons_zero, List.set_cons_succ]
        refine wpAnyH_take (i := 13) (oi := ?sd14o) (v := ?sd14v) ?sd14h (by kernel_rfl) (by kernel_rfl) (by kernel_rfl) ?sd14q ?sd14y hHeld ?sd14r
        case sd14h => (simp only [List.getElem?_toArray, List.getElem?_cons_succ, List.getElem?_cons_zero]; rfl)
        case sd14q => exact fun _ _ _ h => h
        case sd14y => (refine Or.inl ⟨by first | kernel_rfl | rfl, ?_⟩; intro w hSw; (try dsimp only at hSw); go_simp <;> (try with_reducible rfl))
        try simp only [Act.put, List.setIfInBounds_toArray, List.set_cons_zero, List.set_cons_succ]
        refine wpAnyH_take (i := 14) (oi := ?sd15o) (v := ?sd15v) ?sd15h (by kernel_rfl) (by kernel_rfl) (by kernel_rfl) ?sd15q ?sd15y hHeld ?sd15r
        case sd15h => (simp only [List.getElem?_toArray, List.getElem?_cons_succ, List.getElem?_cons_zero]; rfl)
        case sd15q => exact fun _ _ _ h => h
        case sd15y => (refine Or.inl ⟨by first | kernel_rfl | rfl, ?_⟩; intro w hSw; (try dsimp only at hSw); go_simp <;> (try with_reducible rfl))
        try simp only [Act.put, List.setIfInBounds_toArray, List.set_cons_zero, List.set_cons_succ]
        refine wpAnyH_take (i := 15) (oi := ?sd16o) (v := ?sd16v) ?sd16h (by kernel_rfl) (by kernel_rfl) (by kernel_rfl) ?sd16q ?sd16y hHeld ?sd16r
        case sd16h => (simp only [List.getElem?_toArray, List.getElem?_cons_succ, List.getElem?_cons_zero]; rfl)
        case sd16q => exact fun _ _ _ h => h
        case sd16y => (refine Or.inl ⟨by first | kernel_rfl | rfl, ?_⟩; intro w hSw; (try dsimp only at hSw); go_simp <;> (try with_reducible rfl))
        try simp only [Act.put, List.setIfInBounds_toArray, List.set_cons_zero, List.set_cons_succ]
        refine wpAnyH_done (by kernel_rfl) ?_ _
        have HH := Lib.hid hHeld
        clear hHeld
        go_wp2
        go_ret2
        exact ⟨by rw [HI.out, ← HZ.out]; rfl, HH.out⟩

set_option maxHeartbeats 4000000 in
theorem place_is (a0 : Option Addr) (c0 : Nat) (l : List Pt) (s : ByteArray) (tm : Int) (w : World) (hS : Lst w w.heap.size a0 c0 l) (hl : l.length ≤ 200000) (hs : srtB l = true) :
    Calls Try.prog 60 #[.slice a0 l.length c0, .string s, .int .i64 tm] w fun e w' => e = .returned (.tuple #[.int .i64 (lowN l (plc s tm) : Int), .bool (hasN l (plc s tm))]) ∧ Below w.heap.size w w' := by
  have ks := fun w h => search6_is a0 c0 l (plc s tm) w h hl hs
  have HS := Lib.hid hS
  unfold ptV at ks
  rw [show (plc s tm).s = s from rfl, show (plc s tm).t = tm from rfl, show (plc s tm).v = 0 from rfl, show (plc s tm).st.c = 0 from rfl, show (plc s tm).st.s = 0 from rfl, show (plc s tm).st.q = 0 from rfl] at ks
  clear hS hs
  generalize lowN l (plc s tm) = i at *
  generalize hasN l (plc s tm) = f at *
  go_enter Try.func60, Try.ntmps60
  go_wp2_with (go_at_call 67; (with_reducible refine (ks _ HS.out).mono ?_); rintro e w1 ⟨rfl, hb1⟩)
  go_ret2
  exact ⟨rfl, hb1⟩
end Go.Proofs.Ytcjcbbpolhpphaa
