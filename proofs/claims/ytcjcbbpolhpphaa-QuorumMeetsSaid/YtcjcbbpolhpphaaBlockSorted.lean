/- The contracts of the program's Sorted and of the document's. -/
import Derived.Test.YtcjcbbpolhpphaaBlockRow
import Derived.Deep.RegionHeld
set_option maxRecDepth 20000
set_option linter.unusedSimpArgs false
namespace Go.Proofs.Ytcjcbbpolhpphaa
open Go.RowKit Go.Proofs.Ytcjcbbpolhpphaa.Vi Go.Proofs.Ytcjcbbpolhpphaa.Mk

/-- Held: two points in a block. -/
structure PP (w : World) (b i j : Nat) (p q : Pt) (w' : World) : Prop where
  x : PtO w' b i p
  y : PtO w' b j q
  bel : Below w.heap.size w w'
theorem PP.keep {w w1 w2 : World} {b i j : Nat} {p q : Pt} (h : PP w b i j p q w1) (k : Below w1.heap.size w1 w2) : PP w b i j p q w2 := ⟨h.x.below k h.x.room, h.y.below k h.y.room, bel_next h.bel k⟩
theorem PP.drew {w w1 : World} {b i j : Nat} {p q : Pt} (h : PP w b i j p q w1) : PP w b i j p q w1.drew := h.keep ((Below.refl _ _).drew)
theorem srtB_iff : ∀ {l : List Pt}, srtB l = true ↔ ∀ j (h : j + 1 < l.length), (l[j]).before (l[j + 1]) = true
  | [] => ⟨fun _ j h => by simp at h, fun _ => rfl⟩
  | [a] => ⟨fun _ j h => by simp at h, fun _ => rfl⟩
  | a :: b :: t => by
    unfold srtB
    rw [Bool.and_eq_true, srtB_iff (l := b :: t)]
    constructor
    · rintro ⟨h1, h2⟩ j hj
      cases j with
      | zero => exact h1
      | succ j => exact h2 j (by simpa using hj)
    · intro h
      exact ⟨h 0 (by simp), fun j hj => h (j + 1) (by simpa using hj)⟩

set_option maxHeartbeats 4000000 in
theorem psorted_is (a0 : Option Addr) (c0 : Nat) (l : List Pt) (w : World) (hS : Lst w w.heap.size a0 c0 l) (hl : l.length ≤ 1000000) : Calls Try.prog 64 #[.slice a0 l.length c0] w fun e w' => e = .returned (.bool (srtB l)) ∧ Below w.heap.size w w' := by
  have HS := Lib.hid hS
  clear hS
  go_enter Try.func64, Try.ntmps64
  go_wp2
  go_loopw [3] (fun i wr => ∃ (k : Nat), 1 ≤ k ∧ (k ≤ l.length ∨ k = 1) ∧ i = .int .i64 (k : Int) ∧ Below w.heap.size w wr ∧ Hid (∀ j (hj : j + 1 < l.length), j + 1 < k → (l[j]).before (l[j + 1]) = true)) (fun i _ => l.length - (intOf i).toNat)
  case atStart => exact ⟨1, by omega, by omega, rfl, Below.refl _ _, Lib.hid fun j _ hj => by omega⟩
  case round =>
    obtain ⟨k, hk1, hk, rfl, hB, hall⟩ := hrel
    by_cases hlt : k < l.length
    · have hlti : (k : Int) < (l.length : Int) := by omega
      rcases HS.out.pts.at_ with rfl | ⟨b, off, rfl, hbw, hc⟩
      · simp at hlt
      · obtain ⟨m, hm⟩ : ∃ m, k = m + 1 := ⟨k - 1, by omega⟩
        have hmi : (k : Int) - 1 = (m : Int) := by omega
        have hml : (m : Int) < (l.length : Int) := by omega
        have hwm : IntKind.i64.wrap (m : Int) = (m : Int) := by rw [IntKind.wrap_i64]; omega
        have hA := (hc m (by omega)).below hB hbw
        have hC := (hc k hlt).below hB hbw
        have HNO := Lib.hid (fun (h : (l[m]).before l[k] = false) => show srtB l = false by
          apply Bool.eq_false_iff.2
          intro hs
          have := srtB_iff.1 hs m (by omega)
          simp only [← hm] at this
          rw [h] at this; cases this)
        have HGO := Lib.hid (fun (h : (l[m]).before l[k] = true) => show ∀ j (hj : j + 1 < l.length), j + 1 < k + 1 → (l[j]).before (l[j + 1]) = true from fun j hj hjk => by
          by_cases e : j = m
          · subst e; simp only [← hm]; exact h
          · exact hall.out j hj (by omega))
        obtain ⟨p, hp⟩ : ∃ p, l[m] = p := ⟨_, rfl⟩
        obtain ⟨q, hq⟩ : ∃ q, l[k] = q := ⟨_, rfl⟩
        rw [hp] at hA HNO HGO
        rw [hq] at hC HNO HGO
        obtain ⟨i, hi⟩ : ∃ i, off + m * 6 = i := ⟨_, rfl⟩
        obtain ⟨j, hj⟩ : ∃ j, off + k * 6 = j := ⟨_, rfl⟩
        rw [hi] at hA
        rw [hj] at hC
        have H0 : PP w b i j p q wr := ⟨hA, hC, hB⟩
        obtain ⟨z, hz⟩ : ∃ z, p.before q = z := ⟨_, rfl⟩
        have kb := fun w => before_is p q z w (Lib.hid hz)
        unfold ptV at kb
        rw [hz] at HNO HGO
        clear hc hp hq hall hA hC hB hz hm
        cases z with
        | true =>
          go_wp2_with fail
          refine wp_region_held_drew (S := (PP w b i j p q)) (by kernel_rfl) H0.drew (fun hHeld => ?_)
          refine wpAnyH_take (i := 0) (oi := ?ptq1o) (v := ?ptq1v) ?ptq1h (by kernel_rfl) (by kernel_rfl) (by kernel_rfl) ?ptq1q ?ptq1y hHeld ?ptq1r
          case ptq1h => (simp only [List.getElem?_toArray, List.getElem?_cons_zero]; rfl)
          case ptq1q => exact fun _ _ _ h => h
          case ptq1y => (refine Or.inl ⟨by first | kernel_rfl | rfl, ?_⟩; intro w hSw; (try dsimp only at hSw); obtain ⟨⟨c0, c1, c2, c3, c4, c5⟩, ⟨d0, d1, d2, d3, d4, d5⟩, -⟩ := hSw; go_simp <;> (try with_reducible rfl))
          try simp only [Act.put, List.setIfInBounds_toArray, List.set_cons_zero, List.set_cons_succ]
          refine wpAnyH_take (i := 1) (oi := ?ptq2o) (v := ?ptq2v) ?ptq2h (by kernel_rfl) (by kernel_rfl) (by kernel_rfl) ?ptq2q ?ptq2y hHeld ?ptq2r
          case ptq2h => (simp only [List.getElem?_toArray, List.getElem?_cons_succ, List.getElem?_cons_zero]; rfl)
          case ptq2q => exact fun _ _ _ h => h
          case ptq2y => (refine Or.inl ⟨by first | kernel_rfl | rfl, ?_⟩; intro w hSw; (try dsimp only at hSw); obtain ⟨⟨c0, c1, c2, c3, c4, c5⟩, ⟨d0, d1, d2, d3, d4, d5⟩, -⟩ := hSw; go_simp <;> (try with_reducible rfl))
          try simp only [Act.put, List.setIfInBounds_toArray, List.set_cons_zero, List.set_cons_succ]
          refine wpAnyH_take (i := 2) (oi := ?ptq3o) (v := ?ptq3v) ?ptq3h (by kernel_rfl) (by kernel_rfl) (by kernel_rfl) ?ptq3q ?ptq3y hHeld ?ptq3r
          case ptq3h => (simp only [List.getElem?_toArray, List.getElem?_cons_succ, List.getElem?_cons_zero]; rfl)
          case ptq3q => exact fun _ _ _ h => h
          case ptq3y => (refine Or.inl ⟨by first | kernel_rfl | rfl, ?_⟩; intro w hSw; (try dsimp only at hSw); obtain ⟨⟨c0, c1, c2, c3, c4, c5⟩, ⟨d0, d1, d2, d3, d4, d5⟩, -⟩ := hSw; go_simp <;> (try with_reducible rfl))
          try simp only [Act.put, List.setIfInBounds_toArray, List.set_cons_zero, List.set_cons_succ]
          refine wpAnyH_take (i := 3) (oi := ?ptq4o) (v := ?ptq4v) ?ptq4h (by kernel_rfl) (by kernel_rfl) (by kernel_rfl) ?ptq4q ?ptq4y hHeld ?ptq4r
          case ptq4h => (simp only [List.getElem?_toArray, List.getElem?_cons_succ, List.getElem?_cons_zero]; rfl)
          case ptq4q => exact fun _ _ _ h => h
          case ptq4y => (refine Or.inl ⟨by first | kernel_rfl | rfl, ?_⟩; intro w hSw; (try dsimp only at hSw); obtain ⟨⟨c0, c1, c2, c3, c4, c5⟩, ⟨d0, d1, d2, d3, d4, d5⟩, -⟩ := hSw; go_simp <;> (try with_reducible rfl))
          try simp only [Act.put, List.setIfInBounds_toArray, List.set_cons_zero, List.set_cons_succ]
          refine wpAnyH_take (i := 4) (oi := ?ptq5o) (v := ?ptq5v) ?ptq5h (by kernel_rfl) (by kernel_rfl) (by kernel_rfl) ?ptq5q ?ptq5y hHeld ?ptq5r
          case ptq5h => (simp only [List.getElem?_toArray, List.getElem?_cons_succ, List.getElem?_cons_zero]; rfl)
          case ptq5q => exact fun _ _ _ h => h
          case ptq5y => (refine Or.inl ⟨by first | kernel_rfl | rfl, ?_⟩; intro w hSw; (try dsimp only at hSw); obtain ⟨⟨c0, c1, c2, c3, c4, c5⟩, ⟨d0, d1, d2, d3, d4, d5⟩, -⟩ := hSw; go_simp <;> (try with_reducible rfl))
          try simp only [Act.put, List.setIfInBounds_toArray, List.set_cons_zero, List.set_cons_succ]
          refine wpAnyH_take (i := 5) (oi := ?ptq6o) (v := ?ptq6v) ?ptq6h (by kernel_rfl) (by kernel_rfl) (by kernel_rfl) ?ptq6q ?ptq6y hHeld ?ptq6r
          case ptq6h => (simp only [List.getElem?_toArray, List.getElem?_cons_succ, List.getElem?_cons_zero]; rfl)
          case ptq6q => exact fun _ _ _ h => h
          case ptq6y => (refine Or.inl ⟨by first | kernel_rfl | rfl, ?_⟩; intro w hSw; (try dsimp only at hSw); obtain ⟨⟨c0, c1, c2, c3, c4, c5⟩, ⟨d0, d1, d2, d3, d4, d5⟩, -⟩ := hSw; go_simp <;> (try with_reducible rfl))
          try simp only [Act.put, List.setIfInBounds_toArray, List.set_cons_zero, List.set_cons_succ]
          refine wpAnyH_take (i := 6) (oi := ?ptq7o) (v := ?ptq7v) ?ptq7h (by kernel_rfl) (by kernel_rfl) (by kernel_rfl) ?ptq7q ?ptq7y hHeld ?ptq7r
          case ptq7h => (simp only [List.getElem?_toArray, List.getElem?_cons_succ, List.getElem?_cons_zero]; rfl)
          case ptq7q => exact fun _ _ _ h => h
          case ptq7y => (refine Or.inl ⟨by first | kernel_rfl | rfl, ?_⟩; intro w hSw; (try dsimp only at hSw); obtain ⟨⟨c0, c1, c2, c3, c4, c5⟩, ⟨d0, d1, d2, d3, d4, d5⟩, -⟩ := hSw; go_simp <;> (try with_reducible rfl))
          try simp only [Act.put, List.setIfInBounds_toArray, List.set_cons_zero, List.set_cons_succ]
          refine wpAnyH_take (i := 7) (oi := ?ptq8o) (v := ?ptq8v) ?ptq8h (by kernel_rfl) (by kernel_rfl) (by kernel_rfl) ?ptq8q ?ptq8y hHeld ?ptq8r
          case ptq8h => (simp only [List.getElem?_toArray, List.getElem?_cons_succ, List.getElem?_cons_zero]; rfl)
          case ptq8q => exact fun _ _ _ h => h
          case ptq8y => (refine Or.inl ⟨by first | kernel_rfl | rfl, ?_⟩; intro w hSw; (try dsimp only at hSw); obtain ⟨⟨c0, c1, c2, c3, c4, c5⟩, ⟨d0, d1, d2, d3, d4, d5⟩, -⟩ := hSw; go_simp <;> (try with_reducible rfl))
          try simp only [Act.put, List.setIfInBounds_toArray, List.set_cons_zero, List.set_cons_succ]
          refine wpAnyH_take (i := 8) (oi := ?ptq9o) (v := ?ptq9v) ?ptq9h (by kernel_rfl) (by kernel_rfl) (by kernel_rfl) ?ptq9q ?ptq9y hHeld ?ptq9r
          case ptq9h => (simp only [List.getElem?_toArray, List.getElem?_cons_succ, List.getElem?_cons_zero]; rfl)
          case ptq9q => exact fun _ _ _ h => h
          case ptq9y => (refine Or.inl ⟨by first | kernel_rfl | rfl, ?_⟩; intro w hSw; (try dsimp only at hSw); obtain ⟨⟨c0, c1, c2, c3, c4, c5⟩, ⟨d0, d1, d2, d3, d4, d5⟩, -⟩ := hSw; go_simp <;> (try with_reducible rfl))
          try simp only [Act.put, List.setIfInBounds_toArray, List.set_cons_zero, List.set_cons_succ]
          refine wpAnyH_ready (rs := [9]) (by kernel_rfl) (by simp) ?_
          refine (AllReadyH.cons rfl (fun K hK => ?_) AllReadyH.nil)
          go_simp
          ((with_reducible refine (kb _).mono ?_); rintro e w' ⟨rfl, hb'⟩)
          refine hK.out _ _ (hHeld.keep hb') (fun hHeld => ?_)
          clear hK K
          try simp only [Act.put, List.setIfInBounds_toArray, List.set_cons_zero, List.set_cons_succ]
          refine wpAnyH_take (i := 10) (oi := ?ptq10o) (v := ?ptq10v) ?ptq10h (by kernel_rfl) (by kernel_rfl) (by kernel_rfl) ?ptq10q ?ptq10y hHeld ?ptq10r
          case ptq10h => (simp only [List.getElem?_toArray, List.getElem?_cons_succ, List.getElem?_cons_zero]; rfl)
          case ptq10q => exact fun _ _ _ h => h
          case ptq10y => (refine Or.inl ⟨by first | kernel_rfl | rfl, ?_⟩; intro w hSw; (try dsimp only at hSw); obtain ⟨⟨c0, c1, c2, c3, c4, c5⟩, ⟨d0, d1, d2, d3, d4, d5⟩, -⟩ := hSw; go_simp <;> (try with_reducible rfl))
          try simp only [Act.put, List.setIfInBounds_toArray, List.set_cons_zero, List.set_cons_succ]
          refine wpAnyH_done (by kernel_rfl) ?_ _
          have HH := Lib.hid (HGO.out (by first | rfl | trivial))
          have hbel := hHeld.bel
          go_wp2
          go_roundw
          case rel => exact ⟨k + 1, by omega, by omega, by go_num, hbel, HH⟩
          case measure => simp [intOf]; omega
        | false =>
          go_wp2_with fail
          refine wp_region_held_drew (S := (PP w b i j p q)) (by kernel_rfl) H0.drew (fun hHeld => ?_)
          refine wpAnyH_take (i := 0) (oi := ?pfq1o) (v := ?pfq1v) ?pfq1h (by kernel_rfl) (by kernel_rfl) (by kernel_rfl) ?pfq1q ?pfq1y hHeld ?pfq1r
          case pfq1h => (simp only [List.getElem?_toArray, List.getElem?_cons_zero]; rfl)
          case pfq1q => exact fun _ _ _ h => h
          case pfq1y => (refine Or.inl ⟨by first | kernel_rfl | rfl, ?_⟩; intro w hSw; (try dsimp only at hSw); obtain ⟨⟨c0, c1, c2, c3, c4, c5⟩, ⟨d0, d1, d2, d3, d4, d5⟩, -⟩ := hSw; go_simp <;> (try with_reducible rfl))
          try simp only [Act.put, List.setIfInBounds_toArray, List.set_cons_zero, List.set_cons_succ]
          refine wpAnyH_take (i := 1) (oi := ?pfq2o) (v := ?pfq2v) ?pfq2h (by kernel_rfl) (by kernel_rfl) (by kernel_rfl) ?pfq2q ?pfq2y hHeld ?pfq2r
          case pfq2h => (simp only [List.getElem?_toArray, List.getElem?_cons_succ, List.getElem?_cons_zero]; rfl)
          case pfq2q => exact fun _ _ _ h => h
          case pfq2y => (refine Or.inl ⟨by first | kernel_rfl | rfl, ?_⟩; intro w hSw; (try dsimp only at hSw); obtain ⟨⟨c0, c1, c2, c3, c4, c5⟩, ⟨d0, d1, d2, d3, d4, d5⟩, -⟩ := hSw; go_simp <;> (try with_reducible rfl))
          try simp only [Act.put, List.setIfInBounds_toArray, List.set_cons_zero, List.set_cons_succ]
          refine wpAnyH_take (i := 2) (oi := ?pfq3o) (v := ?pfq3v) ?pfq3h (by kernel_rfl) (by kernel_rfl) (by kernel_rfl) ?pfq3q ?pfq3y hHeld ?pfq3r
          case pfq3h => (simp only [List.getElem?_toArray, List.getElem?_cons_succ, List.getElem?_cons_zero]; rfl)
          case pfq3q => exact fun _ _ _ h => h
          case pfq3y => (refine Or.inl ⟨by first | kernel_rfl | rfl, ?_⟩; intro w hSw; (try dsimp only at hSw); obtain ⟨⟨c0, c1, c2, c3, c4, c5⟩, ⟨d0, d1, d2, d3, d4, d5⟩, -⟩ := hSw; go_simp <;> (try with_reducible rfl))
          try simp only [Act.put, List.setIfInBounds_toArray, List.set_cons_zero, List.set_cons_succ]
          refine wpAnyH_take (i := 3) (oi := ?pfq4o) (v := ?pfq4v) ?pfq4h (by kernel_rfl) (by kernel_rfl) (by kernel_rfl) ?pfq4q ?pfq4y hHeld ?pfq4r
          case pfq4h => (simp only [List.getElem?_toArray, List.getElem?_cons_succ, List.getElem?_cons_zero]; rfl)
          case pfq4q => exact fun _ _ _ h => h
          case pfq4y => (refine Or.inl ⟨by first | kernel_rfl | rfl, ?_⟩; intro w hSw; (try dsimp only at hSw); obtain ⟨⟨c0, c1, c2, c3, c4, c5⟩, ⟨d0, d1, d2, d3, d4, d5⟩, -⟩ := hSw; go_simp <;> (try with_reducible rfl))
          try simp only [Act.put, List.setIfInBounds_toArray, List.set_cons_zero, List.set_cons_succ]
          refine wpAnyH_take (i := 4) (oi := ?pfq5o) (v := ?pfq5v) ?pfq5h (by kernel_rfl) (by kernel_rfl) (by kernel_rfl) ?pfq5q ?pfq5y hHeld ?pfq5r
          case pfq5h => (simp only [List.getElem?_toArray, List.getElem?_cons_succ, List.getElem?_cons_zero]; rfl)
          case pfq5q => exact fun _ _ _ h => h
          case pfq5y => (refine Or.inl ⟨by first | kernel_rfl | rfl, ?_⟩; intro w hSw; (try dsimp only at hSw); obtain ⟨⟨c0, c1, c2, c3, c4, c5⟩, ⟨d0, d1, d2, d3, d4, d5⟩, -⟩ := hSw; go_simp <;> (try with_reducible rfl))
          try simp only [Act.put, List.setIfInBounds_toArray, List.set_cons_zero, List.set_cons_succ]
          refine wpAnyH_take (i := 5) (oi := ?pfq6o) (v := ?pfq6v) ?pfq6h (by kernel_rfl) (by kernel_rfl) (by kernel_rfl) ?pfq6q ?pfq6y hHeld ?pfq6r
          case pfq6h => (simp only [List.getElem?_toArray, List.getElem?_cons_succ, List.getElem?_cons_zero]; rfl)
          case pfq6q => exact fun _ _ _ h => h
          case pfq6y => (refine Or.inl ⟨by first | kernel_rfl | rfl, ?_⟩; intro w hSw; (try dsimp only at hSw); obtain ⟨⟨c0, c1, c2, c3, c4, c5⟩, ⟨d0, d1, d2, d3, d4, d5⟩, -⟩ := hSw; go_simp <;> (try with_reducible rfl))
          try simp only [Act.put, List.setIfInBounds_toArray, List.set_cons_zero, List.set_cons_succ]
          refine wpAnyH_take (i := 6) (oi := ?pfq7o) (v := ?pfq7v) ?pfq7h (by kernel_rfl) (by kernel_rfl) (by kernel_rfl) ?pfq7q ?pfq7y hHeld ?pfq7r
          case pfq7h => (simp only [List.getElem?_toArray, List.getElem?_cons_succ, List.getElem?_cons_zero]; rfl)
          case pfq7q => exact fun _ _ _ h => h
          case pfq7y => (refine Or.inl ⟨by first | kernel_rfl | rfl, ?_⟩; intro w hSw; (try dsimp only at hSw); obtain ⟨⟨c0, c1, c2, c3, c4, c5⟩, ⟨d0, d1, d2, d3, d4, d5⟩, -⟩ := hSw; go_simp <;> (try with_reducible rfl))
          try simp only [Act.put, List.setIfInBounds_toArray, List.set_cons_zero, List.set_cons_succ]
          refine wpAnyH_take (i := 7) (oi := ?pfq8o) (v := ?pfq8v) ?pfq8h (by kernel_rfl) (by kernel_rfl) (by kernel_rfl) ?pfq8q ?pfq8y hHeld ?pfq8r
          case pfq8h => (simp only [List.getElem?_toArray, List.getElem?_cons_succ, List.getElem?_cons_zero]; rfl)
          case pfq8q => exact fun _ _ _ h => h
          case pfq8y => (refine Or.inl ⟨by first | kernel_rfl | rfl, ?_⟩; intro w hSw; (try dsimp only at hSw); obtain ⟨⟨c0, c1, c2, c3, c4, c5⟩, ⟨d0, d1, d2, d3, d4, d5⟩, -⟩ := hSw; go_simp <;> (try with_reducible rfl))
          try simp only [Act.put, List.setIfInBounds_toArray, List.set_cons_zero, List.set_cons_succ]
          refine wpAnyH_take (i := 8) (oi := ?pfq9o) (v := ?pfq9v) ?pfq9h (by kernel_rfl) (by kernel_rfl) (by kernel_rfl) ?pfq9q ?pfq9y hHeld ?pfq9r
          case pfq9h => (simp only [List.getElem?_toArray, List.getElem?_cons_succ, List.getElem?_cons_zero]; rfl)
          case pfq9q => exact fun _ _ _ h => h
          case pfq9y => (refine Or.inl ⟨by first | kernel_rfl | rfl, ?_⟩; intro w hSw; (try dsimp only at hSw); obtain ⟨⟨c0, c1, c2, c3, c4, c5⟩, ⟨d0, d1, d2, d3, d4, d5⟩, -⟩ := hSw; go_simp <;> (try with_reducible rfl))
          try simp only [Act.put, List.setIfInBounds_toArray, List.set_cons_zero, List.set_cons_succ]
          refine wpAnyH_ready (rs := [9]) (by kernel_rfl) (by simp) ?_
          refine (AllReadyH.cons rfl (fun K hK => ?_) AllReadyH.nil)
          go_simp
          ((with_reducible refine (kb _).mono ?_); rintro e w' ⟨rfl, hb'⟩)
          refine hK.out _ _ (hHeld.keep hb') (fun hHeld => ?_)
          clear hK K
          try simp only [Act.put, List.setIfInBounds_toArray, List.set_cons_zero, List.set_cons_succ]
          refine wpAnyH_take (i := 10) (oi := ?pfq10o) (v := ?pfq10v) ?pfq10h (by kernel_rfl) (by kernel_rfl) (by kernel_rfl) ?pfq10q ?pfq10y hHeld ?pfq10r
          case pfq10h => (simp only [List.getElem?_toArray, List.getElem?_cons_succ, List.getElem?_cons_zero]; rfl)
          case pfq10q => exact fun _ _ _ h => h
          case pfq10y => (refine Or.inl ⟨by first | kernel_rfl | rfl, ?_⟩; intro w hSw; (try dsimp only at hSw); obtain ⟨⟨c0, c1, c2, c3, c4, c5⟩, ⟨d0, d1, d2, d3, d4, d5⟩, -⟩ := hSw; go_simp <;> (try with_reducible rfl))
          try simp only [Act.put, List.setIfInBounds_toArray, List.set_cons_zero, List.set_cons_succ]
          refine wpAnyH_done (by kernel_rfl) ?_ _
          have HH := Lib.hid (HNO.out (by first | rfl | trivial))
          have hbel := hHeld.bel
          go_wp2
          go_ret
          exact ⟨by rw [HH.out]; rfl, hbel⟩
    · have hlti : ¬ (k : Int) < (l.length : Int) := by omega
      have HH := Lib.hid (show srtB l = true from srtB_iff.2 fun j hj => hall.out j hj (by omega))
      have HB := Lib.hid hB
      clear hall hB
      go_wp2
      go_ret
      exact ⟨by rw [HH.out]; rfl, HB.out⟩

end Go.Proofs.Ytcjcbbpolhpphaa
