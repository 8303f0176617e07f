/- The walk of law SamplePoints: it returns true and turns nothing that was there. -/
import Derived.Test.YtjckphmkhikpaaaSampleAwake
import Derived.Test.YtjckphmkhikpaaaSampleRPoints
import Derived.Test.YtjckphmkhikpaaaSampleFew
set_option maxRecDepth 50000
namespace Go.Proofs.Ytjckphmkhikpaaa.samplePoints
open Go.RowKit Go.Proofs.Ytjckphmkhikpaaa Go.Proofs.Ytjckphmkhikpaaa.Vi Go.Proofs.Ytjckphmkhikpaaa.Mk

/-- Held while a region draws: two points of a slice. -/
structure Two (w : World) (b o o2 : Nat) (p q : Pt) (w' : World) : Prop where
  h1 : PtO w' b o p
  h2 : PtO w' b o2 q
  bel : Below w.heap.size w w'
theorem Two.keep {w w1 w2 : World} {b o o2 : Nat} {p q : Pt} (h : Two w b o o2 p q w1) (k : Below w1.heap.size w1 w2) : Two w b o o2 p q w2 := ⟨h.h1.below k h.h1.room, h.h2.below k h.h2.room, bel_next h.bel k⟩
theorem Two.drew {w w1 : World} {b o o2 : Nat} {p q : Pt} (h : Two w b o o2 p q w1) : Two w b o o2 p q w1.drew := h.keep ((Below.refl _ _).drew)

set_option maxHeartbeats 16000000 in
theorem core (a0 : Option Addr) (cap0 : Nat) (l : List Pt) (w : World) (hS : Pts w w.heap.size a0 l) (hl : l.length ≤ 9223372036854775807) (hf : ∀ p ∈ l, p.fits) : Calls Try.prog 5 #[.slice a0 l.length cap0] w fun e w' => e = .returned (.bool true) ∧ Below w.heap.size w w' := by
  obtain ⟨m, hm⟩ : ∃ m, fewL l = m := ⟨_, rfl⟩
  have HM30 := Lib.hid (show m.length ≤ 30 by rw [← hm]; exact fewL_len l)
  have HMF := Lib.hid (show ∀ p ∈ m, p.s.size ≤ 1000000 ∧ p.vfit from fun p hp => by rw [← hm] at hp; exact ⟨by have := fewL_short hp; omega, (fewL_fits hf hp).v⟩)
  obtain ⟨T, E, hTE⟩ : ∃ T E, ptsA m = (T, E) := ⟨_, _, rfl⟩
  have hk := fun w h => few_is a0 cap0 l w h hl
  have h1 := fun a5 c5 w h => points_is a5 c5 m w h (by have := HM30.out; omega) HMF.out
  have h2 := fun a5 c5 w h => rpoints_is a5 c5 m w h (by have := HM30.out; omega) HMF.out
  unfold PointsDone at h1 h2
  unfold FewDone at hk
  rw [hTE] at h1 h2
  rw [hm] at hk
  have HS := Lib.hid hS
  clear hS hf hTE hm hl
  go_enter Try.func5, Try.ntmps5
  go_wp2_with (first
    | (go_at_call 9; (with_reducible refine (awake_any _).mono ?_); rintro e w1 ⟨rfl, hb1⟩; have hS1 := (HS.out.below hb1).mono hb1.size)
    | (go_at_call 26; (with_reducible refine (hk _ hS1).mono ?_); rintro e w2 ⟨v, rfl, hR, hb2⟩; obtain ⟨a5, c5, rfl⟩ := hR.slice; have hP := hR.pts; have hB2 := bel_next hb1 hb2; clear hR hb2 hb1 hS1)
    | (go_at_call 27; (with_reducible refine (h1 _ _ _ hP).mono ?_); rintro e w3 ⟨rfl, hb3⟩; have hP3 := (hP.below hb3).mono hb3.size; have hB3 := bel_next hB2 hb3; clear hP hb3 hB2)
    | (go_at_call 28; (with_reducible refine (h2 _ _ _ hP3).mono ?_); rintro e w4 ⟨rfl, hb4⟩; have HP := Lib.hid ((hP3.below hb4).mono hb4.size); have HB := Lib.hid (bel_next hB3 hb4); clear hP3 hb4 hB3))
  clear hk h1 h2 HS
  go_loopw [9] (fun i wr => ∃ (k : Nat), k ≤ m.length ∧ i = .int .i64 (k : Int) ∧ Below w4.heap.size w4 wr) (fun i _ => m.length - (intOf i).toNat)
  case atStart => exact ⟨0, by omega, rfl, Below.refl _ _⟩
  case round =>
    obtain ⟨k, hk, rfl, hB⟩ := hrel
    have hm30 := HM30.out
    by_cases hlt : k < m.length
    · have hlti : (k : Int) < (m.length : Int) := by omega
      rcases HP.out.at_ with hm0 | ⟨b, off, rfl, hbw, hc⟩
      · rw [hm0] at hlt; simp at hlt
      · obtain ⟨w5, hw5⟩ : ∃ x, x = wr := ⟨_, rfl⟩
        subst hw5
        have hA := (hc k hlt).below hB hbw
        have HPF := Lib.hid (HMF.out _ (List.getElem_mem hlt)).1
        obtain ⟨p, hp⟩ : ∃ p, m[k] = p := ⟨_, rfl⟩
        rw [hp] at hA HPF
        have HA := Lib.hid hA
        have HB5 := Lib.hid hB
        have HC := Lib.hid hc
        have HH := HB
        clear hA hB hc hp
        go_wp2_with fail
        go_loopw [10] (fun i wr => ∃ (k2 : Nat), k2 ≤ m.length ∧ k2 ≤ 6 ∧ i = .int .i64 (k2 : Int) ∧ Below w5.heap.size w5 wr) (fun i _ => 6 - (intOf i).toNat)
        case atStart => exact ⟨0, by omega, by omega, rfl, Below.refl _ _⟩
        case round =>
          obtain ⟨k2, hk2, hk6, rfl, hB⟩ := hrel
          by_cases hgo : k2 < m.length ∧ k2 < 6
          · obtain ⟨g1, g2⟩ := hgo
            have g1i : (k2 : Int) < (m.length : Int) := by omega
            have g2i : (k2 : Int) < 6 := by omega
            have hA2 := ((HC.out k2 g1).below HB5.out hbw).below hB (Nat.lt_of_lt_of_le hbw HB5.out.size)
            have hA1 := HA.out.below hB HA.out.room
            obtain ⟨q, hq⟩ : ∃ q, m[k2] = q := ⟨_, rfl⟩
            rw [hq] at hA2
            have HT : Two wr b (off + k * 6) (off + k2 * 6) p q wr := ⟨hA1, hA2, Below.refl _ _⟩
            obtain ⟨x, hx⟩ : ∃ x, p.before q = x := ⟨_, rfl⟩
            obtain ⟨y, hy⟩ : ∃ y, p.newer q = y := ⟨_, rfl⟩
            have kb := fun w => before_is p q x w (Lib.hid hx)
            have kb' := fun w => rbefore_is p q x w (Lib.hid hx)
            have kn := fun w => newer_is p q y w (Lib.hid hy)
            have kn' := fun w => rnewer_is p q y w (Lib.hid hy)
            unfold ptV at kb kb' kn kn'
            have hxn : (x != x) = false := by simp
            have hyn : (y != y) = false := by simp
            have HBB := Lib.hid hB
            clear hA1 hA2 hq hx hy hB
            go_wp2_with fail
            refine wp_region_held_drew (S := (Two wr b (off + k * 6) (off + k2 * 6) p q)) (by kernel_rfl) HT.drew (fun hHeld => ?_)
            refine wpAnyH_take (i := 0) (oi := ?op1o) (v := ?op1v) ?op1h (by kernel_rfl) (by kernel_rfl) (by kernel_rfl) ?op1q ?op1y hHeld ?op1r
            case op1h => (simp only [List.getElem?_toArray, List.getElem?_cons_zero]; rfl)
            case op1q => exact fun _ _ _ h => h
            case op1y => (refine Or.inl ⟨by first | kernel_rfl | rfl, ?_⟩; intro w hSw; (try dsimp only at hSw); obtain ⟨⟨x0, x1, x2, x3, x4, x5⟩, ⟨y0, y1, y2, y3, y4, y5⟩, -⟩ := hSw; go_simp <;> (try with_reducible rfl))
            try simp only [Act.put, List.setIfInBounds_toArray, List.set_cons_zero, List.set_cons_succ]
            refine wpAnyH_take (i := 1) (oi := ?op2o) (v := ?op2v) ?op2h (by kernel_rfl) (by kernel_rfl) (by kernel_rfl) ?op2q ?op2y hHeld ?op2r
            case op2h => (simp only [List.getElem?_toArray, List.getElem?_cons_succ, List.getElem?_cons_zero]; rfl)
            case op2q => exact fun _ _ _ h => h
            case op2y => (refine Or.inl ⟨by first | kernel_rfl | rfl, ?_⟩; intro w hSw; (try dsimp only at hSw); obtain ⟨⟨x0, x1, x2, x3, x4, x5⟩, ⟨y0, y1, y2, y3, y4, y5⟩, -⟩ := hSw; go_simp <;> (try with_reducible rfl))
            try simp only [Act.put, List.setIfInBounds_toArray, List.set_cons_zero, List.set_cons_succ]
            refine wpAnyH_take (i := 2) (oi := ?op3o) (v := ?op3v) ?op3h (by kernel_rfl) (by kernel_rfl) (by kernel_rfl) ?op3q ?op3y hHeld ?op3r
            case op3h => (simp only [List.getElem?_toArray, List.getElem?_cons_succ, List.getElem?_cons_zero]; rfl)
            case op3q => exact fun _ _ _ h => h
            case op3y => (refine Or.inl ⟨by first | kernel_rfl | rfl, ?_⟩; intro w hSw; (try dsimp only at hSw); obtain ⟨⟨x0, x1, x2, x3, x4, x5⟩, ⟨y0, y1, y2, y3, y4, y5⟩, -⟩ := hSw; go_simp <;> (try with_reducible rfl))
            try simp only [Act.put, List.setIfInBounds_toArray, List.set_cons_zero, List.set_cons_succ]
            refine wpAnyH_take (i := 3) (oi := ?op4o) (v := ?op4v) ?op4h (by kernel_rfl) (by kernel_rfl) (by kernel_rfl) ?op4q ?op4y hHeld ?op4r
            case op4h => (simp only [List.getElem?_toArray, List.getElem?_cons_succ, List.getElem?_cons_zero]; rfl)
            case op4q => exact fun _ _ _ h => h
            case op4y => (refine Or.inl ⟨by first | kernel_rfl | rfl, ?_⟩; intro w hSw; (try dsimp only at hSw); obtain ⟨⟨x0, x1, x2, x3, x4, x5⟩, ⟨y0, y1, y2, y3, y4, y5⟩, -⟩ := hSw; go_simp <;> (try with_reducible rfl))
            try simp only [Act.put, List.setIfInBounds_toArray, List.set_cons_zero, List.set_cons_succ]
            refine wpAnyH_take (i := 4) (oi := ?op5o) (v := ?op5v) ?op5h (by kernel_rfl) (by kernel_rfl) (by kernel_rfl) ?op5q ?op5y hHeld ?op5r
            case op5h => (simp only [List.getElem?_toArray, List.getElem?_cons_succ, List.getElem?_cons_zero]; rfl)
            case op5q => exact fun _ _ _ h => h
            case op5y => (refine Or.inl ⟨by first | kernel_rfl | rfl, ?_⟩; intro w hSw; (try dsimp only at hSw); obtain ⟨⟨x0, x1, x2, x3, x4, x5⟩, ⟨y0, y1, y2, y3, y4, y5⟩, -⟩ := hSw; go_simp <;> (try with_reducible rfl))
            try simp only [Act.put, List.setIfInBounds_toArray, List.set_cons_zero, List.set_cons_succ]
            refine wpAnyH_take (i := 5) (oi := ?op6o) (v := ?op6v) ?op6h (by kernel_rfl) (by kernel_rfl) (by kernel_rfl) ?op6q ?op6y hHeld ?op6r
            case op6h => (simp only [List.getElem?_toArray, List.getElem?_cons_succ, List.getElem?_cons_zero]; rfl)
            case op6q => exact fun _ _ _ h => h
            case op6y => (refine Or.inl ⟨by first | kernel_rfl | rfl, ?_⟩; intro w hSw; (try dsimp only at hSw); obtain ⟨⟨x0, x1, x2, x3, x4, x5⟩, ⟨y0, y1, y2, y3, y4, y5⟩, -⟩ := hSw; go_simp <;> (try with_reducible rfl))
            try simp only [Act.put, List.setIfInBounds_toArray, List.set_cons_zero, List.set_cons_succ]
            refine wpAnyH_take (i := 6) (oi := ?op7o) (v := ?op7v) ?op7h (by kernel_rfl) (by kernel_rfl) (by kernel_rfl) ?op7q ?op7y hHeld ?op7r
            case op7h => (simp only [List.getElem?_toArray, List.getElem?_cons_succ, List.getElem?_cons_zero]; rfl)
            case op7q => exact fun _ _ _ h => h
            case op7y => (refine Or.inl ⟨by first | kernel_rfl | rfl, ?_⟩; intro w hSw; (try dsimp only at hSw); obtain ⟨⟨x0, x1, x2, x3, x4, x5⟩, ⟨y0, y1, y2, y3, y4, y5⟩, -⟩ := hSw; go_simp <;> (try with_reducible rfl))
            try simp only [Act.put, List.setIfInBounds_toArray, List.set_cons_zero, List.set_cons_succ]
            refine wpAnyH_take (i := 7) (oi := ?op8o) (v := ?op8v) ?op8h (by kernel_rfl) (by kernel_rfl) (by kernel_rfl) ?op8q ?op8y hHeld ?op8r
            case op8h => (simp only [List.getElem?_toArray, List.getElem?_cons_succ, List.getElem?_cons_zero]; rfl)
            case op8q => exact fun _ _ _ h => h
            case op8y => (refine Or.inl ⟨by first | kernel_rfl | rfl, ?_⟩; intro w hSw; (try dsimp only at hSw); obtain ⟨⟨x0, x1, x2, x3, x4, x5⟩, ⟨y0, y1, y2, y3, y4, y5⟩, -⟩ := hSw; go_simp <;> (try with_reducible rfl))
            try simp only [Act.put, List.setIfInBounds_toArray, List.set_cons_zero, List.set_cons_succ]
            refine wpAnyH_take (i := 9) (oi := ?op9o) (v := ?op9v) ?op9h (by kernel_rfl) (by kernel_rfl) (by kernel_rfl) ?op9q ?op9y hHeld ?op9r
            case op9h => (simp only [List.getElem?_toArray, List.getElem?_cons_succ, List.getElem?_cons_zero]; rfl)
            case op9q => exact fun _ _ _ h => h
            case op9y => (refine Or.inl ⟨by first | kernel_rfl | rfl, ?_⟩; intro w hSw; (try dsimp only at hSw); obtain ⟨⟨x0, x1, x2, x3, x4, x5⟩, ⟨y0, y1, y2, y3, y4, y5⟩, -⟩ := hSw; go_simp <;> (try with_reducible rfl))
            try simp only [Act.put, List.setIfInBounds_toArray, List.set_cons_zero, List.set_cons_succ]
            refine wpAnyH_take (i := 10) (oi := ?op10o) (v := ?op10v) ?op10h (by kernel_rfl) (by kernel_rfl) (by kernel_rfl) ?op10q ?op10y hHeld ?op10r
            case op10h => (simp only [List.getElem?_toArray, List.getElem?_cons_succ, List.getElem?_cons_zero]; rfl)
            case op10q => exact fun _ _ _ h => h
            case op10y => (refine Or.inl ⟨by first | kernel_rfl | rfl, ?_⟩; intro w hSw; (try dsimp only at hSw); obtain ⟨⟨x0, x1, x2, x3, x4, x5⟩, ⟨y0, y1, y2, y3, y4, y5⟩, -⟩ := hSw; go_simp <;> (try with_reducible rfl))
            try simp only [Act.put, List.setIfInBounds_toArray, List.set_cons_zero, List.set_cons_succ]
            refine wpAnyH_take (i := 11) (oi := ?op11o) (v := ?op11v) ?op11h (by kernel_rfl) (by kernel_rfl) (by kernel_rfl) ?op11q ?op11y hHeld ?op11r
            case op11h => (simp only [List.getElem?_toArray, List.getElem?_cons_succ, List.getElem?_cons_zero]; rfl)
            case op11q => exact fun _ _ _ h => h
            case op11y => (refine Or.inl ⟨by first | kernel_rfl | rfl, ?_⟩; intro w hSw; (try dsimp only at hSw); obtain ⟨⟨x0, x1, x2, x3, x4, x5⟩, ⟨y0, y1, y2, y3, y4, y5⟩, -⟩ := hSw; go_simp <;> (try with_reducible rfl))
            try simp only [Act.put, List.setIfInBounds_toArray, List.set_cons_zero, List.set_cons_succ]
            refine wpAnyH_take (i := 12) (oi := ?op12o) (v := ?op12v) ?op12h (by kernel_rfl) (by kernel_rfl) (by kernel_rfl) ?op12q ?op12y hHeld ?op12r
            case op12h => (simp only [List.getElem?_toArray, List.getElem?_cons_succ, List.getElem?_cons_zero]; rfl)
            case op12q => exact fun _ _ _ h => h
            case op12y => (refine Or.inl ⟨by first | kernel_rfl | rfl, ?_⟩; intro w hSw; (try dsimp only at hSw); obtain ⟨⟨x0, x1, x2, x3, x4, x5⟩, ⟨y0, y1, y2, y3, y4, y5⟩, -⟩ := hSw; go_simp <;> (try with_reducible rfl))
            try simp only [Act.put, List.setIfInBounds_toArray, List.set_cons_zero, List.set_cons_succ]
            refine wpAnyH_take (i := 13) (oi := ?op13o) (v := ?op13v) ?op13h (by kernel_rfl) (by kernel_rfl) (by kernel_rfl) ?op13q ?op13y hHeld ?op13r
            case op13h => (simp only [List.getElem?_toArray, List.getElem?_cons_succ, List.getElem?_cons_zero]; rfl)
            case op13q => exact fun _ _ _ h => h
            case op13y => (refine Or.inl ⟨by first | kernel_rfl | rfl, ?_⟩; intro w hSw; (try dsimp only at hSw); obtain ⟨⟨x0, x1, x2, x3, x4, x5⟩, ⟨y0, y1, y2, y3, y4, y5⟩, -⟩ := hSw; go_simp <;> (try with_reducible rfl))
            try simp only [Act.put, List.setIfInBounds_toArray, List.set_cons_zero, List.set_cons_succ]
            refine wpAnyH_take (i := 14) (oi := ?op14o) (v := ?op14v) ?op14h (by kernel_rfl) (by kernel_rfl) (by kernel_rfl) ?op14q ?op14y hHeld ?op14r
            case op14h => (simp only [List.getElem?_toArray, List.getElem?_cons_succ, List.getElem?_cons_zero]; rfl)
            case op14q => exact fun _ _ _ h => h
            case op14y => (refine Or.inl ⟨by first | kernel_rfl | rfl, ?_⟩; intro w hSw; (try dsimp only at hSw); obtain ⟨⟨x0, x1, x2, x3, x4, x5⟩, ⟨y0, y1, y2, y3, y4, y5⟩, -⟩ := hSw; go_simp <;> (try with_reducible rfl))
            try simp only [Act.put, List.setIfInBounds_toArray, List.set_cons_zero, List.set_cons_succ]
            refine wpAnyH_take (i := 15) (oi := ?op15o) (v := ?op15v) ?op15h (by kernel_rfl) (by kernel_rfl) (by kernel_rfl) ?op15q ?op15y hHeld ?op15r
            case op15h => (simp only [List.getElem?_toArray, List.getElem?_cons_succ, List.getElem?_cons_zero]; rfl)
            case op15q => exact fun _ _ _ h => h
            case op15y => (refine Or.inl ⟨by first | kernel_rfl | rfl, ?_⟩; intro w hSw; (try dsimp only at hSw); obtain ⟨⟨x0, x1, x2, x3, x4, x5⟩, ⟨y0, y1, y2, y3, y4, y5⟩, -⟩ := hSw; go_simp <;> (try with_reducible rfl))
            try simp only [Act.put, List.setIfInBounds_toArray, List.set_cons_zero, List.set_cons_succ]
            refine wpAnyH_take (i := 16) (oi := ?op16o) (v := ?op16v) ?op16h (by kernel_rfl) (by kernel_rfl) (by kernel_rfl) ?op16q ?op16y hHeld ?op16r
            case op16h => (simp only [List.getElem?_toArray, List.getElem?_cons_succ, List.getElem?_cons_zero]; rfl)
            case op16q => exact fun _ _ _ h => h
            case op16y => (refine Or.inl ⟨by first | kernel_rfl | rfl, ?_⟩; intro w hSw; (try dsimp only at hSw); obtain ⟨⟨x0, x1, x2, x3, x4, x5⟩, ⟨y0, y1, y2, y3, y4, y5⟩, -⟩ := hSw; go_simp <;> (try with_reducible rfl))
            try simp only [Act.put, List.setIfInBounds_toArray, List.set_cons_zero, List.set_cons_succ]
            refine wpAnyH_ready (rs := [8]) (by kernel_rfl) (by simp) ?_
            refine (AllReadyH.cons rfl (fun K hK => ?_) AllReadyH.nil)
            go_simp
            ((with_reducible refine (kb _).mono ?_); rintro e w' ⟨rfl, hb'⟩)
            refine hK.out _ _ (hHeld.keep hb') (fun hHeld => ?_)
            clear hK K
            try simp only [Act.put, List.setIfInBounds_toArray, List.set_cons_zero, List.set_cons_succ]
            refine wpAnyH_ready (rs := [17]) (by kernel_rfl) (by simp) ?_
            refine (AllReadyH.cons rfl (fun K hK => ?_) AllReadyH.nil)
            go_simp
            ((with_reducible refine (kb' _).mono ?_); rintro e w' ⟨rfl, hb'⟩)
            refine hK.out _ _ (hHeld.keep hb') (fun hHeld => ?_)
            clear hK K
            try simp only [Act.put, List.setIfInBounds_toArray, List.set_cons_zero, List.set_cons_succ]
            refine wpAnyH_take (i := 18) (oi := ?op17o) (v := ?op17v) ?op17h (by kernel_rfl) (by kernel_rfl) (by kernel_rfl) ?op17q ?op17y hHeld ?op17r
            case op17h => (simp only [List.getElem?_toArray, List.getElem?_cons_succ, List.getElem?_cons_zero]; rfl)
            case op17q => exact fun _ _ _ h => h
            case op17y => (refine Or.inl ⟨by first | kernel_rfl | rfl, ?_⟩; intro w hSw; (try dsimp only at hSw); obtain ⟨⟨x0, x1, x2, x3, x4, x5⟩, ⟨y0, y1, y2, y3, y4, y5⟩, -⟩ := hSw; go_simp <;> (try with_reducible rfl))
            try simp only [Act.put, List.setIfInBounds_toArray, List.set_cons_zero, List.set_cons_succ]
            refine wpAnyH_take (i := 19) (oi := ?op18o) (v := ?op18v) ?op18h (by kernel_rfl) (by kernel_rfl) (by kernel_rfl) ?op18q ?op18y hHeld ?op18r
            case op18h => (simp only [List.getElem?_toArray, List.getElem?_cons_succ, List.getElem?_cons_zero]; rfl)
            case op18q => exact fun _ _ _ h => h
            case op18y => (refine Or.inl ⟨by first | kernel_rfl | rfl, ?_⟩; intro w hSw; (try dsimp only at hSw); obtain ⟨⟨x0, x1, x2, x3, x4, x5⟩, ⟨y0, y1, y2, y3, y4, y5⟩, -⟩ := hSw; go_simp <;> (try with_reducible rfl))
            try simp only [Act.put, List.setIfInBounds_toArray, List.set_cons_zero, List.set_cons_succ]
            refine wpAnyH_take (i := 20) (oi := ?op19o) (v := ?op19v) ?op19h (by kernel_rfl) (by kernel_rfl) (by kernel_rfl) ?op19q ?op19y hHeld ?op19r
            case op19h => (simp only [List.getElem?_toArray, List.getElem?_cons_succ, List.getElem?_cons_zero]; rfl)
            case op19q => exact fun _ _ _ h => h
            case op19y => (refine Or.inl ⟨by first | kernel_rfl | rfl, ?_⟩; intro w hSw; (try dsimp only at hSw); obtain ⟨⟨x0, x1, x2, x3, x4, x5⟩, ⟨y0, y1, y2, y3, y4, y5⟩, -⟩ := hSw; go_simp <;> (try with_reducible rfl))
            try simp only [Act.put, List.setIfInBounds_toArray, List.set_cons_zero, List.set_cons_succ]
            refine wpAnyH_take (i := 21) (oi := ?op20o) (v := ?op20v) ?op20h (by kernel_rfl) (by kernel_rfl) (by kernel_rfl) ?op20q ?op20y hHeld ?op20r
            case op20h => (simp only [List.getElem?_toArray, List.getElem?_cons_succ, List.getElem?_cons_zero]; rfl)
            case op20q => exact fun _ _ _ h => h
            case op20y => (refine Or.inl ⟨by first | kernel_rfl | rfl, ?_⟩; intro w hSw; (try dsimp only at hSw); obtain ⟨⟨x0, x1, x2, x3, x4, x5⟩, ⟨y0, y1, y2, y3, y4, y5⟩, -⟩ := hSw; go_simp <;> (try with_reducible rfl))
            try simp only [Act.put, List.setIfInBounds_toArray, List.set_cons_zero, List.set_cons_succ]
            refine wpAnyH_take (i := 22) (oi := ?op21o) (v := ?op21v) ?op21h (by kernel_rfl) (by kernel_rfl) (by kernel_rfl) ?op21q ?op21y hHeld ?op21r
            case op21h => (simp only [List.getElem?_toArray, List.getElem?_cons_succ, List.getElem?_cons_zero]; rfl)
            case op21q => exact fun _ _ _ h => h
            case op21y => (refine Or.inl ⟨by first | kernel_rfl | rfl, ?_⟩; intro w hSw; (try dsimp only at hSw); obtain ⟨⟨x0, x1, x2, x3, x4, x5⟩, ⟨y0, y1, y2, y3, y4, y5⟩, -⟩ := hSw; go_simp <;> (try with_reducible rfl))
            try simp only [Act.put, List.setIfInBounds_toArray, List.set_cons_zero, List.set_cons_succ]
            refine wpAnyH_take (i := 23) (oi := ?op22o) (v := ?op22v) ?op22h (by kernel_rfl) (by kernel_rfl) (by kernel_rfl) ?op22q ?op22y hHeld ?op22r
            case op22h => (simp only [List.getElem?_toArray, List.getElem?_cons_succ, List.getElem?_cons_zero]; rfl)
            case op22q => exact fun _ _ _ h => h
            case op22y => (refine Or.inl ⟨by first | kernel_rfl | rfl, ?_⟩; intro w hSw; (try dsimp only at hSw); obtain ⟨⟨x0, x1, x2, x3, x4, x5⟩, ⟨y0, y1, y2, y3, y4, y5⟩, -⟩ := hSw; go_simp <;> (try with_reducible rfl))
            try simp only [Act.put, List.setIfInBounds_toArray, List.set_cons_zero, List.set_cons_succ]
            refine wpAnyH_take (i := 24) (oi := ?op23o) (v := ?op23v) ?op23h (by kernel_rfl) (by kernel_rfl) (by kernel_rfl) ?op23q ?op23y hHeld ?op23r
            case op23h => (simp only [List.getElem?_toArray, List.getElem?_cons_succ, List.getElem?_cons_zero]; rfl)
            case op23q => exact fun _ _ _ h => h
            case op23y => (refine Or.inl ⟨by first | kernel_rfl | rfl, ?_⟩; intro w hSw; (try dsimp only at hSw); obtain ⟨⟨x0, x1, x2, x3, x4, x5⟩, ⟨y0, y1, y2, y3, y4, y5⟩, -⟩ := hSw; go_simp <;> (try with_reducible rfl))
            try simp only [Act.put, List.setIfInBounds_toArray, List.set_cons_zero, List.set_cons_succ]
            refine wpAnyH_take (i := 25) (oi := ?op24o) (v := ?op24v) ?op24h (by kernel_rfl) (by kernel_rfl) (by kernel_rfl) ?op24q ?op24y hHeld ?op24r
            case op24h => (simp only [List.getElem?_toArray, List.getElem?_cons_succ, List.getElem?_cons_zero]; rfl)
            case op24q => exact fun _ _ _ h => h
            case op24y => (refine Or.inl ⟨by first | kernel_rfl | rfl, ?_⟩; intro w hSw; (try dsimp only at hSw); obtain ⟨⟨x0, x1, x2, x3, x4, x5⟩, ⟨y0, y1, y2, y3, y4, y5⟩, -⟩ := hSw; go_simp <;> (try with_reducible rfl))
            try simp only [Act.put, List.setIfInBounds_toArray, List.set_cons_zero, List.set_cons_succ]
            refine wpAnyH_take (i := 26) (oi := ?op25o) (v := ?op25v) ?op25h (by kernel_rfl) (by kernel_rfl) (by kernel_rfl) ?op25q ?op25y hHeld ?op25r
            case op25h => (simp only [List.getElem?_toArray, List.getElem?_cons_succ, List.getElem?_cons_zero]; rfl)
            case op25q => exact fun _ _ _ h => h
            case op25y => (refine Or.inl ⟨by first | kernel_rfl | rfl, ?_⟩; intro w hSw; (try dsimp only at hSw); obtain ⟨⟨x0, x1, x2, x3, x4, x5⟩, ⟨y0, y1, y2, y3, y4, y5⟩, -⟩ := hSw; go_simp <;> (try with_reducible rfl))
            try simp only [Act.put, List.setIfInBounds_toArray, List.set_cons_zero, List.set_cons_succ]
            refine wpAnyH_take (i := 27) (oi := ?op26o) (v := ?op26v) ?op26h (by kernel_rfl) (by kernel_rfl) (by kernel_rfl) ?op26q ?op26y hHeld ?op26r
            case op26h => (simp only [List.getElem?_toArray, List.getElem?_cons_succ, List.getElem?_cons_zero]; rfl)
            case op26q => exact fun _ _ _ h => h
            case op26y => (refine Or.inl ⟨by first | kernel_rfl | rfl, ?_⟩; intro w hSw; (try dsimp only at hSw); obtain ⟨⟨x0, x1, x2, x3, x4, x5⟩, ⟨y0, y1, y2, y3, y4, y5⟩, -⟩ := hSw; go_simp <;> (try with_reducible rfl))
            try simp only [Act.put, List.setIfInBounds_toArray, List.set_cons_zero, List.set_cons_succ]
            refine wpAnyH_take (i := 29) (oi := ?op27o) (v := ?op27v) ?op27h (by kernel_rfl) (by kernel_rfl) (by kernel_rfl) ?op27q ?op27y hHeld ?op27r
            case op27h => (simp only [List.getElem?_toArray, List.getElem?_cons_succ, List.getElem?_cons_zero]; rfl)
            case op27q => exact fun _ _ _ h => h
            case op27y => (refine Or.inl ⟨by first | kernel_rfl | rfl, ?_⟩; intro w hSw; (try dsimp only at hSw); obtain ⟨⟨x0, x1, x2, x3, x4, x5⟩, ⟨y0, y1, y2, y3, y4, y5⟩, -⟩ := hSw; go_simp <;> (try with_reducible rfl))
            try simp only [Act.put, List.setIfInBounds_toArray, List.set_cons_zero, List.set_cons_succ]
            refine wpAnyH_take (i := 30) (oi := ?op28o) (v := ?op28v) ?op28h (by kernel_rfl) (by kernel_rfl) (by kernel_rfl) ?op28q ?op28y hHeld ?op28r
            case op28h => (simp only [List.getElem?_toArray, List.getElem?_cons_succ, List.getElem?_cons_zero]; rfl)
            case op28q => exact fun _ _ _ h => h
            case op28y => (refine Or.inl ⟨by first | kernel_rfl | rfl, ?_⟩; intro w hSw; (try dsimp only at hSw); obtain ⟨⟨x0, x1, x2, x3, x4, x5⟩, ⟨y0, y1, y2, y3, y4, y5⟩, -⟩ := hSw; go_simp <;> (try with_reducible rfl))
            try simp only [Act.put, List.setIfInBounds_toArray, List.set_cons_zero, List.set_cons_succ]
            refine wpAnyH_take (i := 31) (oi := ?op29o) (v := ?op29v) ?op29h (by kernel_rfl) (by kernel_rfl) (by kernel_rfl) ?op29q ?op29y hHeld ?op29r
            case op29h => (simp only [List.getElem?_toArray, List.getElem?_cons_succ, List.getElem?_cons_zero]; rfl)
            case op29q => exact fun _ _ _ h => h
            case op29y => (refine Or.inl ⟨by first | kernel_rfl | rfl, ?_⟩; intro w hSw; (try dsimp only at hSw); obtain ⟨⟨x0, x1, x2, x3, x4, x5⟩, ⟨y0, y1, y2, y3, y4, y5⟩, -⟩ := hSw; go_simp <;> (try with_reducible rfl))
            try simp only [Act.put, List.setIfInBounds_toArray, List.set_cons_zero, List.set_cons_succ]
            refine wpAnyH_take (i := 32) (oi := ?op30o) (v := ?op30v) ?op30h (by kernel_rfl) (by kernel_rfl) (by kernel_rfl) ?op30q ?op30y hHeld ?op30r
            case op30h => (simp only [List.getElem?_toArray, List.getElem?_cons_succ, List.getElem?_cons_zero]; rfl)
            case op30q => exact fun _ _ _ h => h
            case op30y => (refine Or.inl ⟨by first | kernel_rfl | rfl, ?_⟩; intro w hSw; (try dsimp only at hSw); obtain ⟨⟨x0, x1, x2, x3, x4, x5⟩, ⟨y0, y1, y2, y3, y4, y5⟩, -⟩ := hSw; go_simp <;> (try with_reducible rfl))
            try simp only [Act.put, List.setIfInBounds_toArray, List.set_cons_zero, List.set_cons_succ]
            refine wpAnyH_take (i := 33) (oi := ?op31o) (v := ?op31v) ?op31h (by kernel_rfl) (by kernel_rfl) (by kernel_rfl) ?op31q ?op31y hHeld ?op31r
            case op31h => (simp only [List.getElem?_toArray, List.getElem?_cons_succ, List.getElem?_cons_zero]; rfl)
            case op31q => exact fun _ _ _ h => h
            case op31y => (refine Or.inl ⟨by first | kernel_rfl | rfl, ?_⟩; intro w hSw; (try dsimp only at hSw); obtain ⟨⟨x0, x1, x2, x3, x4, x5⟩, ⟨y0, y1, y2, y3, y4, y5⟩, -⟩ := hSw; go_simp <;> (try with_reducible rfl))
            try simp only [Act.put, List.setIfInBounds_toArray, List.set_cons_zero, List.set_cons_succ]
            refine wpAnyH_take (i := 34) (oi := ?op32o) (v := ?op32v) ?op32h (by kernel_rfl) (by kernel_rfl) (by kernel_rfl) ?op32q ?op32y hHeld ?op32r
            case op32h => (simp only [List.getElem?_toArray, List.getElem?_cons_succ, List.getElem?_cons_zero]; rfl)
            case op32q => exact fun _ _ _ h => h
            case op32y => (refine Or.inl ⟨by first | kernel_rfl | rfl, ?_⟩; intro w hSw; (try dsimp only at hSw); obtain ⟨⟨x0, x1, x2, x3, x4, x5⟩, ⟨y0, y1, y2, y3, y4, y5⟩, -⟩ := hSw; go_simp <;> (try with_reducible rfl))
            try simp only [Act.put, List.setIfInBounds_toArray, List.set_cons_zero, List.set_cons_succ]
            refine wpAnyH_take (i := 35) (oi := ?op33o) (v := ?op33v) ?op33h (by kernel_rfl) (by kernel_rfl) (by kernel_rfl) ?op33q ?op33y hHeld ?op33r
            case op33h => (simp only [List.getElem?_toArray, List.getElem?_cons_succ, List.getElem?_cons_zero]; rfl)
            case op33q => exact fun _ _ _ h => h
            case op33y => (refine Or.inl ⟨by first | kernel_rfl | rfl, ?_⟩; intro w hSw; (try dsimp only at hSw); obtain ⟨⟨x0, x1, x2, x3, x4, x5⟩, ⟨y0, y1, y2, y3, y4, y5⟩, -⟩ := hSw; go_simp <;> (try with_reducible rfl))
            try simp only [Act.put, List.setIfInBounds_toArray, List.set_cons_zero, List.set_cons_succ]
            refine wpAnyH_take (i := 36) (oi := ?op34o) (v := ?op34v) ?op34h (by kernel_rfl) (by kernel_rfl) (by kernel_rfl) ?op34q ?op34y hHeld ?op34r
            case op34h => (simp only [List.getElem?_toArray, List.getElem?_cons_succ, List.getElem?_cons_zero]; rfl)
            case op34q => exact fun _ _ _ h => h
            case op34y => (refine Or.inl ⟨by first | kernel_rfl | rfl, ?_⟩; intro w hSw; (try dsimp only at hSw); obtain ⟨⟨x0, x1, x2, x3, x4, x5⟩, ⟨y0, y1, y2, y3, y4, y5⟩, -⟩ := hSw; go_simp <;> (try with_reducible rfl))
            try simp only [Act.put, List.setIfInBounds_toArray, List.set_cons_zero, List.set_cons_succ]
            refine wpAnyH_ready (rs := [28]) (by kernel_rfl) (by simp) ?_
            refine (AllReadyH.cons rfl (fun K hK => ?_) AllReadyH.nil)
            go_simp
            ((with_reducible refine (kn _).mono ?_); rintro e w' ⟨rfl, hb'⟩)
            refine hK.out _ _ (hHeld.keep hb') (fun hHeld => ?_)
            clear hK K
            try simp only [Act.put, List.setIfInBounds_toArray, List.set_cons_zero, List.set_cons_succ]
            refine wpAnyH_ready (rs := [37]) (by kernel_rfl) (by simp) ?_
            refine (AllReadyH.cons rfl (fun K hK => ?_) AllReadyH.nil)
            go_simp
            ((with_reducible refine (kn' _).mono ?_); rintro e w' ⟨rfl, hb'⟩)
            refine hK.out _ _ (hHeld.keep hb') (fun hHeld => ?_)
            clear hK K
            try simp only [Act.put, List.setIfInBounds_toArray, List.set_cons_zero, List.set_cons_succ]
            refine wpAnyH_take (i := 38) (oi := ?op35o) (v := ?op35v) ?op35h (by kernel_rfl) (by kernel_rfl) (by kernel_rfl) ?op35q ?op35y hHeld ?op35r
            case op35h => (simp only [List.getElem?_toArray, List.getElem?_cons_succ, List.getElem?_cons_zero]; rfl)
            case op35q => exact fun _ _ _ h => h
            case op35y => (refine Or.inl ⟨by first | kernel_rfl | rfl, ?_⟩; intro w hSw; (try dsimp only at hSw); obtain ⟨⟨x0, x1, x2, x3, x4, x5⟩, ⟨y0, y1, y2, y3, y4, y5⟩, -⟩ := hSw; go_simp <;> (try with_reducible rfl))
            try simp only [Act.put, List.setIfInBounds_toArray, List.set_cons_zero, List.set_cons_succ]
            refine wpAnyH_take (i := 39) (oi := ?op36o) (v := ?op36v) ?op36h (by kernel_rfl) (by kernel_rfl) (by kernel_rfl) ?op36q ?op36y hHeld ?op36r
            case op36h => (simp only [List.getElem?_toArray, List.getElem?_cons_succ, List.getElem?_cons_zero]; rfl)
            case op36q => exact fun _ _ _ h => h
            case op36y => (refine Or.inl ⟨by first | kernel_rfl | rfl, ?_⟩; intro w hSw; (try dsimp only at hSw); obtain ⟨⟨x0, x1, x2, x3, x4, x5⟩, ⟨y0, y1, y2, y3, y4, y5⟩, -⟩ := hSw; go_simp <;> (try with_reducible rfl))
            try simp only [Act.put, List.setIfInBounds_toArray, List.set_cons_zero, List.set_cons_succ]
            refine wpAnyH_done (by kernel_rfl) ?_ _
            have hbel := hHeld.bel
            go_wp2
            go_roundw
            case rel => exact ⟨k2 + 1, by omega, by omega, by go_num, HBB.out.trans (hbel.mono HBB.out.size)⟩
            case measure => simp [intOf]; omega
          · have hg2 : ((k2 : Int) < (m.length : Int) ∧ ¬ (k2 : Int) < 6) ∨ ¬ (k2 : Int) < (m.length : Int) := by omega
            have hA1 := HA.out.below hB HA.out.room
            have HT : Two wr b (off + k * 6) (off + k * 6) p p wr := ⟨hA1, hA1, Below.refl _ _⟩
            obtain ⟨er, her⟩ : ∃ er, p.err = er := ⟨_, rfl⟩
            have kc := fun w => checkp_is p w (by have := HPF.out; omega)
            have kc' := fun w => rcheckp_is p w (by have := HPF.out; omega)
            rw [her] at kc kc'
            unfold ptV at kc kc'
            have hen : (er != er) = false := by simp
            have HBB := Lib.hid hB
            clear hA1 her hB hgo
            rcases hg2 with ⟨hg2, hg3⟩ | hg2
            · go_wp2_with fail
              refine wp_region_held_drew (S := (Two wr b (off + k * 6) (off + k * 6) p p)) (by kernel_rfl) HT.drew (fun hHeld => ?_)
              refine wpAnyH_take (i := 0) (oi := ?oq01o) (v := ?oq01v) ?oq01h (by kernel_rfl) (by kernel_rfl) (by kernel_rfl) ?oq01q ?oq01y hHeld ?oq01r
              case oq01h => (simp only [List.getElem?_toArray, List.getElem?_cons_zero]; rfl)
              case oq01q => exact fun _ _ _ h => h
              case oq01y => (refine Or.inl ⟨by first | kernel_rfl | rfl, ?_⟩; intro w hSw; (try dsimp only at hSw); obtain ⟨⟨x0, x1, x2, x3, x4, x5⟩, -, -⟩ := hSw; go_simp <;> (try with_reducible rfl))
              try simp only [Act.put, List.setIfInBounds_toArray, List.set_cons_zero, List.set_cons_succ]
              refine wpAnyH_take (i := 1) (oi := ?oq02o) (v := ?oq02v) ?oq02h (by kernel_rfl) (by kernel_rfl) (by kernel_rfl) ?oq02q ?oq02y hHeld ?oq02r
              case oq02h => (simp only [List.getElem?_toArray, List.getElem?_cons_succ, List.getElem?_cons_zero]; rfl)
              case oq02q => exact fun _ _ _ h => h
              case oq02y => (refine Or.inl ⟨by first | kernel_rfl | rfl, ?_⟩; intro w hSw; (try dsimp only at hSw); obtain ⟨⟨x0, x1, x2, x3, x4, x5⟩, -, -⟩ := hSw; go_simp <;> (try with_reducible rfl))
              try simp only [Act.put, List.setIfInBounds_toArray, List.set_cons_zero, List.set_cons_succ]
              refine wpAnyH_take (i := 2) (oi := ?oq03o) (v := ?oq03v) ?oq03h (by kernel_rfl) (by kernel_rfl) (by kernel_rfl) ?oq03q ?oq03y hHeld ?oq03r
              case oq03h => (simp only [List.getElem?_toArray, List.getElem?_cons_succ, List.getElem?_cons_zero]; rfl)
              case oq03q => exact fun _ _ _ h => h
              case oq03y => (refine Or.inl ⟨by first | kernel_rfl | rfl, ?_⟩; intro w hSw; (try dsimp only at hSw); obtain ⟨⟨x0, x1, x2, x3, x4, x5⟩, -, -⟩ := hSw; go_simp <;> (try with_reducible rfl))
              try simp only [Act.put, List.setIfInBounds_toArray, List.set_cons_zero, List.set_cons_succ]
              refine wpAnyH_take (i := 3) (oi := ?oq04o) (v := ?oq04v) ?oq04h (by kernel_rfl) (by kernel_rfl) (by kernel_rfl) ?oq04q ?oq04y hHeld ?oq04r
              case oq04h => (simp only [List.getElem?_toArray, List.getElem?_cons_succ, List.getElem?_cons_zero]; rfl)
              case oq04q => exact fun _ _ _ h => h
              case oq04y => (refine Or.inl ⟨by first | kernel_rfl | rfl, ?_⟩; intro w hSw; (try dsimp only at hSw); obtain ⟨⟨x0, x1, x2, x3, x4, x5⟩, -, -⟩ := hSw; go_simp <;> (try with_reducible rfl))
              try simp only [Act.put, List.setIfInBounds_toArray, List.set_cons_zero, List.set_cons_succ]
              refine wpAnyH_take (i := 5) (oi := ?oq05o) (v := ?oq05v) ?oq05h (by kernel_rfl) (by kernel_rfl) (by kernel_rfl) ?oq05q ?oq05y hHeld ?oq05r
              case oq05h => (simp only [List.getElem?_toArray, List.getElem?_cons_succ, List.getElem?_cons_zero]; rfl)
              case oq05q => exact fun _ _ _ h => h
              case oq05y => (refine Or.inl ⟨by first | kernel_rfl | rfl, ?_⟩; intro w hSw; (try dsimp only at hSw); obtain ⟨⟨x0, x1, x2, x3, x4, x5⟩, -, -⟩ := hSw; go_simp <;> (try with_reducible rfl))
              try simp only [Act.put, List.setIfInBounds_toArray, List.set_cons_zero, List.set_cons_succ]
              refine wpAnyH_take (i := 6) (oi := ?oq06o) (v := ?oq06v) ?oq06h (by kernel_rfl) (by kernel_rfl) (by kernel_rfl) ?oq06q ?oq06y hHeld ?oq06r
              case oq06h => (simp only [List.getElem?_toArray, List.getElem?_cons_succ, List.getElem?_cons_zero]; rfl)
              case oq06q => exact fun _ _ _ h => h
              case oq06y => (refine Or.inl ⟨by first | kernel_rfl | rfl, ?_⟩; intro w hSw; (try dsimp only at hSw); obtain ⟨⟨x0, x1, x2, x3, x4, x5⟩, -, -⟩ := hSw; go_simp <;> (try with_reducible rfl))
              try simp only [Act.put, List.setIfInBounds_toArray, List.set_cons_zero, List.set_cons_succ]
              refine wpAnyH_take (i := 7) (oi := ?oq07o) (v := ?oq07v) ?oq07h (by kernel_rfl) (by kernel_rfl) (by kernel_rfl) ?oq07q ?oq07y hHeld ?oq07r
              case oq07h => (simp only [List.getElem?_toArray, List.getElem?_cons_succ, List.getElem?_cons_zero]; rfl)
              case oq07q => exact fun _ _ _ h => h
              case oq07y => (refine Or.inl ⟨by first | kernel_rfl | rfl, ?_⟩; intro w hSw; (try dsimp only at hSw); obtain ⟨⟨x0, x1, x2, x3, x4, x5⟩, -, -⟩ := hSw; go_simp <;> (try with_reducible rfl))
              try simp only [Act.put, List.setIfInBounds_toArray, List.set_cons_zero, List.set_cons_succ]
              refine wpAnyH_take (i := 8) (oi := ?oq08o) (v := ?oq08v) ?oq08h (by kernel_rfl) (by kernel_rfl) (by kernel_rfl) ?oq08q ?oq08y hHeld ?oq08r
              case oq08h => (simp only [List.getElem?_toArray, List.getElem?_cons_succ, List.getElem?_cons_zero]; rfl)
              case oq08q => exact fun _ _ _ h => h
              case oq08y => (refine Or.inl ⟨by first | kernel_rfl | rfl, ?_⟩; intro w hSw; (try dsimp only at hSw); obtain ⟨⟨x0, x1, x2, x3, x4, x5⟩, -, -⟩ := hSw; go_simp <;> (try with_reducible rfl))
              try simp only [Act.put, List.setIfInBounds_toArray, List.set_cons_zero, List.set_cons_succ]
              refine wpAnyH_ready (rs := [4]) (by kernel_rfl) (by simp) ?_
              refine (AllReadyH.cons rfl (fun K hK => ?_) AllReadyH.nil)
              go_simp
              ((with_reducible refine (kc _).mono ?_); rintro e w' ⟨rfl, hb'⟩)
              refine hK.out _ _ (hHeld.keep hb') (fun hHeld => ?_)
              clear hK K
              try simp only [Act.put, List.setIfInBounds_toArray, List.set_cons_zero, List.set_cons_succ]
              refine wpAnyH_ready (rs := [9]) (by kernel_rfl) (by simp) ?_
              refine (AllReadyH.cons rfl (fun K hK => ?_) AllReadyH.nil)
              go_simp
              ((with_reducible refine (kc' _).mono ?_); rintro e w' ⟨rfl, hb'⟩)
              refine hK.out _ _ (hHeld.keep hb') (fun hHeld => ?_)
              clear hK K
              try simp only [Act.put, List.setIfInBounds_toArray, List.set_cons_zero, List.set_cons_succ]
              refine wpAnyH_take (i := 10) (oi := ?oq09o) (v := ?oq09v) ?oq09h (by kernel_rfl) (by kernel_rfl) (by kernel_rfl) ?oq09q ?oq09y hHeld ?oq09r
              case oq09h => (simp only [List.getElem?_toArray, List.getElem?_cons_succ, List.getElem?_cons_zero]; rfl)
              case oq09q => exact fun _ _ _ h => h
              case oq09y => (refine Or.inl ⟨by first | kernel_rfl | rfl, ?_⟩; intro w hSw; (try dsimp only at hSw); obtain ⟨⟨x0, x1, x2, x3, x4, x5⟩, -, -⟩ := hSw; go_simp <;> (try with_reducible rfl))
              try simp only [Act.put, List.setIfInBounds_toArray, List.set_cons_zero, List.set_cons_succ]
              refine wpAnyH_done (by kernel_rfl) ?_ _
              have hbel := hHeld.bel
              go_wp2
              go_roundw
              case rel => exact ⟨k + 1, by omega, by go_num, HB5.out.trans ((HBB.out.trans (hbel.mono HBB.out.size)).mono HB5.out.size)⟩
              case measure => simp [intOf]; omega
            · go_wp2_with fail
              refine wp_region_held_drew (S := (Two wr b (off + k * 6) (off + k * 6) p p)) (by kernel_rfl) HT.drew (fun hHeld => ?_)
              refine wpAnyH_take (i := 0) (oi := ?oq11o) (v := ?oq11v) ?oq11h (by kernel_rfl) (by kernel_rfl) (by kernel_rfl) ?oq11q ?oq11y hHeld ?oq11r
              case oq11h => (simp only [List.getElem?_toArray, List.getElem?_cons_zero]; rfl)
              case oq11q => exact fun _ _ _ h => h
              case oq11y => (refine Or.inl ⟨by first | kernel_rfl | rfl, ?_⟩; intro w hSw; (try dsimp only at hSw); obtain ⟨⟨x0, x1, x2, x3, x4, x5⟩, -, -⟩ := hSw; go_simp <;> (try with_reducible rfl))
              try simp only [Act.put, List.setIfInBounds_toArray, List.set_cons_zero, List.set_cons_succ]
              refine wpAnyH_take (i := 1) (oi := ?oq12o) (v := ?oq12v) ?oq12h (by kernel_rfl) (by kernel_rfl) (by kernel_rfl) ?oq12q ?oq12y hHeld ?oq12r
              case oq12h => (simp only [List.getElem?_toArray, List.getElem?_cons_succ, List.getElem?_cons_zero]; rfl)
              case oq12q => exact fun _ _ _ h => h
              case oq12y => (refine Or.inl ⟨by first | kernel_rfl | rfl, ?_⟩; intro w hSw; (try dsimp only at hSw); obtain ⟨⟨x0, x1, x2, x3, x4, x5⟩, -, -⟩ := hSw; go_simp <;> (try with_reducible rfl))
              try simp only [Act.put, List.setIfInBounds_toArray, List.set_cons_zero, List.set_cons_succ]
              refine wpAnyH_take (i := 2) (oi := ?oq13o) (v := ?oq13v) ?oq13h (by kernel_rfl) (by kernel_rfl) (by kernel_rfl) ?oq13q ?oq13y hHeld ?oq13r
              case oq13h => (simp only [List.getElem?_toArray, List.getElem?_cons_succ, List.getElem?_cons_zero]; rfl)
              case oq13q => exact fun _ _ _ h => h
              case oq13y => (refine Or.inl ⟨by first | kernel_rfl | rfl, ?_⟩; intro w hSw; (try dsimp only at hSw); obtain ⟨⟨x0, x1, x2, x3, x4, x5⟩, -, -⟩ := hSw; go_simp <;> (try with_reducible rfl))
              try simp only [Act.put, List.setIfInBounds_toArray, List.set_cons_zero, List.set_cons_succ]
              refine wpAnyH_take (i := 3) (oi := ?oq14o) (v := ?oq14v) ?oq14h (by kernel_rfl) (by kernel_rfl) (by kernel_rfl) ?oq14q ?oq14y hHeld ?oq14r
              case oq14h => (simp only [List.getElem?_toArray, List.getElem?_cons_succ, List.getElem?_cons_zero]; rfl)
              case oq14q => exact fun _ _ _ h => h
              case oq14y => (refine Or.inl ⟨by first | kernel_rfl | rfl, ?_⟩; intro w hSw; (try dsimp only at hSw); obtain ⟨⟨x0, x1, x2, x3, x4, x5⟩, -, -⟩ := hSw; go_simp <;> (try with_reducible rfl))
              try simp only [Act.put, List.setIfInBounds_toArray, List.set_cons_zero, List.set_cons_succ]
              refine wpAnyH_take (i := 5) (oi := ?oq15o) (v := ?oq15v) ?oq15h (by kernel_rfl) (by kernel_rfl) (by kernel_rfl) ?oq15q ?oq15y hHeld ?oq15r
              case oq15h => (simp only [List.getElem?_toArray, List.getElem?_cons_succ, List.getElem?_cons_zero]; rfl)
              case oq15q => exact fun _ _ _ h => h
              case oq15y => (refine Or.inl ⟨by first | kernel_rfl | rfl, ?_⟩; intro w hSw; (try dsimp only at hSw); obtain ⟨⟨x0, x1, x2, x3, x4, x5⟩, -, -⟩ := hSw; go_simp <;> (try with_reducible rfl))
              try simp only [Act.put, List.setIfInBounds_toArray, List.set_cons_zero, List.set_cons_succ]
              refine wpAnyH_take (i := 6) (oi := ?oq16o) (v := ?oq16v) ?oq16h (by kernel_rfl) (by kernel_rfl) (by kernel_rfl) ?oq16q ?oq16y hHeld ?oq16r
              case oq16h => (simp only [List.getElem?_toArray, List.getElem?_cons_succ, List.getElem?_cons_zero]; rfl)
              case oq16q => exact fun _ _ _ h => h
              case oq16y => (refine Or.inl ⟨by first | kernel_rfl | rfl, ?_⟩; intro w hSw; (try dsimp only at hSw); obtain ⟨⟨x0, x1, x2, x3, x4, x5⟩, -, -⟩ := hSw; go_simp <;> (try with_reducible rfl))
              try simp only [Act.put, List.setIfInBounds_toArray, List.set_cons_zero, List.set_cons_succ]
              refine wpAnyH_take (i := 7) (oi := ?oq17o) (v := ?oq17v) ?oq17h (by kernel_rfl) (by kernel_rfl) (by kernel_rfl) ?oq17q ?oq17y hHeld ?oq17r
              case oq17h => (simp only [List.getElem?_toArray, List.getElem?_cons_succ, List.getElem?_cons_zero]; rfl)
              case oq17q => exact fun _ _ _ h => h
              case oq17y => (refine Or.inl ⟨by first | kernel_rfl | rfl, ?_⟩; intro w hSw; (try dsimp only at hSw); obtain ⟨⟨x0, x1, x2, x3, x4, x5⟩, -, -⟩ := hSw; go_simp <;> (try with_reducible rfl))
              try simp only [Act.put, List.setIfInBounds_toArray, List.set_cons_zero, List.set_cons_succ]
              refine wpAnyH_take (i := 8) (oi := ?oq18o) (v := ?oq18v) ?oq18h (by kernel_rfl) (by kernel_rfl) (by kernel_rfl) ?oq18q ?oq18y hHeld ?oq18r
              case oq18h => (simp only [List.getElem?_toArray, List.getElem?_cons_succ, List.getElem?_cons_zero]; rfl)
              case oq18q => exact fun _ _ _ h => h
              case oq18y => (refine Or.inl ⟨by first | kernel_rfl | rfl, ?_⟩; intro w hSw; (try dsimp only at hSw); obtain ⟨⟨x0, x1, x2, x3, x4, x5⟩, -, -⟩ := hSw; go_simp <;> (try with_reducible rfl))
              try simp only [Act.put, List.setIfInBounds_toArray, List.set_cons_zero, List.set_cons_succ]
              refine wpAnyH_ready (rs := [4]) (by kernel_rfl) (by simp) ?_
              refine (AllReadyH.cons rfl (fun K hK => ?_) AllReadyH.nil)
              go_simp
              ((with_reducible refine (kc _).mono ?_); rintro e w' ⟨rfl, hb'⟩)
              refine hK.out _ _ (hHeld.keep hb') (fun hHeld => ?_)
              clear hK K
              try simp only [Act.put, List.setIfInBounds_toArray, List.set_cons_zero, List.set_cons_succ]
              refine wpAnyH_ready (rs := [9]) (by kernel_rfl) (by simp) ?_
              refine (AllReadyH.cons rfl (fun K hK => ?_) AllReadyH.nil)
              go_simp
              ((with_reducible refine (kc' _).mono ?_); rintro e w' ⟨rfl, hb'⟩)
              refine hK.out _ _ (hHeld.keep hb') (fun hHeld => ?_)
              clear hK K
              try simp only [Act.put, List.setIfInBounds_toArray, List.set_cons_zero, List.set_cons_succ]
              refine wpAnyH_take (i := 10) (oi := ?oq19o) (v := ?oq19v) ?oq19h (by kernel_rfl) (by kernel_rfl) (by kernel_rfl) ?oq19q ?oq19y hHeld ?oq19r
              case oq19h => (simp only [List.getElem?_toArray, List.getElem?_cons_succ, List.getElem?_cons_zero]; rfl)
              case oq19q => exact fun _ _ _ h => h
              case oq19y => (refine Or.inl ⟨by first | kernel_rfl | rfl, ?_⟩; intro w hSw; (try dsimp only at hSw); obtain ⟨⟨x0, x1, x2, x3, x4, x5⟩, -, -⟩ := hSw; go_simp <;> (try with_reducible rfl))
              try simp only [Act.put, List.setIfInBounds_toArray, List.set_cons_zero, List.set_cons_succ]
              refine wpAnyH_done (by kernel_rfl) ?_ _
              have hbel := hHeld.bel
              go_wp2
              go_roundw
              case rel => exact ⟨k + 1, by omega, by go_num, HB5.out.trans ((HBB.out.trans (hbel.mono HBB.out.size)).mono HB5.out.size)⟩
              case measure => simp [intOf]; omega
    · have hlti : ¬ (k : Int) < (m.length : Int) := by omega
      have HBB := Lib.hid hB
      clear hB
      go_wp2
      go_ret
      exact ⟨rfl, HB.out.trans (HBB.out.mono HB.out.size)⟩
theorem walk (a0 : Option Addr) (len0 cap0 : Nat) (w : World) (h : ArgPts w a0 len0 cap0) : Calls Try.prog 5 #[.slice a0 len0 cap0] w fun e w' => e = .returned (.bool true) ∧ Below w.heap.size w w' := by
  obtain ⟨l, rfl, hS, hl, hf⟩ := h.has
  exact core a0 cap0 l w hS hl hf
end Go.Proofs.Ytjckphmkhikpaaa.samplePoints
