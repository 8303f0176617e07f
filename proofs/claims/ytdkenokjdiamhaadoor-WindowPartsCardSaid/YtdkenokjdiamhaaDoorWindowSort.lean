/- The library's sort, at few spans that stand in order. -/
import Derived.Test.YtdkenokjdiamhaaDoorWindowTouched
import Derived.Laws.EntriesVeiled
import Derived.Deep.RegionHeld
set_option maxRecDepth 20000
namespace Go.Proofs.YtdkenokjdiamhaaDoor
open Go.RowKit

theorem isnan_is (x : Int) (w : World) : Calls Tryd.prog 66 #[.int .i64 x] w fun e w' => e = .returned (.bool false) ∧ w = w' := by
  have h : (x != x) = false := by simp
  go_enter Tryd.func66, Tryd.ntmps66
  go_wp2
  go_ret
  exact ⟨rfl, rfl⟩
def cmpI (x y : Int) : Int := if x < y then -1 else if y < x then 1 else 0
theorem compare_is (x y : Int) (w : World) : Calls Tryd.prog 59 #[.int .i64 x, .int .i64 y] w fun e w' => e = .returned (.int .i64 (cmpI x y)) ∧ w = w' := by
  have k := isnan_is
  by_cases h1 : x < y
  · have HZ := Lib.hid (show -1 = cmpI x y by unfold cmpI; rw [if_pos h1])
    generalize cmpI x y = z at *
    go_enter Tryd.func59, Tryd.ntmps59
    go_wp2_with (go_at_call 66; (with_reducible refine (k _ _).mono ?_); rintro e w1 ⟨rfl, rfl⟩)
    go_ret
    exact ⟨by rw [← HZ.out]; rfl, rfl⟩
  · by_cases h2 : y < x
    · have HZ := Lib.hid (show 1 = cmpI x y by unfold cmpI; rw [if_neg h1, if_pos h2])
      generalize cmpI x y = z at *
      go_enter Tryd.func59, Tryd.ntmps59
      go_wp2_with (go_at_call 66; (with_reducible refine (k _ _).mono ?_); rintro e w1 ⟨rfl, rfl⟩)
      go_ret
      exact ⟨by rw [← HZ.out]; rfl, rfl⟩
    · have HZ := Lib.hid (show 0 = cmpI x y by unfold cmpI; rw [if_neg h1, if_neg h2])
      generalize cmpI x y = z at *
      go_enter Tryd.func59, Tryd.ntmps59
      go_wp2_with (go_at_call 66; (with_reducible refine (k _ _).mono ?_); rintro e w1 ⟨rfl, rfl⟩)
      go_ret
      exact ⟨by rw [← HZ.out]; rfl, rfl⟩
theorem begins_is (a b : Sp) (w : World) : Calls Tryd.prog 49 #[a.v, b.v] w fun e w' => e = .returned (.int .i64 (cmpI a.f b.f)) ∧ Below w.heap.size w w' := by
  have k := fun w => compare_is a.f b.f w
  generalize cmpI a.f b.f = z at *
  have hB := bel_new ((Below.refl w.heap.size w).alloc (Nat.le_refl _) (.cells #[.int .i64 a.f, .int .i64 a.t] 26)) (.cells #[.int .i64 b.f, .int .i64 b.t] 26)
  unfold Sp.v
  go_enter Tryd.func49, Tryd.ntmps49
  go_wp2_with (go_at_call 59; (with_reducible refine (k _).mono ?_); rintro e w1 ⟨rfl, rfl⟩)
  go_ret
  exact ⟨rfl, hB⟩
abbrev BEG : Value := .func (.func 49) #[] #[]
/-- Held while two neighbours are compared. -/
structure SH (u : World) (g o1 o2 : Nat) (x y : Sp) (w : World) : Prop where
  c1 : SpO w g o1 x
  c2 : SpO w g o2 y
  bel : Below u.heap.size u w
theorem SH.keep {u w w' : World} {g o1 o2 : Nat} {x y : Sp} (h : SH u g o1 o2 x y w) (k : Below w.heap.size w w') : SH u g o1 o2 x y w' := ⟨h.c1.below k h.c1.room, h.c2.below k h.c2.room, bel_next h.bel k⟩
theorem SH.drew {u w : World} {g o1 o2 : Nat} {x y : Sp} (h : SH u g o1 o2 x y w) : SH u g o1 o2 x y w.drew := h.keep ((Below.refl _ _).drew)

set_option maxHeartbeats 4000000 in
theorem insertion_is (a : Option Addr) (m c : Nat) (L : List Sp) (w : World) (hm : Hid (L.length = m)) (hs : Sps w w.heap.size a L) (hlen : m ≤ 1000) (hord : Hid (∀ k (h : k + 1 < L.length), L[k].f ≤ L[k + 1].f)) :
    Calls Tryd.prog 71 #[.slice a m c, .int .i64 0, .int .i64 (m : Int), BEG] w fun e w' => (∃ v, e = .returned v) ∧ Below w.heap.size w w' := by
  have HS := Lib.hid hs
  clear hs
  go_enter Tryd.func71, Tryd.ntmps71
  go_wp2
  go_loopw [8] (fun x wr => ∃ i : Nat, x = .int .i64 (i : Int) ∧ 1 ≤ i ∧ i ≤ m + 1 ∧ Below w.heap.size w wr) (fun x _ => m - (intOf x).toNat)
  case atStart => exact ⟨1, rfl, Nat.le_refl _, by omega, Below.refl _ _⟩
  case round =>
    obtain ⟨i, rfl, hi1, hi2, hB⟩ := hrel
    obtain ⟨w3, hw3⟩ : ∃ x, x = wr := ⟨_, rfl⟩
    subst hw3
    by_cases hlt : i < m
    · have hlti : (i : Int) < (m : Int) := by omega
      have hwi : IntKind.i64.wrap ((i : Int) + 1) = (i : Int) + 1 := by rw [IntKind.wrap_i64]; omega
      have HB := Lib.hid hB
      clear hB
      go_wp2
      go_loopw [9] (fun x wr => x = .int .i64 (i : Int) ∧ Below w.heap.size w wr) (fun _ _ => 0)
      case atStart => exact ⟨rfl, HB.out⟩
      case round =>
        obtain ⟨rfl, hB⟩ := hrel
        obtain ⟨w5, hw5⟩ : ∃ x, x = wr := ⟨_, rfl⟩
        subst hw5
        have hiL : i < L.length := by rw [hm.out]; exact hlt
        rcases HS.out.at_ with h0 | ⟨g, off, rfl, hgw, hc⟩
        · rw [h0] at hiL; simp at hiL
        · obtain ⟨i1, hi1e⟩ : ∃ i1 : Nat, i1 + 1 = i := ⟨i - 1, by omega⟩
          have hi1i : (i : Int) - 1 = (i1 : Int) := by omega
          have hw1 : IntKind.i64.wrap (i1 : Int) = (i1 : Int) := by rw [IntKind.wrap_i64]; omega
          have h1m : (i1 : Int) < (m : Int) := by omega
          have h1mn : i1 < m := by omega
          have hgt : (0 : Int) < (i : Int) := by omega
          have hgn : 0 < i := by omega
          have c1 := (hc i hiL).below hB hgw
          have c2 := (hc i1 (by omega)).below hB hgw
          obtain ⟨x, hx⟩ : ∃ x, L[i] = x := ⟨_, rfl⟩
          obtain ⟨y, hy⟩ : ∃ y, L[i1]'(by omega) = y := ⟨_, rfl⟩
          rw [hx] at c1
          rw [hy] at c2
          have hle : y.f ≤ x.f := by
            subst hi1e
            rw [← hx, ← hy]
            exact hord.out i1 hiL
          have kb := fun w => begins_is x y w
          have hz : ¬ cmpI x.f y.f < 0 := by unfold cmpI; split <;> (try split) <;> omega
          generalize cmpI x.f y.f = z at *
          have HH := Lib.hid (show SH w g (off + i * 2) (off + i1 * 2) x y w5 from ⟨c1, c2, hB⟩)
          unfold Sp.v at kb
          clear c1 c2 hx hy hle hB hc hi1e
          go_wp2_with fail
          refine wp_region_held_drew (S := (SH w g (off + i * 2) (off + i1 * 2) x y)) (by kernel_rfl) HH.out.drew (fun hHeld => ?_)
          refine wpAnyH_take (i := 0) (oi := ?os1o) (v := ?os1v) ?os1h (by kernel_rfl) (by kernel_rfl) (by kernel_rfl) ?os1q ?os1y hHeld ?os1r
          case os1h => (simp only [List.getElem?_toArray, List.getElem?_cons_zero]; rfl)
          case os1q => exact fun _ _ _ h => h
          case os1y => (refine Or.inl ⟨by first | kernel_rfl | rfl, ?_⟩; intro w hSw; (try dsimp only at hSw); obtain ⟨⟨x0, x1⟩, ⟨y0, y1⟩, -⟩ := hSw; go_simp <;> (try with_reducible rfl))
          try simp only [Act.put, List.setIfInBounds_toArray, List.set_cons_zero, List.set_cons_succ]
          refine wpAnyH_take (i := 1) (oi := ?os2o) (v := ?os2v) ?os2h (by kernel_rfl) (by kernel_rfl) (by kernel_rfl) ?os2q ?os2y hHeld ?os2r
          case os2h => (simp only [List.getElem?_toArray, List.getElem?_cons_succ, List.getElem?_cons_zero]; rfl)
          case os2q => exact fun _ _ _ h => h
          case os2y => (refine Or.inl ⟨by first | kernel_rfl | rfl, ?_⟩; intro w hSw; (try dsimp only at hSw); obtain ⟨⟨x0, x1⟩, ⟨y0, y1⟩, -⟩ := hSw; go_simp <;> (try with_reducible rfl))
          try simp only [Act.put, List.setIfInBounds_toArray, List.set_cons_zero, List.set_cons_succ]
          refine wpAnyH_take (i := 2) (oi := ?os3o) (v := ?os3v) ?os3h (by kernel_rfl) (by kernel_rfl) (by kernel_rfl) ?os3q ?os3y hHeld ?os3r
          case os3h => (simp only [List.getElem?_toArray, List.getElem?_cons_succ, List.getElem?_cons_zero]; rfl)
          case os3q => exact fun _ _ _ h => h
          case os3y => (refine Or.inl ⟨by first | kernel_rfl | rfl, ?_⟩; intro w hSw; (try dsimp only at hSw); obtain ⟨⟨x0, x1⟩, ⟨y0, y1⟩, -⟩ := hSw; go_simp <;> (try with_reducible rfl))
          try simp only [Act.put, List.setIfInBounds_toArray, List.set_cons_zero, List.set_cons_succ]
          refine wpAnyH_take (i := 3) (oi := ?os4o) (v := ?os4v) ?os4h (by kernel_rfl) (by kernel_rfl) (by kernel_rfl) ?os4q ?os4y hHeld ?os4r
          case os4h => (simp only [List.getElem?_toArray, List.getElem?_cons_succ, List.getElem?_cons_zero]; rfl)
          case os4q => exact fun _ _ _ h => h
          case os4y => (refine Or.inl ⟨by first | kernel_rfl | rfl, ?_⟩; intro w hSw; (try dsimp only at hSw); obtain ⟨⟨x0, x1⟩, ⟨y0, y1⟩, -⟩ := hSw; go_simp <;> (try with_reducible rfl))
          try simp only [Act.put, List.setIfInBounds_toArray, List.set_cons_zero, List.set_cons_succ]
          refine wpAnyH_take (i := 4) (oi := ?os5o) (v := ?os5v) ?os5h (by kernel_rfl) (by kernel_rfl) (by kernel_rfl) ?os5q ?os5y hHeld ?os5r
          case os5h => (simp only [List.getElem?_toArray, List.getElem?_cons_succ, List.getElem?_cons_zero]; rfl)
          case os5q => exact fun _ _ _ h => h
          case os5y => (refine Or.inl ⟨by first | kernel_rfl | rfl, ?_⟩; intro w hSw; (try dsimp only at hSw); obtain ⟨⟨x0, x1⟩, ⟨y0, y1⟩, -⟩ := hSw; go_simp <;> (try with_reducible rfl))
          try simp only [Act.put, List.setIfInBounds_toArray, List.set_cons_zero, List.set_cons_succ]
          refine wpAnyH_take (i := 5) (oi := ?os6o) (v := ?os6v) ?os6h (by kernel_rfl) (by kernel_rfl) (by kernel_rfl) ?os6q ?os6y hHeld ?os6r
          case os6h => (simp only [List.getElem?_toArray, List.getElem?_cons_succ, List.getElem?_cons_zero]; rfl)
          case os6q => exact fun _ _ _ h => h
          case os6y => (refine Or.inl ⟨by first | kernel_rfl | rfl, ?_⟩; intro w hSw; (try dsimp only at hSw); obtain ⟨⟨x0, x1⟩, ⟨y0, y1⟩, -⟩ := hSw; go_simp <;> (try with_reducible rfl))
          try simp only [Act.put, List.setIfInBounds_toArray, List.set_cons_zero, List.set_cons_succ]
          refine wpAnyH_take (i := 6) (oi := ?os7o) (v := ?os7v) ?os7h (by kernel_rfl) (by kernel_rfl) (by kernel_rfl) ?os7q ?os7y hHeld ?os7r
          case os7h => (simp only [List.getElem?_toArray, List.getElem?_cons_succ, List.getElem?_cons_zero]; rfl)
          case os7q => exact fun _ _ _ h => h
          case os7y => (refine Or.inl ⟨by first | kernel_rfl | rfl, ?_⟩; intro w hSw; (try dsimp only at hSw); obtain ⟨⟨x0, x1⟩, ⟨y0, y1⟩, -⟩ := hSw; go_simp <;> (try with_reducible rfl))
          try simp only [Act.put, List.setIfInBounds_toArray, List.set_cons_zero, List.set_cons_succ]
          refine wpAnyH_take (i := 7) (oi := ?os8o) (v := ?os8v) ?os8h (by kernel_rfl) (by kernel_rfl) (by kernel_rfl) ?os8q ?os8y hHeld ?os8r
          case os8h => (simp only [List.getElem?_toArray, List.getElem?_cons_succ, List.getElem?_cons_zero]; rfl)
          case os8q => exact fun _ _ _ h => h
          case os8y => (refine Or.inl ⟨by first | kernel_rfl | rfl, ?_⟩; intro w hSw; (try dsimp only at hSw); obtain ⟨⟨x0, x1⟩, ⟨y0, y1⟩, -⟩ := hSw; go_simp <;> (try with_reducible rfl))
          try simp only [Act.put, List.setIfInBounds_toArray, List.set_cons_zero, List.set_cons_succ]
          refine wpAnyH_take (i := 8) (oi := ?os9o) (v := ?os9v) ?os9h (by kernel_rfl) (by kernel_rfl) (by kernel_rfl) ?os9q ?os9y hHeld ?os9r
          case os9h => (simp only [List.getElem?_toArray, List.getElem?_cons_succ, List.getElem?_cons_zero]; rfl)
          case os9q => exact fun _ _ _ h => h
          case os9y => (refine Or.inl ⟨by first | kernel_rfl | rfl, ?_⟩; intro w hSw; (try dsimp only at hSw); obtain ⟨⟨x0, x1⟩, ⟨y0, y1⟩, -⟩ := hSw; go_simp <;> (try with_reducible rfl))
          try simp only [Act.put, List.setIfInBounds_toArray, List.set_cons_zero, List.set_cons_succ]
          refine wpAnyH_take (i := 9) (oi := ?os10o) (v := ?os10v) ?os10h (by kernel_rfl) (by kernel_rfl) (by kernel_rfl) ?os10q ?os10y hHeld ?os10r
          case os10h => (simp only [List.getElem?_toArray, List.getElem?_cons_succ, List.getElem?_cons_zero]; rfl)
          case os10q => exact fun _ _ _ h => h
          case os10y => (refine Or.inl ⟨by first | kernel_rfl | rfl, ?_⟩; intro w hSw; (try dsimp only at hSw); obtain ⟨⟨x0, x1⟩, ⟨y0, y1⟩, -⟩ := hSw; go_simp <;> (try with_reducible rfl))
          try simp only [Act.put, List.setIfInBounds_toArray, List.set_cons_zero, List.set_cons_succ]
          refine wpAnyH_take (i := 10) (oi := ?os11o) (v := ?os11v) ?os11h (by kernel_rfl) (by kernel_rfl) (by kernel_rfl) ?os11q ?os11y hHeld ?os11r
          case os11h => (simp only [List.getElem?_toArray, List.getElem?_cons_succ, List.getElem?_cons_zero]; rfl)
          case os11q => exact fun _ _ _ h => h
          case os11y => (refine Or.inl ⟨by first | kernel_rfl | rfl, ?_⟩; intro w hSw; (try dsimp only at hSw); obtain ⟨⟨x0, x1⟩, ⟨y0, y1⟩, -⟩ := hSw; go_simp <;> (try with_reducible rfl))
          try simp only [Act.put, List.setIfInBounds_toArray, List.set_cons_zero, List.set_cons_succ]
          refine wpAnyH_take (i := 11) (oi := ?os12o) (v := ?os12v) ?os12h (by kernel_rfl) (by kernel_rfl) (by kernel_rfl) ?os12q ?os12y hHeld ?os12r
          case os12h => (simp only [List.getElem?_toArray, List.getElem?_cons_succ, List.getElem?_cons_zero]; rfl)
          case os12q => exact fun _ _ _ h => h
          case os12y => (refine Or.inl ⟨by first | kernel_rfl | rfl, ?_⟩; intro w hSw; (try dsimp only at hSw); obtain ⟨⟨x0, x1⟩, ⟨y0, y1⟩, -⟩ := hSw; go_simp <;> (try with_reducible rfl))
          try simp only [Act.put, List.setIfInBounds_toArray, List.set_cons_zero, List.set_cons_succ]
          refine wpAnyH_take (i := 12) (oi := ?os13o) (v := ?os13v) ?os13h (by kernel_rfl) (by kernel_rfl) (by kernel_rfl) ?os13q ?os13y hHeld ?os13r
          case os13h => (simp only [List.getElem?_toArray, List.getElem?_cons_succ, List.getElem?_cons_zero]; rfl)
          case os13q => exact fun _ _ _ h => h
          case os13y => (refine Or.inl ⟨by first | kernel_rfl | rfl, ?_⟩; intro w hSw; (try dsimp only at hSw); obtain ⟨⟨x0, x1⟩, ⟨y0, y1⟩, -⟩ := hSw; go_simp <;> (try with_reducible rfl))
          try simp only [Act.put, List.setIfInBounds_toArray, List.set_cons_zero, List.set_cons_succ]
          refine wpAnyH_take (i := 13) (oi := ?os14o) (v := ?os14v) ?os14h (by kernel_rfl) (by kernel_rfl) (by kernel_rfl) ?os14q ?os14y hHeld ?os14r
          case os14h => (simp only [List.getElem?_toArray, List.getElem?_cons_succ, List.getElem?_cons_zero]; rfl)
          case os14q => exact fun _ _ _ h => h
          case os14y => (refine Or.inl ⟨by first | kernel_rfl | rfl, ?_⟩; intro w hSw; (try dsimp only at hSw); obtain ⟨⟨x0, x1⟩, ⟨y0, y1⟩, -⟩ := hSw; go_simp <;> (try with_reducible rfl))
          try simp only [Act.put, List.setIfInBounds_toArray, List.set_cons_zero, List.set_cons_succ]
          refine wpAnyH_ready (rs := [14]) (by kernel_rfl) (by simp) ?_
          refine (AllReadyH.cons rfl (fun K hK => ?_) AllReadyH.nil)
          go_simp
          (go_at_call 49; (with_reducible refine (kb _).mono ?_); rintro e w' ⟨rfl, hb'⟩)
          refine hK.out _ _ (hHeld.keep hb') (fun hHeld => ?_)
          clear hK K
          try simp only [Act.put, List.setIfInBounds_toArray, List.set_cons_zero, List.set_cons_succ]
          refine wpAnyH_take (i := 15) (oi := ?os15o) (v := ?os15v) ?os15h (by kernel_rfl) (by kernel_rfl) (by kernel_rfl) ?os15q ?os15y hHeld ?os15r
          case os15h => (simp only [List.getElem?_toArray, List.getElem?_cons_succ, List.getElem?_cons_zero]; rfl)
          case os15q => exact fun _ _ _ h => h
          case os15y => (refine Or.inl ⟨by first | kernel_rfl | rfl, ?_⟩; intro w hSw; (try dsimp only at hSw); obtain ⟨⟨x0, x1⟩, ⟨y0, y1⟩, -⟩ := hSw; go_simp <;> (try with_reducible rfl))
          try simp only [Act.put, List.setIfInBounds_toArray, List.set_cons_zero, List.set_cons_succ]
          refine wpAnyH_take (i := 16) (oi := ?os16o) (v := ?os16v) ?os16h (by kernel_rfl) (by kernel_rfl) (by kernel_rfl) ?os16q ?os16y hHeld ?os16r
          case os16h => (simp only [List.getElem?_toArray, List.getElem?_cons_succ, List.getElem?_cons_zero]; rfl)
          case os16q => exact fun _ _ _ h => h
          case os16y => (refine Or.inl ⟨by first | kernel_rfl | rfl, ?_⟩; intro w hSw; (try dsimp only at hSw); obtain ⟨⟨x0, x1⟩, ⟨y0, y1⟩, -⟩ := hSw; go_simp <;> (try with_reducible rfl))
          try simp only [Act.put, List.setIfInBounds_toArray, List.set_cons_zero, List.set_cons_succ]
          refine wpAnyH_done (by kernel_rfl) ?_ _
          have hbel := hHeld.bel
          go_wp2
          go_roundw
          case rel => exact ⟨i + 1, by go_num, by omega, by omega, hbel⟩
          case measure => simp [intOf]; omega
    · have hlti : ¬ (i : Int) < (m : Int) := by omega
      go_wp2
      go_end0
      exact ⟨⟨_, rfl⟩, hB⟩

theorem pdq_is (a : Option Addr) (m c : Nat) (k : Int) (L : List Sp) (w : World) (hm : Hid (L.length = m)) (hs : Sps w w.heap.size a L) (hlen : m ≤ 12) (hord : Hid (∀ k (h : k + 1 < L.length), L[k].f ≤ L[k + 1].f)) :
    Calls Tryd.prog 64 #[.slice a m c, .int .i64 0, .int .i64 (m : Int), .int .i64 k, BEG] w fun e w' => (∃ v, e = .returned v) ∧ Below w.heap.size w w' := by
  have ki := insertion_is a m c L w hm hs (by omega) hord
  have hle : (m : Int) ≤ 12 := by omega
  have hw : IntKind.i64.wrap (m : Int) = (m : Int) := by rw [IntKind.wrap_i64]; omega
  clear hs
  go_enter Tryd.func64, Tryd.ntmps64
  go_wp2
  go_loopw [1, 2] (fun x y wr => x = .int .i64 0 ∧ y = .int .i64 (m : Int) ∧ wr = w) (fun _ _ _ => 0)
  case atStart => exact ⟨rfl, rfl, rfl⟩
  case round =>
    obtain ⟨rfl, rfl, rfl⟩ := hrel
    go_wp2_with (go_at_call 71; (with_reducible refine ki.mono ?_); rintro e w1 ⟨⟨v, rfl⟩, hb1⟩)
    refine bodyPost_ret (results_none rfl _ _ _) rfl ?_
    exact ⟨⟨_, rfl⟩, hb1⟩
theorem len_0 (w : World) : Calls Tryd.prog 65 #[.int .u64 0] w fun e w' => (∃ k, e = .returned (.int .i64 k)) ∧ w = w' := by
  go_enter Tryd.func65, Tryd.ntmps65
  go_wp2
  go_ret
  exact ⟨⟨_, rfl⟩, rfl⟩
theorem len_2 (w : World) : Calls Tryd.prog 65 #[.int .u64 2] w fun e w' => (∃ k, e = .returned (.int .i64 k)) ∧ w = w' := by
  go_enter Tryd.func65, Tryd.ntmps65
  go_wp2
  go_ret
  exact ⟨⟨_, rfl⟩, rfl⟩
theorem sort_is (a : Option Addr) (m c : Nat) (L : List Sp) (w : World) (hm : Hid (L.length = m)) (hs : Sps w w.heap.size a L) (h02 : m = 0 ∨ m = 2) (hord : Hid (∀ k (h : k + 1 < L.length), L[k].f ≤ L[k + 1].f)) :
    Calls Tryd.prog 57 #[.slice a m c, BEG] w fun e w' => (∃ v, e = .returned v) ∧ Below w.heap.size w w' := by
  have kp := fun k => pdq_is a m c k L w hm hs (by omega) hord
  have kl : ∀ w, Calls Tryd.prog 65 #[.int .u64 (m : Int)] w fun e w' => (∃ k, e = .returned (.int .i64 k)) ∧ w = w' := by
    rcases h02 with rfl | rfl
    · exact len_0
    · exact len_2
  have hw : IntKind.u64.wrap (m : Int) = (m : Int) := by rcases h02 with rfl | rfl <;> rfl
  clear hs h02
  go_enter Tryd.func57, Tryd.ntmps57
  go_wp2_with (first
    | (go_at_call 65; (with_reducible refine (kl _).mono ?_); rintro e w1 ⟨⟨k, rfl⟩, rfl⟩)
    | (go_at_call 64; (with_reducible refine (kp _).mono ?_); rintro e w1 ⟨⟨v, rfl⟩, hb1⟩))
  go_end0
  exact ⟨⟨_, rfl⟩, hb1⟩
end Go.Proofs.YtdkenokjdiamhaaDoor
