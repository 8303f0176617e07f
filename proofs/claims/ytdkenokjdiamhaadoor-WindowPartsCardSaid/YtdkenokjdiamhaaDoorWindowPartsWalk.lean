/- WindowParts' walk. -/
import Derived.RangeFuncNested
import Derived.RangeFuncBox
import Derived.RangeFuncLeaves
import Derived.RangeFuncCalls
import Derived.Shelf.Abstract
import Derived.WalkKit
import Derived.OwnWalkIn
import Derived.TacticsInMore
import Derived.LoopNIn
import Derived.LoopIn
import Derived.Maps.AppendAt
import Derived.Test.YtdkenokjdiamhaaDoorWindowEachP
import Derived.Test.YtdkenokjdiamhaaDoorWindowAwake
import Derived.Test.YtdkenokjdiamhaaDoorWindowArgs
import Derived.Test.YtdkenokjdiamhaaDoorWindowRound
import Derived.Test.YtdkenokjdiamhaaDoorWindowPartsMath
import Derived.Test.YtdkenokjdiamhaaDoorWindowOfAny
import Derived.Deep.RegionHeld
import Derived.Deep.CutRange
import Derived.Test.YtdkenokjdiamhaaDoorWindowPartsHeld
set_option maxRecDepth 20000
namespace Go.Proofs.YtdkenokjdiamhaaDoor.windowParts
open Go.RowKit Go.Shelf

attribute [local go_sem] Oper.semAt_some
set_option maxHeartbeats 8000000 in
theorem inside (t fr q0 q1 : Int) (w : World) (ht : -9223372036854775808 ≤ t ∧ t ≤ 9223372036854775807) (hf : -9223372036854775808 ≤ fr ∧ fr ≤ 9223372036854775807) (hq0 : -9223372036854775808 ≤ q0 ∧ q0 ≤ 9223372036854775807) (hq1 : -9223372036854775808 ≤ q1 ∧ q1 ≤ 9223372036854775807) (hT : Tab w) :
    CallsIn Fence.wide 9 Tryd.prog 6 #[.int .i64 t, .int .i64 fr, .agg #[.int .i64 q0, .int .i64 q1]] w fun e w' => e = .returned (.bool true) ∧ Below w.heap.size w w' := by
  have HG0 := Lib.hid (G1.new w q0 q1 hT)
  have k0 := awake_is _ HG0.out.tab
  have hRl : Fence.wide.round = none := rfl
  have hF1 : Fence.wide.fn 10 := trivial
  have hF2 : Fence.wide.fn 17 := trivial
  have hF3 : Fence.wide.fn 15 := trivial
  have hF4 : Fence.wide.fn 25 := trivial
  have hF5 : Fence.wide.fn 27 := trivial
  have hF6 : Fence.wide.fn 23 := trivial
  refine callsIn_of_wp_marks Tryd.func6 rfl trivial ?_ hRl
  simp only [Tryd.ntmps6, List.size_toArray, List.length_cons, List.length_nil, Nat.reduceAdd, Nat.reduceSub, Array.replicate_succ, Array.replicate_zero, List.push_toArray, List.append_toArray, List.nil_append, List.cons_append]
  by_cases ht0 : t < 0
  · gi_wp2_with (gi_at_call 10; (refine callsIn_wide.2 (k0.mono ?_)); rintro e w1 ⟨rfl, hb⟩; (have H1 := Lib.hid (HG0.out.keep hb)); (have h1 := H1.out); (obtain ⟨-, -, hr1, hz1, -, -, hs1⟩ := h1); clear hb)
    exact fin_early _ H1.out.bel (by omega) (World.cell?_setCell_same _ _ _ hr1) rfl rfl
  · by_cases ht1 : 1099511627776 < t
    · gi_wp2_with (gi_at_call 10; (refine callsIn_wide.2 (k0.mono ?_)); rintro e w1 ⟨rfl, hb⟩; (have H1 := Lib.hid (HG0.out.keep hb)); (have h1 := H1.out); (obtain ⟨-, -, hr1, hz1, -, -, hs1⟩ := h1); clear hb)
      exact fin_early _ H1.out.bel (by omega) (World.cell?_setCell_same _ _ _ hr1) rfl rfl
    · gi_wp2_with (gi_at_call 10; (refine callsIn_wide.2 (k0.mono ?_)); rintro e w1 ⟨rfl, hb⟩; (have H1 := Lib.hid (HG0.out.keep hb)); (have h1 := H1.out); (obtain ⟨-, -, hr1, hz1, -, -, hs1⟩ := h1); clear hb)
      gi_loopw [8] (fun i wr => ∃ k : Nat, i = .int .i64 (k : Int) ∧ k ≤ 4 ∧ Below w1.heap.size w1 wr) (fun i _ => 4 - (intOf i).toNat)
      case atStart => exact ⟨0, rfl, by omega, Below.refl _ _⟩
      case round =>
        obtain ⟨k, rfl, hk, hBr⟩ := hrel
        obtain ⟨w2, hw2⟩ : ∃ x, x = wr := ⟨_, rfl⟩
        subst hw2
        have H2 := Lib.hid (H1.out.keep hBr)
        have HB2 := Lib.hid hBr
        clear hBr
        by_cases hk4 : k < 4
        · have hk4i : (k : Int) < 4 := by omega
          have hwk : IntKind.i64.wrap ((k : Int) + 1) = (k : Int) + 1 := by rw [IntKind.wrap_i64]; omega
          have hok := win_ok (t := t) (k := (k : Int)) (by omega) (by omega)
          have hnx := fun h => win_next (t := t) (k := (k : Int)) (by omega) h
          obtain ⟨p, hp⟩ : ∃ p, ofI t (k : Int) = p := ⟨_, rfl⟩
          obtain ⟨v, hv⟩ : ∃ v, ofI t ((k : Int) + 1) = v := ⟨_, rfl⟩
          obtain ⟨Wd, hWd⟩ : ∃ Wd, wid (k : Int) = Wd := ⟨_, rfl⟩
          have hw4 := tier_wid (k := (k : Int)) (by omega)
          obtain ⟨o1, o2, o3, o4, o5, o6, o7⟩ := hok
          rw [hp] at o1 o2 o3 o4 o5 o6 o7
          rw [hWd] at o5 hw4
          rw [hp, hv] at hnx
          have kof := fun W h => of_is t (k : Int) p W h ht (Lib.hid hp)
          have kof2 := fun W h => of_is t ((k : Int) + 1) v W h ht (Lib.hid hv)
          have kw := fun W h => width_is (k : Int) Wd W h (Lib.hid hWd)
          have ks1 := fun W h => start_is p.f (k : Int) p.f W h (by omega) (Lib.hid o6)
          have ks2 := fun W h => start_is (p.t - 1) (k : Int) p.f W h (by omega) (Lib.hid o7)
          have HGG := Lib.hid (show decide (t < p.f) = false ∧ decide (p.t ≤ t) = false from ⟨decide_eq_false (by omega), decide_eq_false (by omega)⟩)
          have hW1 : ¬ Wd = 0 := by omega
          have hW0 : (Wd == 0) = false := by simp; omega
          have hmd : p.f.tmod Wd = 0 := by rw [(mod_facts (w := Wd) o3 (by omega)).1]; exact o5
          have hw3 : IntKind.i64.wrap (p.t - 1) = p.t - 1 := by rw [IntKind.wrap_i64]; omega
          have hpp : (p.f != p.f) = false := by simp
          have HNX := Lib.hid hnx
          unfold Sp.v at kof kof2
          clear hp hv hWd hw4 o1 o2 o3 o4 o5 o6 o7 hnx k0
          by_cases hk3 : k < 3
          · have hk3i : (k : Int) < 3 := by omega
            have hn := HNX.out (by omega)
            have HGN := Lib.hid (show decide (p.f < v.f) = false ∧ decide (v.t < p.t) = false ∧ decide ((k : Int) < 3) = true from ⟨decide_eq_false (by omega), decide_eq_false (by omega), decide_eq_true hk3i⟩)
            clear hn HNX
            gi_wp2_with (gi_at_call 15; first
              | ((refine callsIn_wide.2 ((kof2 _ H3.out.tab).mono ?_)); rintro e w4 ⟨rfl, hb⟩; (have HPS := Lib.hid ((HS3.out.below hb).below ((Below.refl _ _).alloc (Nat.le_refl _) (.cells #[.int .i64 v.f, .int .i64 v.t] 26)))); (have H4 := Lib.hid ((H3.out.keep hb).keep ((Below.refl _ _).alloc (Nat.le_refl _) (.cells #[.int .i64 v.f, .int .i64 v.t] 26)))); (have HB4 := Lib.hid (bel_next (bel_next HB3.out hb) ((Below.refl _ _).alloc (Nat.le_refl _) (.cells #[.int .i64 v.f, .int .i64 v.t] 26)))); (have HP9 := Lib.hid (P9.mk (w := w1) HPS.out (SpAt.new w4 v 26) H4.out.tab HB4.out)); clear hb)
              | ((refine callsIn_wide.2 ((kof _ H2.out.tab).mono ?_)); rintro e w3 ⟨rfl, hb⟩; (have H3 := Lib.hid ((H2.out.keep hb).keep ((Below.refl _ _).alloc (Nat.le_refl _) (.cells #[.int .i64 p.f, .int .i64 p.t] 26)))); (have HS3 := Lib.hid (SpAt.new w3 p 26)); (have HB3 := Lib.hid (bel_next (bel_next HB2.out hb) ((Below.refl _ _).alloc (Nat.le_refl _) (.cells #[.int .i64 p.f, .int .i64 p.t] 26)))); clear hb))
            refine wide_of ?_
            obtain ⟨g1, g2⟩ := HGG.out
            obtain ⟨g3, g4, g5⟩ := HGN.out
            clear hk3i
            refine wp_region_held_drew (S := (P9 w1 w3.heap.size w4.heap.size p v)) (by kernel_rfl) HP9.out.drew (fun hHeld => ?_)
            refine wpAnyH_take (i := 0) (oi := ?a1o) (v := ?a1v) ?a1h (by kernel_rfl) (by kernel_rfl) (by kernel_rfl) ?a1q ?a1y hHeld ?a1r
            case a1h => (simp only [List.getElem?_toArray, List.getElem?_cons_zero]; rfl)
            case a1q => exact fun _ _ _ h => h
            case a1y => (refine Or.inl ⟨by first | kernel_rfl | rfl, ?_⟩; intro w hSw; obtain ⟨⟨x0, x1⟩, ⟨y0, y1⟩, -, -⟩ := hSw; go_simp <;> (try with_reducible rfl))
            try simp only [Act.put, List.setIfInBounds_toArray, List.set_cons_zero, List.set_cons_succ]
            refine wpAnyH_take (i := 1) (oi := ?a2o) (v := ?a2v) ?a2h (by kernel_rfl) (by kernel_rfl) (by kernel_rfl) ?a2q ?a2y hHeld ?a2r
            case a2h => (simp only [List.getElem?_toArray, List.getElem?_cons_succ, List.getElem?_cons_zero]; rfl)
            case a2q => exact fun _ _ _ h => h
            case a2y => (refine Or.inl ⟨by first | kernel_rfl | rfl, ?_⟩; intro w hSw; obtain ⟨⟨x0, x1⟩, ⟨y0, y1⟩, -, -⟩ := hSw; go_simp <;> (try with_reducible rfl))
            try simp only [Act.put, List.setIfInBounds_toArray, List.set_cons_zero, List.set_cons_succ]
            refine wpAnyH_take (i := 2) (oi := ?a3o) (v := ?a3v) ?a3h (by kernel_rfl) (by kernel_rfl) (by kernel_rfl) ?a3q ?a3y hHeld ?a3r
            case a3h => (simp only [List.getElem?_toArray, List.getElem?_cons_succ, List.getElem?_cons_zero]; rfl)
            case a3q => exact fun _ _ _ h => h
            case a3y => (refine Or.inl ⟨by first | kernel_rfl | rfl, ?_⟩; intro w hSw; obtain ⟨⟨x0, x1⟩, ⟨y0, y1⟩, -, -⟩ := hSw; go_simp <;> (try with_reducible rfl))
            try simp only [Act.put, List.setIfInBounds_toArray, List.set_cons_zero, List.set_cons_succ]
            refine wpAnyH_take (i := 3) (oi := ?a4o) (v := ?a4v) ?a4h (by kernel_rfl) (by kernel_rfl) (by kernel_rfl) ?a4q ?a4y hHeld ?a4r
            case a4h => (simp only [List.getElem?_toArray, List.getElem?_cons_succ, List.getElem?_cons_zero]; rfl)
            case a4q => exact fun _ _ _ h => h
            case a4y => (refine Or.inl ⟨by first | kernel_rfl | rfl, ?_⟩; intro w hSw; obtain ⟨⟨x0, x1⟩, ⟨y0, y1⟩, -, -⟩ := hSw; go_simp <;> (try with_reducible rfl))
            try simp only [Act.put, List.setIfInBounds_toArray, List.set_cons_zero, List.set_cons_succ]
            refine wpAnyH_take (i := 4) (oi := ?a5o) (v := ?a5v) ?a5h (by kernel_rfl) (by kernel_rfl) (by kernel_rfl) ?a5q ?a5y hHeld ?a5r
            case a5h => (simp only [List.getElem?_toArray, List.getElem?_cons_succ, List.getElem?_cons_zero]; rfl)
            case a5q => exact fun _ _ _ h => h
            case a5y => (refine Or.inl ⟨by first | kernel_rfl | rfl, ?_⟩; intro w hSw; obtain ⟨⟨x0, x1⟩, ⟨y0, y1⟩, -, -⟩ := hSw; go_simp <;> (try with_reducible rfl))
            try simp only [Act.put, List.setIfInBounds_toArray, List.set_cons_zero, List.set_cons_succ]
            refine wpAnyH_take (i := 5) (oi := ?a6o) (v := ?a6v) ?a6h (by kernel_rfl) (by kernel_rfl) (by kernel_rfl) ?a6q ?a6y hHeld ?a6r
            case a6h => (simp only [List.getElem?_toArray, List.getElem?_cons_succ, List.getElem?_cons_zero]; rfl)
            case a6q => exact fun _ _ _ h => h
            case a6y => (refine Or.inl ⟨by first | kernel_rfl | rfl, ?_⟩; intro w hSw; obtain ⟨⟨x0, x1⟩, ⟨y0, y1⟩, -, -⟩ := hSw; go_simp <;> (try with_reducible rfl))
            try simp only [Act.put, List.setIfInBounds_toArray, List.set_cons_zero, List.set_cons_succ]
            refine wpAnyH_take (i := 6) (oi := ?a7o) (v := ?a7v) ?a7h (by kernel_rfl) (by kernel_rfl) (by kernel_rfl) ?a7q ?a7y hHeld ?a7r
            case a7h => (simp only [List.getElem?_toArray, List.getElem?_cons_succ, List.getElem?_cons_zero]; rfl)
            case a7q => exact fun _ _ _ h => h
            case a7y => (refine Or.inl ⟨by first | kernel_rfl | rfl, ?_⟩; intro w hSw; obtain ⟨⟨x0, x1⟩, ⟨y0, y1⟩, -, -⟩ := hSw; go_simp <;> (try with_reducible rfl))
            try simp only [Act.put, List.setIfInBounds_toArray, List.set_cons_zero, List.set_cons_succ]
            refine wpAnyH_take (i := 7) (oi := ?a8o) (v := ?a8v) ?a8h (by kernel_rfl) (by kernel_rfl) (by kernel_rfl) ?a8q ?a8y hHeld ?a8r
            case a8h => (simp only [List.getElem?_toArray, List.getElem?_cons_succ, List.getElem?_cons_zero]; rfl)
            case a8q => exact fun _ _ _ h => h
            case a8y => (refine Or.inl ⟨by first | kernel_rfl | rfl, ?_⟩; intro w hSw; obtain ⟨⟨x0, x1⟩, ⟨y0, y1⟩, -, -⟩ := hSw; go_simp <;> (try with_reducible rfl))
            try simp only [Act.put, List.setIfInBounds_toArray, List.set_cons_zero, List.set_cons_succ]
            refine wpAnyH_take (i := 8) (oi := ?a9o) (v := ?a9v) ?a9h (by kernel_rfl) (by kernel_rfl) (by kernel_rfl) ?a9q ?a9y hHeld ?a9r
            case a9h => (simp only [List.getElem?_toArray, List.getElem?_cons_succ, List.getElem?_cons_zero]; rfl)
            case a9q => exact fun _ _ _ h => h
            case a9y => (refine Or.inl ⟨by first | kernel_rfl | rfl, ?_⟩; intro w hSw; obtain ⟨⟨x0, x1⟩, ⟨y0, y1⟩, -, -⟩ := hSw; go_simp <;> (try with_reducible rfl))
            try simp only [Act.put, List.setIfInBounds_toArray, List.set_cons_zero, List.set_cons_succ]
            refine wpAnyH_take (i := 9) (oi := ?a10o) (v := ?a10v) ?a10h (by kernel_rfl) (by kernel_rfl) (by kernel_rfl) ?a10q ?a10y hHeld ?a10r
            case a10h => (simp only [List.getElem?_toArray, List.getElem?_cons_succ, List.getElem?_cons_zero]; rfl)
            case a10q => exact fun _ _ _ h => h
            case a10y => (refine Or.inl ⟨by first | kernel_rfl | rfl, ?_⟩; intro w hSw; obtain ⟨⟨x0, x1⟩, ⟨y0, y1⟩, -, -⟩ := hSw; go_simp <;> (try with_reducible rfl))
            try simp only [Act.put, List.setIfInBounds_toArray, List.set_cons_zero, List.set_cons_succ]
            refine wpAnyH_take (i := 10) (oi := ?a11o) (v := ?a11v) ?a11h (by kernel_rfl) (by kernel_rfl) (by kernel_rfl) ?a11q ?a11y hHeld ?a11r
            case a11h => (simp only [List.getElem?_toArray, List.getElem?_cons_succ, List.getElem?_cons_zero]; rfl)
            case a11q => exact fun _ _ _ h => h
            case a11y => (refine Or.inl ⟨by first | kernel_rfl | rfl, ?_⟩; intro w hSw; obtain ⟨⟨x0, x1⟩, ⟨y0, y1⟩, -, -⟩ := hSw; go_simp <;> (try with_reducible rfl))
            try simp only [Act.put, List.setIfInBounds_toArray, List.set_cons_zero, List.set_cons_succ]
            refine wpAnyH_take (i := 11) (oi := ?a12o) (v := ?a12v) ?a12h (by kernel_rfl) (by kernel_rfl) (by kernel_rfl) ?a12q ?a12y hHeld ?a12r
            case a12h => (simp only [List.getElem?_toArray, List.getElem?_cons_succ, List.getElem?_cons_zero]; rfl)
            case a12q => exact fun _ _ _ h => h
            case a12y => (refine Or.inl ⟨by first | kernel_rfl | rfl, ?_⟩; intro w hSw; obtain ⟨⟨x0, x1⟩, ⟨y0, y1⟩, -, -⟩ := hSw; go_simp <;> (try with_reducible rfl))
            try simp only [Act.put, List.setIfInBounds_toArray, List.set_cons_zero, List.set_cons_succ]
            refine wpAnyH_take (i := 12) (oi := ?a13o) (v := ?a13v) ?a13h (by kernel_rfl) (by kernel_rfl) (by kernel_rfl) ?a13q ?a13y hHeld ?a13r
            case a13h => (simp only [List.getElem?_toArray, List.getElem?_cons_succ, List.getElem?_cons_zero]; rfl)
            case a13q => exact fun _ _ _ h => h
            case a13y => (refine Or.inl ⟨by first | kernel_rfl | rfl, ?_⟩; intro w hSw; obtain ⟨⟨x0, x1⟩, ⟨y0, y1⟩, -, -⟩ := hSw; go_simp <;> (try with_reducible rfl))
            try simp only [Act.put, List.setIfInBounds_toArray, List.set_cons_zero, List.set_cons_succ]
            refine wpAnyH_take (i := 13) (oi := ?a14o) (v := ?a14v) ?a14h (by kernel_rfl) (by kernel_rfl) (by kernel_rfl) ?a14q ?a14y hHeld ?a14r
            case a14h => (simp only [List.getElem?_toArray, List.getElem?_cons_succ, List.getElem?_cons_zero]; rfl)
            case a14q => exact fun _ _ _ h => h
            case a14y => (refine Or.inl ⟨by first | kernel_rfl | rfl, ?_⟩; intro w hSw; obtain ⟨⟨x0, x1⟩, ⟨y0, y1⟩, -, -⟩ := hSw; go_simp <;> (try with_reducible rfl))
            try simp only [Act.put, List.setIfInBounds_toArray, List.set_cons_zero, List.set_cons_succ]
            refine wpAnyH_ready (rs := [14]) (by kernel_rfl) (by simp) ?_
            refine (AllReadyH.cons rfl (fun K hK => ?_) AllReadyH.nil)
            go_simp
            ((with_reducible refine (kw _ hHeld.tab).mono ?_); rintro e w' ⟨rfl, rfl⟩)
            refine hK.out _ _ (hHeld) (fun hHeld => ?_)
            clear hK K
            try simp only [Act.put, List.setIfInBounds_toArray, List.set_cons_zero, List.set_cons_succ]
            refine wpAnyH_take (i := 15) (oi := ?a15o) (v := ?a15v) ?a15h (by kernel_rfl) (by kernel_rfl) (by kernel_rfl) ?a15q ?a15y hHeld ?a15r
            case a15h => (simp only [List.getElem?_toArray, List.getElem?_cons_succ, List.getElem?_cons_zero]; rfl)
            case a15q => exact fun _ _ _ h => h
            case a15y => (refine Or.inl ⟨by first | kernel_rfl | rfl, ?_⟩; intro w hSw; obtain ⟨⟨x0, x1⟩, ⟨y0, y1⟩, -, -⟩ := hSw; go_simp <;> (try with_reducible rfl))
            try simp only [Act.put, List.setIfInBounds_toArray, List.set_cons_zero, List.set_cons_succ]
            refine wpAnyH_take (i := 16) (oi := ?a16o) (v := ?a16v) ?a16h (by kernel_rfl) (by kernel_rfl) (by kernel_rfl) ?a16q ?a16y hHeld ?a16r
            case a16h => (simp only [List.getElem?_toArray, List.getElem?_cons_succ, List.getElem?_cons_zero]; rfl)
            case a16q => exact fun _ _ _ h => h
            case a16y => (refine Or.inl ⟨by first | kernel_rfl | rfl, ?_⟩; intro w hSw; obtain ⟨⟨x0, x1⟩, ⟨y0, y1⟩, -, -⟩ := hSw; go_simp <;> (try with_reducible rfl))
            try simp only [Act.put, List.setIfInBounds_toArray, List.set_cons_zero, List.set_cons_succ]
            refine wpAnyH_take (i := 17) (oi := ?a17o) (v := ?a17v) ?a17h (by kernel_rfl) (by kernel_rfl) (by kernel_rfl) ?a17q ?a17y hHeld ?a17r
            case a17h => (simp only [List.getElem?_toArray, List.getElem?_cons_succ, List.getElem?_cons_zero]; rfl)
            case a17q => exact fun _ _ _ h => h
            case a17y => (refine Or.inl ⟨by first | kernel_rfl | rfl, ?_⟩; intro w hSw; obtain ⟨⟨x0, x1⟩, ⟨y0, y1⟩, -, -⟩ := hSw; go_simp <;> (try with_reducible rfl))
            try simp only [Act.put, List.setIfInBounds_toArray, List.set_cons_zero, List.set_cons_succ]
            refine wpAnyH_take (i := 18) (oi := ?a18o) (v := ?a18v) ?a18h (by kernel_rfl) (by kernel_rfl) (by kernel_rfl) ?a18q ?a18y hHeld ?a18r
            case a18h => (simp only [List.getElem?_toArray, List.getElem?_cons_succ, List.getElem?_cons_zero]; rfl)
            case a18q => exact fun _ _ _ h => h
            case a18y => (refine Or.inl ⟨by first | kernel_rfl | rfl, ?_⟩; intro w hSw; obtain ⟨⟨x0, x1⟩, ⟨y0, y1⟩, -, -⟩ := hSw; go_simp <;> (try with_reducible rfl))
            try simp only [Act.put, List.setIfInBounds_toArray, List.set_cons_zero, List.set_cons_succ]
            refine wpAnyH_take (i := 19) (oi := ?a19o) (v := ?a19v) ?a19h (by kernel_rfl) (by kernel_rfl) (by kernel_rfl) ?a19q ?a19y hHeld ?a19r
            case a19h => (simp only [List.getElem?_toArray, List.getElem?_cons_succ, List.getElem?_cons_zero]; rfl)
            case a19q => exact fun _ _ _ h => h
            case a19y => (refine Or.inl ⟨by first | kernel_rfl | rfl, ?_⟩; intro w hSw; obtain ⟨⟨x0, x1⟩, ⟨y0, y1⟩, -, -⟩ := hSw; go_simp <;> (try with_reducible rfl))
            try simp only [Act.put, List.setIfInBounds_toArray, List.set_cons_zero, List.set_cons_succ]
            refine wpAnyH_take (i := 20) (oi := ?a20o) (v := ?a20v) ?a20h (by kernel_rfl) (by kernel_rfl) (by kernel_rfl) ?a20q ?a20y hHeld ?a20r
            case a20h => (simp only [List.getElem?_toArray, List.getElem?_cons_succ, List.getElem?_cons_zero]; rfl)
            case a20q => exact fun _ _ _ h => h
            case a20y => (refine Or.inl ⟨by first | kernel_rfl | rfl, ?_⟩; intro w hSw; obtain ⟨⟨x0, x1⟩, ⟨y0, y1⟩, -, -⟩ := hSw; go_simp <;> (try with_reducible rfl))
            try simp only [Act.put, List.setIfInBounds_toArray, List.set_cons_zero, List.set_cons_succ]
            refine wpAnyH_take (i := 21) (oi := ?a21o) (v := ?a21v) ?a21h (by kernel_rfl) (by kernel_rfl) (by kernel_rfl) ?a21q ?a21y hHeld ?a21r
            case a21h => (simp only [List.getElem?_toArray, List.getElem?_cons_succ, List.getElem?_cons_zero]; rfl)
            case a21q => exact fun _ _ _ h => h
            case a21y => (refine Or.inl ⟨by first | kernel_rfl | rfl, ?_⟩; intro w hSw; obtain ⟨⟨x0, x1⟩, ⟨y0, y1⟩, -, -⟩ := hSw; go_simp <;> (try with_reducible rfl))
            try simp only [Act.put, List.setIfInBounds_toArray, List.set_cons_zero, List.set_cons_succ]
            refine wpAnyH_take (i := 22) (oi := ?a22o) (v := ?a22v) ?a22h (by kernel_rfl) (by kernel_rfl) (by kernel_rfl) ?a22q ?a22y hHeld ?a22r
            case a22h => (simp only [List.getElem?_toArray, List.getElem?_cons_succ, List.getElem?_cons_zero]; rfl)
            case a22q => exact fun _ _ _ h => h
            case a22y => (refine Or.inl ⟨by first | kernel_rfl | rfl, ?_⟩; intro w hSw; obtain ⟨⟨x0, x1⟩, ⟨y0, y1⟩, -, -⟩ := hSw; go_simp <;> (try with_reducible rfl))
            try simp only [Act.put, List.setIfInBounds_toArray, List.set_cons_zero, List.set_cons_succ]
            refine wpAnyH_take (i := 23) (oi := ?a23o) (v := ?a23v) ?a23h (by kernel_rfl) (by kernel_rfl) (by kernel_rfl) ?a23q ?a23y hHeld ?a23r
            case a23h => (simp only [List.getElem?_toArray, List.getElem?_cons_succ, List.getElem?_cons_zero]; rfl)
            case a23q => exact fun _ _ _ h => h
            case a23y => (refine Or.inl ⟨by first | kernel_rfl | rfl, ?_⟩; intro w hSw; obtain ⟨⟨x0, x1⟩, ⟨y0, y1⟩, -, -⟩ := hSw; go_simp <;> (try with_reducible rfl))
            try simp only [Act.put, List.setIfInBounds_toArray, List.set_cons_zero, List.set_cons_succ]
            refine wpAnyH_take (i := 24) (oi := ?a24o) (v := ?a24v) ?a24h (by kernel_rfl) (by kernel_rfl) (by kernel_rfl) ?a24q ?a24y hHeld ?a24r
            case a24h => (simp only [List.getElem?_toArray, List.getElem?_cons_succ, List.getElem?_cons_zero]; rfl)
            case a24q => exact fun _ _ _ h => h
            case a24y => (refine Or.inl ⟨by first | kernel_rfl | rfl, ?_⟩; intro w hSw; obtain ⟨⟨x0, x1⟩, ⟨y0, y1⟩, -, -⟩ := hSw; go_simp <;> (try with_reducible rfl))
            try simp only [Act.put, List.setIfInBounds_toArray, List.set_cons_zero, List.set_cons_succ]
            refine wpAnyH_take (i := 25) (oi := ?a25o) (v := ?a25v) ?a25h (by kernel_rfl) (by kernel_rfl) (by kernel_rfl) ?a25q ?a25y hHeld ?a25r
            case a25h => (simp only [List.getElem?_toArray, List.getElem?_cons_succ, List.getElem?_cons_zero]; rfl)
            case a25q => exact fun _ _ _ h => h
            case a25y => (refine Or.inl ⟨by first | kernel_rfl | rfl, ?_⟩; intro w hSw; obtain ⟨⟨x0, x1⟩, ⟨y0, y1⟩, -, -⟩ := hSw; go_simp <;> (try with_reducible rfl))
            try simp only [Act.put, List.setIfInBounds_toArray, List.set_cons_zero, List.set_cons_succ]
            refine wpAnyH_take (i := 26) (oi := ?a26o) (v := ?a26v) ?a26h (by kernel_rfl) (by kernel_rfl) (by kernel_rfl) ?a26q ?a26y hHeld ?a26r
            case a26h => (simp only [List.getElem?_toArray, List.getElem?_cons_succ, List.getElem?_cons_zero]; rfl)
            case a26q => exact fun _ _ _ h => h
            case a26y => (refine Or.inl ⟨by first | kernel_rfl | rfl, ?_⟩; intro w hSw; obtain ⟨⟨x0, x1⟩, ⟨y0, y1⟩, -, -⟩ := hSw; go_simp <;> (try with_reducible rfl))
            try simp only [Act.put, List.setIfInBounds_toArray, List.set_cons_zero, List.set_cons_succ]
            refine wpAnyH_take (i := 27) (oi := ?a27o) (v := ?a27v) ?a27h (by kernel_rfl) (by kernel_rfl) (by kernel_rfl) ?a27q ?a27y hHeld ?a27r
            case a27h => (simp only [List.getElem?_toArray, List.getElem?_cons_succ, List.getElem?_cons_zero]; rfl)
            case a27q => exact fun _ _ _ h => h
            case a27y => (refine Or.inl ⟨by first | kernel_rfl | rfl, ?_⟩; intro w hSw; obtain ⟨⟨x0, x1⟩, ⟨y0, y1⟩, -, -⟩ := hSw; go_simp <;> (try with_reducible rfl))
            try simp only [Act.put, List.setIfInBounds_toArray, List.set_cons_zero, List.set_cons_succ]
            refine wpAnyH_take (i := 28) (oi := ?a28o) (v := ?a28v) ?a28h (by kernel_rfl) (by kernel_rfl) (by kernel_rfl) ?a28q ?a28y hHeld ?a28r
            case a28h => (simp only [List.getElem?_toArray, List.getElem?_cons_succ, List.getElem?_cons_zero]; rfl)
            case a28q => exact fun _ _ _ h => h
            case a28y => (refine Or.inl ⟨by first | kernel_rfl | rfl, ?_⟩; intro w hSw; obtain ⟨⟨x0, x1⟩, ⟨y0, y1⟩, -, -⟩ := hSw; go_simp <;> (try with_reducible rfl))
            try simp only [Act.put, List.setIfInBounds_toArray, List.set_cons_zero, List.set_cons_succ]
            refine wpAnyH_take (i := 29) (oi := ?a29o) (v := ?a29v) ?a29h (by kernel_rfl) (by kernel_rfl) (by kernel_rfl) ?a29q ?a29y hHeld ?a29r
            case a29h => (simp only [List.getElem?_toArray, List.getElem?_cons_succ, List.getElem?_cons_zero]; rfl)
            case a29q => exact fun _ _ _ h => h
            case a29y => (refine Or.inl ⟨by first | kernel_rfl | rfl, ?_⟩; intro w hSw; obtain ⟨⟨x0, x1⟩, ⟨y0, y1⟩, -, -⟩ := hSw; go_simp <;> (try with_reducible rfl))
            try simp only [Act.put, List.setIfInBounds_toArray, List.set_cons_zero, List.set_cons_succ]
            refine wpAnyH_take (i := 30) (oi := ?a30o) (v := ?a30v) ?a30h (by kernel_rfl) (by kernel_rfl) (by kernel_rfl) ?a30q ?a30y hHeld ?a30r
            case a30h => (simp only [List.getElem?_toArray, List.getElem?_cons_succ, List.getElem?_cons_zero]; rfl)
            case a30q => exact fun _ _ _ h => h
            case a30y => (refine Or.inl ⟨by first | kernel_rfl | rfl, ?_⟩; intro w hSw; obtain ⟨⟨x0, x1⟩, ⟨y0, y1⟩, -, -⟩ := hSw; go_simp <;> (try with_reducible rfl))
            try simp only [Act.put, List.setIfInBounds_toArray, List.set_cons_zero, List.set_cons_succ]
            refine wpAnyH_take (i := 31) (oi := ?a31o) (v := ?a31v) ?a31h (by kernel_rfl) (by kernel_rfl) (by kernel_rfl) ?a31q ?a31y hHeld ?a31r
            case a31h => (simp only [List.getElem?_toArray, List.getElem?_cons_succ, List.getElem?_cons_zero]; rfl)
            case a31q => exact fun _ _ _ h => h
            case a31y => (refine Or.inl ⟨by first | kernel_rfl | rfl, ?_⟩; intro w hSw; obtain ⟨⟨x0, x1⟩, ⟨y0, y1⟩, -, -⟩ := hSw; go_simp <;> (try with_reducible rfl))
            try simp only [Act.put, List.setIfInBounds_toArray, List.set_cons_zero, List.set_cons_succ]
            refine wpAnyH_take (i := 32) (oi := ?a32o) (v := ?a32v) ?a32h (by kernel_rfl) (by kernel_rfl) (by kernel_rfl) ?a32q ?a32y hHeld ?a32r
            case a32h => (simp only [List.getElem?_toArray, List.getElem?_cons_succ, List.getElem?_cons_zero]; rfl)
            case a32q => exact fun _ _ _ h => h
            case a32y => (refine Or.inl ⟨by first | kernel_rfl | rfl, ?_⟩; intro w hSw; obtain ⟨⟨x0, x1⟩, ⟨y0, y1⟩, -, -⟩ := hSw; go_simp <;> (try with_reducible rfl))
            try simp only [Act.put, List.setIfInBounds_toArray, List.set_cons_zero, List.set_cons_succ]
            refine wpAnyH_take (i := 33) (oi := ?a33o) (v := ?a33v) ?a33h (by kernel_rfl) (by kernel_rfl) (by kernel_rfl) ?a33q ?a33y hHeld ?a33r
            case a33h => (simp only [List.getElem?_toArray, List.getElem?_cons_succ, List.getElem?_cons_zero]; rfl)
            case a33q => exact fun _ _ _ h => h
            case a33y => (refine Or.inl ⟨by first | kernel_rfl | rfl, ?_⟩; intro w hSw; obtain ⟨⟨x0, x1⟩, ⟨y0, y1⟩, -, -⟩ := hSw; go_simp <;> (try with_reducible rfl))
            try simp only [Act.put, List.setIfInBounds_toArray, List.set_cons_zero, List.set_cons_succ]
            refine wpAnyH_take (i := 34) (oi := ?a34o) (v := ?a34v) ?a34h (by kernel_rfl) (by kernel_rfl) (by kernel_rfl) ?a34q ?a34y hHeld ?a34r
            case a34h => (simp only [List.getElem?_toArray, List.getElem?_cons_succ, List.getElem?_cons_zero]; rfl)
            case a34q => exact fun _ _ _ h => h
            case a34y => (refine Or.inl ⟨by first | kernel_rfl | rfl, ?_⟩; intro w hSw; obtain ⟨⟨x0, x1⟩, ⟨y0, y1⟩, -, -⟩ := hSw; go_simp <;> (try with_reducible rfl))
            try simp only [Act.put, List.setIfInBounds_toArray, List.set_cons_zero, List.set_cons_succ]
            refine wpAnyH_take (i := 35) (oi := ?a35o) (v := ?a35v) ?a35h (by kernel_rfl) (by kernel_rfl) (by kernel_rfl) ?a35q ?a35y hHeld ?a35r
            case a35h => (simp only [List.getElem?_toArray, List.getElem?_cons_succ, List.getElem?_cons_zero]; rfl)
            case a35q => exact fun _ _ _ h => h
            case a35y => (refine Or.inl ⟨by first | kernel_rfl | rfl, ?_⟩; intro w hSw; obtain ⟨⟨x0, x1⟩, ⟨y0, y1⟩, -, -⟩ := hSw; go_simp <;> (try with_reducible rfl))
            try simp only [Act.put, List.setIfInBounds_toArray, List.set_cons_zero, List.set_cons_succ]
            refine wpAnyH_take (i := 36) (oi := ?a36o) (v := ?a36v) ?a36h (by kernel_rfl) (by kernel_rfl) (by kernel_rfl) ?a36q ?a36y hHeld ?a36r
            case a36h => (simp only [List.getElem?_toArray, List.getElem?_cons_succ, List.getElem?_cons_zero]; rfl)
            case a36q => exact fun _ _ _ h => h
            case a36y => (refine Or.inl ⟨by first | kernel_rfl | rfl, ?_⟩; intro w hSw; obtain ⟨⟨x0, x1⟩, ⟨y0, y1⟩, -, -⟩ := hSw; go_simp <;> (try with_reducible rfl))
            try simp only [Act.put, List.setIfInBounds_toArray, List.set_cons_zero, List.set_cons_succ]
            refine wpAnyH_take (i := 37) (oi := ?a37o) (v := ?a37v) ?a37h (by kernel_rfl) (by kernel_rfl) (by kernel_rfl) ?a37q ?a37y hHeld ?a37r
            case a37h => (simp only [List.getElem?_toArray, List.getElem?_cons_succ, List.getElem?_cons_zero]; rfl)
            case a37q => exact fun _ _ _ h => h
            case a37y => (refine Or.inl ⟨by first | kernel_rfl | rfl, ?_⟩; intro w hSw; obtain ⟨⟨x0, x1⟩, ⟨y0, y1⟩, -, -⟩ := hSw; go_simp <;> (try with_reducible rfl))
            try simp only [Act.put, List.setIfInBounds_toArray, List.set_cons_zero, List.set_cons_succ]
            refine wpAnyH_take (i := 38) (oi := ?a38o) (v := ?a38v) ?a38h (by kernel_rfl) (by kernel_rfl) (by kernel_rfl) ?a38q ?a38y hHeld ?a38r
            case a38h => (simp only [List.getElem?_toArray, List.getElem?_cons_succ, List.getElem?_cons_zero]; rfl)
            case a38q => exact fun _ _ _ h => h
            case a38y => (refine Or.inl ⟨by first | kernel_rfl | rfl, ?_⟩; intro w hSw; obtain ⟨⟨x0, x1⟩, ⟨y0, y1⟩, -, -⟩ := hSw; go_simp <;> (try with_reducible rfl))
            try simp only [Act.put, List.setIfInBounds_toArray, List.set_cons_zero, List.set_cons_succ]
            refine wpAnyH_take (i := 39) (oi := ?a39o) (v := ?a39v) ?a39h (by kernel_rfl) (by kernel_rfl) (by kernel_rfl) ?a39q ?a39y hHeld ?a39r
            case a39h => (simp only [List.getElem?_toArray, List.getElem?_cons_succ, List.getElem?_cons_zero]; rfl)
            case a39q => exact fun _ _ _ h => h
            case a39y => (refine Or.inl ⟨by first | kernel_rfl | rfl, ?_⟩; intro w hSw; obtain ⟨⟨x0, x1⟩, ⟨y0, y1⟩, -, -⟩ := hSw; go_simp <;> (try with_reducible rfl))
            try simp only [Act.put, List.setIfInBounds_toArray, List.set_cons_zero, List.set_cons_succ]
            refine wpAnyH_take (i := 41) (oi := ?a40o) (v := ?a40v) ?a40h (by kernel_rfl) (by kernel_rfl) (by kernel_rfl) ?a40q ?a40y hHeld ?a40r
            case a40h => (simp only [List.getElem?_toArray, List.getElem?_cons_succ, List.getElem?_cons_zero]; rfl)
            case a40q => exact fun _ _ _ h => h
            case a40y => (refine Or.inl ⟨by first | kernel_rfl | rfl, ?_⟩; intro w hSw; obtain ⟨⟨x0, x1⟩, ⟨y0, y1⟩, -, -⟩ := hSw; go_simp <;> (try with_reducible rfl))
            try simp only [Act.put, List.setIfInBounds_toArray, List.set_cons_zero, List.set_cons_succ]
            refine wpAnyH_take (i := 42) (oi := ?a41o) (v := ?a41v) ?a41h (by kernel_rfl) (by kernel_rfl) (by kernel_rfl) ?a41q ?a41y hHeld ?a41r
            case a41h => (simp only [List.getElem?_toArray, List.getElem?_cons_succ, List.getElem?_cons_zero]; rfl)
            case a41q => exact fun _ _ _ h => h
            case a41y => (refine Or.inl ⟨by first | kernel_rfl | rfl, ?_⟩; intro w hSw; obtain ⟨⟨x0, x1⟩, ⟨y0, y1⟩, -, -⟩ := hSw; go_simp <;> (try with_reducible rfl))
            try simp only [Act.put, List.setIfInBounds_toArray, List.set_cons_zero, List.set_cons_succ]
            refine wpAnyH_ready (rs := [40]) (by kernel_rfl) (by simp) ?_
            refine (AllReadyH.cons rfl (fun K hK => ?_) AllReadyH.nil)
            go_simp
            ((with_reducible refine (ks1 _ hHeld.tab).mono ?_); rintro e w' ⟨rfl, rfl⟩)
            refine hK.out _ _ (hHeld) (fun hHeld => ?_)
            clear hK K
            try simp only [Act.put, List.setIfInBounds_toArray, List.set_cons_zero, List.set_cons_succ]
            refine wpAnyH_take (i := 43) (oi := ?a42o) (v := ?a42v) ?a42h (by kernel_rfl) (by kernel_rfl) (by kernel_rfl) ?a42q ?a42y hHeld ?a42r
            case a42h => (simp only [List.getElem?_toArray, List.getElem?_cons_succ, List.getElem?_cons_zero]; rfl)
            case a42q => exact fun _ _ _ h => h
            case a42y => (refine Or.inl ⟨by first | kernel_rfl | rfl, ?_⟩; intro w hSw; obtain ⟨⟨x0, x1⟩, ⟨y0, y1⟩, -, -⟩ := hSw; go_simp <;> (try with_reducible rfl))
            try simp only [Act.put, List.setIfInBounds_toArray, List.set_cons_zero, List.set_cons_succ]
            refine wpAnyH_take (i := 44) (oi := ?a43o) (v := ?a43v) ?a43h (by kernel_rfl) (by kernel_rfl) (by kernel_rfl) ?a43q ?a43y hHeld ?a43r
            case a43h => (simp only [List.getElem?_toArray, List.getElem?_cons_succ, List.getElem?_cons_zero]; rfl)
            case a43q => exact fun _ _ _ h => h
            case a43y => (refine Or.inl ⟨by first | kernel_rfl | rfl, ?_⟩; intro w hSw; obtain ⟨⟨x0, x1⟩, ⟨y0, y1⟩, -, -⟩ := hSw; go_simp <;> (try with_reducible rfl))
            try simp only [Act.put, List.setIfInBounds_toArray, List.set_cons_zero, List.set_cons_succ]
            refine wpAnyH_take (i := 45) (oi := ?a44o) (v := ?a44v) ?a44h (by kernel_rfl) (by kernel_rfl) (by kernel_rfl) ?a44q ?a44y hHeld ?a44r
            case a44h => (simp only [List.getElem?_toArray, List.getElem?_cons_succ, List.getElem?_cons_zero]; rfl)
            case a44q => exact fun _ _ _ h => h
            case a44y => (refine Or.inl ⟨by first | kernel_rfl | rfl, ?_⟩; intro w hSw; obtain ⟨⟨x0, x1⟩, ⟨y0, y1⟩, -, -⟩ := hSw; go_simp <;> (try with_reducible rfl))
            try simp only [Act.put, List.setIfInBounds_toArray, List.set_cons_zero, List.set_cons_succ]
            refine wpAnyH_take (i := 46) (oi := ?a45o) (v := ?a45v) ?a45h (by kernel_rfl) (by kernel_rfl) (by kernel_rfl) ?a45q ?a45y hHeld ?a45r
            case a45h => (simp only [List.getElem?_toArray, List.getElem?_cons_succ, List.getElem?_cons_zero]; rfl)
            case a45q => exact fun _ _ _ h => h
            case a45y => (refine Or.inl ⟨by first | kernel_rfl | rfl, ?_⟩; intro w hSw; obtain ⟨⟨x0, x1⟩, ⟨y0, y1⟩, -, -⟩ := hSw; go_simp <;> (try with_reducible rfl))
            try simp only [Act.put, List.setIfInBounds_toArray, List.set_cons_zero, List.set_cons_succ]
            refine wpAnyH_take (i := 47) (oi := ?a46o) (v := ?a46v) ?a46h (by kernel_rfl) (by kernel_rfl) (by kernel_rfl) ?a46q ?a46y hHeld ?a46r
            case a46h => (simp only [List.getElem?_toArray, List.getElem?_cons_succ, List.getElem?_cons_zero]; rfl)
            case a46q => exact fun _ _ _ h => h
            case a46y => (refine Or.inl ⟨by first | kernel_rfl | rfl, ?_⟩; intro w hSw; obtain ⟨⟨x0, x1⟩, ⟨y0, y1⟩, -, -⟩ := hSw; go_simp <;> (try with_reducible rfl))
            try simp only [Act.put, List.setIfInBounds_toArray, List.set_cons_zero, List.set_cons_succ]
            refine wpAnyH_take (i := 48) (oi := ?a47o) (v := ?a47v) ?a47h (by kernel_rfl) (by kernel_rfl) (by kernel_rfl) ?a47q ?a47y hHeld ?a47r
            case a47h => (simp only [List.getElem?_toArray, List.getElem?_cons_succ, List.getElem?_cons_zero]; rfl)
            case a47q => exact fun _ _ _ h => h
            case a47y => (refine Or.inl ⟨by first | kernel_rfl | rfl, ?_⟩; intro w hSw; obtain ⟨⟨x0, x1⟩, ⟨y0, y1⟩, -, -⟩ := hSw; go_simp <;> (try with_reducible rfl))
            try simp only [Act.put, List.setIfInBounds_toArray, List.set_cons_zero, List.set_cons_succ]
            refine wpAnyH_take (i := 49) (oi := ?a48o) (v := ?a48v) ?a48h (by kernel_rfl) (by kernel_rfl) (by kernel_rfl) ?a48q ?a48y hHeld ?a48r
            case a48h => (simp only [List.getElem?_toArray, List.getElem?_cons_succ, List.getElem?_cons_zero]; rfl)
            case a48q => exact fun _ _ _ h => h
            case a48y => (refine Or.inl ⟨by first | kernel_rfl | rfl, ?_⟩; intro w hSw; obtain ⟨⟨x0, x1⟩, ⟨y0, y1⟩, -, -⟩ := hSw; go_simp <;> (try with_reducible rfl))
            try simp only [Act.put, List.setIfInBounds_toArray, List.set_cons_zero, List.set_cons_succ]
            refine wpAnyH_take (i := 51) (oi := ?a49o) (v := ?a49v) ?a49h (by kernel_rfl) (by kernel_rfl) (by kernel_rfl) ?a49q ?a49y hHeld ?a49r
            case a49h => (simp only [List.getElem?_toArray, List.getElem?_cons_succ, List.getElem?_cons_zero]; rfl)
            case a49q => exact fun _ _ _ h => h
            case a49y => (refine Or.inl ⟨by first | kernel_rfl | rfl, ?_⟩; intro w hSw; obtain ⟨⟨x0, x1⟩, ⟨y0, y1⟩, -, -⟩ := hSw; go_simp <;> (try with_reducible rfl))
            try simp only [Act.put, List.setIfInBounds_toArray, List.set_cons_zero, List.set_cons_succ]
            refine wpAnyH_take (i := 52) (oi := ?a50o) (v := ?a50v) ?a50h (by kernel_rfl) (by kernel_rfl) (by kernel_rfl) ?a50q ?a50y hHeld ?a50r
            case a50h => (simp only [List.getElem?_toArray, List.getElem?_cons_succ, List.getElem?_cons_zero]; rfl)
            case a50q => exact fun _ _ _ h => h
            case a50y => (refine Or.inl ⟨by first | kernel_rfl | rfl, ?_⟩; intro w hSw; obtain ⟨⟨x0, x1⟩, ⟨y0, y1⟩, -, -⟩ := hSw; go_simp <;> (try with_reducible rfl))
            try simp only [Act.put, List.setIfInBounds_toArray, List.set_cons_zero, List.set_cons_succ]
            refine wpAnyH_ready (rs := [50]) (by kernel_rfl) (by simp) ?_
            refine (AllReadyH.cons rfl (fun K hK => ?_) AllReadyH.nil)
            go_simp
            ((with_reducible refine (ks2 _ hHeld.tab).mono ?_); rintro e w' ⟨rfl, rfl⟩)
            refine hK.out _ _ (hHeld) (fun hHeld => ?_)
            clear hK K
            try simp only [Act.put, List.setIfInBounds_toArray, List.set_cons_zero, List.set_cons_succ]
            refine wpAnyH_take (i := 53) (oi := ?a51o) (v := ?a51v) ?a51h (by kernel_rfl) (by kernel_rfl) (by kernel_rfl) ?a51q ?a51y hHeld ?a51r
            case a51h => (simp only [List.getElem?_toArray, List.getElem?_cons_succ, List.getElem?_cons_zero]; rfl)
            case a51q => exact fun _ _ _ h => h
            case a51y => (refine Or.inl ⟨by first | kernel_rfl | rfl, ?_⟩; intro w hSw; obtain ⟨⟨x0, x1⟩, ⟨y0, y1⟩, -, -⟩ := hSw; go_simp <;> (try with_reducible rfl))
            try simp only [Act.put, List.setIfInBounds_toArray, List.set_cons_zero, List.set_cons_succ]
            refine wpAnyH_take (i := 54) (oi := ?a52o) (v := ?a52v) ?a52h (by kernel_rfl) (by kernel_rfl) (by kernel_rfl) ?a52q ?a52y hHeld ?a52r
            case a52h => (simp only [List.getElem?_toArray, List.getElem?_cons_succ, List.getElem?_cons_zero]; rfl)
            case a52q => exact fun _ _ _ h => h
            case a52y => (refine Or.inl ⟨by first | kernel_rfl | rfl, ?_⟩; intro w hSw; obtain ⟨⟨x0, x1⟩, ⟨y0, y1⟩, -, -⟩ := hSw; go_simp <;> (try with_reducible rfl))
            try simp only [Act.put, List.setIfInBounds_toArray, List.set_cons_zero, List.set_cons_succ]
            refine wpAnyH_done (by kernel_rfl) ?_ _
            have hbel := hHeld.bel
            refine noPanic_n ?_
            gi_wp2
            go_roundw
            case rel => exact ⟨k + 1, by go_num, by omega, hbel⟩
            case measure => simp [intOf]; omega
          · have HK3 := Lib.hid (show decide ((k : Int) < 3) = false from decide_eq_false (by omega))
            clear HNX
            gi_wp2_with (gi_at_call 15; first
              | ((refine callsIn_wide.2 ((kof2 _ H3.out.tab).mono ?_)); rintro e w4 ⟨rfl, hb⟩; (have HPS := Lib.hid ((HS3.out.below hb).below ((Below.refl _ _).alloc (Nat.le_refl _) (.cells #[.int .i64 v.f, .int .i64 v.t] 26)))); (have H4 := Lib.hid ((H3.out.keep hb).keep ((Below.refl _ _).alloc (Nat.le_refl _) (.cells #[.int .i64 v.f, .int .i64 v.t] 26)))); (have HB4 := Lib.hid (bel_next (bel_next HB3.out hb) ((Below.refl _ _).alloc (Nat.le_refl _) (.cells #[.int .i64 v.f, .int .i64 v.t] 26)))); (have HP9 := Lib.hid (P9.mk (w := w1) HPS.out (SpAt.new w4 v 26) H4.out.tab HB4.out)); clear hb)
              | ((refine callsIn_wide.2 ((kof _ H2.out.tab).mono ?_)); rintro e w3 ⟨rfl, hb⟩; (have H3 := Lib.hid ((H2.out.keep hb).keep ((Below.refl _ _).alloc (Nat.le_refl _) (.cells #[.int .i64 p.f, .int .i64 p.t] 26)))); (have HS3 := Lib.hid (SpAt.new w3 p 26)); (have HB3 := Lib.hid (bel_next (bel_next HB2.out hb) ((Below.refl _ _).alloc (Nat.le_refl _) (.cells #[.int .i64 p.f, .int .i64 p.t] 26)))); clear hb))
            refine wide_of ?_
            obtain ⟨g1, g2⟩ := HGG.out
            have hk3i := HK3.out
            refine wp_region_held_drew (S := (P9 w1 w3.heap.size w4.heap.size p v)) (by kernel_rfl) HP9.out.drew (fun hHeld => ?_)
            refine wpAnyH_take (i := 0) (oi := ?b1o) (v := ?b1v) ?b1h (by kernel_rfl) (by kernel_rfl) (by kernel_rfl) ?b1q ?b1y hHeld ?b1r
            case b1h => (simp only [List.getElem?_toArray, List.getElem?_cons_zero]; rfl)
            case b1q => exact fun _ _ _ h => h
            case b1y => (refine Or.inl ⟨by first | kernel_rfl | rfl, ?_⟩; intro w hSw; obtain ⟨⟨x0, x1⟩, ⟨y0, y1⟩, -, -⟩ := hSw; go_simp <;> (try with_reducible rfl))
            try simp only [Act.put, List.setIfInBounds_toArray, List.set_cons_zero, List.set_cons_succ]
            refine wpAnyH_take (i := 1) (oi := ?b2o) (v := ?b2v) ?b2h (by kernel_rfl) (by kernel_rfl) (by kernel_rfl) ?b2q ?b2y hHeld ?b2r
            case b2h => (simp only [List.getElem?_toArray, List.getElem?_cons_succ, List.getElem?_cons_zero]; rfl)
            case b2q => exact fun _ _ _ h => h
            case b2y => (refine Or.inl ⟨by first | kernel_rfl | rfl, ?_⟩; intro w hSw; obtain ⟨⟨x0, x1⟩, ⟨y0, y1⟩, -, -⟩ := hSw; go_simp <;> (try with_reducible rfl))
            try simp only [Act.put, List.setIfInBounds_toArray, List.set_cons_zero, List.set_cons_succ]
            refine wpAnyH_take (i := 2) (oi := ?b3o) (v := ?b3v) ?b3h (by kernel_rfl) (by kernel_rfl) (by kernel_rfl) ?b3q ?b3y hHeld ?b3r
            case b3h => (simp only [List.getElem?_toArray, List.getElem?_cons_succ, List.getElem?_cons_zero]; rfl)
            case b3q => exact fun _ _ _ h => h
            case b3y => (refine Or.inl ⟨by first | kernel_rfl | rfl, ?_⟩; intro w hSw; obtain ⟨⟨x0, x1⟩, ⟨y0, y1⟩, -, -⟩ := hSw; go_simp <;> (try with_reducible rfl))
            try simp only [Act.put, List.setIfInBounds_toArray, List.set_cons_zero, List.set_cons_succ]
            refine wpAnyH_take (i := 3) (oi := ?b4o) (v := ?b4v) ?b4h (by kernel_rfl) (by kernel_rfl) (by kernel_rfl) ?b4q ?b4y hHeld ?b4r
            case b4h => (simp only [List.getElem?_toArray, List.getElem?_cons_succ, List.getElem?_cons_zero]; rfl)
            case b4q => exact fun _ _ _ h => h
            case b4y => (refine Or.inl ⟨by first | kernel_rfl | rfl, ?_⟩; intro w hSw; obtain ⟨⟨x0, x1⟩, ⟨y0, y1⟩, -, -⟩ := hSw; go_simp <;> (try with_reducible rfl))
            try simp only [Act.put, List.setIfInBounds_toArray, List.set_cons_zero, List.set_cons_succ]
            refine wpAnyH_take (i := 4) (oi := ?b5o) (v := ?b5v) ?b5h (by kernel_rfl) (by kernel_rfl) (by kernel_rfl) ?b5q ?b5y hHeld ?b5r
            case b5h => (simp only [List.getElem?_toArray, List.getElem?_cons_succ, List.getElem?_cons_zero]; rfl)
            case b5q => exact fun _ _ _ h => h
            case b5y => (refine Or.inl ⟨by first | kernel_rfl | rfl, ?_⟩; intro w hSw; obtain ⟨⟨x0, x1⟩, ⟨y0, y1⟩, -, -⟩ := hSw; go_simp <;> (try with_reducible rfl))
            try simp only [Act.put, List.setIfInBounds_toArray, List.set_cons_zero, List.set_cons_succ]
            refine wpAnyH_take (i := 5) (oi := ?b6o) (v := ?b6v) ?b6h (by kernel_rfl) (by kernel_rfl) (by kernel_rfl) ?b6q ?b6y hHeld ?b6r
            case b6h => (simp only [List.getElem?_toArray, List.getElem?_cons_succ, List.getElem?_cons_zero]; rfl)
            case b6q => exact fun _ _ _ h => h
            case b6y => (refine Or.inl ⟨by first | kernel_rfl | rfl, ?_⟩; intro w hSw; obtain ⟨⟨x0, x1⟩, ⟨y0, y1⟩, -, -⟩ := hSw; go_simp <;> (try with_reducible rfl))
            try simp only [Act.put, List.setIfInBounds_toArray, List.set_cons_zero, List.set_cons_succ]
            refine wpAnyH_take (i := 6) (oi := ?b7o) (v := ?b7v) ?b7h (by kernel_rfl) (by kernel_rfl) (by kernel_rfl) ?b7q ?b7y hHeld ?b7r
            case b7h => (simp only [List.getElem?_toArray, List.getElem?_cons_succ, List.getElem?_cons_zero]; rfl)
            case b7q => exact fun _ _ _ h => h
            case b7y => (refine Or.inl ⟨by first | kernel_rfl | rfl, ?_⟩; intro w hSw; obtain ⟨⟨x0, x1⟩, ⟨y0, y1⟩, -, -⟩ := hSw; go_simp <;> (try with_reducible rfl))
            try simp only [Act.put, List.setIfInBounds_toArray, List.set_cons_zero, List.set_cons_succ]
            refine wpAnyH_take (i := 7) (oi := ?b8o) (v := ?b8v) ?b8h (by kernel_rfl) (by kernel_rfl) (by kernel_rfl) ?b8q ?b8y hHeld ?b8r
            case b8h => (simp only [List.getElem?_toArray, List.getElem?_cons_succ, List.getElem?_cons_zero]; rfl)
            case b8q => exact fun _ _ _ h => h
            case b8y => (refine Or.inl ⟨by first | kernel_rfl | rfl, ?_⟩; intro w hSw; obtain ⟨⟨x0, x1⟩, ⟨y0, y1⟩, -, -⟩ := hSw; go_simp <;> (try with_reducible rfl))
            try simp only [Act.put, List.setIfInBounds_toArray, List.set_cons_zero, List.set_cons_succ]
            refine wpAnyH_take (i := 8) (oi := ?b9o) (v := ?b9v) ?b9h (by kernel_rfl) (by kernel_rfl) (by kernel_rfl) ?b9q ?b9y hHeld ?b9r
            case b9h => (simp only [List.getElem?_toArray, List.getElem?_cons_succ, List.getElem?_cons_zero]; rfl)
            case b9q => exact fun _ _ _ h => h
            case b9y => (refine Or.inl ⟨by first | kernel_rfl | rfl, ?_⟩; intro w hSw; obtain ⟨⟨x0, x1⟩, ⟨y0, y1⟩, -, -⟩ := hSw; go_simp <;> (try with_reducible rfl))
            try simp only [Act.put, List.setIfInBounds_toArray, List.set_cons_zero, List.set_cons_succ]
            refine wpAnyH_take (i := 9) (oi := ?b10o) (v := ?b10v) ?b10h (by kernel_rfl) (by kernel_rfl) (by kernel_rfl) ?b10q ?b10y hHeld ?b10r
            case b10h => (simp only [List.getElem?_toArray, List.getElem?_cons_succ, List.getElem?_cons_zero]; rfl)
            case b10q => exact fun _ _ _ h => h
            case b10y => (refine Or.inl ⟨by first | kernel_rfl | rfl, ?_⟩; intro w hSw; obtain ⟨⟨x0, x1⟩, ⟨y0, y1⟩, -, -⟩ := hSw; go_simp <;> (try with_reducible rfl))
            try simp only [Act.put, List.setIfInBounds_toArray, List.set_cons_zero, List.set_cons_succ]
            refine wpAnyH_take (i := 10) (oi := ?b11o) (v := ?b11v) ?b11h (by kernel_rfl) (by kernel_rfl) (by kernel_rfl) ?b11q ?b11y hHeld ?b11r
            case b11h => (simp only [List.getElem?_toArray, List.getElem?_cons_succ, List.getElem?_cons_zero]; rfl)
            case b11q => exact fun _ _ _ h => h
            case b11y => (refine Or.inl ⟨by first | kernel_rfl | rfl, ?_⟩; intro w hSw; obtain ⟨⟨x0, x1⟩, ⟨y0, y1⟩, -, -⟩ := hSw; go_simp <;> (try with_reducible rfl))
            try simp only [Act.put, List.setIfInBounds_toArray, List.set_cons_zero, List.set_cons_succ]
            refine wpAnyH_take (i := 11) (oi := ?b12o) (v := ?b12v) ?b12h (by kernel_rfl) (by kernel_rfl) (by kernel_rfl) ?b12q ?b12y hHeld ?b12r
            case b12h => (simp only [List.getElem?_toArray, List.getElem?_cons_succ, List.getElem?_cons_zero]; rfl)
            case b12q => exact fun _ _ _ h => h
            case b12y => (refine Or.inl ⟨by first | kernel_rfl | rfl, ?_⟩; intro w hSw; obtain ⟨⟨x0, x1⟩, ⟨y0, y1⟩, -, -⟩ := hSw; go_simp <;> (try with_reducible rfl))
            try simp only [Act.put, List.setIfInBounds_toArray, List.set_cons_zero, List.set_cons_succ]
            refine wpAnyH_take (i := 12) (oi := ?b13o) (v := ?b13v) ?b13h (by kernel_rfl) (by kernel_rfl) (by kernel_rfl) ?b13q ?b13y hHeld ?b13r
            case b13h => (simp only [List.getElem?_toArray, List.getElem?_cons_succ, List.getElem?_cons_zero]; rfl)
            case b13q => exact fun _ _ _ h => h
            case b13y => (refine Or.inl ⟨by first | kernel_rfl | rfl, ?_⟩; intro w hSw; obtain ⟨⟨x0, x1⟩, ⟨y0, y1⟩, -, -⟩ := hSw; go_simp <;> (try with_reducible rfl))
            try simp only [Act.put, List.setIfInBounds_toArray, List.set_cons_zero, List.set_cons_succ]
            refine wpAnyH_take (i := 13) (oi := ?b14o) (v := ?b14v) ?b14h (by kernel_rfl) (by kernel_rfl) (by kernel_rfl) ?b14q ?b14y hHeld ?b14r
            case b14h => (simp only [List.getElem?_toArray, List.getElem?_cons_succ, List.getElem?_cons_zero]; rfl)
            case b14q => exact fun _ _ _ h => h
            case b14y => (refine Or.inl ⟨by first | kernel_rfl | rfl, ?_⟩; intro w hSw; obtain ⟨⟨x0, x1⟩, ⟨y0, y1⟩, -, -⟩ := hSw; go_simp <;> (try with_reducible rfl))
            try simp only [Act.put, List.setIfInBounds_toArray, List.set_cons_zero, List.set_cons_succ]
            refine wpAnyH_ready (rs := [14]) (by kernel_rfl) (by simp) ?_
            refine (AllReadyH.cons rfl (fun K hK => ?_) AllReadyH.nil)
            go_simp
            ((with_reducible refine (kw _ hHeld.tab).mono ?_); rintro e w' ⟨rfl, rfl⟩)
            refine hK.out _ _ (hHeld) (fun hHeld => ?_)
            clear hK K
            try simp only [Act.put, List.setIfInBounds_toArray, List.set_cons_zero, List.set_cons_succ]
            refine wpAnyH_take (i := 15) (oi := ?b15o) (v := ?b15v) ?b15h (by kernel_rfl) (by kernel_rfl) (by kernel_rfl) ?b15q ?b15y hHeld ?b15r
            case b15h => (simp only [List.getElem?_toArray, List.getElem?_cons_succ, List.getElem?_cons_zero]; rfl)
            case b15q => exact fun _ _ _ h => h
            case b15y => (refine Or.inl ⟨by first | kernel_rfl | rfl, ?_⟩; intro w hSw; obtain ⟨⟨x0, x1⟩, ⟨y0, y1⟩, -, -⟩ := hSw; go_simp <;> (try with_reducible rfl))
            try simp only [Act.put, List.setIfInBounds_toArray, List.set_cons_zero, List.set_cons_succ]
            refine wpAnyH_take (i := 16) (oi := ?b16o) (v := ?b16v) ?b16h (by kernel_rfl) (by kernel_rfl) (by kernel_rfl) ?b16q ?b16y hHeld ?b16r
            case b16h => (simp only [List.getElem?_toArray, List.getElem?_cons_succ, List.getElem?_cons_zero]; rfl)
            case b16q => exact fun _ _ _ h => h
            case b16y => (refine Or.inl ⟨by first | kernel_rfl | rfl, ?_⟩; intro w hSw; obtain ⟨⟨x0, x1⟩, ⟨y0, y1⟩, -, -⟩ := hSw; go_simp <;> (try with_reducible rfl))
            try simp only [Act.put, List.setIfInBounds_toArray, List.set_cons_zero, List.set_cons_succ]
            refine wpAnyH_take (i := 17) (oi := ?b17o) (v := ?b17v) ?b17h (by kernel_rfl) (by kernel_rfl) (by kernel_rfl) ?b17q ?b17y hHeld ?b17r
            case b17h => (simp only [List.getElem?_toArray, List.getElem?_cons_succ, List.getElem?_cons_zero]; rfl)
            case b17q => exact fun _ _ _ h => h
            case b17y => (refine Or.inl ⟨by first | kernel_rfl | rfl, ?_⟩; intro w hSw; obtain ⟨⟨x0, x1⟩, ⟨y0, y1⟩, -, -⟩ := hSw; go_simp <;> (try with_reducible rfl))
            try simp only [Act.put, List.setIfInBounds_toArray, List.set_cons_zero, List.set_cons_succ]
            refine wpAnyH_take (i := 18) (oi := ?b18o) (v := ?b18v) ?b18h (by kernel_rfl) (by kernel_rfl) (by kernel_rfl) ?b18q ?b18y hHeld ?b18r
            case b18h => (simp only [List.getElem?_toArray, List.getElem?_cons_succ, List.getElem?_cons_zero]; rfl)
            case b18q => exact fun _ _ _ h => h
            case b18y => (refine Or.inl ⟨by first | kernel_rfl | rfl, ?_⟩; intro w hSw; obtain ⟨⟨x0, x1⟩, ⟨y0, y1⟩, -, -⟩ := hSw; go_simp <;> (try with_reducible rfl))
            try simp only [Act.put, List.setIfInBounds_toArray, List.set_cons_zero, List.set_cons_succ]
            refine wpAnyH_take (i := 19) (oi := ?b19o) (v := ?b19v) ?b19h (by kernel_rfl) (by kernel_rfl) (by kernel_rfl) ?b19q ?b19y hHeld ?b19r
            case b19h => (simp only [List.getElem?_toArray, List.getElem?_cons_succ, List.getElem?_cons_zero]; rfl)
            case b19q => exact fun _ _ _ h => h
            case b19y => (refine Or.inl ⟨by first | kernel_rfl | rfl, ?_⟩; intro w hSw; obtain ⟨⟨x0, x1⟩, ⟨y0, y1⟩, -, -⟩ := hSw; go_simp <;> (try with_reducible rfl))
            try simp only [Act.put, List.setIfInBounds_toArray, List.set_cons_zero, List.set_cons_succ]
            refine wpAnyH_take (i := 20) (oi := ?b20o) (v := ?b20v) ?b20h (by kernel_rfl) (by kernel_rfl) (by kernel_rfl) ?b20q ?b20y hHeld ?b20r
            case b20h => (simp only [List.getElem?_toArray, List.getElem?_cons_succ, List.getElem?_cons_zero]; rfl)
            case b20q => exact fun _ _ _ h => h
            case b20y => (refine Or.inl ⟨by first | kernel_rfl | rfl, ?_⟩; intro w hSw; obtain ⟨⟨x0, x1⟩, ⟨y0, y1⟩, -, -⟩ := hSw; go_simp <;> (try with_reducible rfl))
            try simp only [Act.put, List.setIfInBounds_toArray, List.set_cons_zero, List.set_cons_succ]
            refine wpAnyH_take (i := 21) (oi := ?b21o) (v := ?b21v) ?b21h (by kernel_rfl) (by kernel_rfl) (by kernel_rfl) ?b21q ?b21y hHeld ?b21r
            case b21h => (simp only [List.getElem?_toArray, List.getElem?_cons_succ, List.getElem?_cons_zero]; rfl)
            case b21q => exact fun _ _ _ h => h
            case b21y => (refine Or.inl ⟨by first | kernel_rfl | rfl, ?_⟩; intro w hSw; obtain ⟨⟨x0, x1⟩, ⟨y0, y1⟩, -, -⟩ := hSw; go_simp <;> (try with_reducible rfl))
            try simp only [Act.put, List.setIfInBounds_toArray, List.set_cons_zero, List.set_cons_succ]
            refine wpAnyH_take (i := 22) (oi := ?b22o) (v := undef) ?b22h (by kernel_rfl) (by kernel_rfl) (by kernel_rfl) ?b22q ?b22y hHeld ?b22r
            case b22h => (simp only [List.getElem?_toArray, List.getElem?_cons_succ, List.getElem?_cons_zero]; rfl)
            case b22q => exact fun _ _ _ h => h
            case b22y => exact Or.inr ⟨by first | kernel_rfl | rfl, rfl⟩
            try simp only [Act.put, List.setIfInBounds_toArray, List.set_cons_zero, List.set_cons_succ]
            refine wpAnyH_take (i := 23) (oi := ?b23o) (v := undef) ?b23h (by kernel_rfl) (by kernel_rfl) (by kernel_rfl) ?b23q ?b23y hHeld ?b23r
            case b23h => (simp only [List.getElem?_toArray, List.getElem?_cons_succ, List.getElem?_cons_zero]; rfl)
            case b23q => exact fun _ _ _ h => h
            case b23y => exact Or.inr ⟨by first | kernel_rfl | rfl, rfl⟩
            try simp only [Act.put, List.setIfInBounds_toArray, List.set_cons_zero, List.set_cons_succ]
            refine wpAnyH_take (i := 24) (oi := ?b24o) (v := undef) ?b24h (by kernel_rfl) (by kernel_rfl) (by kernel_rfl) ?b24q ?b24y hHeld ?b24r
            case b24h => (simp only [List.getElem?_toArray, List.getElem?_cons_succ, List.getElem?_cons_zero]; rfl)
            case b24q => exact fun _ _ _ h => h
            case b24y => exact Or.inr ⟨by first | kernel_rfl | rfl, rfl⟩
            try simp only [Act.put, List.setIfInBounds_toArray, List.set_cons_zero, List.set_cons_succ]
            refine wpAnyH_take (i := 25) (oi := ?b25o) (v := undef) ?b25h (by kernel_rfl) (by kernel_rfl) (by kernel_rfl) ?b25q ?b25y hHeld ?b25r
            case b25h => (simp only [List.getElem?_toArray, List.getElem?_cons_succ, List.getElem?_cons_zero]; rfl)
            case b25q => exact fun _ _ _ h => h
            case b25y => exact Or.inr ⟨by first | kernel_rfl | rfl, rfl⟩
            try simp only [Act.put, List.setIfInBounds_toArray, List.set_cons_zero, List.set_cons_succ]
            refine wpAnyH_take (i := 26) (oi := ?b26o) (v := undef) ?b26h (by kernel_rfl) (by kernel_rfl) (by kernel_rfl) ?b26q ?b26y hHeld ?b26r
            case b26h => (simp only [List.getElem?_toArray, List.getElem?_cons_succ, List.getElem?_cons_zero]; rfl)
            case b26q => exact fun _ _ _ h => h
            case b26y => exact Or.inr ⟨by first | kernel_rfl | rfl, rfl⟩
            try simp only [Act.put, List.setIfInBounds_toArray, List.set_cons_zero, List.set_cons_succ]
            refine wpAnyH_take (i := 27) (oi := ?b27o) (v := undef) ?b27h (by kernel_rfl) (by kernel_rfl) (by kernel_rfl) ?b27q ?b27y hHeld ?b27r
            case b27h => (simp only [List.getElem?_toArray, List.getElem?_cons_succ, List.getElem?_cons_zero]; rfl)
            case b27q => exact fun _ _ _ h => h
            case b27y => exact Or.inr ⟨by first | kernel_rfl | rfl, rfl⟩
            try simp only [Act.put, List.setIfInBounds_toArray, List.set_cons_zero, List.set_cons_succ]
            refine wpAnyH_take (i := 28) (oi := ?b28o) (v := undef) ?b28h (by kernel_rfl) (by kernel_rfl) (by kernel_rfl) ?b28q ?b28y hHeld ?b28r
            case b28h => (simp only [List.getElem?_toArray, List.getElem?_cons_succ, List.getElem?_cons_zero]; rfl)
            case b28q => exact fun _ _ _ h => h
            case b28y => exact Or.inr ⟨by first | kernel_rfl | rfl, rfl⟩
            try simp only [Act.put, List.setIfInBounds_toArray, List.set_cons_zero, List.set_cons_succ]
            refine wpAnyH_take (i := 29) (oi := ?b29o) (v := undef) ?b29h (by kernel_rfl) (by kernel_rfl) (by kernel_rfl) ?b29q ?b29y hHeld ?b29r
            case b29h => (simp only [List.getElem?_toArray, List.getElem?_cons_succ, List.getElem?_cons_zero]; rfl)
            case b29q => exact fun _ _ _ h => h
            case b29y => exact Or.inr ⟨by first | kernel_rfl | rfl, rfl⟩
            try simp only [Act.put, List.setIfInBounds_toArray, List.set_cons_zero, List.set_cons_succ]
            refine wpAnyH_take (i := 30) (oi := ?b30o) (v := undef) ?b30h (by kernel_rfl) (by kernel_rfl) (by kernel_rfl) ?b30q ?b30y hHeld ?b30r
            case b30h => (simp only [List.getElem?_toArray, List.getElem?_cons_succ, List.getElem?_cons_zero]; rfl)
            case b30q => exact fun _ _ _ h => h
            case b30y => exact Or.inr ⟨by first | kernel_rfl | rfl, rfl⟩
            try simp only [Act.put, List.setIfInBounds_toArray, List.set_cons_zero, List.set_cons_succ]
            refine wpAnyH_take (i := 31) (oi := ?b31o) (v := undef) ?b31h (by kernel_rfl) (by kernel_rfl) (by kernel_rfl) ?b31q ?b31y hHeld ?b31r
            case b31h => (simp only [List.getElem?_toArray, List.getElem?_cons_succ, List.getElem?_cons_zero]; rfl)
            case b31q => exact fun _ _ _ h => h
            case b31y => exact Or.inr ⟨by first | kernel_rfl | rfl, rfl⟩
            try simp only [Act.put, List.setIfInBounds_toArray, List.set_cons_zero, List.set_cons_succ]
            refine wpAnyH_take (i := 32) (oi := ?b32o) (v := undef) ?b32h (by kernel_rfl) (by kernel_rfl) (by kernel_rfl) ?b32q ?b32y hHeld ?b32r
            case b32h => (simp only [List.getElem?_toArray, List.getElem?_cons_succ, List.getElem?_cons_zero]; rfl)
            case b32q => exact fun _ _ _ h => h
            case b32y => exact Or.inr ⟨by first | kernel_rfl | rfl, rfl⟩
            try simp only [Act.put, List.setIfInBounds_toArray, List.set_cons_zero, List.set_cons_succ]
            refine wpAnyH_take (i := 33) (oi := ?b33o) (v := undef) ?b33h (by kernel_rfl) (by kernel_rfl) (by kernel_rfl) ?b33q ?b33y hHeld ?b33r
            case b33h => (simp only [List.getElem?_toArray, List.getElem?_cons_succ, List.getElem?_cons_zero]; rfl)
            case b33q => exact fun _ _ _ h => h
            case b33y => exact Or.inr ⟨by first | kernel_rfl | rfl, rfl⟩
            try simp only [Act.put, List.setIfInBounds_toArray, List.set_cons_zero, List.set_cons_succ]
            refine wpAnyH_take (i := 34) (oi := ?b34o) (v := ?b34v) ?b34h (by kernel_rfl) (by kernel_rfl) (by kernel_rfl) ?b34q ?b34y hHeld ?b34r
            case b34h => (simp only [List.getElem?_toArray, List.getElem?_cons_succ, List.getElem?_cons_zero]; rfl)
            case b34q => exact fun _ _ _ h => h
            case b34y => (refine Or.inl ⟨by first | kernel_rfl | rfl, ?_⟩; intro w hSw; obtain ⟨⟨x0, x1⟩, ⟨y0, y1⟩, -, -⟩ := hSw; go_simp <;> (try with_reducible rfl))
            try simp only [Act.put, List.setIfInBounds_toArray, List.set_cons_zero, List.set_cons_succ]
            refine wpAnyH_take (i := 35) (oi := ?b35o) (v := ?b35v) ?b35h (by kernel_rfl) (by kernel_rfl) (by kernel_rfl) ?b35q ?b35y hHeld ?b35r
            case b35h => (simp only [List.getElem?_toArray, List.getElem?_cons_succ, List.getElem?_cons_zero]; rfl)
            case b35q => exact fun _ _ _ h => h
            case b35y => (refine Or.inl ⟨by first | kernel_rfl | rfl, ?_⟩; intro w hSw; obtain ⟨⟨x0, x1⟩, ⟨y0, y1⟩, -, -⟩ := hSw; go_simp <;> (try with_reducible rfl))
            try simp only [Act.put, List.setIfInBounds_toArray, List.set_cons_zero, List.set_cons_succ]
            refine wpAnyH_take (i := 36) (oi := ?b36o) (v := ?b36v) ?b36h (by kernel_rfl) (by kernel_rfl) (by kernel_rfl) ?b36q ?b36y hHeld ?b36r
            case b36h => (simp only [List.getElem?_toArray, List.getElem?_cons_succ, List.getElem?_cons_zero]; rfl)
            case b36q => exact fun _ _ _ h => h
            case b36y => (refine Or.inl ⟨by first | kernel_rfl | rfl, ?_⟩; intro w hSw; obtain ⟨⟨x0, x1⟩, ⟨y0, y1⟩, -, -⟩ := hSw; go_simp <;> (try with_reducible rfl))
            try simp only [Act.put, List.setIfInBounds_toArray, List.set_cons_zero, List.set_cons_succ]
            refine wpAnyH_take (i := 37) (oi := ?b37o) (v := ?b37v) ?b37h (by kernel_rfl) (by kernel_rfl) (by kernel_rfl) ?b37q ?b37y hHeld ?b37r
            case b37h => (simp only [List.getElem?_toArray, List.getElem?_cons_succ, List.getElem?_cons_zero]; rfl)
            case b37q => exact fun _ _ _ h => h
            case b37y => (refine Or.inl ⟨by first | kernel_rfl | rfl, ?_⟩; intro w hSw; obtain ⟨⟨x0, x1⟩, ⟨y0, y1⟩, -, -⟩ := hSw; go_simp <;> (try with_reducible rfl))
            try simp only [Act.put, List.setIfInBounds_toArray, List.set_cons_zero, List.set_cons_succ]
            refine wpAnyH_take (i := 38) (oi := ?b38o) (v := ?b38v) ?b38h (by kernel_rfl) (by kernel_rfl) (by kernel_rfl) ?b38q ?b38y hHeld ?b38r
            case b38h => (simp only [List.getElem?_toArray, List.getElem?_cons_succ, List.getElem?_cons_zero]; rfl)
            case b38q => exact fun _ _ _ h => h
            case b38y => (refine Or.inl ⟨by first | kernel_rfl | rfl, ?_⟩; intro w hSw; obtain ⟨⟨x0, x1⟩, ⟨y0, y1⟩, -, -⟩ := hSw; go_simp <;> (try with_reducible rfl))
            try simp only [Act.put, List.setIfInBounds_toArray, List.set_cons_zero, List.set_cons_succ]
            refine wpAnyH_take (i := 39) (oi := ?b39o) (v := ?b39v) ?b39h (by kernel_rfl) (by kernel_rfl) (by kernel_rfl) ?b39q ?b39y hHeld ?b39r
            case b39h => (simp only [List.getElem?_toArray, List.getElem?_cons_succ, List.getElem?_cons_zero]; rfl)
            case b39q => exact fun _ _ _ h => h
            case b39y => (refine Or.inl ⟨by first | kernel_rfl | rfl, ?_⟩; intro w hSw; obtain ⟨⟨x0, x1⟩, ⟨y0, y1⟩, -, -⟩ := hSw; go_simp <;> (try with_reducible rfl))
            try simp only [Act.put, List.setIfInBounds_toArray, List.set_cons_zero, List.set_cons_succ]
            refine wpAnyH_take (i := 41) (oi := ?b40o) (v := ?b40v) ?b40h (by kernel_rfl) (by kernel_rfl) (by kernel_rfl) ?b40q ?b40y hHeld ?b40r
            case b40h => (simp only [List.getElem?_toArray, List.getElem?_cons_succ, List.getElem?_cons_zero]; rfl)
            case b40q => exact fun _ _ _ h => h
            case b40y => (refine Or.inl ⟨by first | kernel_rfl | rfl, ?_⟩; intro w hSw; obtain ⟨⟨x0, x1⟩, ⟨y0, y1⟩, -, -⟩ := hSw; go_simp <;> (try with_reducible rfl))
            try simp only [Act.put, List.setIfInBounds_toArray, List.set_cons_zero, List.set_cons_succ]
            refine wpAnyH_take (i := 42) (oi := ?b41o) (v := ?b41v) ?b41h (by kernel_rfl) (by kernel_rfl) (by kernel_rfl) ?b41q ?b41y hHeld ?b41r
            case b41h => (simp only [List.getElem?_toArray, List.getElem?_cons_succ, List.getElem?_cons_zero]; rfl)
            case b41q => exact fun _ _ _ h => h
            case b41y => (refine Or.inl ⟨by first | kernel_rfl | rfl, ?_⟩; intro w hSw; obtain ⟨⟨x0, x1⟩, ⟨y0, y1⟩, -, -⟩ := hSw; go_simp <;> (try with_reducible rfl))
            try simp only [Act.put, List.setIfInBounds_toArray, List.set_cons_zero, List.set_cons_succ]
            refine wpAnyH_ready (rs := [40]) (by kernel_rfl) (by simp) ?_
            refine (AllReadyH.cons rfl (fun K hK => ?_) AllReadyH.nil)
            go_simp
            ((with_reducible refine (ks1 _ hHeld.tab).mono ?_); rintro e w' ⟨rfl, rfl⟩)
            refine hK.out _ _ (hHeld) (fun hHeld => ?_)
            clear hK K
            try simp only [Act.put, List.setIfInBounds_toArray, List.set_cons_zero, List.set_cons_succ]
            refine wpAnyH_take (i := 43) (oi := ?b42o) (v := ?b42v) ?b42h (by kernel_rfl) (by kernel_rfl) (by kernel_rfl) ?b42q ?b42y hHeld ?b42r
            case b42h => (simp only [List.getElem?_toArray, List.getElem?_cons_succ, List.getElem?_cons_zero]; rfl)
            case b42q => exact fun _ _ _ h => h
            case b42y => (refine Or.inl ⟨by first | kernel_rfl | rfl, ?_⟩; intro w hSw; obtain ⟨⟨x0, x1⟩, ⟨y0, y1⟩, -, -⟩ := hSw; go_simp <;> (try with_reducible rfl))
            try simp only [Act.put, List.setIfInBounds_toArray, List.set_cons_zero, List.set_cons_succ]
            refine wpAnyH_take (i := 44) (oi := ?b43o) (v := ?b43v) ?b43h (by kernel_rfl) (by kernel_rfl) (by kernel_rfl) ?b43q ?b43y hHeld ?b43r
            case b43h => (simp only [List.getElem?_toArray, List.getElem?_cons_succ, List.getElem?_cons_zero]; rfl)
            case b43q => exact fun _ _ _ h => h
            case b43y => (refine Or.inl ⟨by first | kernel_rfl | rfl, ?_⟩; intro w hSw; obtain ⟨⟨x0, x1⟩, ⟨y0, y1⟩, -, -⟩ := hSw; go_simp <;> (try with_reducible rfl))
            try simp only [Act.put, List.setIfInBounds_toArray, List.set_cons_zero, List.set_cons_succ]
            refine wpAnyH_take (i := 45) (oi := ?b44o) (v := ?b44v) ?b44h (by kernel_rfl) (by kernel_rfl) (by kernel_rfl) ?b44q ?b44y hHeld ?b44r
            case b44h => (simp only [List.getElem?_toArray, List.getElem?_cons_succ, List.getElem?_cons_zero]; rfl)
            case b44q => exact fun _ _ _ h => h
            case b44y => (refine Or.inl ⟨by first | kernel_rfl | rfl, ?_⟩; intro w hSw; obtain ⟨⟨x0, x1⟩, ⟨y0, y1⟩, -, -⟩ := hSw; go_simp <;> (try with_reducible rfl))
            try simp only [Act.put, List.setIfInBounds_toArray, List.set_cons_zero, List.set_cons_succ]
            refine wpAnyH_take (i := 46) (oi := ?b45o) (v := ?b45v) ?b45h (by kernel_rfl) (by kernel_rfl) (by kernel_rfl) ?b45q ?b45y hHeld ?b45r
            case b45h => (simp only [List.getElem?_toArray, List.getElem?_cons_succ, List.getElem?_cons_zero]; rfl)
            case b45q => exact fun _ _ _ h => h
            case b45y => (refine Or.inl ⟨by first | kernel_rfl | rfl, ?_⟩; intro w hSw; obtain ⟨⟨x0, x1⟩, ⟨y0, y1⟩, -, -⟩ := hSw; go_simp <;> (try with_reducible rfl))
            try simp only [Act.put, List.setIfInBounds_toArray, List.set_cons_zero, List.set_cons_succ]
            refine wpAnyH_take (i := 47) (oi := ?b46o) (v := ?b46v) ?b46h (by kernel_rfl) (by kernel_rfl) (by kernel_rfl) ?b46q ?b46y hHeld ?b46r
            case b46h => (simp only [List.getElem?_toArray, List.getElem?_cons_succ, List.getElem?_cons_zero]; rfl)
            case b46q => exact fun _ _ _ h => h
            case b46y => (refine Or.inl ⟨by first | kernel_rfl | rfl, ?_⟩; intro w hSw; obtain ⟨⟨x0, x1⟩, ⟨y0, y1⟩, -, -⟩ := hSw; go_simp <;> (try with_reducible rfl))
            try simp only [Act.put, List.setIfInBounds_toArray, List.set_cons_zero, List.set_cons_succ]
            refine wpAnyH_take (i := 48) (oi := ?b47o) (v := ?b47v) ?b47h (by kernel_rfl) (by kernel_rfl) (by kernel_rfl) ?b47q ?b47y hHeld ?b47r
            case b47h => (simp only [List.getElem?_toArray, List.getElem?_cons_succ, List.getElem?_cons_zero]; rfl)
            case b47q => exact fun _ _ _ h => h
            case b47y => (refine Or.inl ⟨by first | kernel_rfl | rfl, ?_⟩; intro w hSw; obtain ⟨⟨x0, x1⟩, ⟨y0, y1⟩, -, -⟩ := hSw; go_simp <;> (try with_reducible rfl))
            try simp only [Act.put, List.setIfInBounds_toArray, List.set_cons_zero, List.set_cons_succ]
            refine wpAnyH_take (i := 49) (oi := ?b48o) (v := ?b48v) ?b48h (by kernel_rfl) (by kernel_rfl) (by kernel_rfl) ?b48q ?b48y hHeld ?b48r
            case b48h => (simp only [List.getElem?_toArray, List.getElem?_cons_succ, List.getElem?_cons_zero]; rfl)
            case b48q => exact fun _ _ _ h => h
            case b48y => (refine Or.inl ⟨by first | kernel_rfl | rfl, ?_⟩; intro w hSw; obtain ⟨⟨x0, x1⟩, ⟨y0, y1⟩, -, -⟩ := hSw; go_simp <;> (try with_reducible rfl))
            try simp only [Act.put, List.setIfInBounds_toArray, List.set_cons_zero, List.set_cons_succ]
            refine wpAnyH_take (i := 51) (oi := ?b49o) (v := ?b49v) ?b49h (by kernel_rfl) (by kernel_rfl) (by kernel_rfl) ?b49q ?b49y hHeld ?b49r
            case b49h => (simp only [List.getElem?_toArray, List.getElem?_cons_succ, List.getElem?_cons_zero]; rfl)
            case b49q => exact fun _ _ _ h => h
            case b49y => (refine Or.inl ⟨by first | kernel_rfl | rfl, ?_⟩; intro w hSw; obtain ⟨⟨x0, x1⟩, ⟨y0, y1⟩, -, -⟩ := hSw; go_simp <;> (try with_reducible rfl))
            try simp only [Act.put, List.setIfInBounds_toArray, List.set_cons_zero, List.set_cons_succ]
            refine wpAnyH_take (i := 52) (oi := ?b50o) (v := ?b50v) ?b50h (by kernel_rfl) (by kernel_rfl) (by kernel_rfl) ?b50q ?b50y hHeld ?b50r
            case b50h => (simp only [List.getElem?_toArray, List.getElem?_cons_succ, List.getElem?_cons_zero]; rfl)
            case b50q => exact fun _ _ _ h => h
            case b50y => (refine Or.inl ⟨by first | kernel_rfl | rfl, ?_⟩; intro w hSw; obtain ⟨⟨x0, x1⟩, ⟨y0, y1⟩, -, -⟩ := hSw; go_simp <;> (try with_reducible rfl))
            try simp only [Act.put, List.setIfInBounds_toArray, List.set_cons_zero, List.set_cons_succ]
            refine wpAnyH_ready (rs := [50]) (by kernel_rfl) (by simp) ?_
            refine (AllReadyH.cons rfl (fun K hK => ?_) AllReadyH.nil)
            go_simp
            ((with_reducible refine (ks2 _ hHeld.tab).mono ?_); rintro e w' ⟨rfl, rfl⟩)
            refine hK.out _ _ (hHeld) (fun hHeld => ?_)
            clear hK K
            try simp only [Act.put, List.setIfInBounds_toArray, List.set_cons_zero, List.set_cons_succ]
            refine wpAnyH_take (i := 53) (oi := ?b51o) (v := ?b51v) ?b51h (by kernel_rfl) (by kernel_rfl) (by kernel_rfl) ?b51q ?b51y hHeld ?b51r
            case b51h => (simp only [List.getElem?_toArray, List.getElem?_cons_succ, List.getElem?_cons_zero]; rfl)
            case b51q => exact fun _ _ _ h => h
            case b51y => (refine Or.inl ⟨by first | kernel_rfl | rfl, ?_⟩; intro w hSw; obtain ⟨⟨x0, x1⟩, ⟨y0, y1⟩, -, -⟩ := hSw; go_simp <;> (try with_reducible rfl))
            try simp only [Act.put, List.setIfInBounds_toArray, List.set_cons_zero, List.set_cons_succ]
            refine wpAnyH_take (i := 54) (oi := ?b52o) (v := ?b52v) ?b52h (by kernel_rfl) (by kernel_rfl) (by kernel_rfl) ?b52q ?b52y hHeld ?b52r
            case b52h => (simp only [List.getElem?_toArray, List.getElem?_cons_succ, List.getElem?_cons_zero]; rfl)
            case b52q => exact fun _ _ _ h => h
            case b52y => (refine Or.inl ⟨by first | kernel_rfl | rfl, ?_⟩; intro w hSw; obtain ⟨⟨x0, x1⟩, ⟨y0, y1⟩, -, -⟩ := hSw; go_simp <;> (try with_reducible rfl))
            try simp only [Act.put, List.setIfInBounds_toArray, List.set_cons_zero, List.set_cons_succ]
            refine wpAnyH_done (by kernel_rfl) ?_ _
            have hbel := hHeld.bel
            refine noPanic_n ?_
            gi_wp2
            go_roundw
            case rel => exact ⟨k + 1, by go_num, by omega, hbel⟩
            case measure => simp [intOf]; omega
        · have hk4i : ¬ (k : Int) < 4 := by omega
          have hc0 := H2.out.c0
          have hc1 := H2.out.c1
          have hr2 := H2.out.r
          have hz2 := H2.out.z
          have hs2 := H2.out.size
          rename_i Kl hKl
          have hKl2 : ∀ a w, _ → Kl a w := fun a w h => hKl a w (wide_of h)
          clear hKl
          gi_wp2
          by_cases hf0 : fr < 0
          · go_wp2
            exact fin_early _ H2.out.bel (by omega) (World.cell?_setCell_same _ _ _ hr2) rfl rfl
          by_cases hf1 : 1099511627776 < fr
          · go_wp2
            exact fin_early _ H2.out.bel (by omega) (World.cell?_setCell_same _ _ _ hr2) rfl rfl
          obtain ⟨r, hr⟩ : ∃ r, q0.tmod 5000 = r := ⟨_, rfl⟩
          have hrb := tmod_bounds q0 5000 (by omega)
          rw [hr] at hrb
          clear hr2 hz2
          go_upto_if 107 with fail
          go_cut [11] from 31 (fun v W => W = w2 ∧ ∃ n : Int, v = .int .i64 n ∧ 0 ≤ n ∧ n < 5000)
          case first =>
            by_cases hneg : r < 0
            · have hwn : IntKind.i64.wrap (-r) = -r := by rw [IntKind.wrap_i64]; omega
              go_wp2_with fail
              go_meet
              case rel => exact ⟨rfl, -r, rfl, by omega, by omega⟩
            · go_wp2_with fail
              go_meet
              case rel => exact ⟨rfl, r, rfl, by omega, by omega⟩
          case rest =>
            obtain ⟨hwc, n, rfl, hn0, hn1⟩ := hcut
            rw [hwc]
            clear hwc hr hrb wc
            obtain ⟨e, he⟩ : ∃ e, fr + n = e := ⟨_, rfl⟩
            have hwe : IntKind.i64.wrap e = e := by rw [IntKind.wrap_i64]; omega
            go_upto_if 117 with fail
            go_cut [] from 31 (fun W => ∃ z : Int, W = w2.alloc (.cells #[.int .i64 fr, .int .i64 z] 26) ∧ fr ≤ z ∧ z ≤ 1099511627777)
            case first =>
              by_cases hce : 1099511627777 < e
              · go_wp2_with fail
                go_meet
                case rel => exact ⟨1099511627777, rfl, by omega, by omega⟩
              · go_wp2_with fail
                go_meet
                case rel => exact ⟨e, rfl, by omega, by omega⟩
            case rest =>
              obtain ⟨z, hwc, hz0, hz1⟩ := hcut
              rw [hwc]
              clear he hwe hn0 hn1 hwc wc
              obtain ⟨s, hs⟩ : ∃ s : Sp, Sp.mk fr z = s := ⟨_, rfl⟩
              have hsf : s.f = fr := by rw [← hs]
              have hst : s.t = z := by rw [← hs]
              have hsis : s.is = true := Sp.is_iff.2 (by omega)
              have HSP := Lib.hid (show SpAt (w2.alloc (.cells #[.int .i64 fr, .int .i64 z] 26)) w2.heap.size s by rw [← hs]; exact SpAt.new w2 ⟨fr, z⟩ 26)
              have H3 := Lib.hid (H2.out.keep ((Below.refl _ _).alloc (Nat.le_refl _) (.cells #[.int .i64 fr, .int .i64 z] 26)))
              have hc13 := H3.out.c1
              have HSF := Lib.hid (And.intro hsf hst)
              obtain ⟨kk, hkk⟩ : ∃ kk, bits .and .i64 q1 3 = kk := ⟨_, rfl⟩
              have hkb : 0 ≤ kk ∧ kk ≤ 3 := by rw [← hkk, and3]; omega
              have HTn := Lib.hid (((H3.out.keep ((Below.refl _ _).alloc (Nat.le_refl _) (.cells #[.int .i64 kk] 3))).keep ((Below.refl _ _).alloc (Nat.le_refl _) (.cells #[.int .i64 0] 3))).keep ((Below.refl _ _).alloc (Nat.le_refl _) (.cells #[.int .i64 (-1)] 3)))
              have ke : ∀ W, Tab W → Calls Tryd.prog 17 #[.agg #[.int .i64 fr, .int .i64 z], .int .i64 kk] W (EachDone s kk W) := fun W h => by have := each_is s kk W h; unfold Sp.v at this; rw [hsf, hst] at this; exact this
              clear k0 hs hsf hst
              go_wp2_with (go_at_call 17; (with_reducible refine (ke _ HTn.out.tab).mono ?_); rintro e5 w5 ⟨Bc, Bw, Bt, rfl, hge, hE, hb⟩; (have HE := Lib.hid hE); (have HGE := Lib.hid hge); (have H5 := Lib.hid hb); clear hge hE hb)
              obtain ⟨g1, g2, g3⟩ := HGE.out
              have h5s := H5.out.size
              simp at g1 g2 g3 h5s
              have HS5 := Lib.hid (show SpAt w5 w2.heap.size s from ⟨(H5.out.cell (p := ⟨w2.heap.size, 0, none⟩) (by simp <;> omega)).trans (by simp [go_sem, HSF.out.1]), (H5.out.cell (p := ⟨w2.heap.size, 1, none⟩) (by simp <;> omega)).trans (by simp [go_sem, HSF.out.2])⟩)
              have HK5 := Lib.hid ((H5.out.cell (p := ⟨w2.heap.size + 1, 0, none⟩) (by simp <;> omega)).trans (show _ = some (.int .i64 kk) by simp [go_sem]))
              have HBm := Lib.hid (show Boxed w5 (w2.heap.size + 1 + 1) 3 (.int .i64 0) from (H5.out.block (w2.heap.size + 1 + 1) (by simp)).trans (by
                have := (Boxed.new ((w2.alloc (.cells #[.int .i64 fr, .int .i64 z] 26)).alloc (.cells #[.int .i64 kk] 3)) 3 (.int .i64 0)).alloc (.cells #[.int .i64 (-1)] 3)
                simp only [World.size_alloc] at this
                exact this))
              have HBl := Lib.hid (show Boxed w5 (w2.heap.size + 1 + 1 + 1) 3 (.int .i64 (-1)) from (H5.out.block (w2.heap.size + 1 + 1 + 1) (by simp)).trans (by
                have := (Boxed.new (((w2.alloc (.cells #[.int .i64 fr, .int .i64 z] 26)).alloc (.cells #[.int .i64 kk] 3)).alloc (.cells #[.int .i64 0] 3)) 3 (.int .i64 (-1)))
                simp only [World.size_alloc] at this
                exact this))
              have hroom := H2.out.tab.room
              have hEB : ∀ q, EB Bc Bw Bt q → q ≠ w2.heap.size + 1 + 1 ∧ q ≠ w2.heap.size + 1 + 1 + 1 ∧ q ≠ w.heap.size + 1 := by
                have := hT.room
                rintro q (rfl | rfl | rfl | rfl) <;> omega
              have hEL := HE.out.room
              have HG5 := Lib.hid (HTn.out.keep H5.out)
              rename_i Kf hKf
              obtain ⟨L, hL⟩ : ∃ L, allW s kk = L := ⟨_, rfl⟩
              have HLL := Lib.hid hL
              have HSIS := Lib.hid hsis
              have HKB := Lib.hid hkb
              have hrest : ∀ (D : Nat) (W : World), PE w q0 q1 w2.heap.size s kk (L.length : Int) (lastT L) D W → Kf { tmps := #[Value.int IntKind.i64 t, Value.int IntKind.i64 fr, Value.agg #[Value.int IntKind.i64 q0, Value.int IntKind.i64 q1], undef, undef, Value.pointer (some ⟨w.heap.size, 0, none⟩), Value.pointer (some ⟨w.heap.size + 1, 0, none⟩), Value.bool true, Value.int IntKind.i64 (k : Int), u9, u10, Value.int IntKind.i64 n, Value.pointer (some ⟨w2.heap.size, 0, none⟩), Value.pointer (some ⟨w2.heap.size + 1, 0, none⟩), Value.pointer (some ⟨w2.heap.size + 1 + 1, 0, none⟩), Value.pointer (some ⟨w2.heap.size + 1 + 1 + 1, 0, none⟩), undef, undef, undef, Value.bool true, Value.bool true, Value.bool false, Value.bool false, Value.int IntKind.i64 t, Value.bool (decide (t < 0)), Value.bool (decide (t < 0)), Value.bool (decide (t < 0)), Value.int IntKind.i64 t, Value.bool (decide (1099511627776 < t)), Value.bool (decide (t < 0) || decide (1099511627776 < t)), undef, u31, u32, u33, u34, u35, u36, u37, u38, u39, u40, u41, u42, u43, u44, u45, u46, u47, u48, u49, u50, u51, u52, u53, u54, u55, u56, u57, u58, u59, u60, u61, u62, u63, u64, u65, u66, u67, u68, u69, u70, u71, u72, u73, u74, u75, u76, u77, u78, u79, u80, u81, u82, u83, u84, u85, u86, u87, u88, u89, u90, u91, u92, u93, u94, u95, u96, u97, u98, u99, u100, u101, u102, u103, u104, u105, u106, u107, u108, u109, u110, u111, u112, u113, u114, u115, u116, u117, u118, Value.pointer (some ⟨w.heap.size, 1, none⟩), Value.int IntKind.i64 q1, Value.int IntKind.i64 kk, Value.agg #[Value.int IntKind.i64 fr, Value.int IntKind.i64 z], Value.int IntKind.i64 kk, ECL Bc Bw Bt, u125, u126, u127, u128, u129, u130, u131, u132, u133, u134, u135, u136, u137, u138, u139, u140, u141, u142, u143, u144, u145, u146, u147, u148, u149, u150, u151, u152, u153, u154, u155, u156, u157, u158, u159, u160, u161, u162, u163, u164, u165, u166, u167, u168, u169, u170, u171, u172, u173, u174, u175, u176, u177, u178, u179, u180, u181, u182, u183, u184, u185, u186, u187, u188, u189, u190, u191, u192, u193, u194, u195, u196, u197, u198, u199, u200, u201, u202, u203, u204, u205, u206, u207, u208, u209, u210, u211, u212, u213, u214, u215, u216, u217, u218, u219, u220, u221, u222, u223, u224, u225, u226, u227, u228, u229], defers := [{ target := .collected D, args := #[] }] } W := by
                intro D W hPE
                have HPE := Lib.hid hPE
                have hend := parts_end HSIS.out HKB.out
                rw [HLL.out] at hend
                have hN : (L.length : Int) = s.count kk := by
                  rw [← HLL.out, allW_length]
                  have := count_bounds s kk
                  omega
                rw [hN] at HPE
                obtain ⟨c, hc⟩ : ∃ c, s.cover kk = c := ⟨_, rfl⟩
                obtain ⟨inn, hin⟩ : ∃ c, s.inner kk = c := ⟨_, rfl⟩
                obtain ⟨N, hNN⟩ : ∃ c, s.count kk = c := ⟨_, rfl⟩
                obtain ⟨T, hTT⟩ : ∃ c, lastT L = c := ⟨_, rfl⟩
                rw [hc, hin, hNN, hTT] at hend
                rw [hNN, hTT] at HPE
                have kco := fun W h => cover_is s c kk W h (Lib.hid hc)
                have kin := fun W h => inner_is s inn kk W h (Lib.hid hin)
                have kal := fun W h => aligned_is c kk true W h (Lib.hid hend.al)
                have kcn := fun W h => count_is s kk N W h (Lib.hid hNN)
                unfold Sp.v at kco kin kal kcn
                have i1 : ¬ inn.f < s.f := by have := hend.lo; omega
                have i2 : ¬ s.t < inn.t := by have := hend.hi; omega
                have HEND := Lib.hid hend
                have hW0 := HPE.out.sb
                obtain ⟨sb0, sb1⟩ := hW0
                have hk0 := HPE.out.kb
                clear hPE hend hN hc hin hNN hTT
                refine hKf _ _ ?_
                go_wp2_with (first
                  | (go_at_call 25; (with_reducible refine (kco _ HPE.out.g.tab).mono ?_); rintro e w6 ⟨rfl, hb⟩; (have H6 := Lib.hid ((HPE.out.keep hb).keep ((Below.refl _ _).alloc (Nat.le_refl _) (.cells #[.int .i64 c.f, .int .i64 c.t] 26)))); (have HC6 := Lib.hid (SpAt.new w6 c 26)); (have HCB := Lib.hid (show w.heap.size + 1 ≠ w6.heap.size by have := HPE.out.g.size; have := hb.size; omega)); (have hW1 := H6.out.sb); (obtain ⟨sb2, sb3⟩ := hW1); (have hk1 := H6.out.kb); clear hb)
                  | (go_at_call 27; (with_reducible refine (kin _ H6.out.g.tab).mono ?_); rintro e w7 ⟨rfl, hb⟩; (have H7 := Lib.hid ((H6.out.keep hb).keep ((Below.refl _ _).alloc (Nat.le_refl _) (.cells #[.int .i64 inn.f, .int .i64 inn.t] 26)))); (have HC7 := Lib.hid ((HC6.out.below hb).below ((Below.refl _ _).alloc (Nat.le_refl _) (.cells #[.int .i64 inn.f, .int .i64 inn.t] 26)))); (have hW2 := H7.out.sb); (obtain ⟨sb4, sb5⟩ := hW2); (have hk2 := H7.out.kb); (have hW3 := HC7.out); (obtain ⟨cb0, cb1⟩ := hW3); (have hW4 := SpAt.new w7 inn 26); (obtain ⟨ib0, ib1⟩ := hW4); clear hb)
                  | (go_at_call 23; (with_reducible refine (kal _ H7.out.g.tab).mono ?_); rintro e w8 ⟨rfl, hb⟩; (have H8 := Lib.hid (H7.out.keep hb)); (have H8D := Lib.hid (H8.out.keep ((Below.refl _ _).drew))); (have HC8 := Lib.hid ((HC7.out.below hb).below ((Below.refl _ _).drew))); (have HPS := Lib.hid (PS.mk H8D.out.sb H8D.out.kb H8D.out.mb H8D.out.lb HC8.out)); clear hb))
                have qN : (N == N) = true := by simp
                by_cases hst : s.f = s.t
                · have d0 := HEND.out.empty hst
                  have d1 : (s.f == s.t) = true := by simpa using hst
                  have d2 : (N == 0) = true := by simpa using d0
                  clear hst d0
                  refine wp_region_held_drew (S := (PS w2.heap.size s kk N T w6.heap.size c)) (by kernel_rfl) HPS.out (fun hHeld => ?_)
                  refine wpAnyH_take (i := 0) (oi := ?a1o) (v := ?a1v) ?a1h (by kernel_rfl) (by kernel_rfl) (by kernel_rfl) ?a1q ?a1y hHeld ?a1r
                  case a1h => (simp only [List.getElem?_toArray, List.getElem?_cons_zero]; rfl)
                  case a1q => exact fun _ _ _ h => h
                  case a1y => (refine Or.inl ⟨by first | kernel_rfl | rfl, ?_⟩; intro w hSw; obtain ⟨⟨x0, x1⟩, x2, x3, x4, ⟨x5, x6⟩⟩ := hSw; go_simp <;> (try with_reducible rfl))
                  try simp only [Act.put, List.setIfInBounds_toArray, List.set_cons_zero, List.set_cons_succ]
                  refine wpAnyH_take (i := 1) (oi := ?a2o) (v := ?a2v) ?a2h (by kernel_rfl) (by kernel_rfl) (by kernel_rfl) ?a2q ?a2y hHeld ?a2r
                  case a2h => (simp only [List.getElem?_toArray, List.getElem?_cons_succ, List.getElem?_cons_zero]; rfl)
                  case a2q => exact fun _ _ _ h => h
                  case a2y => (refine Or.inl ⟨by first | kernel_rfl | rfl, ?_⟩; intro w hSw; obtain ⟨⟨x0, x1⟩, x2, x3, x4, ⟨x5, x6⟩⟩ := hSw; go_simp <;> (try with_reducible rfl))
                  try simp only [Act.put, List.setIfInBounds_toArray, List.set_cons_zero, List.set_cons_succ]
                  refine wpAnyH_take (i := 2) (oi := ?a3o) (v := ?a3v) ?a3h (by kernel_rfl) (by kernel_rfl) (by kernel_rfl) ?a3q ?a3y hHeld ?a3r
                  case a3h => (simp only [List.getElem?_toArray, List.getElem?_cons_succ, List.getElem?_cons_zero]; rfl)
                  case a3q => exact fun _ _ _ h => h
                  case a3y => (refine Or.inl ⟨by first | kernel_rfl | rfl, ?_⟩; intro w hSw; obtain ⟨⟨x0, x1⟩, x2, x3, x4, ⟨x5, x6⟩⟩ := hSw; go_simp <;> (try with_reducible rfl))
                  try simp only [Act.put, List.setIfInBounds_toArray, List.set_cons_zero, List.set_cons_succ]
                  refine wpAnyH_ready (rs := [3]) (by kernel_rfl) (by simp) ?_
                  refine (AllReadyH.cons rfl (fun K hK => ?_) AllReadyH.nil)
                  go_simp
                  ((with_reducible refine (kcn _ H8D.out.g.tab).mono ?_); rintro e w9 ⟨rfl, hb9⟩; have H9 := Lib.hid (H8D.out.keep hb9))
                  refine hK.out _ _ (hHeld.keep hb9) (fun hHeld => ?_)
                  clear hK K
                  try simp only [Act.put, List.setIfInBounds_toArray, List.set_cons_zero, List.set_cons_succ]
                  refine wpAnyH_take (i := 4) (oi := ?a4o) (v := ?a4v) ?a4h (by kernel_rfl) (by kernel_rfl) (by kernel_rfl) ?a4q ?a4y hHeld ?a4r
                  case a4h => (simp only [List.getElem?_toArray, List.getElem?_cons_succ, List.getElem?_cons_zero]; rfl)
                  case a4q => exact fun _ _ _ h => h
                  case a4y => (refine Or.inl ⟨by first | kernel_rfl | rfl, ?_⟩; intro w hSw; obtain ⟨⟨x0, x1⟩, x2, x3, x4, ⟨x5, x6⟩⟩ := hSw; go_simp <;> (try with_reducible rfl))
                  try simp only [Act.put, List.setIfInBounds_toArray, List.set_cons_zero, List.set_cons_succ]
                  refine wpAnyH_take (i := 5) (oi := ?a5o) (v := ?a5v) ?a5h (by kernel_rfl) (by kernel_rfl) (by kernel_rfl) ?a5q ?a5y hHeld ?a5r
                  case a5h => (simp only [List.getElem?_toArray, List.getElem?_cons_succ, List.getElem?_cons_zero]; rfl)
                  case a5q => exact fun _ _ _ h => h
                  case a5y => (refine Or.inl ⟨by first | kernel_rfl | rfl, ?_⟩; intro w hSw; obtain ⟨⟨x0, x1⟩, x2, x3, x4, ⟨x5, x6⟩⟩ := hSw; go_simp <;> (try with_reducible rfl))
                  try simp only [Act.put, List.setIfInBounds_toArray, List.set_cons_zero, List.set_cons_succ]
                  refine wpAnyH_take (i := 6) (oi := ?a6o) (v := ?a6v) ?a6h (by kernel_rfl) (by kernel_rfl) (by kernel_rfl) ?a6q ?a6y hHeld ?a6r
                  case a6h => (simp only [List.getElem?_toArray, List.getElem?_cons_succ, List.getElem?_cons_zero]; rfl)
                  case a6q => exact fun _ _ _ h => h
                  case a6y => (refine Or.inl ⟨by first | kernel_rfl | rfl, ?_⟩; intro w hSw; obtain ⟨⟨x0, x1⟩, x2, x3, x4, ⟨x5, x6⟩⟩ := hSw; go_simp <;> (try with_reducible rfl))
                  try simp only [Act.put, List.setIfInBounds_toArray, List.set_cons_zero, List.set_cons_succ]
                  refine wpAnyH_take (i := 7) (oi := ?a7o) (v := ?a7v) ?a7h (by kernel_rfl) (by kernel_rfl) (by kernel_rfl) ?a7q ?a7y hHeld ?a7r
                  case a7h => (simp only [List.getElem?_toArray, List.getElem?_cons_succ, List.getElem?_cons_zero]; rfl)
                  case a7q => exact fun _ _ _ h => h
                  case a7y => (refine Or.inl ⟨by first | kernel_rfl | rfl, ?_⟩; intro w hSw; obtain ⟨⟨x0, x1⟩, x2, x3, x4, ⟨x5, x6⟩⟩ := hSw; go_simp <;> (try with_reducible rfl))
                  try simp only [Act.put, List.setIfInBounds_toArray, List.set_cons_zero, List.set_cons_succ]
                  refine wpAnyH_take (i := 8) (oi := ?a8o) (v := ?a8v) ?a8h (by kernel_rfl) (by kernel_rfl) (by kernel_rfl) ?a8q ?a8y hHeld ?a8r
                  case a8h => (simp only [List.getElem?_toArray, List.getElem?_cons_succ, List.getElem?_cons_zero]; rfl)
                  case a8q => exact fun _ _ _ h => h
                  case a8y => (refine Or.inl ⟨by first | kernel_rfl | rfl, ?_⟩; intro w hSw; obtain ⟨⟨x0, x1⟩, x2, x3, x4, ⟨x5, x6⟩⟩ := hSw; go_simp <;> (try with_reducible rfl))
                  try simp only [Act.put, List.setIfInBounds_toArray, List.set_cons_zero, List.set_cons_succ]
                  refine wpAnyH_take (i := 9) (oi := ?a9o) (v := ?a9v) ?a9h (by kernel_rfl) (by kernel_rfl) (by kernel_rfl) ?a9q ?a9y hHeld ?a9r
                  case a9h => (simp only [List.getElem?_toArray, List.getElem?_cons_succ, List.getElem?_cons_zero]; rfl)
                  case a9q => exact fun _ _ _ h => h
                  case a9y => (refine Or.inl ⟨by first | kernel_rfl | rfl, ?_⟩; intro w hSw; obtain ⟨⟨x0, x1⟩, x2, x3, x4, ⟨x5, x6⟩⟩ := hSw; go_simp <;> (try with_reducible rfl))
                  try simp only [Act.put, List.setIfInBounds_toArray, List.set_cons_zero, List.set_cons_succ]
                  refine wpAnyH_take (i := 10) (oi := ?a10o) (v := ?a10v) ?a10h (by kernel_rfl) (by kernel_rfl) (by kernel_rfl) ?a10q ?a10y hHeld ?a10r
                  case a10h => (simp only [List.getElem?_toArray, List.getElem?_cons_succ, List.getElem?_cons_zero]; rfl)
                  case a10q => exact fun _ _ _ h => h
                  case a10y => (refine Or.inl ⟨by first | kernel_rfl | rfl, ?_⟩; intro w hSw; obtain ⟨⟨x0, x1⟩, x2, x3, x4, ⟨x5, x6⟩⟩ := hSw; go_simp <;> (try with_reducible rfl))
                  try simp only [Act.put, List.setIfInBounds_toArray, List.set_cons_zero, List.set_cons_succ]
                  refine wpAnyH_take (i := 11) (oi := ?a11o) (v := ?a11v) ?a11h (by kernel_rfl) (by kernel_rfl) (by kernel_rfl) ?a11q ?a11y hHeld ?a11r
                  case a11h => (simp only [List.getElem?_toArray, List.getElem?_cons_succ, List.getElem?_cons_zero]; rfl)
                  case a11q => exact fun _ _ _ h => h
                  case a11y => (refine Or.inl ⟨by first | kernel_rfl | rfl, ?_⟩; intro w hSw; obtain ⟨⟨x0, x1⟩, x2, x3, x4, ⟨x5, x6⟩⟩ := hSw; go_simp <;> (try with_reducible rfl))
                  try simp only [Act.put, List.setIfInBounds_toArray, List.set_cons_zero, List.set_cons_succ]
                  refine wpAnyH_take (i := 12) (oi := ?a12o) (v := ?a12v) ?a12h (by kernel_rfl) (by kernel_rfl) (by kernel_rfl) ?a12q ?a12y hHeld ?a12r
                  case a12h => (simp only [List.getElem?_toArray, List.getElem?_cons_succ, List.getElem?_cons_zero]; rfl)
                  case a12q => exact fun _ _ _ h => h
                  case a12y => (refine Or.inl ⟨by first | kernel_rfl | rfl, ?_⟩; intro w hSw; obtain ⟨⟨x0, x1⟩, x2, x3, x4, ⟨x5, x6⟩⟩ := hSw; go_simp <;> (try with_reducible rfl))
                  try simp only [Act.put, List.setIfInBounds_toArray, List.set_cons_zero, List.set_cons_succ]
                  refine wpAnyH_take (i := 13) (oi := ?a13o) (v := ?a13v) ?a13h (by kernel_rfl) (by kernel_rfl) (by kernel_rfl) ?a13q ?a13y hHeld ?a13r
                  case a13h => (simp only [List.getElem?_toArray, List.getElem?_cons_succ, List.getElem?_cons_zero]; rfl)
                  case a13q => exact fun _ _ _ h => h
                  case a13y => (refine Or.inl ⟨by first | kernel_rfl | rfl, ?_⟩; intro w hSw; obtain ⟨⟨x0, x1⟩, x2, x3, x4, ⟨x5, x6⟩⟩ := hSw; go_simp <;> (try with_reducible rfl))
                  try simp only [Act.put, List.setIfInBounds_toArray, List.set_cons_zero, List.set_cons_succ]
                  refine wpAnyH_take (i := 14) (oi := ?a14o) (v := ?a14v) ?a14h (by kernel_rfl) (by kernel_rfl) (by kernel_rfl) ?a14q ?a14y hHeld ?a14r
                  case a14h => (simp only [List.getElem?_toArray, List.getElem?_cons_succ, List.getElem?_cons_zero]; rfl)
                  case a14q => exact fun _ _ _ h => h
                  case a14y => (refine Or.inl ⟨by first | kernel_rfl | rfl, ?_⟩; intro w hSw; obtain ⟨⟨x0, x1⟩, x2, x3, x4, ⟨x5, x6⟩⟩ := hSw; go_simp <;> (try with_reducible rfl))
                  try simp only [Act.put, List.setIfInBounds_toArray, List.set_cons_zero, List.set_cons_succ]
                  refine wpAnyH_take (i := 15) (oi := ?a15o) (v := ?a15v) ?a15h (by kernel_rfl) (by kernel_rfl) (by kernel_rfl) ?a15q ?a15y hHeld ?a15r
                  case a15h => (simp only [List.getElem?_toArray, List.getElem?_cons_succ, List.getElem?_cons_zero]; rfl)
                  case a15q => exact fun _ _ _ h => h
                  case a15y => (refine Or.inl ⟨by first | kernel_rfl | rfl, ?_⟩; intro w hSw; obtain ⟨⟨x0, x1⟩, x2, x3, x4, ⟨x5, x6⟩⟩ := hSw; go_simp <;> (try with_reducible rfl))
                  try simp only [Act.put, List.setIfInBounds_toArray, List.set_cons_zero, List.set_cons_succ]
                  refine wpAnyH_take (i := 16) (oi := ?a16o) (v := undef) ?a16h (by kernel_rfl) (by kernel_rfl) (by kernel_rfl) ?a16q ?a16y hHeld ?a16r
                  case a16h => (simp only [List.getElem?_toArray, List.getElem?_cons_succ, List.getElem?_cons_zero]; rfl)
                  case a16q => exact fun _ _ _ h => h
                  case a16y => exact Or.inr ⟨by first | kernel_rfl | rfl, rfl⟩
                  try simp only [Act.put, List.setIfInBounds_toArray, List.set_cons_zero, List.set_cons_succ]
                  refine wpAnyH_take (i := 17) (oi := ?a17o) (v := undef) ?a17h (by kernel_rfl) (by kernel_rfl) (by kernel_rfl) ?a17q ?a17y hHeld ?a17r
                  case a17h => (simp only [List.getElem?_toArray, List.getElem?_cons_succ, List.getElem?_cons_zero]; rfl)
                  case a17q => exact fun _ _ _ h => h
                  case a17y => exact Or.inr ⟨by first | kernel_rfl | rfl, rfl⟩
                  try simp only [Act.put, List.setIfInBounds_toArray, List.set_cons_zero, List.set_cons_succ]
                  refine wpAnyH_take (i := 18) (oi := ?a18o) (v := undef) ?a18h (by kernel_rfl) (by kernel_rfl) (by kernel_rfl) ?a18q ?a18y hHeld ?a18r
                  case a18h => (simp only [List.getElem?_toArray, List.getElem?_cons_succ, List.getElem?_cons_zero]; rfl)
                  case a18q => exact fun _ _ _ h => h
                  case a18y => exact Or.inr ⟨by first | kernel_rfl | rfl, rfl⟩
                  try simp only [Act.put, List.setIfInBounds_toArray, List.set_cons_zero, List.set_cons_succ]
                  refine wpAnyH_take (i := 19) (oi := ?a19o) (v := undef) ?a19h (by kernel_rfl) (by kernel_rfl) (by kernel_rfl) ?a19q ?a19y hHeld ?a19r
                  case a19h => (simp only [List.getElem?_toArray, List.getElem?_cons_succ, List.getElem?_cons_zero]; rfl)
                  case a19q => exact fun _ _ _ h => h
                  case a19y => exact Or.inr ⟨by first | kernel_rfl | rfl, rfl⟩
                  try simp only [Act.put, List.setIfInBounds_toArray, List.set_cons_zero, List.set_cons_succ]
                  refine wpAnyH_take (i := 20) (oi := ?a20o) (v := undef) ?a20h (by kernel_rfl) (by kernel_rfl) (by kernel_rfl) ?a20q ?a20y hHeld ?a20r
                  case a20h => (simp only [List.getElem?_toArray, List.getElem?_cons_succ, List.getElem?_cons_zero]; rfl)
                  case a20q => exact fun _ _ _ h => h
                  case a20y => exact Or.inr ⟨by first | kernel_rfl | rfl, rfl⟩
                  try simp only [Act.put, List.setIfInBounds_toArray, List.set_cons_zero, List.set_cons_succ]
                  refine wpAnyH_take (i := 21) (oi := ?a21o) (v := undef) ?a21h (by kernel_rfl) (by kernel_rfl) (by kernel_rfl) ?a21q ?a21y hHeld ?a21r
                  case a21h => (simp only [List.getElem?_toArray, List.getElem?_cons_succ, List.getElem?_cons_zero]; rfl)
                  case a21q => exact fun _ _ _ h => h
                  case a21y => exact Or.inr ⟨by first | kernel_rfl | rfl, rfl⟩
                  try simp only [Act.put, List.setIfInBounds_toArray, List.set_cons_zero, List.set_cons_succ]
                  refine wpAnyH_take (i := 22) (oi := ?a22o) (v := undef) ?a22h (by kernel_rfl) (by kernel_rfl) (by kernel_rfl) ?a22q ?a22y hHeld ?a22r
                  case a22h => (simp only [List.getElem?_toArray, List.getElem?_cons_succ, List.getElem?_cons_zero]; rfl)
                  case a22q => exact fun _ _ _ h => h
                  case a22y => exact Or.inr ⟨by first | kernel_rfl | rfl, rfl⟩
                  try simp only [Act.put, List.setIfInBounds_toArray, List.set_cons_zero, List.set_cons_succ]
                  refine wpAnyH_take (i := 23) (oi := ?a23o) (v := undef) ?a23h (by kernel_rfl) (by kernel_rfl) (by kernel_rfl) ?a23q ?a23y hHeld ?a23r
                  case a23h => (simp only [List.getElem?_toArray, List.getElem?_cons_succ, List.getElem?_cons_zero]; rfl)
                  case a23q => exact fun _ _ _ h => h
                  case a23y => exact Or.inr ⟨by first | kernel_rfl | rfl, rfl⟩
                  try simp only [Act.put, List.setIfInBounds_toArray, List.set_cons_zero, List.set_cons_succ]
                  refine wpAnyH_take (i := 24) (oi := ?a24o) (v := undef) ?a24h (by kernel_rfl) (by kernel_rfl) (by kernel_rfl) ?a24q ?a24y hHeld ?a24r
                  case a24h => (simp only [List.getElem?_toArray, List.getElem?_cons_succ, List.getElem?_cons_zero]; rfl)
                  case a24q => exact fun _ _ _ h => h
                  case a24y => exact Or.inr ⟨by first | kernel_rfl | rfl, rfl⟩
                  try simp only [Act.put, List.setIfInBounds_toArray, List.set_cons_zero, List.set_cons_succ]
                  refine wpAnyH_take (i := 25) (oi := ?a25o) (v := undef) ?a25h (by kernel_rfl) (by kernel_rfl) (by kernel_rfl) ?a25q ?a25y hHeld ?a25r
                  case a25h => (simp only [List.getElem?_toArray, List.getElem?_cons_succ, List.getElem?_cons_zero]; rfl)
                  case a25q => exact fun _ _ _ h => h
                  case a25y => exact Or.inr ⟨by first | kernel_rfl | rfl, rfl⟩
                  try simp only [Act.put, List.setIfInBounds_toArray, List.set_cons_zero, List.set_cons_succ]
                  refine wpAnyH_take (i := 26) (oi := ?a26o) (v := undef) ?a26h (by kernel_rfl) (by kernel_rfl) (by kernel_rfl) ?a26q ?a26y hHeld ?a26r
                  case a26h => (simp only [List.getElem?_toArray, List.getElem?_cons_succ, List.getElem?_cons_zero]; rfl)
                  case a26q => exact fun _ _ _ h => h
                  case a26y => exact Or.inr ⟨by first | kernel_rfl | rfl, rfl⟩
                  try simp only [Act.put, List.setIfInBounds_toArray, List.set_cons_zero, List.set_cons_succ]
                  refine wpAnyH_take (i := 27) (oi := ?a27o) (v := undef) ?a27h (by kernel_rfl) (by kernel_rfl) (by kernel_rfl) ?a27q ?a27y hHeld ?a27r
                  case a27h => (simp only [List.getElem?_toArray, List.getElem?_cons_succ, List.getElem?_cons_zero]; rfl)
                  case a27q => exact fun _ _ _ h => h
                  case a27y => exact Or.inr ⟨by first | kernel_rfl | rfl, rfl⟩
                  try simp only [Act.put, List.setIfInBounds_toArray, List.set_cons_zero, List.set_cons_succ]
                  refine wpAnyH_take (i := 28) (oi := ?a28o) (v := undef) ?a28h (by kernel_rfl) (by kernel_rfl) (by kernel_rfl) ?a28q ?a28y hHeld ?a28r
                  case a28h => (simp only [List.getElem?_toArray, List.getElem?_cons_succ, List.getElem?_cons_zero]; rfl)
                  case a28q => exact fun _ _ _ h => h
                  case a28y => exact Or.inr ⟨by first | kernel_rfl | rfl, rfl⟩
                  try simp only [Act.put, List.setIfInBounds_toArray, List.set_cons_zero, List.set_cons_succ]
                  refine wpAnyH_take (i := 29) (oi := ?a29o) (v := undef) ?a29h (by kernel_rfl) (by kernel_rfl) (by kernel_rfl) ?a29q ?a29y hHeld ?a29r
                  case a29h => (simp only [List.getElem?_toArray, List.getElem?_cons_succ, List.getElem?_cons_zero]; rfl)
                  case a29q => exact fun _ _ _ h => h
                  case a29y => exact Or.inr ⟨by first | kernel_rfl | rfl, rfl⟩
                  try simp only [Act.put, List.setIfInBounds_toArray, List.set_cons_zero, List.set_cons_succ]
                  refine wpAnyH_take (i := 30) (oi := ?a30o) (v := undef) ?a30h (by kernel_rfl) (by kernel_rfl) (by kernel_rfl) ?a30q ?a30y hHeld ?a30r
                  case a30h => (simp only [List.getElem?_toArray, List.getElem?_cons_succ, List.getElem?_cons_zero]; rfl)
                  case a30q => exact fun _ _ _ h => h
                  case a30y => exact Or.inr ⟨by first | kernel_rfl | rfl, rfl⟩
                  try simp only [Act.put, List.setIfInBounds_toArray, List.set_cons_zero, List.set_cons_succ]
                  refine wpAnyH_take (i := 31) (oi := ?a31o) (v := undef) ?a31h (by kernel_rfl) (by kernel_rfl) (by kernel_rfl) ?a31q ?a31y hHeld ?a31r
                  case a31h => (simp only [List.getElem?_toArray, List.getElem?_cons_succ, List.getElem?_cons_zero]; rfl)
                  case a31q => exact fun _ _ _ h => h
                  case a31y => exact Or.inr ⟨by first | kernel_rfl | rfl, rfl⟩
                  try simp only [Act.put, List.setIfInBounds_toArray, List.set_cons_zero, List.set_cons_succ]
                  refine wpAnyH_take (i := 32) (oi := ?a32o) (v := undef) ?a32h (by kernel_rfl) (by kernel_rfl) (by kernel_rfl) ?a32q ?a32y hHeld ?a32r
                  case a32h => (simp only [List.getElem?_toArray, List.getElem?_cons_succ, List.getElem?_cons_zero]; rfl)
                  case a32q => exact fun _ _ _ h => h
                  case a32y => exact Or.inr ⟨by first | kernel_rfl | rfl, rfl⟩
                  try simp only [Act.put, List.setIfInBounds_toArray, List.set_cons_zero, List.set_cons_succ]
                  refine wpAnyH_take (i := 33) (oi := ?a33o) (v := undef) ?a33h (by kernel_rfl) (by kernel_rfl) (by kernel_rfl) ?a33q ?a33y hHeld ?a33r
                  case a33h => (simp only [List.getElem?_toArray, List.getElem?_cons_succ, List.getElem?_cons_zero]; rfl)
                  case a33q => exact fun _ _ _ h => h
                  case a33y => exact Or.inr ⟨by first | kernel_rfl | rfl, rfl⟩
                  try simp only [Act.put, List.setIfInBounds_toArray, List.set_cons_zero, List.set_cons_succ]
                  refine wpAnyH_take (i := 34) (oi := ?a34o) (v := undef) ?a34h (by kernel_rfl) (by kernel_rfl) (by kernel_rfl) ?a34q ?a34y hHeld ?a34r
                  case a34h => (simp only [List.getElem?_toArray, List.getElem?_cons_succ, List.getElem?_cons_zero]; rfl)
                  case a34q => exact fun _ _ _ h => h
                  case a34y => exact Or.inr ⟨by first | kernel_rfl | rfl, rfl⟩
                  try simp only [Act.put, List.setIfInBounds_toArray, List.set_cons_zero, List.set_cons_succ]
                  refine wpAnyH_take (i := 35) (oi := ?a35o) (v := undef) ?a35h (by kernel_rfl) (by kernel_rfl) (by kernel_rfl) ?a35q ?a35y hHeld ?a35r
                  case a35h => (simp only [List.getElem?_toArray, List.getElem?_cons_succ, List.getElem?_cons_zero]; rfl)
                  case a35q => exact fun _ _ _ h => h
                  case a35y => exact Or.inr ⟨by first | kernel_rfl | rfl, rfl⟩
                  try simp only [Act.put, List.setIfInBounds_toArray, List.set_cons_zero, List.set_cons_succ]
                  refine wpAnyH_take (i := 36) (oi := ?a36o) (v := undef) ?a36h (by kernel_rfl) (by kernel_rfl) (by kernel_rfl) ?a36q ?a36y hHeld ?a36r
                  case a36h => (simp only [List.getElem?_toArray, List.getElem?_cons_succ, List.getElem?_cons_zero]; rfl)
                  case a36q => exact fun _ _ _ h => h
                  case a36y => exact Or.inr ⟨by first | kernel_rfl | rfl, rfl⟩
                  try simp only [Act.put, List.setIfInBounds_toArray, List.set_cons_zero, List.set_cons_succ]
                  refine wpAnyH_take (i := 37) (oi := ?a37o) (v := undef) ?a37h (by kernel_rfl) (by kernel_rfl) (by kernel_rfl) ?a37q ?a37y hHeld ?a37r
                  case a37h => (simp only [List.getElem?_toArray, List.getElem?_cons_succ, List.getElem?_cons_zero]; rfl)
                  case a37q => exact fun _ _ _ h => h
                  case a37y => exact Or.inr ⟨by first | kernel_rfl | rfl, rfl⟩
                  try simp only [Act.put, List.setIfInBounds_toArray, List.set_cons_zero, List.set_cons_succ]
                  refine wpAnyH_take (i := 38) (oi := ?a38o) (v := undef) ?a38h (by kernel_rfl) (by kernel_rfl) (by kernel_rfl) ?a38q ?a38y hHeld ?a38r
                  case a38h => (simp only [List.getElem?_toArray, List.getElem?_cons_succ, List.getElem?_cons_zero]; rfl)
                  case a38q => exact fun _ _ _ h => h
                  case a38y => exact Or.inr ⟨by first | kernel_rfl | rfl, rfl⟩
                  try simp only [Act.put, List.setIfInBounds_toArray, List.set_cons_zero, List.set_cons_succ]
                  refine wpAnyH_take (i := 39) (oi := ?a39o) (v := undef) ?a39h (by kernel_rfl) (by kernel_rfl) (by kernel_rfl) ?a39q ?a39y hHeld ?a39r
                  case a39h => (simp only [List.getElem?_toArray, List.getElem?_cons_succ, List.getElem?_cons_zero]; rfl)
                  case a39q => exact fun _ _ _ h => h
                  case a39y => exact Or.inr ⟨by first | kernel_rfl | rfl, rfl⟩
                  try simp only [Act.put, List.setIfInBounds_toArray, List.set_cons_zero, List.set_cons_succ]
                  refine wpAnyH_take (i := 40) (oi := ?a40o) (v := ?a40v) ?a40h (by kernel_rfl) (by kernel_rfl) (by kernel_rfl) ?a40q ?a40y hHeld ?a40r
                  case a40h => (simp only [List.getElem?_toArray, List.getElem?_cons_succ, List.getElem?_cons_zero]; rfl)
                  case a40q => exact fun _ _ _ h => h
                  case a40y => (refine Or.inl ⟨by first | kernel_rfl | rfl, ?_⟩; intro w hSw; obtain ⟨⟨x0, x1⟩, x2, x3, x4, ⟨x5, x6⟩⟩ := hSw; go_simp <;> (try with_reducible rfl))
                  try simp only [Act.put, List.setIfInBounds_toArray, List.set_cons_zero, List.set_cons_succ]
                  refine wpAnyH_take (i := 41) (oi := ?a41o) (v := ?a41v) ?a41h (by kernel_rfl) (by kernel_rfl) (by kernel_rfl) ?a41q ?a41y hHeld ?a41r
                  case a41h => (simp only [List.getElem?_toArray, List.getElem?_cons_succ, List.getElem?_cons_zero]; rfl)
                  case a41q => exact fun _ _ _ h => h
                  case a41y => (refine Or.inl ⟨by first | kernel_rfl | rfl, ?_⟩; intro w hSw; obtain ⟨⟨x0, x1⟩, x2, x3, x4, ⟨x5, x6⟩⟩ := hSw; go_simp <;> (try with_reducible rfl))
                  try simp only [Act.put, List.setIfInBounds_toArray, List.set_cons_zero, List.set_cons_succ]
                  refine wpAnyH_ready (rs := [42]) (by kernel_rfl) (by simp) ?_
                  refine (AllReadyH.cons rfl (fun K hK => ?_) AllReadyH.nil)
                  have hr3 := H9.out.g.r
                  have hz3 := H9.out.g.z
                  go_simp
                  refine hK.out _ _ (hHeld.set _ _ (by omega) HCB.out) (fun hHeld => ?_)
                  clear hK K
                  try simp only [Act.put, List.setIfInBounds_toArray, List.set_cons_zero, List.set_cons_succ]
                  refine wpAnyH_done (by kernel_rfl) ?_ _
                  go_wp2
                  exact fin_late _ H9.out.g.bel (by omega) (by have := H9.out.dd; omega) (by have := H9.out.dd; omega) (World.cell?_setCell_same _ _ _ H9.out.g.r) rfl rfl H9.out.df
                · have hlt : s.f < s.t := by have := Sp.is_iff.1 HSIS.out; omega
                  obtain ⟨k1, k2, k3⟩ := HEND.out.last hlt
                  have d1 : (s.f == s.t) = false := by simpa using hst
                  have d2 : decide (s.f < s.t) = true := decide_eq_true hlt
                  have d3 : decide (s.t ≤ T) = true := decide_eq_true k1
                  have d4 : decide (c.f ≤ s.f) = true := decide_eq_true k2
                  have d5 : (c.t == T) = true := by simpa using k3
                  clear hst hlt k1 k2 k3
                  refine wp_region_held_drew (S := (PS w2.heap.size s kk N T w6.heap.size c)) (by kernel_rfl) HPS.out (fun hHeld => ?_)
                  refine wpAnyH_take (i := 0) (oi := ?b1o) (v := ?b1v) ?b1h (by kernel_rfl) (by kernel_rfl) (by kernel_rfl) ?b1q ?b1y hHeld ?b1r
                  case b1h => (simp only [List.getElem?_toArray, List.getElem?_cons_zero]; rfl)
                  case b1q => exact fun _ _ _ h => h
                  case b1y => (refine Or.inl ⟨by first | kernel_rfl | rfl, ?_⟩; intro w hSw; obtain ⟨⟨x0, x1⟩, x2, x3, x4, ⟨x5, x6⟩⟩ := hSw; go_simp <;> (try with_reducible rfl))
                  try simp only [Act.put, List.setIfInBounds_toArray, List.set_cons_zero, List.set_cons_succ]
                  refine wpAnyH_take (i := 1) (oi := ?b2o) (v := ?b2v) ?b2h (by kernel_rfl) (by kernel_rfl) (by kernel_rfl) ?b2q ?b2y hHeld ?b2r
                  case b2h => (simp only [List.getElem?_toArray, List.getElem?_cons_succ, List.getElem?_cons_zero]; rfl)
                  case b2q => exact fun _ _ _ h => h
                  case b2y => (refine Or.inl ⟨by first | kernel_rfl | rfl, ?_⟩; intro w hSw; obtain ⟨⟨x0, x1⟩, x2, x3, x4, ⟨x5, x6⟩⟩ := hSw; go_simp <;> (try with_reducible rfl))
                  try simp only [Act.put, List.setIfInBounds_toArray, List.set_cons_zero, List.set_cons_succ]
                  refine wpAnyH_take (i := 2) (oi := ?b3o) (v := ?b3v) ?b3h (by kernel_rfl) (by kernel_rfl) (by kernel_rfl) ?b3q ?b3y hHeld ?b3r
                  case b3h => (simp only [List.getElem?_toArray, List.getElem?_cons_succ, List.getElem?_cons_zero]; rfl)
                  case b3q => exact fun _ _ _ h => h
                  case b3y => (refine Or.inl ⟨by first | kernel_rfl | rfl, ?_⟩; intro w hSw; obtain ⟨⟨x0, x1⟩, x2, x3, x4, ⟨x5, x6⟩⟩ := hSw; go_simp <;> (try with_reducible rfl))
                  try simp only [Act.put, List.setIfInBounds_toArray, List.set_cons_zero, List.set_cons_succ]
                  refine wpAnyH_ready (rs := [3]) (by kernel_rfl) (by simp) ?_
                  refine (AllReadyH.cons rfl (fun K hK => ?_) AllReadyH.nil)
                  go_simp
                  ((with_reducible refine (kcn _ H8D.out.g.tab).mono ?_); rintro e w9 ⟨rfl, hb9⟩; have H9 := Lib.hid (H8D.out.keep hb9))
                  refine hK.out _ _ (hHeld.keep hb9) (fun hHeld => ?_)
                  clear hK K
                  try simp only [Act.put, List.setIfInBounds_toArray, List.set_cons_zero, List.set_cons_succ]
                  refine wpAnyH_take (i := 4) (oi := ?b4o) (v := ?b4v) ?b4h (by kernel_rfl) (by kernel_rfl) (by kernel_rfl) ?b4q ?b4y hHeld ?b4r
                  case b4h => (simp only [List.getElem?_toArray, List.getElem?_cons_succ, List.getElem?_cons_zero]; rfl)
                  case b4q => exact fun _ _ _ h => h
                  case b4y => (refine Or.inl ⟨by first | kernel_rfl | rfl, ?_⟩; intro w hSw; obtain ⟨⟨x0, x1⟩, x2, x3, x4, ⟨x5, x6⟩⟩ := hSw; go_simp <;> (try with_reducible rfl))
                  try simp only [Act.put, List.setIfInBounds_toArray, List.set_cons_zero, List.set_cons_succ]
                  refine wpAnyH_take (i := 5) (oi := ?b5o) (v := ?b5v) ?b5h (by kernel_rfl) (by kernel_rfl) (by kernel_rfl) ?b5q ?b5y hHeld ?b5r
                  case b5h => (simp only [List.getElem?_toArray, List.getElem?_cons_succ, List.getElem?_cons_zero]; rfl)
                  case b5q => exact fun _ _ _ h => h
                  case b5y => (refine Or.inl ⟨by first | kernel_rfl | rfl, ?_⟩; intro w hSw; obtain ⟨⟨x0, x1⟩, x2, x3, x4, ⟨x5, x6⟩⟩ := hSw; go_simp <;> (try with_reducible rfl))
                  try simp only [Act.put, List.setIfInBounds_toArray, List.set_cons_zero, List.set_cons_succ]
                  refine wpAnyH_take (i := 6) (oi := ?b6o) (v := ?b6v) ?b6h (by kernel_rfl) (by kernel_rfl) (by kernel_rfl) ?b6q ?b6y hHeld ?b6r
                  case b6h => (simp only [List.getElem?_toArray, List.getElem?_cons_succ, List.getElem?_cons_zero]; rfl)
                  case b6q => exact fun _ _ _ h => h
                  case b6y => (refine Or.inl ⟨by first | kernel_rfl | rfl, ?_⟩; intro w hSw; obtain ⟨⟨x0, x1⟩, x2, x3, x4, ⟨x5, x6⟩⟩ := hSw; go_simp <;> (try with_reducible rfl))
                  try simp only [Act.put, List.setIfInBounds_toArray, List.set_cons_zero, List.set_cons_succ]
                  refine wpAnyH_take (i := 7) (oi := ?b7o) (v := ?b7v) ?b7h (by kernel_rfl) (by kernel_rfl) (by kernel_rfl) ?b7q ?b7y hHeld ?b7r
                  case b7h => (simp only [List.getElem?_toArray, List.getElem?_cons_succ, List.getElem?_cons_zero]; rfl)
                  case b7q => exact fun _ _ _ h => h
                  case b7y => (refine Or.inl ⟨by first | kernel_rfl | rfl, ?_⟩; intro w hSw; obtain ⟨⟨x0, x1⟩, x2, x3, x4, ⟨x5, x6⟩⟩ := hSw; go_simp <;> (try with_reducible rfl))
                  try simp only [Act.put, List.setIfInBounds_toArray, List.set_cons_zero, List.set_cons_succ]
                  refine wpAnyH_take (i := 8) (oi := ?b8o) (v := ?b8v) ?b8h (by kernel_rfl) (by kernel_rfl) (by kernel_rfl) ?b8q ?b8y hHeld ?b8r
                  case b8h => (simp only [List.getElem?_toArray, List.getElem?_cons_succ, List.getElem?_cons_zero]; rfl)
                  case b8q => exact fun _ _ _ h => h
                  case b8y => (refine Or.inl ⟨by first | kernel_rfl | rfl, ?_⟩; intro w hSw; obtain ⟨⟨x0, x1⟩, x2, x3, x4, ⟨x5, x6⟩⟩ := hSw; go_simp <;> (try with_reducible rfl))
                  try simp only [Act.put, List.setIfInBounds_toArray, List.set_cons_zero, List.set_cons_succ]
                  refine wpAnyH_take (i := 9) (oi := ?b9o) (v := ?b9v) ?b9h (by kernel_rfl) (by kernel_rfl) (by kernel_rfl) ?b9q ?b9y hHeld ?b9r
                  case b9h => (simp only [List.getElem?_toArray, List.getElem?_cons_succ, List.getElem?_cons_zero]; rfl)
                  case b9q => exact fun _ _ _ h => h
                  case b9y => (refine Or.inl ⟨by first | kernel_rfl | rfl, ?_⟩; intro w hSw; obtain ⟨⟨x0, x1⟩, x2, x3, x4, ⟨x5, x6⟩⟩ := hSw; go_simp <;> (try with_reducible rfl))
                  try simp only [Act.put, List.setIfInBounds_toArray, List.set_cons_zero, List.set_cons_succ]
                  refine wpAnyH_take (i := 10) (oi := ?b10o) (v := ?b10v) ?b10h (by kernel_rfl) (by kernel_rfl) (by kernel_rfl) ?b10q ?b10y hHeld ?b10r
                  case b10h => (simp only [List.getElem?_toArray, List.getElem?_cons_succ, List.getElem?_cons_zero]; rfl)
                  case b10q => exact fun _ _ _ h => h
                  case b10y => (refine Or.inl ⟨by first | kernel_rfl | rfl, ?_⟩; intro w hSw; obtain ⟨⟨x0, x1⟩, x2, x3, x4, ⟨x5, x6⟩⟩ := hSw; go_simp <;> (try with_reducible rfl))
                  try simp only [Act.put, List.setIfInBounds_toArray, List.set_cons_zero, List.set_cons_succ]
                  refine wpAnyH_take (i := 11) (oi := ?b11o) (v := ?b11v) ?b11h (by kernel_rfl) (by kernel_rfl) (by kernel_rfl) ?b11q ?b11y hHeld ?b11r
                  case b11h => (simp only [List.getElem?_toArray, List.getElem?_cons_succ, List.getElem?_cons_zero]; rfl)
                  case b11q => exact fun _ _ _ h => h
                  case b11y => (refine Or.inl ⟨by first | kernel_rfl | rfl, ?_⟩; intro w hSw; obtain ⟨⟨x0, x1⟩, x2, x3, x4, ⟨x5, x6⟩⟩ := hSw; go_simp <;> (try with_reducible rfl))
                  try simp only [Act.put, List.setIfInBounds_toArray, List.set_cons_zero, List.set_cons_succ]
                  refine wpAnyH_take (i := 12) (oi := ?b12o) (v := undef) ?b12h (by kernel_rfl) (by kernel_rfl) (by kernel_rfl) ?b12q ?b12y hHeld ?b12r
                  case b12h => (simp only [List.getElem?_toArray, List.getElem?_cons_succ, List.getElem?_cons_zero]; rfl)
                  case b12q => exact fun _ _ _ h => h
                  case b12y => exact Or.inr ⟨by first | kernel_rfl | rfl, rfl⟩
                  try simp only [Act.put, List.setIfInBounds_toArray, List.set_cons_zero, List.set_cons_succ]
                  refine wpAnyH_take (i := 13) (oi := ?b13o) (v := undef) ?b13h (by kernel_rfl) (by kernel_rfl) (by kernel_rfl) ?b13q ?b13y hHeld ?b13r
                  case b13h => (simp only [List.getElem?_toArray, List.getElem?_cons_succ, List.getElem?_cons_zero]; rfl)
                  case b13q => exact fun _ _ _ h => h
                  case b13y => exact Or.inr ⟨by first | kernel_rfl | rfl, rfl⟩
                  try simp only [Act.put, List.setIfInBounds_toArray, List.set_cons_zero, List.set_cons_succ]
                  refine wpAnyH_take (i := 14) (oi := ?b14o) (v := ?b14v) ?b14h (by kernel_rfl) (by kernel_rfl) (by kernel_rfl) ?b14q ?b14y hHeld ?b14r
                  case b14h => (simp only [List.getElem?_toArray, List.getElem?_cons_succ, List.getElem?_cons_zero]; rfl)
                  case b14q => exact fun _ _ _ h => h
                  case b14y => (refine Or.inl ⟨by first | kernel_rfl | rfl, ?_⟩; intro w hSw; obtain ⟨⟨x0, x1⟩, x2, x3, x4, ⟨x5, x6⟩⟩ := hSw; go_simp <;> (try with_reducible rfl))
                  try simp only [Act.put, List.setIfInBounds_toArray, List.set_cons_zero, List.set_cons_succ]
                  refine wpAnyH_take (i := 15) (oi := ?b15o) (v := ?b15v) ?b15h (by kernel_rfl) (by kernel_rfl) (by kernel_rfl) ?b15q ?b15y hHeld ?b15r
                  case b15h => (simp only [List.getElem?_toArray, List.getElem?_cons_succ, List.getElem?_cons_zero]; rfl)
                  case b15q => exact fun _ _ _ h => h
                  case b15y => (refine Or.inl ⟨by first | kernel_rfl | rfl, ?_⟩; intro w hSw; obtain ⟨⟨x0, x1⟩, x2, x3, x4, ⟨x5, x6⟩⟩ := hSw; go_simp <;> (try with_reducible rfl))
                  try simp only [Act.put, List.setIfInBounds_toArray, List.set_cons_zero, List.set_cons_succ]
                  refine wpAnyH_take (i := 16) (oi := ?b16o) (v := ?b16v) ?b16h (by kernel_rfl) (by kernel_rfl) (by kernel_rfl) ?b16q ?b16y hHeld ?b16r
                  case b16h => (simp only [List.getElem?_toArray, List.getElem?_cons_succ, List.getElem?_cons_zero]; rfl)
                  case b16q => exact fun _ _ _ h => h
                  case b16y => (refine Or.inl ⟨by first | kernel_rfl | rfl, ?_⟩; intro w hSw; obtain ⟨⟨x0, x1⟩, x2, x3, x4, ⟨x5, x6⟩⟩ := hSw; go_simp <;> (try with_reducible rfl))
                  try simp only [Act.put, List.setIfInBounds_toArray, List.set_cons_zero, List.set_cons_succ]
                  refine wpAnyH_take (i := 17) (oi := ?b17o) (v := ?b17v) ?b17h (by kernel_rfl) (by kernel_rfl) (by kernel_rfl) ?b17q ?b17y hHeld ?b17r
                  case b17h => (simp only [List.getElem?_toArray, List.getElem?_cons_succ, List.getElem?_cons_zero]; rfl)
                  case b17q => exact fun _ _ _ h => h
                  case b17y => (refine Or.inl ⟨by first | kernel_rfl | rfl, ?_⟩; intro w hSw; obtain ⟨⟨x0, x1⟩, x2, x3, x4, ⟨x5, x6⟩⟩ := hSw; go_simp <;> (try with_reducible rfl))
                  try simp only [Act.put, List.setIfInBounds_toArray, List.set_cons_zero, List.set_cons_succ]
                  refine wpAnyH_take (i := 18) (oi := ?b18o) (v := ?b18v) ?b18h (by kernel_rfl) (by kernel_rfl) (by kernel_rfl) ?b18q ?b18y hHeld ?b18r
                  case b18h => (simp only [List.getElem?_toArray, List.getElem?_cons_succ, List.getElem?_cons_zero]; rfl)
                  case b18q => exact fun _ _ _ h => h
                  case b18y => (refine Or.inl ⟨by first | kernel_rfl | rfl, ?_⟩; intro w hSw; obtain ⟨⟨x0, x1⟩, x2, x3, x4, ⟨x5, x6⟩⟩ := hSw; go_simp <;> (try with_reducible rfl))
                  try simp only [Act.put, List.setIfInBounds_toArray, List.set_cons_zero, List.set_cons_succ]
                  refine wpAnyH_take (i := 19) (oi := ?b19o) (v := ?b19v) ?b19h (by kernel_rfl) (by kernel_rfl) (by kernel_rfl) ?b19q ?b19y hHeld ?b19r
                  case b19h => (simp only [List.getElem?_toArray, List.getElem?_cons_succ, List.getElem?_cons_zero]; rfl)
                  case b19q => exact fun _ _ _ h => h
                  case b19y => (refine Or.inl ⟨by first | kernel_rfl | rfl, ?_⟩; intro w hSw; obtain ⟨⟨x0, x1⟩, x2, x3, x4, ⟨x5, x6⟩⟩ := hSw; go_simp <;> (try with_reducible rfl))
                  try simp only [Act.put, List.setIfInBounds_toArray, List.set_cons_zero, List.set_cons_succ]
                  refine wpAnyH_take (i := 20) (oi := ?b20o) (v := ?b20v) ?b20h (by kernel_rfl) (by kernel_rfl) (by kernel_rfl) ?b20q ?b20y hHeld ?b20r
                  case b20h => (simp only [List.getElem?_toArray, List.getElem?_cons_succ, List.getElem?_cons_zero]; rfl)
                  case b20q => exact fun _ _ _ h => h
                  case b20y => (refine Or.inl ⟨by first | kernel_rfl | rfl, ?_⟩; intro w hSw; obtain ⟨⟨x0, x1⟩, x2, x3, x4, ⟨x5, x6⟩⟩ := hSw; go_simp <;> (try with_reducible rfl))
                  try simp only [Act.put, List.setIfInBounds_toArray, List.set_cons_zero, List.set_cons_succ]
                  refine wpAnyH_take (i := 21) (oi := ?b21o) (v := ?b21v) ?b21h (by kernel_rfl) (by kernel_rfl) (by kernel_rfl) ?b21q ?b21y hHeld ?b21r
                  case b21h => (simp only [List.getElem?_toArray, List.getElem?_cons_succ, List.getElem?_cons_zero]; rfl)
                  case b21q => exact fun _ _ _ h => h
                  case b21y => (refine Or.inl ⟨by first | kernel_rfl | rfl, ?_⟩; intro w hSw; obtain ⟨⟨x0, x1⟩, x2, x3, x4, ⟨x5, x6⟩⟩ := hSw; go_simp <;> (try with_reducible rfl))
                  try simp only [Act.put, List.setIfInBounds_toArray, List.set_cons_zero, List.set_cons_succ]
                  refine wpAnyH_take (i := 22) (oi := ?b22o) (v := ?b22v) ?b22h (by kernel_rfl) (by kernel_rfl) (by kernel_rfl) ?b22q ?b22y hHeld ?b22r
                  case b22h => (simp only [List.getElem?_toArray, List.getElem?_cons_succ, List.getElem?_cons_zero]; rfl)
                  case b22q => exact fun _ _ _ h => h
                  case b22y => (refine Or.inl ⟨by first | kernel_rfl | rfl, ?_⟩; intro w hSw; obtain ⟨⟨x0, x1⟩, x2, x3, x4, ⟨x5, x6⟩⟩ := hSw; go_simp <;> (try with_reducible rfl))
                  try simp only [Act.put, List.setIfInBounds_toArray, List.set_cons_zero, List.set_cons_succ]
                  refine wpAnyH_take (i := 23) (oi := ?b23o) (v := ?b23v) ?b23h (by kernel_rfl) (by kernel_rfl) (by kernel_rfl) ?b23q ?b23y hHeld ?b23r
                  case b23h => (simp only [List.getElem?_toArray, List.getElem?_cons_succ, List.getElem?_cons_zero]; rfl)
                  case b23q => exact fun _ _ _ h => h
                  case b23y => (refine Or.inl ⟨by first | kernel_rfl | rfl, ?_⟩; intro w hSw; obtain ⟨⟨x0, x1⟩, x2, x3, x4, ⟨x5, x6⟩⟩ := hSw; go_simp <;> (try with_reducible rfl))
                  try simp only [Act.put, List.setIfInBounds_toArray, List.set_cons_zero, List.set_cons_succ]
                  refine wpAnyH_take (i := 24) (oi := ?b24o) (v := ?b24v) ?b24h (by kernel_rfl) (by kernel_rfl) (by kernel_rfl) ?b24q ?b24y hHeld ?b24r
                  case b24h => (simp only [List.getElem?_toArray, List.getElem?_cons_succ, List.getElem?_cons_zero]; rfl)
                  case b24q => exact fun _ _ _ h => h
                  case b24y => (refine Or.inl ⟨by first | kernel_rfl | rfl, ?_⟩; intro w hSw; obtain ⟨⟨x0, x1⟩, x2, x3, x4, ⟨x5, x6⟩⟩ := hSw; go_simp <;> (try with_reducible rfl))
                  try simp only [Act.put, List.setIfInBounds_toArray, List.set_cons_zero, List.set_cons_succ]
                  refine wpAnyH_take (i := 25) (oi := ?b25o) (v := ?b25v) ?b25h (by kernel_rfl) (by kernel_rfl) (by kernel_rfl) ?b25q ?b25y hHeld ?b25r
                  case b25h => (simp only [List.getElem?_toArray, List.getElem?_cons_succ, List.getElem?_cons_zero]; rfl)
                  case b25q => exact fun _ _ _ h => h
                  case b25y => (refine Or.inl ⟨by first | kernel_rfl | rfl, ?_⟩; intro w hSw; obtain ⟨⟨x0, x1⟩, x2, x3, x4, ⟨x5, x6⟩⟩ := hSw; go_simp <;> (try with_reducible rfl))
                  try simp only [Act.put, List.setIfInBounds_toArray, List.set_cons_zero, List.set_cons_succ]
                  refine wpAnyH_take (i := 26) (oi := ?b26o) (v := ?b26v) ?b26h (by kernel_rfl) (by kernel_rfl) (by kernel_rfl) ?b26q ?b26y hHeld ?b26r
                  case b26h => (simp only [List.getElem?_toArray, List.getElem?_cons_succ, List.getElem?_cons_zero]; rfl)
                  case b26q => exact fun _ _ _ h => h
                  case b26y => (refine Or.inl ⟨by first | kernel_rfl | rfl, ?_⟩; intro w hSw; obtain ⟨⟨x0, x1⟩, x2, x3, x4, ⟨x5, x6⟩⟩ := hSw; go_simp <;> (try with_reducible rfl))
                  try simp only [Act.put, List.setIfInBounds_toArray, List.set_cons_zero, List.set_cons_succ]
                  refine wpAnyH_take (i := 27) (oi := ?b27o) (v := ?b27v) ?b27h (by kernel_rfl) (by kernel_rfl) (by kernel_rfl) ?b27q ?b27y hHeld ?b27r
                  case b27h => (simp only [List.getElem?_toArray, List.getElem?_cons_succ, List.getElem?_cons_zero]; rfl)
                  case b27q => exact fun _ _ _ h => h
                  case b27y => (refine Or.inl ⟨by first | kernel_rfl | rfl, ?_⟩; intro w hSw; obtain ⟨⟨x0, x1⟩, x2, x3, x4, ⟨x5, x6⟩⟩ := hSw; go_simp <;> (try with_reducible rfl))
                  try simp only [Act.put, List.setIfInBounds_toArray, List.set_cons_zero, List.set_cons_succ]
                  refine wpAnyH_take (i := 28) (oi := ?b28o) (v := ?b28v) ?b28h (by kernel_rfl) (by kernel_rfl) (by kernel_rfl) ?b28q ?b28y hHeld ?b28r
                  case b28h => (simp only [List.getElem?_toArray, List.getElem?_cons_succ, List.getElem?_cons_zero]; rfl)
                  case b28q => exact fun _ _ _ h => h
                  case b28y => (refine Or.inl ⟨by first | kernel_rfl | rfl, ?_⟩; intro w hSw; obtain ⟨⟨x0, x1⟩, x2, x3, x4, ⟨x5, x6⟩⟩ := hSw; go_simp <;> (try with_reducible rfl))
                  try simp only [Act.put, List.setIfInBounds_toArray, List.set_cons_zero, List.set_cons_succ]
                  refine wpAnyH_take (i := 29) (oi := ?b29o) (v := ?b29v) ?b29h (by kernel_rfl) (by kernel_rfl) (by kernel_rfl) ?b29q ?b29y hHeld ?b29r
                  case b29h => (simp only [List.getElem?_toArray, List.getElem?_cons_succ, List.getElem?_cons_zero]; rfl)
                  case b29q => exact fun _ _ _ h => h
                  case b29y => (refine Or.inl ⟨by first | kernel_rfl | rfl, ?_⟩; intro w hSw; obtain ⟨⟨x0, x1⟩, x2, x3, x4, ⟨x5, x6⟩⟩ := hSw; go_simp <;> (try with_reducible rfl))
                  try simp only [Act.put, List.setIfInBounds_toArray, List.set_cons_zero, List.set_cons_succ]
                  refine wpAnyH_take (i := 30) (oi := ?b30o) (v := ?b30v) ?b30h (by kernel_rfl) (by kernel_rfl) (by kernel_rfl) ?b30q ?b30y hHeld ?b30r
                  case b30h => (simp only [List.getElem?_toArray, List.getElem?_cons_succ, List.getElem?_cons_zero]; rfl)
                  case b30q => exact fun _ _ _ h => h
                  case b30y => (refine Or.inl ⟨by first | kernel_rfl | rfl, ?_⟩; intro w hSw; obtain ⟨⟨x0, x1⟩, x2, x3, x4, ⟨x5, x6⟩⟩ := hSw; go_simp <;> (try with_reducible rfl))
                  try simp only [Act.put, List.setIfInBounds_toArray, List.set_cons_zero, List.set_cons_succ]
                  refine wpAnyH_take (i := 31) (oi := ?b31o) (v := ?b31v) ?b31h (by kernel_rfl) (by kernel_rfl) (by kernel_rfl) ?b31q ?b31y hHeld ?b31r
                  case b31h => (simp only [List.getElem?_toArray, List.getElem?_cons_succ, List.getElem?_cons_zero]; rfl)
                  case b31q => exact fun _ _ _ h => h
                  case b31y => (refine Or.inl ⟨by first | kernel_rfl | rfl, ?_⟩; intro w hSw; obtain ⟨⟨x0, x1⟩, x2, x3, x4, ⟨x5, x6⟩⟩ := hSw; go_simp <;> (try with_reducible rfl))
                  try simp only [Act.put, List.setIfInBounds_toArray, List.set_cons_zero, List.set_cons_succ]
                  refine wpAnyH_take (i := 32) (oi := ?b32o) (v := ?b32v) ?b32h (by kernel_rfl) (by kernel_rfl) (by kernel_rfl) ?b32q ?b32y hHeld ?b32r
                  case b32h => (simp only [List.getElem?_toArray, List.getElem?_cons_succ, List.getElem?_cons_zero]; rfl)
                  case b32q => exact fun _ _ _ h => h
                  case b32y => (refine Or.inl ⟨by first | kernel_rfl | rfl, ?_⟩; intro w hSw; obtain ⟨⟨x0, x1⟩, x2, x3, x4, ⟨x5, x6⟩⟩ := hSw; go_simp <;> (try with_reducible rfl))
                  try simp only [Act.put, List.setIfInBounds_toArray, List.set_cons_zero, List.set_cons_succ]
                  refine wpAnyH_take (i := 33) (oi := ?b33o) (v := ?b33v) ?b33h (by kernel_rfl) (by kernel_rfl) (by kernel_rfl) ?b33q ?b33y hHeld ?b33r
                  case b33h => (simp only [List.getElem?_toArray, List.getElem?_cons_succ, List.getElem?_cons_zero]; rfl)
                  case b33q => exact fun _ _ _ h => h
                  case b33y => (refine Or.inl ⟨by first | kernel_rfl | rfl, ?_⟩; intro w hSw; obtain ⟨⟨x0, x1⟩, x2, x3, x4, ⟨x5, x6⟩⟩ := hSw; go_simp <;> (try with_reducible rfl))
                  try simp only [Act.put, List.setIfInBounds_toArray, List.set_cons_zero, List.set_cons_succ]
                  refine wpAnyH_take (i := 34) (oi := ?b34o) (v := ?b34v) ?b34h (by kernel_rfl) (by kernel_rfl) (by kernel_rfl) ?b34q ?b34y hHeld ?b34r
                  case b34h => (simp only [List.getElem?_toArray, List.getElem?_cons_succ, List.getElem?_cons_zero]; rfl)
                  case b34q => exact fun _ _ _ h => h
                  case b34y => (refine Or.inl ⟨by first | kernel_rfl | rfl, ?_⟩; intro w hSw; obtain ⟨⟨x0, x1⟩, x2, x3, x4, ⟨x5, x6⟩⟩ := hSw; go_simp <;> (try with_reducible rfl))
                  try simp only [Act.put, List.setIfInBounds_toArray, List.set_cons_zero, List.set_cons_succ]
                  refine wpAnyH_take (i := 35) (oi := ?b35o) (v := ?b35v) ?b35h (by kernel_rfl) (by kernel_rfl) (by kernel_rfl) ?b35q ?b35y hHeld ?b35r
                  case b35h => (simp only [List.getElem?_toArray, List.getElem?_cons_succ, List.getElem?_cons_zero]; rfl)
                  case b35q => exact fun _ _ _ h => h
                  case b35y => (refine Or.inl ⟨by first | kernel_rfl | rfl, ?_⟩; intro w hSw; obtain ⟨⟨x0, x1⟩, x2, x3, x4, ⟨x5, x6⟩⟩ := hSw; go_simp <;> (try with_reducible rfl))
                  try simp only [Act.put, List.setIfInBounds_toArray, List.set_cons_zero, List.set_cons_succ]
                  refine wpAnyH_take (i := 36) (oi := ?b36o) (v := ?b36v) ?b36h (by kernel_rfl) (by kernel_rfl) (by kernel_rfl) ?b36q ?b36y hHeld ?b36r
                  case b36h => (simp only [List.getElem?_toArray, List.getElem?_cons_succ, List.getElem?_cons_zero]; rfl)
                  case b36q => exact fun _ _ _ h => h
                  case b36y => (refine Or.inl ⟨by first | kernel_rfl | rfl, ?_⟩; intro w hSw; obtain ⟨⟨x0, x1⟩, x2, x3, x4, ⟨x5, x6⟩⟩ := hSw; go_simp <;> (try with_reducible rfl))
                  try simp only [Act.put, List.setIfInBounds_toArray, List.set_cons_zero, List.set_cons_succ]
                  refine wpAnyH_take (i := 37) (oi := ?b37o) (v := ?b37v) ?b37h (by kernel_rfl) (by kernel_rfl) (by kernel_rfl) ?b37q ?b37y hHeld ?b37r
                  case b37h => (simp only [List.getElem?_toArray, List.getElem?_cons_succ, List.getElem?_cons_zero]; rfl)
                  case b37q => exact fun _ _ _ h => h
                  case b37y => (refine Or.inl ⟨by first | kernel_rfl | rfl, ?_⟩; intro w hSw; obtain ⟨⟨x0, x1⟩, x2, x3, x4, ⟨x5, x6⟩⟩ := hSw; go_simp <;> (try with_reducible rfl))
                  try simp only [Act.put, List.setIfInBounds_toArray, List.set_cons_zero, List.set_cons_succ]
                  refine wpAnyH_take (i := 38) (oi := ?b38o) (v := ?b38v) ?b38h (by kernel_rfl) (by kernel_rfl) (by kernel_rfl) ?b38q ?b38y hHeld ?b38r
                  case b38h => (simp only [List.getElem?_toArray, List.getElem?_cons_succ, List.getElem?_cons_zero]; rfl)
                  case b38q => exact fun _ _ _ h => h
                  case b38y => (refine Or.inl ⟨by first | kernel_rfl | rfl, ?_⟩; intro w hSw; obtain ⟨⟨x0, x1⟩, x2, x3, x4, ⟨x5, x6⟩⟩ := hSw; go_simp <;> (try with_reducible rfl))
                  try simp only [Act.put, List.setIfInBounds_toArray, List.set_cons_zero, List.set_cons_succ]
                  refine wpAnyH_take (i := 39) (oi := ?b39o) (v := ?b39v) ?b39h (by kernel_rfl) (by kernel_rfl) (by kernel_rfl) ?b39q ?b39y hHeld ?b39r
                  case b39h => (simp only [List.getElem?_toArray, List.getElem?_cons_succ, List.getElem?_cons_zero]; rfl)
                  case b39q => exact fun _ _ _ h => h
                  case b39y => (refine Or.inl ⟨by first | kernel_rfl | rfl, ?_⟩; intro w hSw; obtain ⟨⟨x0, x1⟩, x2, x3, x4, ⟨x5, x6⟩⟩ := hSw; go_simp <;> (try with_reducible rfl))
                  try simp only [Act.put, List.setIfInBounds_toArray, List.set_cons_zero, List.set_cons_succ]
                  refine wpAnyH_take (i := 40) (oi := ?b40o) (v := ?b40v) ?b40h (by kernel_rfl) (by kernel_rfl) (by kernel_rfl) ?b40q ?b40y hHeld ?b40r
                  case b40h => (simp only [List.getElem?_toArray, List.getElem?_cons_succ, List.getElem?_cons_zero]; rfl)
                  case b40q => exact fun _ _ _ h => h
                  case b40y => (refine Or.inl ⟨by first | kernel_rfl | rfl, ?_⟩; intro w hSw; obtain ⟨⟨x0, x1⟩, x2, x3, x4, ⟨x5, x6⟩⟩ := hSw; go_simp <;> (try with_reducible rfl))
                  try simp only [Act.put, List.setIfInBounds_toArray, List.set_cons_zero, List.set_cons_succ]
                  refine wpAnyH_take (i := 41) (oi := ?b41o) (v := ?b41v) ?b41h (by kernel_rfl) (by kernel_rfl) (by kernel_rfl) ?b41q ?b41y hHeld ?b41r
                  case b41h => (simp only [List.getElem?_toArray, List.getElem?_cons_succ, List.getElem?_cons_zero]; rfl)
                  case b41q => exact fun _ _ _ h => h
                  case b41y => (refine Or.inl ⟨by first | kernel_rfl | rfl, ?_⟩; intro w hSw; obtain ⟨⟨x0, x1⟩, x2, x3, x4, ⟨x5, x6⟩⟩ := hSw; go_simp <;> (try with_reducible rfl))
                  try simp only [Act.put, List.setIfInBounds_toArray, List.set_cons_zero, List.set_cons_succ]
                  refine wpAnyH_ready (rs := [42]) (by kernel_rfl) (by simp) ?_
                  refine (AllReadyH.cons rfl (fun K hK => ?_) AllReadyH.nil)
                  have hr3 := H9.out.g.r
                  have hz3 := H9.out.g.z
                  go_simp
                  refine hK.out _ _ (hHeld.set _ _ (by omega) HCB.out) (fun hHeld => ?_)
                  clear hK K
                  try simp only [Act.put, List.setIfInBounds_toArray, List.set_cons_zero, List.set_cons_succ]
                  refine wpAnyH_done (by kernel_rfl) ?_ _
                  go_wp2
                  exact fin_late _ H9.out.g.bel (by omega) (by have := H9.out.dd; omega) (by have := H9.out.dd; omega) (World.cell?_setCell_same _ _ _ H9.out.g.r) rfl rfl H9.out.df
              refine (wpIn_wide (n := 9)).1 ?_
              refine wpIn_rangeFunc_ownH hRl (by omega) (gf := 43) (lb := #[.pointer (some ⟨Bc, 0, none⟩), .pointer (some ⟨Bw, 0, none⟩), .pointer (some ⟨Bt, 0, none⟩)]) rfl trivial (enters_of Tryd.func43 (by kernel_rfl) rfl)
                (each_stops 8 (by omega) Bc Bw Bt s kk w5 HE.out) keepB_t (keepB_b hEL) (Below.refl _ _) (fun _ => rfl)
                (fun pre W => Boxed W (w2.heap.size + 1 + 1) 3 (.int .i64 (pre.length : Int)) ∧ Boxed W (w2.heap.size + 1 + 1 + 1) 3 (.int .i64 (lastT pre)) ∧ Below (w2.heap.size + 1 + 1) w5 W)
                (fun c pre W => ¬ pre <+: L)
                (OwnFrom.and (Own.from (boxed_own (w2.heap.size + 1 + 1) 3 (fun pre : List Sp => .int .i64 (pre.length : Int))) _) (OwnFrom.and (Own.from (boxed_own (w2.heap.size + 1 + 1 + 1) 3 (fun pre : List Sp => .int .i64 (lastT pre))) _) (ownFrom_below (by omega) (by omega))))
                (fun c => const_own _ (fun pre => ¬ pre <+: L))
                ⟨HBm.out, HBl.out, Below.refl _ _⟩
                (fun x a' W => ∃ Bx, w5.heap.size ≤ Bx ∧ Box2 W Bx x ∧ a' = { tmps := #[Value.int IntKind.i64 t, Value.int IntKind.i64 fr, Value.agg #[Value.int IntKind.i64 q0, Value.int IntKind.i64 q1], undef, undef, Value.pointer (some ⟨w.heap.size, 0, none⟩), Value.pointer (some ⟨w.heap.size + 1, 0, none⟩), Value.bool true, Value.int IntKind.i64 (k : Int), u9, u10, Value.int IntKind.i64 n, Value.pointer (some ⟨w2.heap.size, 0, none⟩), Value.pointer (some ⟨w2.heap.size + 1, 0, none⟩), Value.pointer (some ⟨w2.heap.size + 1 + 1, 0, none⟩), Value.pointer (some ⟨w2.heap.size + 1 + 1 + 1, 0, none⟩), Value.pointer (some ⟨Bx, 0, none⟩), undef, undef, Value.bool true, Value.bool true, Value.bool false, Value.bool false, Value.int IntKind.i64 t, Value.bool (decide (t < 0)), Value.bool (decide (t < 0)), Value.bool (decide (t < 0)), Value.int IntKind.i64 t, Value.bool (decide (1099511627776 < t)), Value.bool (decide (t < 0) || decide (1099511627776 < t)), undef, u31, u32, u33, u34, u35, u36, u37, u38, u39, u40, u41, u42, u43, u44, u45, u46, u47, u48, u49, u50, u51, u52, u53, u54, u55, u56, u57, u58, u59, u60, u61, u62, u63, u64, u65, u66, u67, u68, u69, u70, u71, u72, u73, u74, u75, u76, u77, u78, u79, u80, u81, u82, u83, u84, u85, u86, u87, u88, u89, u90, u91, u92, u93, u94, u95, u96, u97, u98, u99, u100, u101, u102, u103, u104, u105, u106, u107, u108, u109, u110, u111, u112, u113, u114, u115, u116, u117, u118, Value.pointer (some ⟨w.heap.size, 1, none⟩), Value.int IntKind.i64 q1, Value.int IntKind.i64 kk, Value.agg #[Value.int IntKind.i64 fr, Value.int IntKind.i64 z], Value.int IntKind.i64 kk, ECL Bc Bw Bt, Value.agg #[Value.int IntKind.i64 x.f, Value.int IntKind.i64 x.t], u126, u127, u128, u129, u130, u131, u132, u133, u134, u135, u136, u137, u138, u139, u140, u141, u142, u143, u144, u145, u146, u147, u148, u149, u150, u151, u152, u153, u154, u155, u156, u157, u158, u159, u160, u161, u162, u163, u164, u165, u166, u167, u168, u169, u170, u171, u172, u173, u174, u175, u176, u177, u178, u179, u180, u181, u182, u183, u184, u185, u186, u187, u188, u189, u190, u191, u192, u193, u194, u195, u196, u197, u198, u199, u200, u201, u202, u203, u204, u205, u206, u207, u208, u209, u210, u211, u212, u213, u214, u215, u216, u217, u218, u219, u220, u221, u222, u223, u224, u225, u226, u227, u228, u229], defers := [] })
                (fun x a' _ X Y row hs hg hr => by obtain ⟨Bx, k1, k2, k3⟩ := hs; exact ⟨Bx, k1, k2.own hg (fun r e => (hr r e).2), k3⟩)
                ?assign ?body ?done ?stop
              case assign =>
                rintro l pre x W K ⟨hm, hl, hB⟩ hK
                unfold encSp
                gi_wp2
                exact hK _ _ ((KeepsOthers.alloc _ _).from _) (.of_below ((Below.refl _ W).alloc (Nat.le_refl _) _) (fun q hq => Nat.lt_of_lt_of_le (hEL q hq) hB.size)) ⟨hm.alloc _, hl.alloc _, hB.alloc (by have := hB.size; omega) _⟩ ⟨W.heap.size, hB.size, Box2.new W x, rfl⟩
              case body =>
                rintro l pre x a' W hl - ⟨hm, hlb, hB⟩ ⟨Bx, hBx, bX, rfl⟩ hlt
                have HSX := Lib.hid (show pre ++ [x] <+: L → StepOk s kk pre x from fun h => parts_step HSIS.out HKB.out (by rw [HLL.out]; exact h))
                obtain ⟨M, hMM⟩ : ∃ M : Int, (pre.length : Int) = M := ⟨_, rfl⟩
                obtain ⟨T, hTT⟩ : ∃ T, lastT pre = T := ⟨_, rfl⟩
                rw [hMM] at hm
                rw [hTT] at hlb
                have HMM := Lib.hid hMM
                have HTT := Lib.hid hTT
                obtain ⟨v, hv⟩ : ∃ v, ofI x.f kk = v := ⟨_, rfl⟩
                have HPH := Lib.hid (show PH w2.heap.size s x kk M T Bx W W from ⟨under HS5.out hB (by omega), (hB.cell (p := ⟨w2.heap.size + 1, 0, none⟩) (by show w2.heap.size + 1 < _; omega)).trans HK5.out, hm.cell, hlb.cell, bX.at_, HE.out.tab.below hB (by have := hT.room; omega), Below.refl _ _⟩)
                have HGW := Lib.hid (HG5.out.upto hB (by omega) (HE.out.tab.below hB (by have := hT.room; omega)))
                have HV := Lib.hid hv
                have HWM := Lib.hid (show IntKind.i64.wrap (M + 1) = M + 1 by
                  have hN := count_bounds s kk
                  rw [allW_length] at hlt
                  rw [IntKind.wrap_i64]; omega)
                have qn := fun w => sp_neq v x w
                have kof := fun W h => ofAny_is x.f kk v W h (Lib.hid hv)
                unfold Sp.v at kof
                clear hv
                have HHB := Lib.hid hB
                clear hlt hB hMM hTT
                gi_wp2_with fail
                by_cases hM : M = 0
                · subst hM
                  have HHM := Lib.hid hm
                  have HHL := Lib.hid hlb
                  clear hm hlb
                  by_cases c1 : s.f < x.f
                  · have d1 : decide (s.f < x.f) = true := decide_eq_true c1
                    have HX := Lib.hid (show ¬ pre ++ [x] <+: L from fun h => by have k1 := (HSX.out h).first (by have := HMM.out; omega); omega)
                    clear c1
                    refine region_round (S := (PH w2.heap.size s x kk 0 T Bx W)) (by kernel_rfl) (by kernel_rfl) HPH.out.drew (fun hHeld => ?_)
                    refine wpAnyH_take (i := 0) (oi := ?a1o) (v := ?a1v) ?a1h (by kernel_rfl) (by kernel_rfl) (by kernel_rfl) ?a1q ?a1y hHeld ?a1r
                    case a1h => (simp only [List.getElem?_toArray, List.getElem?_cons_zero]; rfl)
                    case a1q => exact fun _ _ _ h => h
                    case a1y => (refine Or.inl ⟨by first | kernel_rfl | rfl, ?_⟩; intro w hSw; obtain ⟨⟨x0, x1⟩, x2, x3, x4, ⟨x5, x6⟩, -, -⟩ := hSw; go_simp <;> (try with_reducible rfl))
                    try simp only [Act.put, List.setIfInBounds_toArray, List.set_cons_zero, List.set_cons_succ]
                    refine wpAnyH_take (i := 1) (oi := ?a2o) (v := ?a2v) ?a2h (by kernel_rfl) (by kernel_rfl) (by kernel_rfl) ?a2q ?a2y hHeld ?a2r
                    case a2h => (simp only [List.getElem?_toArray, List.getElem?_cons_succ, List.getElem?_cons_zero]; rfl)
                    case a2q => exact fun _ _ _ h => h
                    case a2y => (refine Or.inl ⟨by first | kernel_rfl | rfl, ?_⟩; intro w hSw; obtain ⟨⟨x0, x1⟩, x2, x3, x4, ⟨x5, x6⟩, -, -⟩ := hSw; go_simp <;> (try with_reducible rfl))
                    try simp only [Act.put, List.setIfInBounds_toArray, List.set_cons_zero, List.set_cons_succ]
                    refine wpAnyH_take (i := 2) (oi := ?a3o) (v := ?a3v) ?a3h (by kernel_rfl) (by kernel_rfl) (by kernel_rfl) ?a3q ?a3y hHeld ?a3r
                    case a3h => (simp only [List.getElem?_toArray, List.getElem?_cons_succ, List.getElem?_cons_zero]; rfl)
                    case a3q => exact fun _ _ _ h => h
                    case a3y => (refine Or.inl ⟨by first | kernel_rfl | rfl, ?_⟩; intro w hSw; obtain ⟨⟨x0, x1⟩, x2, x3, x4, ⟨x5, x6⟩, -, -⟩ := hSw; go_simp <;> (try with_reducible rfl))
                    try simp only [Act.put, List.setIfInBounds_toArray, List.set_cons_zero, List.set_cons_succ]
                    refine wpAnyH_take (i := 3) (oi := ?a4o) (v := ?a4v) ?a4h (by kernel_rfl) (by kernel_rfl) (by kernel_rfl) ?a4q ?a4y hHeld ?a4r
                    case a4h => (simp only [List.getElem?_toArray, List.getElem?_cons_succ, List.getElem?_cons_zero]; rfl)
                    case a4q => exact fun _ _ _ h => h
                    case a4y => (refine Or.inl ⟨by first | kernel_rfl | rfl, ?_⟩; intro w hSw; obtain ⟨⟨x0, x1⟩, x2, x3, x4, ⟨x5, x6⟩, -, -⟩ := hSw; go_simp <;> (try with_reducible rfl))
                    try simp only [Act.put, List.setIfInBounds_toArray, List.set_cons_zero, List.set_cons_succ]
                    refine wpAnyH_take (i := 4) (oi := ?a5o) (v := ?a5v) ?a5h (by kernel_rfl) (by kernel_rfl) (by kernel_rfl) ?a5q ?a5y hHeld ?a5r
                    case a5h => (simp only [List.getElem?_toArray, List.getElem?_cons_succ, List.getElem?_cons_zero]; rfl)
                    case a5q => exact fun _ _ _ h => h
                    case a5y => (refine Or.inl ⟨by first | kernel_rfl | rfl, ?_⟩; intro w hSw; obtain ⟨⟨x0, x1⟩, x2, x3, x4, ⟨x5, x6⟩, -, -⟩ := hSw; go_simp <;> (try with_reducible rfl))
                    try simp only [Act.put, List.setIfInBounds_toArray, List.set_cons_zero, List.set_cons_succ]
                    refine wpAnyH_take (i := 5) (oi := ?a6o) (v := ?a6v) ?a6h (by kernel_rfl) (by kernel_rfl) (by kernel_rfl) ?a6q ?a6y hHeld ?a6r
                    case a6h => (simp only [List.getElem?_toArray, List.getElem?_cons_succ, List.getElem?_cons_zero]; rfl)
                    case a6q => exact fun _ _ _ h => h
                    case a6y => (refine Or.inl ⟨by first | kernel_rfl | rfl, ?_⟩; intro w hSw; obtain ⟨⟨x0, x1⟩, x2, x3, x4, ⟨x5, x6⟩, -, -⟩ := hSw; go_simp <;> (try with_reducible rfl))
                    try simp only [Act.put, List.setIfInBounds_toArray, List.set_cons_zero, List.set_cons_succ]
                    refine wpAnyH_take (i := 6) (oi := ?a7o) (v := ?a7v) ?a7h (by kernel_rfl) (by kernel_rfl) (by kernel_rfl) ?a7q ?a7y hHeld ?a7r
                    case a7h => (simp only [List.getElem?_toArray, List.getElem?_cons_succ, List.getElem?_cons_zero]; rfl)
                    case a7q => exact fun _ _ _ h => h
                    case a7y => (refine Or.inl ⟨by first | kernel_rfl | rfl, ?_⟩; intro w hSw; obtain ⟨⟨x0, x1⟩, x2, x3, x4, ⟨x5, x6⟩, -, -⟩ := hSw; go_simp <;> (try with_reducible rfl))
                    try simp only [Act.put, List.setIfInBounds_toArray, List.set_cons_zero, List.set_cons_succ]
                    refine wpAnyH_take (i := 7) (oi := ?a8o) (v := ?a8v) ?a8h (by kernel_rfl) (by kernel_rfl) (by kernel_rfl) ?a8q ?a8y hHeld ?a8r
                    case a8h => (simp only [List.getElem?_toArray, List.getElem?_cons_succ, List.getElem?_cons_zero]; rfl)
                    case a8q => exact fun _ _ _ h => h
                    case a8y => (refine Or.inl ⟨by first | kernel_rfl | rfl, ?_⟩; intro w hSw; obtain ⟨⟨x0, x1⟩, x2, x3, x4, ⟨x5, x6⟩, -, -⟩ := hSw; go_simp <;> (try with_reducible rfl))
                    try simp only [Act.put, List.setIfInBounds_toArray, List.set_cons_zero, List.set_cons_succ]
                    refine wpAnyH_take (i := 8) (oi := ?a9o) (v := ?a9v) ?a9h (by kernel_rfl) (by kernel_rfl) (by kernel_rfl) ?a9q ?a9y hHeld ?a9r
                    case a9h => (simp only [List.getElem?_toArray, List.getElem?_cons_succ, List.getElem?_cons_zero]; rfl)
                    case a9q => exact fun _ _ _ h => h
                    case a9y => (refine Or.inl ⟨by first | kernel_rfl | rfl, ?_⟩; intro w hSw; obtain ⟨⟨x0, x1⟩, x2, x3, x4, ⟨x5, x6⟩, -, -⟩ := hSw; go_simp <;> (try with_reducible rfl))
                    try simp only [Act.put, List.setIfInBounds_toArray, List.set_cons_zero, List.set_cons_succ]
                    refine wpAnyH_take (i := 9) (oi := ?a10o) (v := undef) ?a10h (by kernel_rfl) (by kernel_rfl) (by kernel_rfl) ?a10q ?a10y hHeld ?a10r
                    case a10h => (simp only [List.getElem?_toArray, List.getElem?_cons_succ, List.getElem?_cons_zero]; rfl)
                    case a10q => exact fun _ _ _ h => h
                    case a10y => exact Or.inr ⟨by first | kernel_rfl | rfl, rfl⟩
                    try simp only [Act.put, List.setIfInBounds_toArray, List.set_cons_zero, List.set_cons_succ]
                    refine wpAnyH_take (i := 10) (oi := ?a11o) (v := undef) ?a11h (by kernel_rfl) (by kernel_rfl) (by kernel_rfl) ?a11q ?a11y hHeld ?a11r
                    case a11h => (simp only [List.getElem?_toArray, List.getElem?_cons_succ, List.getElem?_cons_zero]; rfl)
                    case a11q => exact fun _ _ _ h => h
                    case a11y => exact Or.inr ⟨by first | kernel_rfl | rfl, rfl⟩
                    try simp only [Act.put, List.setIfInBounds_toArray, List.set_cons_zero, List.set_cons_succ]
                    refine wpAnyH_take (i := 11) (oi := ?a12o) (v := undef) ?a12h (by kernel_rfl) (by kernel_rfl) (by kernel_rfl) ?a12q ?a12y hHeld ?a12r
                    case a12h => (simp only [List.getElem?_toArray, List.getElem?_cons_succ, List.getElem?_cons_zero]; rfl)
                    case a12q => exact fun _ _ _ h => h
                    case a12y => exact Or.inr ⟨by first | kernel_rfl | rfl, rfl⟩
                    try simp only [Act.put, List.setIfInBounds_toArray, List.set_cons_zero, List.set_cons_succ]
                    refine wpAnyH_take (i := 12) (oi := ?a13o) (v := undef) ?a13h (by kernel_rfl) (by kernel_rfl) (by kernel_rfl) ?a13q ?a13y hHeld ?a13r
                    case a13h => (simp only [List.getElem?_toArray, List.getElem?_cons_succ, List.getElem?_cons_zero]; rfl)
                    case a13q => exact fun _ _ _ h => h
                    case a13y => exact Or.inr ⟨by first | kernel_rfl | rfl, rfl⟩
                    try simp only [Act.put, List.setIfInBounds_toArray, List.set_cons_zero, List.set_cons_succ]
                    refine wpAnyH_take (i := 13) (oi := ?a14o) (v := undef) ?a14h (by kernel_rfl) (by kernel_rfl) (by kernel_rfl) ?a14q ?a14y hHeld ?a14r
                    case a14h => (simp only [List.getElem?_toArray, List.getElem?_cons_succ, List.getElem?_cons_zero]; rfl)
                    case a14q => exact fun _ _ _ h => h
                    case a14y => exact Or.inr ⟨by first | kernel_rfl | rfl, rfl⟩
                    try simp only [Act.put, List.setIfInBounds_toArray, List.set_cons_zero, List.set_cons_succ]
                    refine wpAnyH_take (i := 14) (oi := ?a15o) (v := ?a15v) ?a15h (by kernel_rfl) (by kernel_rfl) (by kernel_rfl) ?a15q ?a15y hHeld ?a15r
                    case a15h => (simp only [List.getElem?_toArray, List.getElem?_cons_succ, List.getElem?_cons_zero]; rfl)
                    case a15q => exact fun _ _ _ h => h
                    case a15y => (refine Or.inl ⟨by first | kernel_rfl | rfl, ?_⟩; intro w hSw; obtain ⟨⟨x0, x1⟩, x2, x3, x4, ⟨x5, x6⟩, -, -⟩ := hSw; go_simp <;> (try with_reducible rfl))
                    try simp only [Act.put, List.setIfInBounds_toArray, List.set_cons_zero, List.set_cons_succ]
                    refine wpAnyH_take (i := 15) (oi := ?a16o) (v := ?a16v) ?a16h (by kernel_rfl) (by kernel_rfl) (by kernel_rfl) ?a16q ?a16y hHeld ?a16r
                    case a16h => (simp only [List.getElem?_toArray, List.getElem?_cons_succ, List.getElem?_cons_zero]; rfl)
                    case a16q => exact fun _ _ _ h => h
                    case a16y => (refine Or.inl ⟨by first | kernel_rfl | rfl, ?_⟩; intro w hSw; obtain ⟨⟨x0, x1⟩, x2, x3, x4, ⟨x5, x6⟩, -, -⟩ := hSw; go_simp <;> (try with_reducible rfl))
                    try simp only [Act.put, List.setIfInBounds_toArray, List.set_cons_zero, List.set_cons_succ]
                    refine wpAnyH_take (i := 16) (oi := ?a17o) (v := ?a17v) ?a17h (by kernel_rfl) (by kernel_rfl) (by kernel_rfl) ?a17q ?a17y hHeld ?a17r
                    case a17h => (simp only [List.getElem?_toArray, List.getElem?_cons_succ, List.getElem?_cons_zero]; rfl)
                    case a17q => exact fun _ _ _ h => h
                    case a17y => (refine Or.inl ⟨by first | kernel_rfl | rfl, ?_⟩; intro w hSw; obtain ⟨⟨x0, x1⟩, x2, x3, x4, ⟨x5, x6⟩, -, -⟩ := hSw; go_simp <;> (try with_reducible rfl))
                    try simp only [Act.put, List.setIfInBounds_toArray, List.set_cons_zero, List.set_cons_succ]
                    refine wpAnyH_take (i := 17) (oi := ?a18o) (v := undef) ?a18h (by kernel_rfl) (by kernel_rfl) (by kernel_rfl) ?a18q ?a18y hHeld ?a18r
                    case a18h => (simp only [List.getElem?_toArray, List.getElem?_cons_succ, List.getElem?_cons_zero]; rfl)
                    case a18q => exact fun _ _ _ h => h
                    case a18y => exact Or.inr ⟨by first | kernel_rfl | rfl, rfl⟩
                    try simp only [Act.put, List.setIfInBounds_toArray, List.set_cons_zero, List.set_cons_succ]
                    refine wpAnyH_take (i := 18) (oi := ?a19o) (v := undef) ?a19h (by kernel_rfl) (by kernel_rfl) (by kernel_rfl) ?a19q ?a19y hHeld ?a19r
                    case a19h => (simp only [List.getElem?_toArray, List.getElem?_cons_succ, List.getElem?_cons_zero]; rfl)
                    case a19q => exact fun _ _ _ h => h
                    case a19y => exact Or.inr ⟨by first | kernel_rfl | rfl, rfl⟩
                    try simp only [Act.put, List.setIfInBounds_toArray, List.set_cons_zero, List.set_cons_succ]
                    refine wpAnyH_take (i := 19) (oi := ?a20o) (v := undef) ?a20h (by kernel_rfl) (by kernel_rfl) (by kernel_rfl) ?a20q ?a20y hHeld ?a20r
                    case a20h => (simp only [List.getElem?_toArray, List.getElem?_cons_succ, List.getElem?_cons_zero]; rfl)
                    case a20q => exact fun _ _ _ h => h
                    case a20y => exact Or.inr ⟨by first | kernel_rfl | rfl, rfl⟩
                    try simp only [Act.put, List.setIfInBounds_toArray, List.set_cons_zero, List.set_cons_succ]
                    refine wpAnyH_take (i := 20) (oi := ?a21o) (v := undef) ?a21h (by kernel_rfl) (by kernel_rfl) (by kernel_rfl) ?a21q ?a21y hHeld ?a21r
                    case a21h => (simp only [List.getElem?_toArray, List.getElem?_cons_succ, List.getElem?_cons_zero]; rfl)
                    case a21q => exact fun _ _ _ h => h
                    case a21y => exact Or.inr ⟨by first | kernel_rfl | rfl, rfl⟩
                    try simp only [Act.put, List.setIfInBounds_toArray, List.set_cons_zero, List.set_cons_succ]
                    refine wpAnyH_take (i := 21) (oi := ?a22o) (v := undef) ?a22h (by kernel_rfl) (by kernel_rfl) (by kernel_rfl) ?a22q ?a22y hHeld ?a22r
                    case a22h => (simp only [List.getElem?_toArray, List.getElem?_cons_succ, List.getElem?_cons_zero]; rfl)
                    case a22q => exact fun _ _ _ h => h
                    case a22y => exact Or.inr ⟨by first | kernel_rfl | rfl, rfl⟩
                    try simp only [Act.put, List.setIfInBounds_toArray, List.set_cons_zero, List.set_cons_succ]
                    refine wpAnyH_take (i := 22) (oi := ?a23o) (v := undef) ?a23h (by kernel_rfl) (by kernel_rfl) (by kernel_rfl) ?a23q ?a23y hHeld ?a23r
                    case a23h => (simp only [List.getElem?_toArray, List.getElem?_cons_succ, List.getElem?_cons_zero]; rfl)
                    case a23q => exact fun _ _ _ h => h
                    case a23y => exact Or.inr ⟨by first | kernel_rfl | rfl, rfl⟩
                    try simp only [Act.put, List.setIfInBounds_toArray, List.set_cons_zero, List.set_cons_succ]
                    refine wpAnyH_take (i := 23) (oi := ?a24o) (v := undef) ?a24h (by kernel_rfl) (by kernel_rfl) (by kernel_rfl) ?a24q ?a24y hHeld ?a24r
                    case a24h => (simp only [List.getElem?_toArray, List.getElem?_cons_succ, List.getElem?_cons_zero]; rfl)
                    case a24q => exact fun _ _ _ h => h
                    case a24y => exact Or.inr ⟨by first | kernel_rfl | rfl, rfl⟩
                    try simp only [Act.put, List.setIfInBounds_toArray, List.set_cons_zero, List.set_cons_succ]
                    refine wpAnyH_take (i := 24) (oi := ?a25o) (v := undef) ?a25h (by kernel_rfl) (by kernel_rfl) (by kernel_rfl) ?a25q ?a25y hHeld ?a25r
                    case a25h => (simp only [List.getElem?_toArray, List.getElem?_cons_succ, List.getElem?_cons_zero]; rfl)
                    case a25q => exact fun _ _ _ h => h
                    case a25y => exact Or.inr ⟨by first | kernel_rfl | rfl, rfl⟩
                    try simp only [Act.put, List.setIfInBounds_toArray, List.set_cons_zero, List.set_cons_succ]
                    refine wpAnyH_take (i := 25) (oi := ?a26o) (v := ?a26v) ?a26h (by kernel_rfl) (by kernel_rfl) (by kernel_rfl) ?a26q ?a26y hHeld ?a26r
                    case a26h => (simp only [List.getElem?_toArray, List.getElem?_cons_succ, List.getElem?_cons_zero]; rfl)
                    case a26q => exact fun _ _ _ h => h
                    case a26y => (refine Or.inl ⟨by first | kernel_rfl | rfl, ?_⟩; intro w hSw; obtain ⟨⟨x0, x1⟩, x2, x3, x4, ⟨x5, x6⟩, -, -⟩ := hSw; go_simp <;> (try with_reducible rfl))
                    try simp only [Act.put, List.setIfInBounds_toArray, List.set_cons_zero, List.set_cons_succ]
                    refine wpAnyH_take (i := 26) (oi := ?a27o) (v := ?a27v) ?a27h (by kernel_rfl) (by kernel_rfl) (by kernel_rfl) ?a27q ?a27y hHeld ?a27r
                    case a27h => (simp only [List.getElem?_toArray, List.getElem?_cons_succ, List.getElem?_cons_zero]; rfl)
                    case a27q => exact fun _ _ _ h => h
                    case a27y => (refine Or.inl ⟨by first | kernel_rfl | rfl, ?_⟩; intro w hSw; obtain ⟨⟨x0, x1⟩, x2, x3, x4, ⟨x5, x6⟩, -, -⟩ := hSw; go_simp <;> (try with_reducible rfl))
                    try simp only [Act.put, List.setIfInBounds_toArray, List.set_cons_zero, List.set_cons_succ]
                    refine wpAnyH_take (i := 27) (oi := ?a28o) (v := undef) ?a28h (by kernel_rfl) (by kernel_rfl) (by kernel_rfl) ?a28q ?a28y hHeld ?a28r
                    case a28h => (simp only [List.getElem?_toArray, List.getElem?_cons_succ, List.getElem?_cons_zero]; rfl)
                    case a28q => exact fun _ _ _ h => h
                    case a28y => exact Or.inr ⟨by first | kernel_rfl | rfl, rfl⟩
                    try simp only [Act.put, List.setIfInBounds_toArray, List.set_cons_zero, List.set_cons_succ]
                    refine wpAnyH_take (i := 28) (oi := ?a29o) (v := undef) ?a29h (by kernel_rfl) (by kernel_rfl) (by kernel_rfl) ?a29q ?a29y hHeld ?a29r
                    case a29h => (simp only [List.getElem?_toArray, List.getElem?_cons_succ, List.getElem?_cons_zero]; rfl)
                    case a29q => exact fun _ _ _ h => h
                    case a29y => exact Or.inr ⟨by first | kernel_rfl | rfl, rfl⟩
                    try simp only [Act.put, List.setIfInBounds_toArray, List.set_cons_zero, List.set_cons_succ]
                    refine wpAnyH_take (i := 29) (oi := ?a30o) (v := undef) ?a30h (by kernel_rfl) (by kernel_rfl) (by kernel_rfl) ?a30q ?a30y hHeld ?a30r
                    case a30h => (simp only [List.getElem?_toArray, List.getElem?_cons_succ, List.getElem?_cons_zero]; rfl)
                    case a30q => exact fun _ _ _ h => h
                    case a30y => exact Or.inr ⟨by first | kernel_rfl | rfl, rfl⟩
                    try simp only [Act.put, List.setIfInBounds_toArray, List.set_cons_zero, List.set_cons_succ]
                    refine wpAnyH_take (i := 30) (oi := ?a31o) (v := undef) ?a31h (by kernel_rfl) (by kernel_rfl) (by kernel_rfl) ?a31q ?a31y hHeld ?a31r
                    case a31h => (simp only [List.getElem?_toArray, List.getElem?_cons_succ, List.getElem?_cons_zero]; rfl)
                    case a31q => exact fun _ _ _ h => h
                    case a31y => exact Or.inr ⟨by first | kernel_rfl | rfl, rfl⟩
                    try simp only [Act.put, List.setIfInBounds_toArray, List.set_cons_zero, List.set_cons_succ]
                    refine wpAnyH_take (i := 31) (oi := ?a32o) (v := undef) ?a32h (by kernel_rfl) (by kernel_rfl) (by kernel_rfl) ?a32q ?a32y hHeld ?a32r
                    case a32h => (simp only [List.getElem?_toArray, List.getElem?_cons_succ, List.getElem?_cons_zero]; rfl)
                    case a32q => exact fun _ _ _ h => h
                    case a32y => exact Or.inr ⟨by first | kernel_rfl | rfl, rfl⟩
                    try simp only [Act.put, List.setIfInBounds_toArray, List.set_cons_zero, List.set_cons_succ]
                    refine wpAnyH_take (i := 32) (oi := ?a33o) (v := undef) ?a33h (by kernel_rfl) (by kernel_rfl) (by kernel_rfl) ?a33q ?a33y hHeld ?a33r
                    case a33h => (simp only [List.getElem?_toArray, List.getElem?_cons_succ, List.getElem?_cons_zero]; rfl)
                    case a33q => exact fun _ _ _ h => h
                    case a33y => exact Or.inr ⟨by first | kernel_rfl | rfl, rfl⟩
                    try simp only [Act.put, List.setIfInBounds_toArray, List.set_cons_zero, List.set_cons_succ]
                    refine wpAnyH_take (i := 33) (oi := ?a34o) (v := ?a34v) ?a34h (by kernel_rfl) (by kernel_rfl) (by kernel_rfl) ?a34q ?a34y hHeld ?a34r
                    case a34h => (simp only [List.getElem?_toArray, List.getElem?_cons_succ, List.getElem?_cons_zero]; rfl)
                    case a34q => exact fun _ _ _ h => h
                    case a34y => (refine Or.inl ⟨by first | kernel_rfl | rfl, ?_⟩; intro w hSw; obtain ⟨⟨x0, x1⟩, x2, x3, x4, ⟨x5, x6⟩, -, -⟩ := hSw; go_simp <;> (try with_reducible rfl))
                    try simp only [Act.put, List.setIfInBounds_toArray, List.set_cons_zero, List.set_cons_succ]
                    refine wpAnyH_done (by kernel_rfl) ?_ _
                    have HPH2 := Lib.hid hHeld
                    clear hHeld
                    refine calm_n ?_
                    have hgw := HGW.out.keep HPH2.out.bel
                    have hrr := hgw.r
                    have hzz := hgw.z
                    have HKO := Lib.hid (below_keeps HPH2.out.bel)
                    clear hgw
                    gi_wp2
                    exact ⟨(HKO.out.trans (KeepsOthers.setCell _ _ _)).from _, HX.out⟩
                  · have d1 : decide (s.f < x.f) = false := decide_eq_false c1
                    by_cases c2 : x.t ≤ s.f
                    · have d2 : decide (x.t ≤ s.f) = true := decide_eq_true c2
                      have HX := Lib.hid (show ¬ pre ++ [x] <+: L from fun h => by have k1 := (HSX.out h).first (by have := HMM.out; omega); omega)
                      clear c1 c2
                      refine region_round (S := (PH w2.heap.size s x kk 0 T Bx W)) (by kernel_rfl) (by kernel_rfl) HPH.out.drew (fun hHeld => ?_)
                      refine wpAnyH_take (i := 0) (oi := ?b1o) (v := ?b1v) ?b1h (by kernel_rfl) (by kernel_rfl) (by kernel_rfl) ?b1q ?b1y hHeld ?b1r
                      case b1h => (simp only [List.getElem?_toArray, List.getElem?_cons_zero]; rfl)
                      case b1q => exact fun _ _ _ h => h
                      case b1y => (refine Or.inl ⟨by first | kernel_rfl | rfl, ?_⟩; intro w hSw; obtain ⟨⟨x0, x1⟩, x2, x3, x4, ⟨x5, x6⟩, -, -⟩ := hSw; go_simp <;> (try with_reducible rfl))
                      try simp only [Act.put, List.setIfInBounds_toArray, List.set_cons_zero, List.set_cons_succ]
                      refine wpAnyH_take (i := 1) (oi := ?b2o) (v := ?b2v) ?b2h (by kernel_rfl) (by kernel_rfl) (by kernel_rfl) ?b2q ?b2y hHeld ?b2r
                      case b2h => (simp only [List.getElem?_toArray, List.getElem?_cons_succ, List.getElem?_cons_zero]; rfl)
                      case b2q => exact fun _ _ _ h => h
                      case b2y => (refine Or.inl ⟨by first | kernel_rfl | rfl, ?_⟩; intro w hSw; obtain ⟨⟨x0, x1⟩, x2, x3, x4, ⟨x5, x6⟩, -, -⟩ := hSw; go_simp <;> (try with_reducible rfl))
                      try simp only [Act.put, List.setIfInBounds_toArray, List.set_cons_zero, List.set_cons_succ]
                      refine wpAnyH_take (i := 2) (oi := ?b3o) (v := ?b3v) ?b3h (by kernel_rfl) (by kernel_rfl) (by kernel_rfl) ?b3q ?b3y hHeld ?b3r
                      case b3h => (simp only [List.getElem?_toArray, List.getElem?_cons_succ, List.getElem?_cons_zero]; rfl)
                      case b3q => exact fun _ _ _ h => h
                      case b3y => (refine Or.inl ⟨by first | kernel_rfl | rfl, ?_⟩; intro w hSw; obtain ⟨⟨x0, x1⟩, x2, x3, x4, ⟨x5, x6⟩, -, -⟩ := hSw; go_simp <;> (try with_reducible rfl))
                      try simp only [Act.put, List.setIfInBounds_toArray, List.set_cons_zero, List.set_cons_succ]
                      refine wpAnyH_take (i := 3) (oi := ?b4o) (v := ?b4v) ?b4h (by kernel_rfl) (by kernel_rfl) (by kernel_rfl) ?b4q ?b4y hHeld ?b4r
                      case b4h => (simp only [List.getElem?_toArray, List.getElem?_cons_succ, List.getElem?_cons_zero]; rfl)
                      case b4q => exact fun _ _ _ h => h
                      case b4y => (refine Or.inl ⟨by first | kernel_rfl | rfl, ?_⟩; intro w hSw; obtain ⟨⟨x0, x1⟩, x2, x3, x4, ⟨x5, x6⟩, -, -⟩ := hSw; go_simp <;> (try with_reducible rfl))
                      try simp only [Act.put, List.setIfInBounds_toArray, List.set_cons_zero, List.set_cons_succ]
                      refine wpAnyH_take (i := 4) (oi := ?b5o) (v := ?b5v) ?b5h (by kernel_rfl) (by kernel_rfl) (by kernel_rfl) ?b5q ?b5y hHeld ?b5r
                      case b5h => (simp only [List.getElem?_toArray, List.getElem?_cons_succ, List.getElem?_cons_zero]; rfl)
                      case b5q => exact fun _ _ _ h => h
                      case b5y => (refine Or.inl ⟨by first | kernel_rfl | rfl, ?_⟩; intro w hSw; obtain ⟨⟨x0, x1⟩, x2, x3, x4, ⟨x5, x6⟩, -, -⟩ := hSw; go_simp <;> (try with_reducible rfl))
                      try simp only [Act.put, List.setIfInBounds_toArray, List.set_cons_zero, List.set_cons_succ]
                      refine wpAnyH_take (i := 5) (oi := ?b6o) (v := ?b6v) ?b6h (by kernel_rfl) (by kernel_rfl) (by kernel_rfl) ?b6q ?b6y hHeld ?b6r
                      case b6h => (simp only [List.getElem?_toArray, List.getElem?_cons_succ, List.getElem?_cons_zero]; rfl)
                      case b6q => exact fun _ _ _ h => h
                      case b6y => (refine Or.inl ⟨by first | kernel_rfl | rfl, ?_⟩; intro w hSw; obtain ⟨⟨x0, x1⟩, x2, x3, x4, ⟨x5, x6⟩, -, -⟩ := hSw; go_simp <;> (try with_reducible rfl))
                      try simp only [Act.put, List.setIfInBounds_toArray, List.set_cons_zero, List.set_cons_succ]
                      refine wpAnyH_take (i := 6) (oi := ?b7o) (v := ?b7v) ?b7h (by kernel_rfl) (by kernel_rfl) (by kernel_rfl) ?b7q ?b7y hHeld ?b7r
                      case b7h => (simp only [List.getElem?_toArray, List.getElem?_cons_succ, List.getElem?_cons_zero]; rfl)
                      case b7q => exact fun _ _ _ h => h
                      case b7y => (refine Or.inl ⟨by first | kernel_rfl | rfl, ?_⟩; intro w hSw; obtain ⟨⟨x0, x1⟩, x2, x3, x4, ⟨x5, x6⟩, -, -⟩ := hSw; go_simp <;> (try with_reducible rfl))
                      try simp only [Act.put, List.setIfInBounds_toArray, List.set_cons_zero, List.set_cons_succ]
                      refine wpAnyH_take (i := 7) (oi := ?b8o) (v := ?b8v) ?b8h (by kernel_rfl) (by kernel_rfl) (by kernel_rfl) ?b8q ?b8y hHeld ?b8r
                      case b8h => (simp only [List.getElem?_toArray, List.getElem?_cons_succ, List.getElem?_cons_zero]; rfl)
                      case b8q => exact fun _ _ _ h => h
                      case b8y => (refine Or.inl ⟨by first | kernel_rfl | rfl, ?_⟩; intro w hSw; obtain ⟨⟨x0, x1⟩, x2, x3, x4, ⟨x5, x6⟩, -, -⟩ := hSw; go_simp <;> (try with_reducible rfl))
                      try simp only [Act.put, List.setIfInBounds_toArray, List.set_cons_zero, List.set_cons_succ]
                      refine wpAnyH_take (i := 8) (oi := ?b9o) (v := ?b9v) ?b9h (by kernel_rfl) (by kernel_rfl) (by kernel_rfl) ?b9q ?b9y hHeld ?b9r
                      case b9h => (simp only [List.getElem?_toArray, List.getElem?_cons_succ, List.getElem?_cons_zero]; rfl)
                      case b9q => exact fun _ _ _ h => h
                      case b9y => (refine Or.inl ⟨by first | kernel_rfl | rfl, ?_⟩; intro w hSw; obtain ⟨⟨x0, x1⟩, x2, x3, x4, ⟨x5, x6⟩, -, -⟩ := hSw; go_simp <;> (try with_reducible rfl))
                      try simp only [Act.put, List.setIfInBounds_toArray, List.set_cons_zero, List.set_cons_succ]
                      refine wpAnyH_take (i := 9) (oi := ?b10o) (v := ?b10v) ?b10h (by kernel_rfl) (by kernel_rfl) (by kernel_rfl) ?b10q ?b10y hHeld ?b10r
                      case b10h => (simp only [List.getElem?_toArray, List.getElem?_cons_succ, List.getElem?_cons_zero]; rfl)
                      case b10q => exact fun _ _ _ h => h
                      case b10y => (refine Or.inl ⟨by first | kernel_rfl | rfl, ?_⟩; intro w hSw; obtain ⟨⟨x0, x1⟩, x2, x3, x4, ⟨x5, x6⟩, -, -⟩ := hSw; go_simp <;> (try with_reducible rfl))
                      try simp only [Act.put, List.setIfInBounds_toArray, List.set_cons_zero, List.set_cons_succ]
                      refine wpAnyH_take (i := 10) (oi := ?b11o) (v := ?b11v) ?b11h (by kernel_rfl) (by kernel_rfl) (by kernel_rfl) ?b11q ?b11y hHeld ?b11r
                      case b11h => (simp only [List.getElem?_toArray, List.getElem?_cons_succ, List.getElem?_cons_zero]; rfl)
                      case b11q => exact fun _ _ _ h => h
                      case b11y => (refine Or.inl ⟨by first | kernel_rfl | rfl, ?_⟩; intro w hSw; obtain ⟨⟨x0, x1⟩, x2, x3, x4, ⟨x5, x6⟩, -, -⟩ := hSw; go_simp <;> (try with_reducible rfl))
                      try simp only [Act.put, List.setIfInBounds_toArray, List.set_cons_zero, List.set_cons_succ]
                      refine wpAnyH_take (i := 11) (oi := ?b12o) (v := ?b12v) ?b12h (by kernel_rfl) (by kernel_rfl) (by kernel_rfl) ?b12q ?b12y hHeld ?b12r
                      case b12h => (simp only [List.getElem?_toArray, List.getElem?_cons_succ, List.getElem?_cons_zero]; rfl)
                      case b12q => exact fun _ _ _ h => h
                      case b12y => (refine Or.inl ⟨by first | kernel_rfl | rfl, ?_⟩; intro w hSw; obtain ⟨⟨x0, x1⟩, x2, x3, x4, ⟨x5, x6⟩, -, -⟩ := hSw; go_simp <;> (try with_reducible rfl))
                      try simp only [Act.put, List.setIfInBounds_toArray, List.set_cons_zero, List.set_cons_succ]
                      refine wpAnyH_take (i := 12) (oi := ?b13o) (v := ?b13v) ?b13h (by kernel_rfl) (by kernel_rfl) (by kernel_rfl) ?b13q ?b13y hHeld ?b13r
                      case b13h => (simp only [List.getElem?_toArray, List.getElem?_cons_succ, List.getElem?_cons_zero]; rfl)
                      case b13q => exact fun _ _ _ h => h
                      case b13y => (refine Or.inl ⟨by first | kernel_rfl | rfl, ?_⟩; intro w hSw; obtain ⟨⟨x0, x1⟩, x2, x3, x4, ⟨x5, x6⟩, -, -⟩ := hSw; go_simp <;> (try with_reducible rfl))
                      try simp only [Act.put, List.setIfInBounds_toArray, List.set_cons_zero, List.set_cons_succ]
                      refine wpAnyH_take (i := 13) (oi := ?b14o) (v := ?b14v) ?b14h (by kernel_rfl) (by kernel_rfl) (by kernel_rfl) ?b14q ?b14y hHeld ?b14r
                      case b14h => (simp only [List.getElem?_toArray, List.getElem?_cons_succ, List.getElem?_cons_zero]; rfl)
                      case b14q => exact fun _ _ _ h => h
                      case b14y => (refine Or.inl ⟨by first | kernel_rfl | rfl, ?_⟩; intro w hSw; obtain ⟨⟨x0, x1⟩, x2, x3, x4, ⟨x5, x6⟩, -, -⟩ := hSw; go_simp <;> (try with_reducible rfl))
                      try simp only [Act.put, List.setIfInBounds_toArray, List.set_cons_zero, List.set_cons_succ]
                      refine wpAnyH_take (i := 14) (oi := ?b15o) (v := ?b15v) ?b15h (by kernel_rfl) (by kernel_rfl) (by kernel_rfl) ?b15q ?b15y hHeld ?b15r
                      case b15h => (simp only [List.getElem?_toArray, List.getElem?_cons_succ, List.getElem?_cons_zero]; rfl)
                      case b15q => exact fun _ _ _ h => h
                      case b15y => (refine Or.inl ⟨by first | kernel_rfl | rfl, ?_⟩; intro w hSw; obtain ⟨⟨x0, x1⟩, x2, x3, x4, ⟨x5, x6⟩, -, -⟩ := hSw; go_simp <;> (try with_reducible rfl))
                      try simp only [Act.put, List.setIfInBounds_toArray, List.set_cons_zero, List.set_cons_succ]
                      refine wpAnyH_take (i := 15) (oi := ?b16o) (v := ?b16v) ?b16h (by kernel_rfl) (by kernel_rfl) (by kernel_rfl) ?b16q ?b16y hHeld ?b16r
                      case b16h => (simp only [List.getElem?_toArray, List.getElem?_cons_succ, List.getElem?_cons_zero]; rfl)
                      case b16q => exact fun _ _ _ h => h
                      case b16y => (refine Or.inl ⟨by first | kernel_rfl | rfl, ?_⟩; intro w hSw; obtain ⟨⟨x0, x1⟩, x2, x3, x4, ⟨x5, x6⟩, -, -⟩ := hSw; go_simp <;> (try with_reducible rfl))
                      try simp only [Act.put, List.setIfInBounds_toArray, List.set_cons_zero, List.set_cons_succ]
                      refine wpAnyH_take (i := 16) (oi := ?b17o) (v := ?b17v) ?b17h (by kernel_rfl) (by kernel_rfl) (by kernel_rfl) ?b17q ?b17y hHeld ?b17r
                      case b17h => (simp only [List.getElem?_toArray, List.getElem?_cons_succ, List.getElem?_cons_zero]; rfl)
                      case b17q => exact fun _ _ _ h => h
                      case b17y => (refine Or.inl ⟨by first | kernel_rfl | rfl, ?_⟩; intro w hSw; obtain ⟨⟨x0, x1⟩, x2, x3, x4, ⟨x5, x6⟩, -, -⟩ := hSw; go_simp <;> (try with_reducible rfl))
                      try simp only [Act.put, List.setIfInBounds_toArray, List.set_cons_zero, List.set_cons_succ]
                      refine wpAnyH_take (i := 17) (oi := ?b18o) (v := undef) ?b18h (by kernel_rfl) (by kernel_rfl) (by kernel_rfl) ?b18q ?b18y hHeld ?b18r
                      case b18h => (simp only [List.getElem?_toArray, List.getElem?_cons_succ, List.getElem?_cons_zero]; rfl)
                      case b18q => exact fun _ _ _ h => h
                      case b18y => exact Or.inr ⟨by first | kernel_rfl | rfl, rfl⟩
                      try simp only [Act.put, List.setIfInBounds_toArray, List.set_cons_zero, List.set_cons_succ]
                      refine wpAnyH_take (i := 18) (oi := ?b19o) (v := undef) ?b19h (by kernel_rfl) (by kernel_rfl) (by kernel_rfl) ?b19q ?b19y hHeld ?b19r
                      case b19h => (simp only [List.getElem?_toArray, List.getElem?_cons_succ, List.getElem?_cons_zero]; rfl)
                      case b19q => exact fun _ _ _ h => h
                      case b19y => exact Or.inr ⟨by first | kernel_rfl | rfl, rfl⟩
                      try simp only [Act.put, List.setIfInBounds_toArray, List.set_cons_zero, List.set_cons_succ]
                      refine wpAnyH_take (i := 19) (oi := ?b20o) (v := undef) ?b20h (by kernel_rfl) (by kernel_rfl) (by kernel_rfl) ?b20q ?b20y hHeld ?b20r
                      case b20h => (simp only [List.getElem?_toArray, List.getElem?_cons_succ, List.getElem?_cons_zero]; rfl)
                      case b20q => exact fun _ _ _ h => h
                      case b20y => exact Or.inr ⟨by first | kernel_rfl | rfl, rfl⟩
                      try simp only [Act.put, List.setIfInBounds_toArray, List.set_cons_zero, List.set_cons_succ]
                      refine wpAnyH_take (i := 20) (oi := ?b21o) (v := undef) ?b21h (by kernel_rfl) (by kernel_rfl) (by kernel_rfl) ?b21q ?b21y hHeld ?b21r
                      case b21h => (simp only [List.getElem?_toArray, List.getElem?_cons_succ, List.getElem?_cons_zero]; rfl)
                      case b21q => exact fun _ _ _ h => h
                      case b21y => exact Or.inr ⟨by first | kernel_rfl | rfl, rfl⟩
                      try simp only [Act.put, List.setIfInBounds_toArray, List.set_cons_zero, List.set_cons_succ]
                      refine wpAnyH_take (i := 21) (oi := ?b22o) (v := undef) ?b22h (by kernel_rfl) (by kernel_rfl) (by kernel_rfl) ?b22q ?b22y hHeld ?b22r
                      case b22h => (simp only [List.getElem?_toArray, List.getElem?_cons_succ, List.getElem?_cons_zero]; rfl)
                      case b22q => exact fun _ _ _ h => h
                      case b22y => exact Or.inr ⟨by first | kernel_rfl | rfl, rfl⟩
                      try simp only [Act.put, List.setIfInBounds_toArray, List.set_cons_zero, List.set_cons_succ]
                      refine wpAnyH_take (i := 22) (oi := ?b23o) (v := undef) ?b23h (by kernel_rfl) (by kernel_rfl) (by kernel_rfl) ?b23q ?b23y hHeld ?b23r
                      case b23h => (simp only [List.getElem?_toArray, List.getElem?_cons_succ, List.getElem?_cons_zero]; rfl)
                      case b23q => exact fun _ _ _ h => h
                      case b23y => exact Or.inr ⟨by first | kernel_rfl | rfl, rfl⟩
                      try simp only [Act.put, List.setIfInBounds_toArray, List.set_cons_zero, List.set_cons_succ]
                      refine wpAnyH_take (i := 23) (oi := ?b24o) (v := undef) ?b24h (by kernel_rfl) (by kernel_rfl) (by kernel_rfl) ?b24q ?b24y hHeld ?b24r
                      case b24h => (simp only [List.getElem?_toArray, List.getElem?_cons_succ, List.getElem?_cons_zero]; rfl)
                      case b24q => exact fun _ _ _ h => h
                      case b24y => exact Or.inr ⟨by first | kernel_rfl | rfl, rfl⟩
                      try simp only [Act.put, List.setIfInBounds_toArray, List.set_cons_zero, List.set_cons_succ]
                      refine wpAnyH_take (i := 24) (oi := ?b25o) (v := undef) ?b25h (by kernel_rfl) (by kernel_rfl) (by kernel_rfl) ?b25q ?b25y hHeld ?b25r
                      case b25h => (simp only [List.getElem?_toArray, List.getElem?_cons_succ, List.getElem?_cons_zero]; rfl)
                      case b25q => exact fun _ _ _ h => h
                      case b25y => exact Or.inr ⟨by first | kernel_rfl | rfl, rfl⟩
                      try simp only [Act.put, List.setIfInBounds_toArray, List.set_cons_zero, List.set_cons_succ]
                      refine wpAnyH_take (i := 25) (oi := ?b26o) (v := ?b26v) ?b26h (by kernel_rfl) (by kernel_rfl) (by kernel_rfl) ?b26q ?b26y hHeld ?b26r
                      case b26h => (simp only [List.getElem?_toArray, List.getElem?_cons_succ, List.getElem?_cons_zero]; rfl)
                      case b26q => exact fun _ _ _ h => h
                      case b26y => (refine Or.inl ⟨by first | kernel_rfl | rfl, ?_⟩; intro w hSw; obtain ⟨⟨x0, x1⟩, x2, x3, x4, ⟨x5, x6⟩, -, -⟩ := hSw; go_simp <;> (try with_reducible rfl))
                      try simp only [Act.put, List.setIfInBounds_toArray, List.set_cons_zero, List.set_cons_succ]
                      refine wpAnyH_take (i := 26) (oi := ?b27o) (v := ?b27v) ?b27h (by kernel_rfl) (by kernel_rfl) (by kernel_rfl) ?b27q ?b27y hHeld ?b27r
                      case b27h => (simp only [List.getElem?_toArray, List.getElem?_cons_succ, List.getElem?_cons_zero]; rfl)
                      case b27q => exact fun _ _ _ h => h
                      case b27y => (refine Or.inl ⟨by first | kernel_rfl | rfl, ?_⟩; intro w hSw; obtain ⟨⟨x0, x1⟩, x2, x3, x4, ⟨x5, x6⟩, -, -⟩ := hSw; go_simp <;> (try with_reducible rfl))
                      try simp only [Act.put, List.setIfInBounds_toArray, List.set_cons_zero, List.set_cons_succ]
                      refine wpAnyH_take (i := 27) (oi := ?b28o) (v := undef) ?b28h (by kernel_rfl) (by kernel_rfl) (by kernel_rfl) ?b28q ?b28y hHeld ?b28r
                      case b28h => (simp only [List.getElem?_toArray, List.getElem?_cons_succ, List.getElem?_cons_zero]; rfl)
                      case b28q => exact fun _ _ _ h => h
                      case b28y => exact Or.inr ⟨by first | kernel_rfl | rfl, rfl⟩
                      try simp only [Act.put, List.setIfInBounds_toArray, List.set_cons_zero, List.set_cons_succ]
                      refine wpAnyH_take (i := 28) (oi := ?b29o) (v := undef) ?b29h (by kernel_rfl) (by kernel_rfl) (by kernel_rfl) ?b29q ?b29y hHeld ?b29r
                      case b29h => (simp only [List.getElem?_toArray, List.getElem?_cons_succ, List.getElem?_cons_zero]; rfl)
                      case b29q => exact fun _ _ _ h => h
                      case b29y => exact Or.inr ⟨by first | kernel_rfl | rfl, rfl⟩
                      try simp only [Act.put, List.setIfInBounds_toArray, List.set_cons_zero, List.set_cons_succ]
                      refine wpAnyH_take (i := 29) (oi := ?b30o) (v := undef) ?b30h (by kernel_rfl) (by kernel_rfl) (by kernel_rfl) ?b30q ?b30y hHeld ?b30r
                      case b30h => (simp only [List.getElem?_toArray, List.getElem?_cons_succ, List.getElem?_cons_zero]; rfl)
                      case b30q => exact fun _ _ _ h => h
                      case b30y => exact Or.inr ⟨by first | kernel_rfl | rfl, rfl⟩
                      try simp only [Act.put, List.setIfInBounds_toArray, List.set_cons_zero, List.set_cons_succ]
                      refine wpAnyH_take (i := 30) (oi := ?b31o) (v := undef) ?b31h (by kernel_rfl) (by kernel_rfl) (by kernel_rfl) ?b31q ?b31y hHeld ?b31r
                      case b31h => (simp only [List.getElem?_toArray, List.getElem?_cons_succ, List.getElem?_cons_zero]; rfl)
                      case b31q => exact fun _ _ _ h => h
                      case b31y => exact Or.inr ⟨by first | kernel_rfl | rfl, rfl⟩
                      try simp only [Act.put, List.setIfInBounds_toArray, List.set_cons_zero, List.set_cons_succ]
                      refine wpAnyH_take (i := 31) (oi := ?b32o) (v := undef) ?b32h (by kernel_rfl) (by kernel_rfl) (by kernel_rfl) ?b32q ?b32y hHeld ?b32r
                      case b32h => (simp only [List.getElem?_toArray, List.getElem?_cons_succ, List.getElem?_cons_zero]; rfl)
                      case b32q => exact fun _ _ _ h => h
                      case b32y => exact Or.inr ⟨by first | kernel_rfl | rfl, rfl⟩
                      try simp only [Act.put, List.setIfInBounds_toArray, List.set_cons_zero, List.set_cons_succ]
                      refine wpAnyH_take (i := 32) (oi := ?b33o) (v := undef) ?b33h (by kernel_rfl) (by kernel_rfl) (by kernel_rfl) ?b33q ?b33y hHeld ?b33r
                      case b33h => (simp only [List.getElem?_toArray, List.getElem?_cons_succ, List.getElem?_cons_zero]; rfl)
                      case b33q => exact fun _ _ _ h => h
                      case b33y => exact Or.inr ⟨by first | kernel_rfl | rfl, rfl⟩
                      try simp only [Act.put, List.setIfInBounds_toArray, List.set_cons_zero, List.set_cons_succ]
                      refine wpAnyH_take (i := 33) (oi := ?b34o) (v := ?b34v) ?b34h (by kernel_rfl) (by kernel_rfl) (by kernel_rfl) ?b34q ?b34y hHeld ?b34r
                      case b34h => (simp only [List.getElem?_toArray, List.getElem?_cons_succ, List.getElem?_cons_zero]; rfl)
                      case b34q => exact fun _ _ _ h => h
                      case b34y => (refine Or.inl ⟨by first | kernel_rfl | rfl, ?_⟩; intro w hSw; obtain ⟨⟨x0, x1⟩, x2, x3, x4, ⟨x5, x6⟩, -, -⟩ := hSw; go_simp <;> (try with_reducible rfl))
                      try simp only [Act.put, List.setIfInBounds_toArray, List.set_cons_zero, List.set_cons_succ]
                      refine wpAnyH_done (by kernel_rfl) ?_ _
                      have HPH2 := Lib.hid hHeld
                      clear hHeld
                      refine calm_n ?_
                      have hgw := HGW.out.keep HPH2.out.bel
                      have hrr := hgw.r
                      have hzz := hgw.z
                      have HKO := Lib.hid (below_keeps HPH2.out.bel)
                      clear hgw
                      gi_wp2
                      exact ⟨(HKO.out.trans (KeepsOthers.setCell _ _ _)).from _, HX.out⟩
                    · have d2 : decide (x.t ≤ s.f) = false := decide_eq_false c2
                      clear c1 c2
                      cases hsm : v.same x with
                      | true =>
                        rw [hsm] at qn
                        clear hsm
                        refine region_round (S := (PH w2.heap.size s x kk 0 T Bx W)) (by kernel_rfl) (by kernel_rfl) HPH.out.drew (fun hHeld => ?_)
                        refine wpAnyH_take (i := 0) (oi := ?ct1o) (v := ?ct1v) ?ct1h (by kernel_rfl) (by kernel_rfl) (by kernel_rfl) ?ct1q ?ct1y hHeld ?ct1r
                        case ct1h => (simp only [List.getElem?_toArray, List.getElem?_cons_zero]; rfl)
                        case ct1q => exact fun _ _ _ h => h
                        case ct1y => (refine Or.inl ⟨by first | kernel_rfl | rfl, ?_⟩; intro w hSw; obtain ⟨⟨x0, x1⟩, x2, x3, x4, ⟨x5, x6⟩, -, -⟩ := hSw; go_simp <;> (try with_reducible rfl))
                        try simp only [Act.put, List.setIfInBounds_toArray, List.set_cons_zero, List.set_cons_succ]
                        refine wpAnyH_take (i := 1) (oi := ?ct2o) (v := ?ct2v) ?ct2h (by kernel_rfl) (by kernel_rfl) (by kernel_rfl) ?ct2q ?ct2y hHeld ?ct2r
                        case ct2h => (simp only [List.getElem?_toArray, List.getElem?_cons_succ, List.getElem?_cons_zero]; rfl)
                        case ct2q => exact fun _ _ _ h => h
                        case ct2y => (refine Or.inl ⟨by first | kernel_rfl | rfl, ?_⟩; intro w hSw; obtain ⟨⟨x0, x1⟩, x2, x3, x4, ⟨x5, x6⟩, -, -⟩ := hSw; go_simp <;> (try with_reducible rfl))
                        try simp only [Act.put, List.setIfInBounds_toArray, List.set_cons_zero, List.set_cons_succ]
                        refine wpAnyH_take (i := 2) (oi := ?ct3o) (v := ?ct3v) ?ct3h (by kernel_rfl) (by kernel_rfl) (by kernel_rfl) ?ct3q ?ct3y hHeld ?ct3r
                        case ct3h => (simp only [List.getElem?_toArray, List.getElem?_cons_succ, List.getElem?_cons_zero]; rfl)
                        case ct3q => exact fun _ _ _ h => h
                        case ct3y => (refine Or.inl ⟨by first | kernel_rfl | rfl, ?_⟩; intro w hSw; obtain ⟨⟨x0, x1⟩, x2, x3, x4, ⟨x5, x6⟩, -, -⟩ := hSw; go_simp <;> (try with_reducible rfl))
                        try simp only [Act.put, List.setIfInBounds_toArray, List.set_cons_zero, List.set_cons_succ]
                        refine wpAnyH_take (i := 3) (oi := ?ct4o) (v := ?ct4v) ?ct4h (by kernel_rfl) (by kernel_rfl) (by kernel_rfl) ?ct4q ?ct4y hHeld ?ct4r
                        case ct4h => (simp only [List.getElem?_toArray, List.getElem?_cons_succ, List.getElem?_cons_zero]; rfl)
                        case ct4q => exact fun _ _ _ h => h
                        case ct4y => (refine Or.inl ⟨by first | kernel_rfl | rfl, ?_⟩; intro w hSw; obtain ⟨⟨x0, x1⟩, x2, x3, x4, ⟨x5, x6⟩, -, -⟩ := hSw; go_simp <;> (try with_reducible rfl))
                        try simp only [Act.put, List.setIfInBounds_toArray, List.set_cons_zero, List.set_cons_succ]
                        refine wpAnyH_take (i := 4) (oi := ?ct5o) (v := ?ct5v) ?ct5h (by kernel_rfl) (by kernel_rfl) (by kernel_rfl) ?ct5q ?ct5y hHeld ?ct5r
                        case ct5h => (simp only [List.getElem?_toArray, List.getElem?_cons_succ, List.getElem?_cons_zero]; rfl)
                        case ct5q => exact fun _ _ _ h => h
                        case ct5y => (refine Or.inl ⟨by first | kernel_rfl | rfl, ?_⟩; intro w hSw; obtain ⟨⟨x0, x1⟩, x2, x3, x4, ⟨x5, x6⟩, -, -⟩ := hSw; go_simp <;> (try with_reducible rfl))
                        try simp only [Act.put, List.setIfInBounds_toArray, List.set_cons_zero, List.set_cons_succ]
                        refine wpAnyH_take (i := 5) (oi := ?ct6o) (v := ?ct6v) ?ct6h (by kernel_rfl) (by kernel_rfl) (by kernel_rfl) ?ct6q ?ct6y hHeld ?ct6r
                        case ct6h => (simp only [List.getElem?_toArray, List.getElem?_cons_succ, List.getElem?_cons_zero]; rfl)
                        case ct6q => exact fun _ _ _ h => h
                        case ct6y => (refine Or.inl ⟨by first | kernel_rfl | rfl, ?_⟩; intro w hSw; obtain ⟨⟨x0, x1⟩, x2, x3, x4, ⟨x5, x6⟩, -, -⟩ := hSw; go_simp <;> (try with_reducible rfl))
                        try simp only [Act.put, List.setIfInBounds_toArray, List.set_cons_zero, List.set_cons_succ]
                        refine wpAnyH_take (i := 6) (oi := ?ct7o) (v := ?ct7v) ?ct7h (by kernel_rfl) (by kernel_rfl) (by kernel_rfl) ?ct7q ?ct7y hHeld ?ct7r
                        case ct7h => (simp only [List.getElem?_toArray, List.getElem?_cons_succ, List.getElem?_cons_zero]; rfl)
                        case ct7q => exact fun _ _ _ h => h
                        case ct7y => (refine Or.inl ⟨by first | kernel_rfl | rfl, ?_⟩; intro w hSw; obtain ⟨⟨x0, x1⟩, x2, x3, x4, ⟨x5, x6⟩, -, -⟩ := hSw; go_simp <;> (try with_reducible rfl))
                        try simp only [Act.put, List.setIfInBounds_toArray, List.set_cons_zero, List.set_cons_succ]
                        refine wpAnyH_take (i := 7) (oi := ?ct8o) (v := ?ct8v) ?ct8h (by kernel_rfl) (by kernel_rfl) (by kernel_rfl) ?ct8q ?ct8y hHeld ?ct8r
                        case ct8h => (simp only [List.getElem?_toArray, List.getElem?_cons_succ, List.getElem?_cons_zero]; rfl)
                        case ct8q => exact fun _ _ _ h => h
                        case ct8y => (refine Or.inl ⟨by first | kernel_rfl | rfl, ?_⟩; intro w hSw; obtain ⟨⟨x0, x1⟩, x2, x3, x4, ⟨x5, x6⟩, -, -⟩ := hSw; go_simp <;> (try with_reducible rfl))
                        try simp only [Act.put, List.setIfInBounds_toArray, List.set_cons_zero, List.set_cons_succ]
                        refine wpAnyH_take (i := 8) (oi := ?ct9o) (v := ?ct9v) ?ct9h (by kernel_rfl) (by kernel_rfl) (by kernel_rfl) ?ct9q ?ct9y hHeld ?ct9r
                        case ct9h => (simp only [List.getElem?_toArray, List.getElem?_cons_succ, List.getElem?_cons_zero]; rfl)
                        case ct9q => exact fun _ _ _ h => h
                        case ct9y => (refine Or.inl ⟨by first | kernel_rfl | rfl, ?_⟩; intro w hSw; obtain ⟨⟨x0, x1⟩, x2, x3, x4, ⟨x5, x6⟩, -, -⟩ := hSw; go_simp <;> (try with_reducible rfl))
                        try simp only [Act.put, List.setIfInBounds_toArray, List.set_cons_zero, List.set_cons_succ]
                        refine wpAnyH_take (i := 9) (oi := ?ct10o) (v := ?ct10v) ?ct10h (by kernel_rfl) (by kernel_rfl) (by kernel_rfl) ?ct10q ?ct10y hHeld ?ct10r
                        case ct10h => (simp only [List.getElem?_toArray, List.getElem?_cons_succ, List.getElem?_cons_zero]; rfl)
                        case ct10q => exact fun _ _ _ h => h
                        case ct10y => (refine Or.inl ⟨by first | kernel_rfl | rfl, ?_⟩; intro w hSw; obtain ⟨⟨x0, x1⟩, x2, x3, x4, ⟨x5, x6⟩, -, -⟩ := hSw; go_simp <;> (try with_reducible rfl))
                        try simp only [Act.put, List.setIfInBounds_toArray, List.set_cons_zero, List.set_cons_succ]
                        refine wpAnyH_take (i := 10) (oi := ?ct11o) (v := ?ct11v) ?ct11h (by kernel_rfl) (by kernel_rfl) (by kernel_rfl) ?ct11q ?ct11y hHeld ?ct11r
                        case ct11h => (simp only [List.getElem?_toArray, List.getElem?_cons_succ, List.getElem?_cons_zero]; rfl)
                        case ct11q => exact fun _ _ _ h => h
                        case ct11y => (refine Or.inl ⟨by first | kernel_rfl | rfl, ?_⟩; intro w hSw; obtain ⟨⟨x0, x1⟩, x2, x3, x4, ⟨x5, x6⟩, -, -⟩ := hSw; go_simp <;> (try with_reducible rfl))
                        try simp only [Act.put, List.setIfInBounds_toArray, List.set_cons_zero, List.set_cons_succ]
                        refine wpAnyH_take (i := 11) (oi := ?ct12o) (v := ?ct12v) ?ct12h (by kernel_rfl) (by kernel_rfl) (by kernel_rfl) ?ct12q ?ct12y hHeld ?ct12r
                        case ct12h => (simp only [List.getElem?_toArray, List.getElem?_cons_succ, List.getElem?_cons_zero]; rfl)
                        case ct12q => exact fun _ _ _ h => h
                        case ct12y => (refine Or.inl ⟨by first | kernel_rfl | rfl, ?_⟩; intro w hSw; obtain ⟨⟨x0, x1⟩, x2, x3, x4, ⟨x5, x6⟩, -, -⟩ := hSw; go_simp <;> (try with_reducible rfl))
                        try simp only [Act.put, List.setIfInBounds_toArray, List.set_cons_zero, List.set_cons_succ]
                        refine wpAnyH_take (i := 12) (oi := ?ct13o) (v := ?ct13v) ?ct13h (by kernel_rfl) (by kernel_rfl) (by kernel_rfl) ?ct13q ?ct13y hHeld ?ct13r
                        case ct13h => (simp only [List.getElem?_toArray, List.getElem?_cons_succ, List.getElem?_cons_zero]; rfl)
                        case ct13q => exact fun _ _ _ h => h
                        case ct13y => (refine Or.inl ⟨by first | kernel_rfl | rfl, ?_⟩; intro w hSw; obtain ⟨⟨x0, x1⟩, x2, x3, x4, ⟨x5, x6⟩, -, -⟩ := hSw; go_simp <;> (try with_reducible rfl))
                        try simp only [Act.put, List.setIfInBounds_toArray, List.set_cons_zero, List.set_cons_succ]
                        refine wpAnyH_take (i := 13) (oi := ?ct14o) (v := ?ct14v) ?ct14h (by kernel_rfl) (by kernel_rfl) (by kernel_rfl) ?ct14q ?ct14y hHeld ?ct14r
                        case ct14h => (simp only [List.getElem?_toArray, List.getElem?_cons_succ, List.getElem?_cons_zero]; rfl)
                        case ct14q => exact fun _ _ _ h => h
                        case ct14y => (refine Or.inl ⟨by first | kernel_rfl | rfl, ?_⟩; intro w hSw; obtain ⟨⟨x0, x1⟩, x2, x3, x4, ⟨x5, x6⟩, -, -⟩ := hSw; go_simp <;> (try with_reducible rfl))
                        try simp only [Act.put, List.setIfInBounds_toArray, List.set_cons_zero, List.set_cons_succ]
                        refine wpAnyH_take (i := 14) (oi := ?ct15o) (v := ?ct15v) ?ct15h (by kernel_rfl) (by kernel_rfl) (by kernel_rfl) ?ct15q ?ct15y hHeld ?ct15r
                        case ct15h => (simp only [List.getElem?_toArray, List.getElem?_cons_succ, List.getElem?_cons_zero]; rfl)
                        case ct15q => exact fun _ _ _ h => h
                        case ct15y => (refine Or.inl ⟨by first | kernel_rfl | rfl, ?_⟩; intro w hSw; obtain ⟨⟨x0, x1⟩, x2, x3, x4, ⟨x5, x6⟩, -, -⟩ := hSw; go_simp <;> (try with_reducible rfl))
                        try simp only [Act.put, List.setIfInBounds_toArray, List.set_cons_zero, List.set_cons_succ]
                        refine wpAnyH_take (i := 15) (oi := ?ct16o) (v := ?ct16v) ?ct16h (by kernel_rfl) (by kernel_rfl) (by kernel_rfl) ?ct16q ?ct16y hHeld ?ct16r
                        case ct16h => (simp only [List.getElem?_toArray, List.getElem?_cons_succ, List.getElem?_cons_zero]; rfl)
                        case ct16q => exact fun _ _ _ h => h
                        case ct16y => (refine Or.inl ⟨by first | kernel_rfl | rfl, ?_⟩; intro w hSw; obtain ⟨⟨x0, x1⟩, x2, x3, x4, ⟨x5, x6⟩, -, -⟩ := hSw; go_simp <;> (try with_reducible rfl))
                        try simp only [Act.put, List.setIfInBounds_toArray, List.set_cons_zero, List.set_cons_succ]
                        refine wpAnyH_take (i := 16) (oi := ?ct17o) (v := ?ct17v) ?ct17h (by kernel_rfl) (by kernel_rfl) (by kernel_rfl) ?ct17q ?ct17y hHeld ?ct17r
                        case ct17h => (simp only [List.getElem?_toArray, List.getElem?_cons_succ, List.getElem?_cons_zero]; rfl)
                        case ct17q => exact fun _ _ _ h => h
                        case ct17y => (refine Or.inl ⟨by first | kernel_rfl | rfl, ?_⟩; intro w hSw; obtain ⟨⟨x0, x1⟩, x2, x3, x4, ⟨x5, x6⟩, -, -⟩ := hSw; go_simp <;> (try with_reducible rfl))
                        try simp only [Act.put, List.setIfInBounds_toArray, List.set_cons_zero, List.set_cons_succ]
                        refine wpAnyH_take (i := 17) (oi := ?ct18o) (v := ?ct18v) ?ct18h (by kernel_rfl) (by kernel_rfl) (by kernel_rfl) ?ct18q ?ct18y hHeld ?ct18r
                        case ct18h => (simp only [List.getElem?_toArray, List.getElem?_cons_succ, List.getElem?_cons_zero]; rfl)
                        case ct18q => exact fun _ _ _ h => h
                        case ct18y => (refine Or.inl ⟨by first | kernel_rfl | rfl, ?_⟩; intro w hSw; obtain ⟨⟨x0, x1⟩, x2, x3, x4, ⟨x5, x6⟩, -, -⟩ := hSw; go_simp <;> (try with_reducible rfl))
                        try simp only [Act.put, List.setIfInBounds_toArray, List.set_cons_zero, List.set_cons_succ]
                        refine wpAnyH_take (i := 18) (oi := ?ct19o) (v := ?ct19v) ?ct19h (by kernel_rfl) (by kernel_rfl) (by kernel_rfl) ?ct19q ?ct19y hHeld ?ct19r
                        case ct19h => (simp only [List.getElem?_toArray, List.getElem?_cons_succ, List.getElem?_cons_zero]; rfl)
                        case ct19q => exact fun _ _ _ h => h
                        case ct19y => (refine Or.inl ⟨by first | kernel_rfl | rfl, ?_⟩; intro w hSw; obtain ⟨⟨x0, x1⟩, x2, x3, x4, ⟨x5, x6⟩, -, -⟩ := hSw; go_simp <;> (try with_reducible rfl))
                        try simp only [Act.put, List.setIfInBounds_toArray, List.set_cons_zero, List.set_cons_succ]
                        refine wpAnyH_take (i := 19) (oi := ?ct20o) (v := ?ct20v) ?ct20h (by kernel_rfl) (by kernel_rfl) (by kernel_rfl) ?ct20q ?ct20y hHeld ?ct20r
                        case ct20h => (simp only [List.getElem?_toArray, List.getElem?_cons_succ, List.getElem?_cons_zero]; rfl)
                        case ct20q => exact fun _ _ _ h => h
                        case ct20y => (refine Or.inl ⟨by first | kernel_rfl | rfl, ?_⟩; intro w hSw; obtain ⟨⟨x0, x1⟩, x2, x3, x4, ⟨x5, x6⟩, -, -⟩ := hSw; go_simp <;> (try with_reducible rfl))
                        try simp only [Act.put, List.setIfInBounds_toArray, List.set_cons_zero, List.set_cons_succ]
                        refine wpAnyH_take (i := 20) (oi := ?ct21o) (v := undef) ?ct21h (by kernel_rfl) (by kernel_rfl) (by kernel_rfl) ?ct21q ?ct21y hHeld ?ct21r
                        case ct21h => (simp only [List.getElem?_toArray, List.getElem?_cons_succ, List.getElem?_cons_zero]; rfl)
                        case ct21q => exact fun _ _ _ h => h
                        case ct21y => exact Or.inr ⟨by first | kernel_rfl | rfl, rfl⟩
                        try simp only [Act.put, List.setIfInBounds_toArray, List.set_cons_zero, List.set_cons_succ]
                        refine wpAnyH_take (i := 21) (oi := ?ct22o) (v := undef) ?ct22h (by kernel_rfl) (by kernel_rfl) (by kernel_rfl) ?ct22q ?ct22y hHeld ?ct22r
                        case ct22h => (simp only [List.getElem?_toArray, List.getElem?_cons_succ, List.getElem?_cons_zero]; rfl)
                        case ct22q => exact fun _ _ _ h => h
                        case ct22y => exact Or.inr ⟨by first | kernel_rfl | rfl, rfl⟩
                        try simp only [Act.put, List.setIfInBounds_toArray, List.set_cons_zero, List.set_cons_succ]
                        refine wpAnyH_take (i := 22) (oi := ?ct23o) (v := undef) ?ct23h (by kernel_rfl) (by kernel_rfl) (by kernel_rfl) ?ct23q ?ct23y hHeld ?ct23r
                        case ct23h => (simp only [List.getElem?_toArray, List.getElem?_cons_succ, List.getElem?_cons_zero]; rfl)
                        case ct23q => exact fun _ _ _ h => h
                        case ct23y => exact Or.inr ⟨by first | kernel_rfl | rfl, rfl⟩
                        try simp only [Act.put, List.setIfInBounds_toArray, List.set_cons_zero, List.set_cons_succ]
                        refine wpAnyH_take (i := 23) (oi := ?ct24o) (v := undef) ?ct24h (by kernel_rfl) (by kernel_rfl) (by kernel_rfl) ?ct24q ?ct24y hHeld ?ct24r
                        case ct24h => (simp only [List.getElem?_toArray, List.getElem?_cons_succ, List.getElem?_cons_zero]; rfl)
                        case ct24q => exact fun _ _ _ h => h
                        case ct24y => exact Or.inr ⟨by first | kernel_rfl | rfl, rfl⟩
                        try simp only [Act.put, List.setIfInBounds_toArray, List.set_cons_zero, List.set_cons_succ]
                        refine wpAnyH_take (i := 24) (oi := ?ct25o) (v := ?ct25v) ?ct25h (by kernel_rfl) (by kernel_rfl) (by kernel_rfl) ?ct25q ?ct25y hHeld ?ct25r
                        case ct25h => (simp only [List.getElem?_toArray, List.getElem?_cons_succ, List.getElem?_cons_zero]; rfl)
                        case ct25q => exact fun _ _ _ h => h
                        case ct25y => (refine Or.inl ⟨by first | kernel_rfl | rfl, ?_⟩; intro w hSw; obtain ⟨⟨x0, x1⟩, x2, x3, x4, ⟨x5, x6⟩, -, -⟩ := hSw; go_simp <;> (try with_reducible rfl))
                        try simp only [Act.put, List.setIfInBounds_toArray, List.set_cons_zero, List.set_cons_succ]
                        refine wpAnyH_take (i := 25) (oi := ?ct26o) (v := ?ct26v) ?ct26h (by kernel_rfl) (by kernel_rfl) (by kernel_rfl) ?ct26q ?ct26y hHeld ?ct26r
                        case ct26h => (simp only [List.getElem?_toArray, List.getElem?_cons_succ, List.getElem?_cons_zero]; rfl)
                        case ct26q => exact fun _ _ _ h => h
                        case ct26y => (refine Or.inl ⟨by first | kernel_rfl | rfl, ?_⟩; intro w hSw; obtain ⟨⟨x0, x1⟩, x2, x3, x4, ⟨x5, x6⟩, -, -⟩ := hSw; go_simp <;> (try with_reducible rfl))
                        try simp only [Act.put, List.setIfInBounds_toArray, List.set_cons_zero, List.set_cons_succ]
                        refine wpAnyH_take (i := 26) (oi := ?ct27o) (v := ?ct27v) ?ct27h (by kernel_rfl) (by kernel_rfl) (by kernel_rfl) ?ct27q ?ct27y hHeld ?ct27r
                        case ct27h => (simp only [List.getElem?_toArray, List.getElem?_cons_succ, List.getElem?_cons_zero]; rfl)
                        case ct27q => exact fun _ _ _ h => h
                        case ct27y => (refine Or.inl ⟨by first | kernel_rfl | rfl, ?_⟩; intro w hSw; obtain ⟨⟨x0, x1⟩, x2, x3, x4, ⟨x5, x6⟩, -, -⟩ := hSw; go_simp <;> (try with_reducible rfl))
                        try simp only [Act.put, List.setIfInBounds_toArray, List.set_cons_zero, List.set_cons_succ]
                        refine wpAnyH_take (i := 27) (oi := ?ct28o) (v := ?ct28v) ?ct28h (by kernel_rfl) (by kernel_rfl) (by kernel_rfl) ?ct28q ?ct28y hHeld ?ct28r
                        case ct28h => (simp only [List.getElem?_toArray, List.getElem?_cons_succ, List.getElem?_cons_zero]; rfl)
                        case ct28q => exact fun _ _ _ h => h
                        case ct28y => (refine Or.inl ⟨by first | kernel_rfl | rfl, ?_⟩; intro w hSw; obtain ⟨⟨x0, x1⟩, x2, x3, x4, ⟨x5, x6⟩, -, -⟩ := hSw; go_simp <;> (try with_reducible rfl))
                        try simp only [Act.put, List.setIfInBounds_toArray, List.set_cons_zero, List.set_cons_succ]
                        refine wpAnyH_take (i := 28) (oi := ?ct29o) (v := ?ct29v) ?ct29h (by kernel_rfl) (by kernel_rfl) (by kernel_rfl) ?ct29q ?ct29y hHeld ?ct29r
                        case ct29h => (simp only [List.getElem?_toArray, List.getElem?_cons_succ, List.getElem?_cons_zero]; rfl)
                        case ct29q => exact fun _ _ _ h => h
                        case ct29y => (refine Or.inl ⟨by first | kernel_rfl | rfl, ?_⟩; intro w hSw; obtain ⟨⟨x0, x1⟩, x2, x3, x4, ⟨x5, x6⟩, -, -⟩ := hSw; go_simp <;> (try with_reducible rfl))
                        try simp only [Act.put, List.setIfInBounds_toArray, List.set_cons_zero, List.set_cons_succ]
                        refine wpAnyH_take (i := 29) (oi := ?ct30o) (v := ?ct30v) ?ct30h (by kernel_rfl) (by kernel_rfl) (by kernel_rfl) ?ct30q ?ct30y hHeld ?ct30r
                        case ct30h => (simp only [List.getElem?_toArray, List.getElem?_cons_succ, List.getElem?_cons_zero]; rfl)
                        case ct30q => exact fun _ _ _ h => h
                        case ct30y => (refine Or.inl ⟨by first | kernel_rfl | rfl, ?_⟩; intro w hSw; obtain ⟨⟨x0, x1⟩, x2, x3, x4, ⟨x5, x6⟩, -, -⟩ := hSw; go_simp <;> (try with_reducible rfl))
                        try simp only [Act.put, List.setIfInBounds_toArray, List.set_cons_zero, List.set_cons_succ]
                        refine wpAnyH_take (i := 31) (oi := ?ct31o) (v := ?ct31v) ?ct31h (by kernel_rfl) (by kernel_rfl) (by kernel_rfl) ?ct31q ?ct31y hHeld ?ct31r
                        case ct31h => (simp only [List.getElem?_toArray, List.getElem?_cons_succ, List.getElem?_cons_zero]; rfl)
                        case ct31q => exact fun _ _ _ h => h
                        case ct31y => (refine Or.inl ⟨by first | kernel_rfl | rfl, ?_⟩; intro w hSw; obtain ⟨⟨x0, x1⟩, x2, x3, x4, ⟨x5, x6⟩, -, -⟩ := hSw; go_simp <;> (try with_reducible rfl))
                        try simp only [Act.put, List.setIfInBounds_toArray, List.set_cons_zero, List.set_cons_succ]
                        refine wpAnyH_ready (rs := [30]) (by kernel_rfl) (by simp) ?_
                        refine (AllReadyH.cons rfl (fun K hK => ?_) AllReadyH.nil)
                        go_simp
                        ((with_reducible refine (kof _ hHeld.tab).mono ?_); rintro e W2 ⟨rfl, hb2⟩)
                        refine hK.out _ _ (hHeld.keep hb2) (fun hHeld => ?_)
                        clear hK K
                        try simp only [Act.put, List.setIfInBounds_toArray, List.set_cons_zero, List.set_cons_succ]
                        refine wpAnyH_take (i := 32) (oi := ?ct32o) (v := ?ct32v) ?ct32h (by kernel_rfl) (by kernel_rfl) (by kernel_rfl) ?ct32q ?ct32y hHeld ?ct32r
                        case ct32h => (simp only [List.getElem?_toArray, List.getElem?_cons_succ, List.getElem?_cons_zero]; rfl)
                        case ct32q => exact fun _ _ _ h => h
                        case ct32y => (refine Or.inl ⟨by first | kernel_rfl | rfl, ?_⟩; intro w hSw; obtain ⟨⟨x0, x1⟩, x2, x3, x4, ⟨x5, x6⟩, -, -⟩ := hSw; go_simp <;> (try with_reducible rfl))
                        try simp only [Act.put, List.setIfInBounds_toArray, List.set_cons_zero, List.set_cons_succ]
                        refine wpAnyH_take (i := 33) (oi := ?ct33o) (v := ?ct33v) ?ct33h (by kernel_rfl) (by kernel_rfl) (by kernel_rfl) ?ct33q ?ct33y hHeld ?ct33r
                        case ct33h => (simp only [List.getElem?_toArray, List.getElem?_cons_succ, List.getElem?_cons_zero]; rfl)
                        case ct33q => exact fun _ _ _ h => h
                        case ct33y => (refine Or.inl ⟨by first | kernel_rfl | rfl, ?_⟩; intro w hSw; obtain ⟨⟨x0, x1⟩, x2, x3, x4, ⟨x5, x6⟩, -, -⟩ := hSw; go_simp <;> (try with_reducible rfl))
                        try simp only [Act.put, List.setIfInBounds_toArray, List.set_cons_zero, List.set_cons_succ]
                        refine wpAnyH_done (by kernel_rfl) ?_ _
                        have HPH2 := Lib.hid hHeld
                        clear hHeld
                        refine calm_n ?_
                        have HOK := Lib.hid (cont_ok (x := x) HPH2.out.bel HHM.out HHL.out HHB.out HMM.out (fun q hq => ⟨Nat.lt_of_lt_of_le (hEL q hq) HHB.out.size, (hEB q hq).1, (hEB q hq).2.1⟩))
                        have hm2 := boxed_below HHM.out HPH2.out.bel
                        have hl2 := boxed_below HHL.out HPH2.out.bel
                        have hl3 := hl2.cell
                        have hl4 := hl2.frozen
                        have hm3 := fun u => (hm2.other (B' := w2.heap.size + 1 + 1 + 1) (by omega) u).cell
                        have hm4 := fun u => (hm2.other (B' := w2.heap.size + 1 + 1 + 1) (by omega) u).frozen
                        obtain ⟨x5, x6⟩ := HPH2.out.xb
                        have hwm := HWM.out
                        clear hm2 hl2
                        gi_wp2
                        exact HOK.out
                      | false =>
                        rw [hsm] at qn
                        have HX := Lib.hid (show ¬ pre ++ [x] <+: L from fun h => by have k1 := (HSX.out h).of_; rw [HV.out] at k1; rw [Sp.same_iff.2 k1] at hsm; cases hsm)
                        clear hsm
                        refine region_round (S := (PH w2.heap.size s x kk 0 T Bx W)) (by kernel_rfl) (by kernel_rfl) HPH.out.drew (fun hHeld => ?_)
                        refine wpAnyH_take (i := 0) (oi := ?cf1o) (v := ?cf1v) ?cf1h (by kernel_rfl) (by kernel_rfl) (by kernel_rfl) ?cf1q ?cf1y hHeld ?cf1r
                        case cf1h => (simp only [List.getElem?_toArray, List.getElem?_cons_zero]; rfl)
                        case cf1q => exact fun _ _ _ h => h
                        case cf1y => (refine Or.inl ⟨by first | kernel_rfl | rfl, ?_⟩; intro w hSw; obtain ⟨⟨x0, x1⟩, x2, x3, x4, ⟨x5, x6⟩, -, -⟩ := hSw; go_simp <;> (try with_reducible rfl))
                        try simp only [Act.put, List.setIfInBounds_toArray, List.set_cons_zero, List.set_cons_succ]
                        refine wpAnyH_take (i := 1) (oi := ?cf2o) (v := ?cf2v) ?cf2h (by kernel_rfl) (by kernel_rfl) (by kernel_rfl) ?cf2q ?cf2y hHeld ?cf2r
                        case cf2h => (simp only [List.getElem?_toArray, List.getElem?_cons_succ, List.getElem?_cons_zero]; rfl)
                        case cf2q => exact fun _ _ _ h => h
                        case cf2y => (refine Or.inl ⟨by first | kernel_rfl | rfl, ?_⟩; intro w hSw; obtain ⟨⟨x0, x1⟩, x2, x3, x4, ⟨x5, x6⟩, -, -⟩ := hSw; go_simp <;> (try with_reducible rfl))
                        try simp only [Act.put, List.setIfInBounds_toArray, List.set_cons_zero, List.set_cons_succ]
                        refine wpAnyH_take (i := 2) (oi := ?cf3o) (v := ?cf3v) ?cf3h (by kernel_rfl) (by kernel_rfl) (by kernel_rfl) ?cf3q ?cf3y hHeld ?cf3r
                        case cf3h => (simp only [List.getElem?_toArray, List.getElem?_cons_succ, List.getElem?_cons_zero]; rfl)
                        case cf3q => exact fun _ _ _ h => h
                        case cf3y => (refine Or.inl ⟨by first | kernel_rfl | rfl, ?_⟩; intro w hSw; obtain ⟨⟨x0, x1⟩, x2, x3, x4, ⟨x5, x6⟩, -, -⟩ := hSw; go_simp <;> (try with_reducible rfl))
                        try simp only [Act.put, List.setIfInBounds_toArray, List.set_cons_zero, List.set_cons_succ]
                        refine wpAnyH_take (i := 3) (oi := ?cf4o) (v := ?cf4v) ?cf4h (by kernel_rfl) (by kernel_rfl) (by kernel_rfl) ?cf4q ?cf4y hHeld ?cf4r
                        case cf4h => (simp only [List.getElem?_toArray, List.getElem?_cons_succ, List.getElem?_cons_zero]; rfl)
                        case cf4q => exact fun _ _ _ h => h
                        case cf4y => (refine Or.inl ⟨by first | kernel_rfl | rfl, ?_⟩; intro w hSw; obtain ⟨⟨x0, x1⟩, x2, x3, x4, ⟨x5, x6⟩, -, -⟩ := hSw; go_simp <;> (try with_reducible rfl))
                        try simp only [Act.put, List.setIfInBounds_toArray, List.set_cons_zero, List.set_cons_succ]
                        refine wpAnyH_take (i := 4) (oi := ?cf5o) (v := ?cf5v) ?cf5h (by kernel_rfl) (by kernel_rfl) (by kernel_rfl) ?cf5q ?cf5y hHeld ?cf5r
                        case cf5h => (simp only [List.getElem?_toArray, List.getElem?_cons_succ, List.getElem?_cons_zero]; rfl)
                        case cf5q => exact fun _ _ _ h => h
                        case cf5y => (refine Or.inl ⟨by first | kernel_rfl | rfl, ?_⟩; intro w hSw; obtain ⟨⟨x0, x1⟩, x2, x3, x4, ⟨x5, x6⟩, -, -⟩ := hSw; go_simp <;> (try with_reducible rfl))
                        try simp only [Act.put, List.setIfInBounds_toArray, List.set_cons_zero, List.set_cons_succ]
                        refine wpAnyH_take (i := 5) (oi := ?cf6o) (v := ?cf6v) ?cf6h (by kernel_rfl) (by kernel_rfl) (by kernel_rfl) ?cf6q ?cf6y hHeld ?cf6r
                        case cf6h => (simp only [List.getElem?_toArray, List.getElem?_cons_succ, List.getElem?_cons_zero]; rfl)
                        case cf6q => exact fun _ _ _ h => h
                        case cf6y => (refine Or.inl ⟨by first | kernel_rfl | rfl, ?_⟩; intro w hSw; obtain ⟨⟨x0, x1⟩, x2, x3, x4, ⟨x5, x6⟩, -, -⟩ := hSw; go_simp <;> (try with_reducible rfl))
                        try simp only [Act.put, List.setIfInBounds_toArray, List.set_cons_zero, List.set_cons_succ]
                        refine wpAnyH_take (i := 6) (oi := ?cf7o) (v := ?cf7v) ?cf7h (by kernel_rfl) (by kernel_rfl) (by kernel_rfl) ?cf7q ?cf7y hHeld ?cf7r
                        case cf7h => (simp only [List.getElem?_toArray, List.getElem?_cons_succ, List.getElem?_cons_zero]; rfl)
                        case cf7q => exact fun _ _ _ h => h
                        case cf7y => (refine Or.inl ⟨by first | kernel_rfl | rfl, ?_⟩; intro w hSw; obtain ⟨⟨x0, x1⟩, x2, x3, x4, ⟨x5, x6⟩, -, -⟩ := hSw; go_simp <;> (try with_reducible rfl))
                        try simp only [Act.put, List.setIfInBounds_toArray, List.set_cons_zero, List.set_cons_succ]
                        refine wpAnyH_take (i := 7) (oi := ?cf8o) (v := ?cf8v) ?cf8h (by kernel_rfl) (by kernel_rfl) (by kernel_rfl) ?cf8q ?cf8y hHeld ?cf8r
                        case cf8h => (simp only [List.getElem?_toArray, List.getElem?_cons_succ, List.getElem?_cons_zero]; rfl)
                        case cf8q => exact fun _ _ _ h => h
                        case cf8y => (refine Or.inl ⟨by first | kernel_rfl | rfl, ?_⟩; intro w hSw; obtain ⟨⟨x0, x1⟩, x2, x3, x4, ⟨x5, x6⟩, -, -⟩ := hSw; go_simp <;> (try with_reducible rfl))
                        try simp only [Act.put, List.setIfInBounds_toArray, List.set_cons_zero, List.set_cons_succ]
                        refine wpAnyH_take (i := 8) (oi := ?cf9o) (v := ?cf9v) ?cf9h (by kernel_rfl) (by kernel_rfl) (by kernel_rfl) ?cf9q ?cf9y hHeld ?cf9r
                        case cf9h => (simp only [List.getElem?_toArray, List.getElem?_cons_succ, List.getElem?_cons_zero]; rfl)
                        case cf9q => exact fun _ _ _ h => h
                        case cf9y => (refine Or.inl ⟨by first | kernel_rfl | rfl, ?_⟩; intro w hSw; obtain ⟨⟨x0, x1⟩, x2, x3, x4, ⟨x5, x6⟩, -, -⟩ := hSw; go_simp <;> (try with_reducible rfl))
                        try simp only [Act.put, List.setIfInBounds_toArray, List.set_cons_zero, List.set_cons_succ]
                        refine wpAnyH_take (i := 9) (oi := ?cf10o) (v := ?cf10v) ?cf10h (by kernel_rfl) (by kernel_rfl) (by kernel_rfl) ?cf10q ?cf10y hHeld ?cf10r
                        case cf10h => (simp only [List.getElem?_toArray, List.getElem?_cons_succ, List.getElem?_cons_zero]; rfl)
                        case cf10q => exact fun _ _ _ h => h
                        case cf10y => (refine Or.inl ⟨by first | kernel_rfl | rfl, ?_⟩; intro w hSw; obtain ⟨⟨x0, x1⟩, x2, x3, x4, ⟨x5, x6⟩, -, -⟩ := hSw; go_simp <;> (try with_reducible rfl))
                        try simp only [Act.put, List.setIfInBounds_toArray, List.set_cons_zero, List.set_cons_succ]
                        refine wpAnyH_take (i := 10) (oi := ?cf11o) (v := ?cf11v) ?cf11h (by kernel_rfl) (by kernel_rfl) (by kernel_rfl) ?cf11q ?cf11y hHeld ?cf11r
                        case cf11h => (simp only [List.getElem?_toArray, List.getElem?_cons_succ, List.getElem?_cons_zero]; rfl)
                        case cf11q => exact fun _ _ _ h => h
                        case cf11y => (refine Or.inl ⟨by first | kernel_rfl | rfl, ?_⟩; intro w hSw; obtain ⟨⟨x0, x1⟩, x2, x3, x4, ⟨x5, x6⟩, -, -⟩ := hSw; go_simp <;> (try with_reducible rfl))
                        try simp only [Act.put, List.setIfInBounds_toArray, List.set_cons_zero, List.set_cons_succ]
                        refine wpAnyH_take (i := 11) (oi := ?cf12o) (v := ?cf12v) ?cf12h (by kernel_rfl) (by kernel_rfl) (by kernel_rfl) ?cf12q ?cf12y hHeld ?cf12r
                        case cf12h => (simp only [List.getElem?_toArray, List.getElem?_cons_succ, List.getElem?_cons_zero]; rfl)
                        case cf12q => exact fun _ _ _ h => h
                        case cf12y => (refine Or.inl ⟨by first | kernel_rfl | rfl, ?_⟩; intro w hSw; obtain ⟨⟨x0, x1⟩, x2, x3, x4, ⟨x5, x6⟩, -, -⟩ := hSw; go_simp <;> (try with_reducible rfl))
                        try simp only [Act.put, List.setIfInBounds_toArray, List.set_cons_zero, List.set_cons_succ]
                        refine wpAnyH_take (i := 12) (oi := ?cf13o) (v := ?cf13v) ?cf13h (by kernel_rfl) (by kernel_rfl) (by kernel_rfl) ?cf13q ?cf13y hHeld ?cf13r
                        case cf13h => (simp only [List.getElem?_toArray, List.getElem?_cons_succ, List.getElem?_cons_zero]; rfl)
                        case cf13q => exact fun _ _ _ h => h
                        case cf13y => (refine Or.inl ⟨by first | kernel_rfl | rfl, ?_⟩; intro w hSw; obtain ⟨⟨x0, x1⟩, x2, x3, x4, ⟨x5, x6⟩, -, -⟩ := hSw; go_simp <;> (try with_reducible rfl))
                        try simp only [Act.put, List.setIfInBounds_toArray, List.set_cons_zero, List.set_cons_succ]
                        refine wpAnyH_take (i := 13) (oi := ?cf14o) (v := ?cf14v) ?cf14h (by kernel_rfl) (by kernel_rfl) (by kernel_rfl) ?cf14q ?cf14y hHeld ?cf14r
                        case cf14h => (simp only [List.getElem?_toArray, List.getElem?_cons_succ, List.getElem?_cons_zero]; rfl)
                        case cf14q => exact fun _ _ _ h => h
                        case cf14y => (refine Or.inl ⟨by first | kernel_rfl | rfl, ?_⟩; intro w hSw; obtain ⟨⟨x0, x1⟩, x2, x3, x4, ⟨x5, x6⟩, -, -⟩ := hSw; go_simp <;> (try with_reducible rfl))
                        try simp only [Act.put, List.setIfInBounds_toArray, List.set_cons_zero, List.set_cons_succ]
                        refine wpAnyH_take (i := 14) (oi := ?cf15o) (v := ?cf15v) ?cf15h (by kernel_rfl) (by kernel_rfl) (by kernel_rfl) ?cf15q ?cf15y hHeld ?cf15r
                        case cf15h => (simp only [List.getElem?_toArray, List.getElem?_cons_succ, List.getElem?_cons_zero]; rfl)
                        case cf15q => exact fun _ _ _ h => h
                        case cf15y => (refine Or.inl ⟨by first | kernel_rfl | rfl, ?_⟩; intro w hSw; obtain ⟨⟨x0, x1⟩, x2, x3, x4, ⟨x5, x6⟩, -, -⟩ := hSw; go_simp <;> (try with_reducible rfl))
                        try simp only [Act.put, List.setIfInBounds_toArray, List.set_cons_zero, List.set_cons_succ]
                        refine wpAnyH_take (i := 15) (oi := ?cf16o) (v := ?cf16v) ?cf16h (by kernel_rfl) (by kernel_rfl) (by kernel_rfl) ?cf16q ?cf16y hHeld ?cf16r
                        case cf16h => (simp only [List.getElem?_toArray, List.getElem?_cons_succ, List.getElem?_cons_zero]; rfl)
                        case cf16q => exact fun _ _ _ h => h
                        case cf16y => (refine Or.inl ⟨by first | kernel_rfl | rfl, ?_⟩; intro w hSw; obtain ⟨⟨x0, x1⟩, x2, x3, x4, ⟨x5, x6⟩, -, -⟩ := hSw; go_simp <;> (try with_reducible rfl))
                        try simp only [Act.put, List.setIfInBounds_toArray, List.set_cons_zero, List.set_cons_succ]
                        refine wpAnyH_take (i := 16) (oi := ?cf17o) (v := ?cf17v) ?cf17h (by kernel_rfl) (by kernel_rfl) (by kernel_rfl) ?cf17q ?cf17y hHeld ?cf17r
                        case cf17h => (simp only [List.getElem?_toArray, List.getElem?_cons_succ, List.getElem?_cons_zero]; rfl)
                        case cf17q => exact fun _ _ _ h => h
                        case cf17y => (refine Or.inl ⟨by first | kernel_rfl | rfl, ?_⟩; intro w hSw; obtain ⟨⟨x0, x1⟩, x2, x3, x4, ⟨x5, x6⟩, -, -⟩ := hSw; go_simp <;> (try with_reducible rfl))
                        try simp only [Act.put, List.setIfInBounds_toArray, List.set_cons_zero, List.set_cons_succ]
                        refine wpAnyH_take (i := 17) (oi := ?cf18o) (v := ?cf18v) ?cf18h (by kernel_rfl) (by kernel_rfl) (by kernel_rfl) ?cf18q ?cf18y hHeld ?cf18r
                        case cf18h => (simp only [List.getElem?_toArray, List.getElem?_cons_succ, List.getElem?_cons_zero]; rfl)
                        case cf18q => exact fun _ _ _ h => h
                        case cf18y => (refine Or.inl ⟨by first | kernel_rfl | rfl, ?_⟩; intro w hSw; obtain ⟨⟨x0, x1⟩, x2, x3, x4, ⟨x5, x6⟩, -, -⟩ := hSw; go_simp <;> (try with_reducible rfl))
                        try simp only [Act.put, List.setIfInBounds_toArray, List.set_cons_zero, List.set_cons_succ]
                        refine wpAnyH_take (i := 18) (oi := ?cf19o) (v := ?cf19v) ?cf19h (by kernel_rfl) (by kernel_rfl) (by kernel_rfl) ?cf19q ?cf19y hHeld ?cf19r
                        case cf19h => (simp only [List.getElem?_toArray, List.getElem?_cons_succ, List.getElem?_cons_zero]; rfl)
                        case cf19q => exact fun _ _ _ h => h
                        case cf19y => (refine Or.inl ⟨by first | kernel_rfl | rfl, ?_⟩; intro w hSw; obtain ⟨⟨x0, x1⟩, x2, x3, x4, ⟨x5, x6⟩, -, -⟩ := hSw; go_simp <;> (try with_reducible rfl))
                        try simp only [Act.put, List.setIfInBounds_toArray, List.set_cons_zero, List.set_cons_succ]
                        refine wpAnyH_take (i := 19) (oi := ?cf20o) (v := ?cf20v) ?cf20h (by kernel_rfl) (by kernel_rfl) (by kernel_rfl) ?cf20q ?cf20y hHeld ?cf20r
                        case cf20h => (simp only [List.getElem?_toArray, List.getElem?_cons_succ, List.getElem?_cons_zero]; rfl)
                        case cf20q => exact fun _ _ _ h => h
                        case cf20y => (refine Or.inl ⟨by first | kernel_rfl | rfl, ?_⟩; intro w hSw; obtain ⟨⟨x0, x1⟩, x2, x3, x4, ⟨x5, x6⟩, -, -⟩ := hSw; go_simp <;> (try with_reducible rfl))
                        try simp only [Act.put, List.setIfInBounds_toArray, List.set_cons_zero, List.set_cons_succ]
                        refine wpAnyH_take (i := 20) (oi := ?cf21o) (v := undef) ?cf21h (by kernel_rfl) (by kernel_rfl) (by kernel_rfl) ?cf21q ?cf21y hHeld ?cf21r
                        case cf21h => (simp only [List.getElem?_toArray, List.getElem?_cons_succ, List.getElem?_cons_zero]; rfl)
                        case cf21q => exact fun _ _ _ h => h
                        case cf21y => exact Or.inr ⟨by first | kernel_rfl | rfl, rfl⟩
                        try simp only [Act.put, List.setIfInBounds_toArray, List.set_cons_zero, List.set_cons_succ]
                        refine wpAnyH_take (i := 21) (oi := ?cf22o) (v := undef) ?cf22h (by kernel_rfl) (by kernel_rfl) (by kernel_rfl) ?cf22q ?cf22y hHeld ?cf22r
                        case cf22h => (simp only [List.getElem?_toArray, List.getElem?_cons_succ, List.getElem?_cons_zero]; rfl)
                        case cf22q => exact fun _ _ _ h => h
                        case cf22y => exact Or.inr ⟨by first | kernel_rfl | rfl, rfl⟩
                        try simp only [Act.put, List.setIfInBounds_toArray, List.set_cons_zero, List.set_cons_succ]
                        refine wpAnyH_take (i := 22) (oi := ?cf23o) (v := undef) ?cf23h (by kernel_rfl) (by kernel_rfl) (by kernel_rfl) ?cf23q ?cf23y hHeld ?cf23r
                        case cf23h => (simp only [List.getElem?_toArray, List.getElem?_cons_succ, List.getElem?_cons_zero]; rfl)
                        case cf23q => exact fun _ _ _ h => h
                        case cf23y => exact Or.inr ⟨by first | kernel_rfl | rfl, rfl⟩
                        try simp only [Act.put, List.setIfInBounds_toArray, List.set_cons_zero, List.set_cons_succ]
                        refine wpAnyH_take (i := 23) (oi := ?cf24o) (v := undef) ?cf24h (by kernel_rfl) (by kernel_rfl) (by kernel_rfl) ?cf24q ?cf24y hHeld ?cf24r
                        case cf24h => (simp only [List.getElem?_toArray, List.getElem?_cons_succ, List.getElem?_cons_zero]; rfl)
                        case cf24q => exact fun _ _ _ h => h
                        case cf24y => exact Or.inr ⟨by first | kernel_rfl | rfl, rfl⟩
                        try simp only [Act.put, List.setIfInBounds_toArray, List.set_cons_zero, List.set_cons_succ]
                        refine wpAnyH_take (i := 24) (oi := ?cf25o) (v := ?cf25v) ?cf25h (by kernel_rfl) (by kernel_rfl) (by kernel_rfl) ?cf25q ?cf25y hHeld ?cf25r
                        case cf25h => (simp only [List.getElem?_toArray, List.getElem?_cons_succ, List.getElem?_cons_zero]; rfl)
                        case cf25q => exact fun _ _ _ h => h
                        case cf25y => (refine Or.inl ⟨by first | kernel_rfl | rfl, ?_⟩; intro w hSw; obtain ⟨⟨x0, x1⟩, x2, x3, x4, ⟨x5, x6⟩, -, -⟩ := hSw; go_simp <;> (try with_reducible rfl))
                        try simp only [Act.put, List.setIfInBounds_toArray, List.set_cons_zero, List.set_cons_succ]
                        refine wpAnyH_take (i := 25) (oi := ?cf26o) (v := ?cf26v) ?cf26h (by kernel_rfl) (by kernel_rfl) (by kernel_rfl) ?cf26q ?cf26y hHeld ?cf26r
                        case cf26h => (simp only [List.getElem?_toArray, List.getElem?_cons_succ, List.getElem?_cons_zero]; rfl)
                        case cf26q => exact fun _ _ _ h => h
                        case cf26y => (refine Or.inl ⟨by first | kernel_rfl | rfl, ?_⟩; intro w hSw; obtain ⟨⟨x0, x1⟩, x2, x3, x4, ⟨x5, x6⟩, -, -⟩ := hSw; go_simp <;> (try with_reducible rfl))
                        try simp only [Act.put, List.setIfInBounds_toArray, List.set_cons_zero, List.set_cons_succ]
                        refine wpAnyH_take (i := 26) (oi := ?cf27o) (v := ?cf27v) ?cf27h (by kernel_rfl) (by kernel_rfl) (by kernel_rfl) ?cf27q ?cf27y hHeld ?cf27r
                        case cf27h => (simp only [List.getElem?_toArray, List.getElem?_cons_succ, List.getElem?_cons_zero]; rfl)
                        case cf27q => exact fun _ _ _ h => h
                        case cf27y => (refine Or.inl ⟨by first | kernel_rfl | rfl, ?_⟩; intro w hSw; obtain ⟨⟨x0, x1⟩, x2, x3, x4, ⟨x5, x6⟩, -, -⟩ := hSw; go_simp <;> (try with_reducible rfl))
                        try simp only [Act.put, List.setIfInBounds_toArray, List.set_cons_zero, List.set_cons_succ]
                        refine wpAnyH_take (i := 27) (oi := ?cf28o) (v := ?cf28v) ?cf28h (by kernel_rfl) (by kernel_rfl) (by kernel_rfl) ?cf28q ?cf28y hHeld ?cf28r
                        case cf28h => (simp only [List.getElem?_toArray, List.getElem?_cons_succ, List.getElem?_cons_zero]; rfl)
                        case cf28q => exact fun _ _ _ h => h
                        case cf28y => (refine Or.inl ⟨by first | kernel_rfl | rfl, ?_⟩; intro w hSw; obtain ⟨⟨x0, x1⟩, x2, x3, x4, ⟨x5, x6⟩, -, -⟩ := hSw; go_simp <;> (try with_reducible rfl))
                        try simp only [Act.put, List.setIfInBounds_toArray, List.set_cons_zero, List.set_cons_succ]
                        refine wpAnyH_take (i := 28) (oi := ?cf29o) (v := ?cf29v) ?cf29h (by kernel_rfl) (by kernel_rfl) (by kernel_rfl) ?cf29q ?cf29y hHeld ?cf29r
                        case cf29h => (simp only [List.getElem?_toArray, List.getElem?_cons_succ, List.getElem?_cons_zero]; rfl)
                        case cf29q => exact fun _ _ _ h => h
                        case cf29y => (refine Or.inl ⟨by first | kernel_rfl | rfl, ?_⟩; intro w hSw; obtain ⟨⟨x0, x1⟩, x2, x3, x4, ⟨x5, x6⟩, -, -⟩ := hSw; go_simp <;> (try with_reducible rfl))
                        try simp only [Act.put, List.setIfInBounds_toArray, List.set_cons_zero, List.set_cons_succ]
                        refine wpAnyH_take (i := 29) (oi := ?cf30o) (v := ?cf30v) ?cf30h (by kernel_rfl) (by kernel_rfl) (by kernel_rfl) ?cf30q ?cf30y hHeld ?cf30r
                        case cf30h => (simp only [List.getElem?_toArray, List.getElem?_cons_succ, List.getElem?_cons_zero]; rfl)
                        case cf30q => exact fun _ _ _ h => h
                        case cf30y => (refine Or.inl ⟨by first | kernel_rfl | rfl, ?_⟩; intro w hSw; obtain ⟨⟨x0, x1⟩, x2, x3, x4, ⟨x5, x6⟩, -, -⟩ := hSw; go_simp <;> (try with_reducible rfl))
                        try simp only [Act.put, List.setIfInBounds_toArray, List.set_cons_zero, List.set_cons_succ]
                        refine wpAnyH_take (i := 31) (oi := ?cf31o) (v := ?cf31v) ?cf31h (by kernel_rfl) (by kernel_rfl) (by kernel_rfl) ?cf31q ?cf31y hHeld ?cf31r
                        case cf31h => (simp only [List.getElem?_toArray, List.getElem?_cons_succ, List.getElem?_cons_zero]; rfl)
                        case cf31q => exact fun _ _ _ h => h
                        case cf31y => (refine Or.inl ⟨by first | kernel_rfl | rfl, ?_⟩; intro w hSw; obtain ⟨⟨x0, x1⟩, x2, x3, x4, ⟨x5, x6⟩, -, -⟩ := hSw; go_simp <;> (try with_reducible rfl))
                        try simp only [Act.put, List.setIfInBounds_toArray, List.set_cons_zero, List.set_cons_succ]
                        refine wpAnyH_ready (rs := [30]) (by kernel_rfl) (by simp) ?_
                        refine (AllReadyH.cons rfl (fun K hK => ?_) AllReadyH.nil)
                        go_simp
                        ((with_reducible refine (kof _ hHeld.tab).mono ?_); rintro e W2 ⟨rfl, hb2⟩)
                        refine hK.out _ _ (hHeld.keep hb2) (fun hHeld => ?_)
                        clear hK K
                        try simp only [Act.put, List.setIfInBounds_toArray, List.set_cons_zero, List.set_cons_succ]
                        refine wpAnyH_take (i := 32) (oi := ?cf32o) (v := ?cf32v) ?cf32h (by kernel_rfl) (by kernel_rfl) (by kernel_rfl) ?cf32q ?cf32y hHeld ?cf32r
                        case cf32h => (simp only [List.getElem?_toArray, List.getElem?_cons_succ, List.getElem?_cons_zero]; rfl)
                        case cf32q => exact fun _ _ _ h => h
                        case cf32y => (refine Or.inl ⟨by first | kernel_rfl | rfl, ?_⟩; intro w hSw; obtain ⟨⟨x0, x1⟩, x2, x3, x4, ⟨x5, x6⟩, -, -⟩ := hSw; go_simp <;> (try with_reducible rfl))
                        try simp only [Act.put, List.setIfInBounds_toArray, List.set_cons_zero, List.set_cons_succ]
                        refine wpAnyH_take (i := 33) (oi := ?cf33o) (v := ?cf33v) ?cf33h (by kernel_rfl) (by kernel_rfl) (by kernel_rfl) ?cf33q ?cf33y hHeld ?cf33r
                        case cf33h => (simp only [List.getElem?_toArray, List.getElem?_cons_succ, List.getElem?_cons_zero]; rfl)
                        case cf33q => exact fun _ _ _ h => h
                        case cf33y => (refine Or.inl ⟨by first | kernel_rfl | rfl, ?_⟩; intro w hSw; obtain ⟨⟨x0, x1⟩, x2, x3, x4, ⟨x5, x6⟩, -, -⟩ := hSw; go_simp <;> (try with_reducible rfl))
                        try simp only [Act.put, List.setIfInBounds_toArray, List.set_cons_zero, List.set_cons_succ]
                        refine wpAnyH_done (by kernel_rfl) ?_ _
                        have HPH2 := Lib.hid hHeld
                        clear hHeld
                        refine calm_n ?_
                        have hgw := HGW.out.keep HPH2.out.bel
                        have hrr := hgw.r
                        have hzz := hgw.z
                        have HKO := Lib.hid (below_keeps HPH2.out.bel)
                        clear hgw
                        gi_wp2
                        exact ⟨(HKO.out.trans (KeepsOthers.setCell _ _ _)).from _, HX.out⟩
                · have hM0 : (M == 0) = false := by simpa using hM
                  have hM1 : decide (0 < M) = true := decide_eq_true (by have := HMM.out; omega)
                  have HMP := Lib.hid (show 0 < pre.length by have := HMM.out; omega)
                  have HHM := Lib.hid hm
                  have HHL := Lib.hid hlb
                  clear hm hlb hM
                  by_cases c3 : x.f = T
                  · have d3 : (x.f != T) = false := by simpa using c3
                    clear c3
                    cases hsm : v.same x with
                    | true =>
                      rw [hsm] at qn
                      clear hsm
                      refine region_round (S := (PH w2.heap.size s x kk M T Bx W)) (by kernel_rfl) (by kernel_rfl) HPH.out.drew (fun hHeld => ?_)
                      refine wpAnyH_take (i := 0) (oi := ?et1o) (v := ?et1v) ?et1h (by kernel_rfl) (by kernel_rfl) (by kernel_rfl) ?et1q ?et1y hHeld ?et1r
                      case et1h => (simp only [List.getElem?_toArray, List.getElem?_cons_zero]; rfl)
                      case et1q => exact fun _ _ _ h => h
                      case et1y => (refine Or.inl ⟨by first | kernel_rfl | rfl, ?_⟩; intro w hSw; obtain ⟨⟨x0, x1⟩, x2, x3, x4, ⟨x5, x6⟩, -, -⟩ := hSw; go_simp <;> (try with_reducible rfl))
                      try simp only [Act.put, List.setIfInBounds_toArray, List.set_cons_zero, List.set_cons_succ]
                      refine wpAnyH_take (i := 1) (oi := ?et2o) (v := ?et2v) ?et2h (by kernel_rfl) (by kernel_rfl) (by kernel_rfl) ?et2q ?et2y hHeld ?et2r
                      case et2h => (simp only [List.getElem?_toArray, List.getElem?_cons_succ, List.getElem?_cons_zero]; rfl)
                      case et2q => exact fun _ _ _ h => h
                      case et2y => (refine Or.inl ⟨by first | kernel_rfl | rfl, ?_⟩; intro w hSw; obtain ⟨⟨x0, x1⟩, x2, x3, x4, ⟨x5, x6⟩, -, -⟩ := hSw; go_simp <;> (try with_reducible rfl))
                      try simp only [Act.put, List.setIfInBounds_toArray, List.set_cons_zero, List.set_cons_succ]
                      refine wpAnyH_take (i := 2) (oi := ?et3o) (v := ?et3v) ?et3h (by kernel_rfl) (by kernel_rfl) (by kernel_rfl) ?et3q ?et3y hHeld ?et3r
                      case et3h => (simp only [List.getElem?_toArray, List.getElem?_cons_succ, List.getElem?_cons_zero]; rfl)
                      case et3q => exact fun _ _ _ h => h
                      case et3y => (refine Or.inl ⟨by first | kernel_rfl | rfl, ?_⟩; intro w hSw; obtain ⟨⟨x0, x1⟩, x2, x3, x4, ⟨x5, x6⟩, -, -⟩ := hSw; go_simp <;> (try with_reducible rfl))
                      try simp only [Act.put, List.setIfInBounds_toArray, List.set_cons_zero, List.set_cons_succ]
                      refine wpAnyH_take (i := 3) (oi := ?et4o) (v := undef) ?et4h (by kernel_rfl) (by kernel_rfl) (by kernel_rfl) ?et4q ?et4y hHeld ?et4r
                      case et4h => (simp only [List.getElem?_toArray, List.getElem?_cons_succ, List.getElem?_cons_zero]; rfl)
                      case et4q => exact fun _ _ _ h => h
                      case et4y => exact Or.inr ⟨by first | kernel_rfl | rfl, rfl⟩
                      try simp only [Act.put, List.setIfInBounds_toArray, List.set_cons_zero, List.set_cons_succ]
                      refine wpAnyH_take (i := 4) (oi := ?et5o) (v := undef) ?et5h (by kernel_rfl) (by kernel_rfl) (by kernel_rfl) ?et5q ?et5y hHeld ?et5r
                      case et5h => (simp only [List.getElem?_toArray, List.getElem?_cons_succ, List.getElem?_cons_zero]; rfl)
                      case et5q => exact fun _ _ _ h => h
                      case et5y => exact Or.inr ⟨by first | kernel_rfl | rfl, rfl⟩
                      try simp only [Act.put, List.setIfInBounds_toArray, List.set_cons_zero, List.set_cons_succ]
                      refine wpAnyH_take (i := 5) (oi := ?et6o) (v := undef) ?et6h (by kernel_rfl) (by kernel_rfl) (by kernel_rfl) ?et6q ?et6y hHeld ?et6r
                      case et6h => (simp only [List.getElem?_toArray, List.getElem?_cons_succ, List.getElem?_cons_zero]; rfl)
                      case et6q => exact fun _ _ _ h => h
                      case et6y => exact Or.inr ⟨by first | kernel_rfl | rfl, rfl⟩
                      try simp only [Act.put, List.setIfInBounds_toArray, List.set_cons_zero, List.set_cons_succ]
                      refine wpAnyH_take (i := 6) (oi := ?et7o) (v := undef) ?et7h (by kernel_rfl) (by kernel_rfl) (by kernel_rfl) ?et7q ?et7y hHeld ?et7r
                      case et7h => (simp only [List.getElem?_toArray, List.getElem?_cons_succ, List.getElem?_cons_zero]; rfl)
                      case et7q => exact fun _ _ _ h => h
                      case et7y => exact Or.inr ⟨by first | kernel_rfl | rfl, rfl⟩
                      try simp only [Act.put, List.setIfInBounds_toArray, List.set_cons_zero, List.set_cons_succ]
                      refine wpAnyH_take (i := 7) (oi := ?et8o) (v := undef) ?et8h (by kernel_rfl) (by kernel_rfl) (by kernel_rfl) ?et8q ?et8y hHeld ?et8r
                      case et8h => (simp only [List.getElem?_toArray, List.getElem?_cons_succ, List.getElem?_cons_zero]; rfl)
                      case et8q => exact fun _ _ _ h => h
                      case et8y => exact Or.inr ⟨by first | kernel_rfl | rfl, rfl⟩
                      try simp only [Act.put, List.setIfInBounds_toArray, List.set_cons_zero, List.set_cons_succ]
                      refine wpAnyH_take (i := 8) (oi := ?et9o) (v := undef) ?et9h (by kernel_rfl) (by kernel_rfl) (by kernel_rfl) ?et9q ?et9y hHeld ?et9r
                      case et9h => (simp only [List.getElem?_toArray, List.getElem?_cons_succ, List.getElem?_cons_zero]; rfl)
                      case et9q => exact fun _ _ _ h => h
                      case et9y => exact Or.inr ⟨by first | kernel_rfl | rfl, rfl⟩
                      try simp only [Act.put, List.setIfInBounds_toArray, List.set_cons_zero, List.set_cons_succ]
                      refine wpAnyH_take (i := 9) (oi := ?et10o) (v := undef) ?et10h (by kernel_rfl) (by kernel_rfl) (by kernel_rfl) ?et10q ?et10y hHeld ?et10r
                      case et10h => (simp only [List.getElem?_toArray, List.getElem?_cons_succ, List.getElem?_cons_zero]; rfl)
                      case et10q => exact fun _ _ _ h => h
                      case et10y => exact Or.inr ⟨by first | kernel_rfl | rfl, rfl⟩
                      try simp only [Act.put, List.setIfInBounds_toArray, List.set_cons_zero, List.set_cons_succ]
                      refine wpAnyH_take (i := 10) (oi := ?et11o) (v := undef) ?et11h (by kernel_rfl) (by kernel_rfl) (by kernel_rfl) ?et11q ?et11y hHeld ?et11r
                      case et11h => (simp only [List.getElem?_toArray, List.getElem?_cons_succ, List.getElem?_cons_zero]; rfl)
                      case et11q => exact fun _ _ _ h => h
                      case et11y => exact Or.inr ⟨by first | kernel_rfl | rfl, rfl⟩
                      try simp only [Act.put, List.setIfInBounds_toArray, List.set_cons_zero, List.set_cons_succ]
                      refine wpAnyH_take (i := 11) (oi := ?et12o) (v := undef) ?et12h (by kernel_rfl) (by kernel_rfl) (by kernel_rfl) ?et12q ?et12y hHeld ?et12r
                      case et12h => (simp only [List.getElem?_toArray, List.getElem?_cons_succ, List.getElem?_cons_zero]; rfl)
                      case et12q => exact fun _ _ _ h => h
                      case et12y => exact Or.inr ⟨by first | kernel_rfl | rfl, rfl⟩
                      try simp only [Act.put, List.setIfInBounds_toArray, List.set_cons_zero, List.set_cons_succ]
                      refine wpAnyH_take (i := 12) (oi := ?et13o) (v := undef) ?et13h (by kernel_rfl) (by kernel_rfl) (by kernel_rfl) ?et13q ?et13y hHeld ?et13r
                      case et13h => (simp only [List.getElem?_toArray, List.getElem?_cons_succ, List.getElem?_cons_zero]; rfl)
                      case et13q => exact fun _ _ _ h => h
                      case et13y => exact Or.inr ⟨by first | kernel_rfl | rfl, rfl⟩
                      try simp only [Act.put, List.setIfInBounds_toArray, List.set_cons_zero, List.set_cons_succ]
                      refine wpAnyH_take (i := 13) (oi := ?et14o) (v := undef) ?et14h (by kernel_rfl) (by kernel_rfl) (by kernel_rfl) ?et14q ?et14y hHeld ?et14r
                      case et14h => (simp only [List.getElem?_toArray, List.getElem?_cons_succ, List.getElem?_cons_zero]; rfl)
                      case et14q => exact fun _ _ _ h => h
                      case et14y => exact Or.inr ⟨by first | kernel_rfl | rfl, rfl⟩
                      try simp only [Act.put, List.setIfInBounds_toArray, List.set_cons_zero, List.set_cons_succ]
                      refine wpAnyH_take (i := 14) (oi := ?et15o) (v := undef) ?et15h (by kernel_rfl) (by kernel_rfl) (by kernel_rfl) ?et15q ?et15y hHeld ?et15r
                      case et15h => (simp only [List.getElem?_toArray, List.getElem?_cons_succ, List.getElem?_cons_zero]; rfl)
                      case et15q => exact fun _ _ _ h => h
                      case et15y => exact Or.inr ⟨by first | kernel_rfl | rfl, rfl⟩
                      try simp only [Act.put, List.setIfInBounds_toArray, List.set_cons_zero, List.set_cons_succ]
                      refine wpAnyH_take (i := 15) (oi := ?et16o) (v := ?et16v) ?et16h (by kernel_rfl) (by kernel_rfl) (by kernel_rfl) ?et16q ?et16y hHeld ?et16r
                      case et16h => (simp only [List.getElem?_toArray, List.getElem?_cons_succ, List.getElem?_cons_zero]; rfl)
                      case et16q => exact fun _ _ _ h => h
                      case et16y => (refine Or.inl ⟨by first | kernel_rfl | rfl, ?_⟩; intro w hSw; obtain ⟨⟨x0, x1⟩, x2, x3, x4, ⟨x5, x6⟩, -, -⟩ := hSw; go_simp <;> (try with_reducible rfl))
                      try simp only [Act.put, List.setIfInBounds_toArray, List.set_cons_zero, List.set_cons_succ]
                      refine wpAnyH_take (i := 16) (oi := ?et17o) (v := ?et17v) ?et17h (by kernel_rfl) (by kernel_rfl) (by kernel_rfl) ?et17q ?et17y hHeld ?et17r
                      case et17h => (simp only [List.getElem?_toArray, List.getElem?_cons_succ, List.getElem?_cons_zero]; rfl)
                      case et17q => exact fun _ _ _ h => h
                      case et17y => (refine Or.inl ⟨by first | kernel_rfl | rfl, ?_⟩; intro w hSw; obtain ⟨⟨x0, x1⟩, x2, x3, x4, ⟨x5, x6⟩, -, -⟩ := hSw; go_simp <;> (try with_reducible rfl))
                      try simp only [Act.put, List.setIfInBounds_toArray, List.set_cons_zero, List.set_cons_succ]
                      refine wpAnyH_take (i := 17) (oi := ?et18o) (v := ?et18v) ?et18h (by kernel_rfl) (by kernel_rfl) (by kernel_rfl) ?et18q ?et18y hHeld ?et18r
                      case et18h => (simp only [List.getElem?_toArray, List.getElem?_cons_succ, List.getElem?_cons_zero]; rfl)
                      case et18q => exact fun _ _ _ h => h
                      case et18y => (refine Or.inl ⟨by first | kernel_rfl | rfl, ?_⟩; intro w hSw; obtain ⟨⟨x0, x1⟩, x2, x3, x4, ⟨x5, x6⟩, -, -⟩ := hSw; go_simp <;> (try with_reducible rfl))
                      try simp only [Act.put, List.setIfInBounds_toArray, List.set_cons_zero, List.set_cons_succ]
                      refine wpAnyH_take (i := 18) (oi := ?et19o) (v := ?et19v) ?et19h (by kernel_rfl) (by kernel_rfl) (by kernel_rfl) ?et19q ?et19y hHeld ?et19r
                      case et19h => (simp only [List.getElem?_toArray, List.getElem?_cons_succ, List.getElem?_cons_zero]; rfl)
                      case et19q => exact fun _ _ _ h => h
                      case et19y => (refine Or.inl ⟨by first | kernel_rfl | rfl, ?_⟩; intro w hSw; obtain ⟨⟨x0, x1⟩, x2, x3, x4, ⟨x5, x6⟩, -, -⟩ := hSw; go_simp <;> (try with_reducible rfl))
                      try simp only [Act.put, List.setIfInBounds_toArray, List.set_cons_zero, List.set_cons_succ]
                      refine wpAnyH_take (i := 19) (oi := ?et20o) (v := ?et20v) ?et20h (by kernel_rfl) (by kernel_rfl) (by kernel_rfl) ?et20q ?et20y hHeld ?et20r
                      case et20h => (simp only [List.getElem?_toArray, List.getElem?_cons_succ, List.getElem?_cons_zero]; rfl)
                      case et20q => exact fun _ _ _ h => h
                      case et20y => (refine Or.inl ⟨by first | kernel_rfl | rfl, ?_⟩; intro w hSw; obtain ⟨⟨x0, x1⟩, x2, x3, x4, ⟨x5, x6⟩, -, -⟩ := hSw; go_simp <;> (try with_reducible rfl))
                      try simp only [Act.put, List.setIfInBounds_toArray, List.set_cons_zero, List.set_cons_succ]
                      refine wpAnyH_take (i := 20) (oi := ?et21o) (v := ?et21v) ?et21h (by kernel_rfl) (by kernel_rfl) (by kernel_rfl) ?et21q ?et21y hHeld ?et21r
                      case et21h => (simp only [List.getElem?_toArray, List.getElem?_cons_succ, List.getElem?_cons_zero]; rfl)
                      case et21q => exact fun _ _ _ h => h
                      case et21y => (refine Or.inl ⟨by first | kernel_rfl | rfl, ?_⟩; intro w hSw; obtain ⟨⟨x0, x1⟩, x2, x3, x4, ⟨x5, x6⟩, -, -⟩ := hSw; go_simp <;> (try with_reducible rfl))
                      try simp only [Act.put, List.setIfInBounds_toArray, List.set_cons_zero, List.set_cons_succ]
                      refine wpAnyH_take (i := 21) (oi := ?et22o) (v := ?et22v) ?et22h (by kernel_rfl) (by kernel_rfl) (by kernel_rfl) ?et22q ?et22y hHeld ?et22r
                      case et22h => (simp only [List.getElem?_toArray, List.getElem?_cons_succ, List.getElem?_cons_zero]; rfl)
                      case et22q => exact fun _ _ _ h => h
                      case et22y => (refine Or.inl ⟨by first | kernel_rfl | rfl, ?_⟩; intro w hSw; obtain ⟨⟨x0, x1⟩, x2, x3, x4, ⟨x5, x6⟩, -, -⟩ := hSw; go_simp <;> (try with_reducible rfl))
                      try simp only [Act.put, List.setIfInBounds_toArray, List.set_cons_zero, List.set_cons_succ]
                      refine wpAnyH_take (i := 22) (oi := ?et23o) (v := ?et23v) ?et23h (by kernel_rfl) (by kernel_rfl) (by kernel_rfl) ?et23q ?et23y hHeld ?et23r
                      case et23h => (simp only [List.getElem?_toArray, List.getElem?_cons_succ, List.getElem?_cons_zero]; rfl)
                      case et23q => exact fun _ _ _ h => h
                      case et23y => (refine Or.inl ⟨by first | kernel_rfl | rfl, ?_⟩; intro w hSw; obtain ⟨⟨x0, x1⟩, x2, x3, x4, ⟨x5, x6⟩, -, -⟩ := hSw; go_simp <;> (try with_reducible rfl))
                      try simp only [Act.put, List.setIfInBounds_toArray, List.set_cons_zero, List.set_cons_succ]
                      refine wpAnyH_take (i := 23) (oi := ?et24o) (v := ?et24v) ?et24h (by kernel_rfl) (by kernel_rfl) (by kernel_rfl) ?et24q ?et24y hHeld ?et24r
                      case et24h => (simp only [List.getElem?_toArray, List.getElem?_cons_succ, List.getElem?_cons_zero]; rfl)
                      case et24q => exact fun _ _ _ h => h
                      case et24y => (refine Or.inl ⟨by first | kernel_rfl | rfl, ?_⟩; intro w hSw; obtain ⟨⟨x0, x1⟩, x2, x3, x4, ⟨x5, x6⟩, -, -⟩ := hSw; go_simp <;> (try with_reducible rfl))
                      try simp only [Act.put, List.setIfInBounds_toArray, List.set_cons_zero, List.set_cons_succ]
                      refine wpAnyH_take (i := 24) (oi := ?et25o) (v := ?et25v) ?et25h (by kernel_rfl) (by kernel_rfl) (by kernel_rfl) ?et25q ?et25y hHeld ?et25r
                      case et25h => (simp only [List.getElem?_toArray, List.getElem?_cons_succ, List.getElem?_cons_zero]; rfl)
                      case et25q => exact fun _ _ _ h => h
                      case et25y => (refine Or.inl ⟨by first | kernel_rfl | rfl, ?_⟩; intro w hSw; obtain ⟨⟨x0, x1⟩, x2, x3, x4, ⟨x5, x6⟩, -, -⟩ := hSw; go_simp <;> (try with_reducible rfl))
                      try simp only [Act.put, List.setIfInBounds_toArray, List.set_cons_zero, List.set_cons_succ]
                      refine wpAnyH_take (i := 25) (oi := ?et26o) (v := ?et26v) ?et26h (by kernel_rfl) (by kernel_rfl) (by kernel_rfl) ?et26q ?et26y hHeld ?et26r
                      case et26h => (simp only [List.getElem?_toArray, List.getElem?_cons_succ, List.getElem?_cons_zero]; rfl)
                      case et26q => exact fun _ _ _ h => h
                      case et26y => (refine Or.inl ⟨by first | kernel_rfl | rfl, ?_⟩; intro w hSw; obtain ⟨⟨x0, x1⟩, x2, x3, x4, ⟨x5, x6⟩, -, -⟩ := hSw; go_simp <;> (try with_reducible rfl))
                      try simp only [Act.put, List.setIfInBounds_toArray, List.set_cons_zero, List.set_cons_succ]
                      refine wpAnyH_take (i := 26) (oi := ?et27o) (v := ?et27v) ?et27h (by kernel_rfl) (by kernel_rfl) (by kernel_rfl) ?et27q ?et27y hHeld ?et27r
                      case et27h => (simp only [List.getElem?_toArray, List.getElem?_cons_succ, List.getElem?_cons_zero]; rfl)
                      case et27q => exact fun _ _ _ h => h
                      case et27y => (refine Or.inl ⟨by first | kernel_rfl | rfl, ?_⟩; intro w hSw; obtain ⟨⟨x0, x1⟩, x2, x3, x4, ⟨x5, x6⟩, -, -⟩ := hSw; go_simp <;> (try with_reducible rfl))
                      try simp only [Act.put, List.setIfInBounds_toArray, List.set_cons_zero, List.set_cons_succ]
                      refine wpAnyH_take (i := 27) (oi := ?et28o) (v := ?et28v) ?et28h (by kernel_rfl) (by kernel_rfl) (by kernel_rfl) ?et28q ?et28y hHeld ?et28r
                      case et28h => (simp only [List.getElem?_toArray, List.getElem?_cons_succ, List.getElem?_cons_zero]; rfl)
                      case et28q => exact fun _ _ _ h => h
                      case et28y => (refine Or.inl ⟨by first | kernel_rfl | rfl, ?_⟩; intro w hSw; obtain ⟨⟨x0, x1⟩, x2, x3, x4, ⟨x5, x6⟩, -, -⟩ := hSw; go_simp <;> (try with_reducible rfl))
                      try simp only [Act.put, List.setIfInBounds_toArray, List.set_cons_zero, List.set_cons_succ]
                      refine wpAnyH_take (i := 28) (oi := ?et29o) (v := ?et29v) ?et29h (by kernel_rfl) (by kernel_rfl) (by kernel_rfl) ?et29q ?et29y hHeld ?et29r
                      case et29h => (simp only [List.getElem?_toArray, List.getElem?_cons_succ, List.getElem?_cons_zero]; rfl)
                      case et29q => exact fun _ _ _ h => h
                      case et29y => (refine Or.inl ⟨by first | kernel_rfl | rfl, ?_⟩; intro w hSw; obtain ⟨⟨x0, x1⟩, x2, x3, x4, ⟨x5, x6⟩, -, -⟩ := hSw; go_simp <;> (try with_reducible rfl))
                      try simp only [Act.put, List.setIfInBounds_toArray, List.set_cons_zero, List.set_cons_succ]
                      refine wpAnyH_take (i := 29) (oi := ?et30o) (v := ?et30v) ?et30h (by kernel_rfl) (by kernel_rfl) (by kernel_rfl) ?et30q ?et30y hHeld ?et30r
                      case et30h => (simp only [List.getElem?_toArray, List.getElem?_cons_succ, List.getElem?_cons_zero]; rfl)
                      case et30q => exact fun _ _ _ h => h
                      case et30y => (refine Or.inl ⟨by first | kernel_rfl | rfl, ?_⟩; intro w hSw; obtain ⟨⟨x0, x1⟩, x2, x3, x4, ⟨x5, x6⟩, -, -⟩ := hSw; go_simp <;> (try with_reducible rfl))
                      try simp only [Act.put, List.setIfInBounds_toArray, List.set_cons_zero, List.set_cons_succ]
                      refine wpAnyH_take (i := 31) (oi := ?et31o) (v := ?et31v) ?et31h (by kernel_rfl) (by kernel_rfl) (by kernel_rfl) ?et31q ?et31y hHeld ?et31r
                      case et31h => (simp only [List.getElem?_toArray, List.getElem?_cons_succ, List.getElem?_cons_zero]; rfl)
                      case et31q => exact fun _ _ _ h => h
                      case et31y => (refine Or.inl ⟨by first | kernel_rfl | rfl, ?_⟩; intro w hSw; obtain ⟨⟨x0, x1⟩, x2, x3, x4, ⟨x5, x6⟩, -, -⟩ := hSw; go_simp <;> (try with_reducible rfl))
                      try simp only [Act.put, List.setIfInBounds_toArray, List.set_cons_zero, List.set_cons_succ]
                      refine wpAnyH_ready (rs := [30]) (by kernel_rfl) (by simp) ?_
                      refine (AllReadyH.cons rfl (fun K hK => ?_) AllReadyH.nil)
                      go_simp
                      ((with_reducible refine (kof _ hHeld.tab).mono ?_); rintro e W2 ⟨rfl, hb2⟩)
                      refine hK.out _ _ (hHeld.keep hb2) (fun hHeld => ?_)
                      clear hK K
                      try simp only [Act.put, List.setIfInBounds_toArray, List.set_cons_zero, List.set_cons_succ]
                      refine wpAnyH_take (i := 32) (oi := ?et32o) (v := ?et32v) ?et32h (by kernel_rfl) (by kernel_rfl) (by kernel_rfl) ?et32q ?et32y hHeld ?et32r
                      case et32h => (simp only [List.getElem?_toArray, List.getElem?_cons_succ, List.getElem?_cons_zero]; rfl)
                      case et32q => exact fun _ _ _ h => h
                      case et32y => (refine Or.inl ⟨by first | kernel_rfl | rfl, ?_⟩; intro w hSw; obtain ⟨⟨x0, x1⟩, x2, x3, x4, ⟨x5, x6⟩, -, -⟩ := hSw; go_simp <;> (try with_reducible rfl))
                      try simp only [Act.put, List.setIfInBounds_toArray, List.set_cons_zero, List.set_cons_succ]
                      refine wpAnyH_take (i := 33) (oi := ?et33o) (v := ?et33v) ?et33h (by kernel_rfl) (by kernel_rfl) (by kernel_rfl) ?et33q ?et33y hHeld ?et33r
                      case et33h => (simp only [List.getElem?_toArray, List.getElem?_cons_succ, List.getElem?_cons_zero]; rfl)
                      case et33q => exact fun _ _ _ h => h
                      case et33y => (refine Or.inl ⟨by first | kernel_rfl | rfl, ?_⟩; intro w hSw; obtain ⟨⟨x0, x1⟩, x2, x3, x4, ⟨x5, x6⟩, -, -⟩ := hSw; go_simp <;> (try with_reducible rfl))
                      try simp only [Act.put, List.setIfInBounds_toArray, List.set_cons_zero, List.set_cons_succ]
                      refine wpAnyH_done (by kernel_rfl) ?_ _
                      have HPH2 := Lib.hid hHeld
                      clear hHeld
                      refine calm_n ?_
                      have HOK := Lib.hid (cont_ok (x := x) HPH2.out.bel HHM.out HHL.out HHB.out HMM.out (fun q hq => ⟨Nat.lt_of_lt_of_le (hEL q hq) HHB.out.size, (hEB q hq).1, (hEB q hq).2.1⟩))
                      have hm2 := boxed_below HHM.out HPH2.out.bel
                      have hl2 := boxed_below HHL.out HPH2.out.bel
                      have hl3 := hl2.cell
                      have hl4 := hl2.frozen
                      have hm3 := fun u => (hm2.other (B' := w2.heap.size + 1 + 1 + 1) (by omega) u).cell
                      have hm4 := fun u => (hm2.other (B' := w2.heap.size + 1 + 1 + 1) (by omega) u).frozen
                      obtain ⟨x5, x6⟩ := HPH2.out.xb
                      have hwm := HWM.out
                      clear hm2 hl2
                      gi_wp2
                      exact HOK.out
                    | false =>
                      rw [hsm] at qn
                      have HX := Lib.hid (show ¬ pre ++ [x] <+: L from fun h => by have k1 := (HSX.out h).of_; rw [HV.out] at k1; rw [Sp.same_iff.2 k1] at hsm; cases hsm)
                      clear hsm
                      refine region_round (S := (PH w2.heap.size s x kk M T Bx W)) (by kernel_rfl) (by kernel_rfl) HPH.out.drew (fun hHeld => ?_)
                      refine wpAnyH_take (i := 0) (oi := ?ef1o) (v := ?ef1v) ?ef1h (by kernel_rfl) (by kernel_rfl) (by kernel_rfl) ?ef1q ?ef1y hHeld ?ef1r
                      case ef1h => (simp only [List.getElem?_toArray, List.getElem?_cons_zero]; rfl)
                      case ef1q => exact fun _ _ _ h => h
                      case ef1y => (refine Or.inl ⟨by first | kernel_rfl | rfl, ?_⟩; intro w hSw; obtain ⟨⟨x0, x1⟩, x2, x3, x4, ⟨x5, x6⟩, -, -⟩ := hSw; go_simp <;> (try with_reducible rfl))
                      try simp only [Act.put, List.setIfInBounds_toArray, List.set_cons_zero, List.set_cons_succ]
                      refine wpAnyH_take (i := 1) (oi := ?ef2o) (v := ?ef2v) ?ef2h (by kernel_rfl) (by kernel_rfl) (by kernel_rfl) ?ef2q ?ef2y hHeld ?ef2r
                      case ef2h => (simp only [List.getElem?_toArray, List.getElem?_cons_succ, List.getElem?_cons_zero]; rfl)
                      case ef2q => exact fun _ _ _ h => h
                      case ef2y => (refine Or.inl ⟨by first | kernel_rfl | rfl, ?_⟩; intro w hSw; obtain ⟨⟨x0, x1⟩, x2, x3, x4, ⟨x5, x6⟩, -, -⟩ := hSw; go_simp <;> (try with_reducible rfl))
                      try simp only [Act.put, List.setIfInBounds_toArray, List.set_cons_zero, List.set_cons_succ]
                      refine wpAnyH_take (i := 2) (oi := ?ef3o) (v := ?ef3v) ?ef3h (by kernel_rfl) (by kernel_rfl) (by kernel_rfl) ?ef3q ?ef3y hHeld ?ef3r
                      case ef3h => (simp only [List.getElem?_toArray, List.getElem?_cons_succ, List.getElem?_cons_zero]; rfl)
                      case ef3q => exact fun _ _ _ h => h
                      case ef3y => (refine Or.inl ⟨by first | kernel_rfl | rfl, ?_⟩; intro w hSw; obtain ⟨⟨x0, x1⟩, x2, x3, x4, ⟨x5, x6⟩, -, -⟩ := hSw; go_simp <;> (try with_reducible rfl))
                      try simp only [Act.put, List.setIfInBounds_toArray, List.set_cons_zero, List.set_cons_succ]
                      refine wpAnyH_take (i := 3) (oi := ?ef4o) (v := undef) ?ef4h (by kernel_rfl) (by kernel_rfl) (by kernel_rfl) ?ef4q ?ef4y hHeld ?ef4r
                      case ef4h => (simp only [List.getElem?_toArray, List.getElem?_cons_succ, List.getElem?_cons_zero]; rfl)
                      case ef4q => exact fun _ _ _ h => h
                      case ef4y => exact Or.inr ⟨by first | kernel_rfl | rfl, rfl⟩
                      try simp only [Act.put, List.setIfInBounds_toArray, List.set_cons_zero, List.set_cons_succ]
                      refine wpAnyH_take (i := 4) (oi := ?ef5o) (v := undef) ?ef5h (by kernel_rfl) (by kernel_rfl) (by kernel_rfl) ?ef5q ?ef5y hHeld ?ef5r
                      case ef5h => (simp only [List.getElem?_toArray, List.getElem?_cons_succ, List.getElem?_cons_zero]; rfl)
                      case ef5q => exact fun _ _ _ h => h
                      case ef5y => exact Or.inr ⟨by first | kernel_rfl | rfl, rfl⟩
                      try simp only [Act.put, List.setIfInBounds_toArray, List.set_cons_zero, List.set_cons_succ]
                      refine wpAnyH_take (i := 5) (oi := ?ef6o) (v := undef) ?ef6h (by kernel_rfl) (by kernel_rfl) (by kernel_rfl) ?ef6q ?ef6y hHeld ?ef6r
                      case ef6h => (simp only [List.getElem?_toArray, List.getElem?_cons_succ, List.getElem?_cons_zero]; rfl)
                      case ef6q => exact fun _ _ _ h => h
                      case ef6y => exact Or.inr ⟨by first | kernel_rfl | rfl, rfl⟩
                      try simp only [Act.put, List.setIfInBounds_toArray, List.set_cons_zero, List.set_cons_succ]
                      refine wpAnyH_take (i := 6) (oi := ?ef7o) (v := undef) ?ef7h (by kernel_rfl) (by kernel_rfl) (by kernel_rfl) ?ef7q ?ef7y hHeld ?ef7r
                      case ef7h => (simp only [List.getElem?_toArray, List.getElem?_cons_succ, List.getElem?_cons_zero]; rfl)
                      case ef7q => exact fun _ _ _ h => h
                      case ef7y => exact Or.inr ⟨by first | kernel_rfl | rfl, rfl⟩
                      try simp only [Act.put, List.setIfInBounds_toArray, List.set_cons_zero, List.set_cons_succ]
                      refine wpAnyH_take (i := 7) (oi := ?ef8o) (v := undef) ?ef8h (by kernel_rfl) (by kernel_rfl) (by kernel_rfl) ?ef8q ?ef8y hHeld ?ef8r
                      case ef8h => (simp only [List.getElem?_toArray, List.getElem?_cons_succ, List.getElem?_cons_zero]; rfl)
                      case ef8q => exact fun _ _ _ h => h
                      case ef8y => exact Or.inr ⟨by first | kernel_rfl | rfl, rfl⟩
                      try simp only [Act.put, List.setIfInBounds_toArray, List.set_cons_zero, List.set_cons_succ]
                      refine wpAnyH_take (i := 8) (oi := ?ef9o) (v := undef) ?ef9h (by kernel_rfl) (by kernel_rfl) (by kernel_rfl) ?ef9q ?ef9y hHeld ?ef9r
                      case ef9h => (simp only [List.getElem?_toArray, List.getElem?_cons_succ, List.getElem?_cons_zero]; rfl)
                      case ef9q => exact fun _ _ _ h => h
                      case ef9y => exact Or.inr ⟨by first | kernel_rfl | rfl, rfl⟩
                      try simp only [Act.put, List.setIfInBounds_toArray, List.set_cons_zero, List.set_cons_succ]
                      refine wpAnyH_take (i := 9) (oi := ?ef10o) (v := undef) ?ef10h (by kernel_rfl) (by kernel_rfl) (by kernel_rfl) ?ef10q ?ef10y hHeld ?ef10r
                      case ef10h => (simp only [List.getElem?_toArray, List.getElem?_cons_succ, List.getElem?_cons_zero]; rfl)
                      case ef10q => exact fun _ _ _ h => h
                      case ef10y => exact Or.inr ⟨by first | kernel_rfl | rfl, rfl⟩
                      try simp only [Act.put, List.setIfInBounds_toArray, List.set_cons_zero, List.set_cons_succ]
                      refine wpAnyH_take (i := 10) (oi := ?ef11o) (v := undef) ?ef11h (by kernel_rfl) (by kernel_rfl) (by kernel_rfl) ?ef11q ?ef11y hHeld ?ef11r
                      case ef11h => (simp only [List.getElem?_toArray, List.getElem?_cons_succ, List.getElem?_cons_zero]; rfl)
                      case ef11q => exact fun _ _ _ h => h
                      case ef11y => exact Or.inr ⟨by first | kernel_rfl | rfl, rfl⟩
                      try simp only [Act.put, List.setIfInBounds_toArray, List.set_cons_zero, List.set_cons_succ]
                      refine wpAnyH_take (i := 11) (oi := ?ef12o) (v := undef) ?ef12h (by kernel_rfl) (by kernel_rfl) (by kernel_rfl) ?ef12q ?ef12y hHeld ?ef12r
                      case ef12h => (simp only [List.getElem?_toArray, List.getElem?_cons_succ, List.getElem?_cons_zero]; rfl)
                      case ef12q => exact fun _ _ _ h => h
                      case ef12y => exact Or.inr ⟨by first | kernel_rfl | rfl, rfl⟩
                      try simp only [Act.put, List.setIfInBounds_toArray, List.set_cons_zero, List.set_cons_succ]
                      refine wpAnyH_take (i := 12) (oi := ?ef13o) (v := undef) ?ef13h (by kernel_rfl) (by kernel_rfl) (by kernel_rfl) ?ef13q ?ef13y hHeld ?ef13r
                      case ef13h => (simp only [List.getElem?_toArray, List.getElem?_cons_succ, List.getElem?_cons_zero]; rfl)
                      case ef13q => exact fun _ _ _ h => h
                      case ef13y => exact Or.inr ⟨by first | kernel_rfl | rfl, rfl⟩
                      try simp only [Act.put, List.setIfInBounds_toArray, List.set_cons_zero, List.set_cons_succ]
                      refine wpAnyH_take (i := 13) (oi := ?ef14o) (v := undef) ?ef14h (by kernel_rfl) (by kernel_rfl) (by kernel_rfl) ?ef14q ?ef14y hHeld ?ef14r
                      case ef14h => (simp only [List.getElem?_toArray, List.getElem?_cons_succ, List.getElem?_cons_zero]; rfl)
                      case ef14q => exact fun _ _ _ h => h
                      case ef14y => exact Or.inr ⟨by first | kernel_rfl | rfl, rfl⟩
                      try simp only [Act.put, List.setIfInBounds_toArray, List.set_cons_zero, List.set_cons_succ]
                      refine wpAnyH_take (i := 14) (oi := ?ef15o) (v := undef) ?ef15h (by kernel_rfl) (by kernel_rfl) (by kernel_rfl) ?ef15q ?ef15y hHeld ?ef15r
                      case ef15h => (simp only [List.getElem?_toArray, List.getElem?_cons_succ, List.getElem?_cons_zero]; rfl)
                      case ef15q => exact fun _ _ _ h => h
                      case ef15y => exact Or.inr ⟨by first | kernel_rfl | rfl, rfl⟩
                      try simp only [Act.put, List.setIfInBounds_toArray, List.set_cons_zero, List.set_cons_succ]
                      refine wpAnyH_take (i := 15) (oi := ?ef16o) (v := ?ef16v) ?ef16h (by kernel_rfl) (by kernel_rfl) (by kernel_rfl) ?ef16q ?ef16y hHeld ?ef16r
                      case ef16h => (simp only [List.getElem?_toArray, List.getElem?_cons_succ, List.getElem?_cons_zero]; rfl)
                      case ef16q => exact fun _ _ _ h => h
                      case ef16y => (refine Or.inl ⟨by first | kernel_rfl | rfl, ?_⟩; intro w hSw; obtain ⟨⟨x0, x1⟩, x2, x3, x4, ⟨x5, x6⟩, -, -⟩ := hSw; go_simp <;> (try with_reducible rfl))
                      try simp only [Act.put, List.setIfInBounds_toArray, List.set_cons_zero, List.set_cons_succ]
                      refine wpAnyH_take (i := 16) (oi := ?ef17o) (v := ?ef17v) ?ef17h (by kernel_rfl) (by kernel_rfl) (by kernel_rfl) ?ef17q ?ef17y hHeld ?ef17r
                      case ef17h => (simp only [List.getElem?_toArray, List.getElem?_cons_succ, List.getElem?_cons_zero]; rfl)
                      case ef17q => exact fun _ _ _ h => h
                      case ef17y => (refine Or.inl ⟨by first | kernel_rfl | rfl, ?_⟩; intro w hSw; obtain ⟨⟨x0, x1⟩, x2, x3, x4, ⟨x5, x6⟩, -, -⟩ := hSw; go_simp <;> (try with_reducible rfl))
                      try simp only [Act.put, List.setIfInBounds_toArray, List.set_cons_zero, List.set_cons_succ]
                      refine wpAnyH_take (i := 17) (oi := ?ef18o) (v := ?ef18v) ?ef18h (by kernel_rfl) (by kernel_rfl) (by kernel_rfl) ?ef18q ?ef18y hHeld ?ef18r
                      case ef18h => (simp only [List.getElem?_toArray, List.getElem?_cons_succ, List.getElem?_cons_zero]; rfl)
                      case ef18q => exact fun _ _ _ h => h
                      case ef18y => (refine Or.inl ⟨by first | kernel_rfl | rfl, ?_⟩; intro w hSw; obtain ⟨⟨x0, x1⟩, x2, x3, x4, ⟨x5, x6⟩, -, -⟩ := hSw; go_simp <;> (try with_reducible rfl))
                      try simp only [Act.put, List.setIfInBounds_toArray, List.set_cons_zero, List.set_cons_succ]
                      refine wpAnyH_take (i := 18) (oi := ?ef19o) (v := ?ef19v) ?ef19h (by kernel_rfl) (by kernel_rfl) (by kernel_rfl) ?ef19q ?ef19y hHeld ?ef19r
                      case ef19h => (simp only [List.getElem?_toArray, List.getElem?_cons_succ, List.getElem?_cons_zero]; rfl)
                      case ef19q => exact fun _ _ _ h => h
                      case ef19y => (refine Or.inl ⟨by first | kernel_rfl | rfl, ?_⟩; intro w hSw; obtain ⟨⟨x0, x1⟩, x2, x3, x4, ⟨x5, x6⟩, -, -⟩ := hSw; go_simp <;> (try with_reducible rfl))
                      try simp only [Act.put, List.setIfInBounds_toArray, List.set_cons_zero, List.set_cons_succ]
                      refine wpAnyH_take (i := 19) (oi := ?ef20o) (v := ?ef20v) ?ef20h (by kernel_rfl) (by kernel_rfl) (by kernel_rfl) ?ef20q ?ef20y hHeld ?ef20r
                      case ef20h => (simp only [List.getElem?_toArray, List.getElem?_cons_succ, List.getElem?_cons_zero]; rfl)
                      case ef20q => exact fun _ _ _ h => h
                      case ef20y => (refine Or.inl ⟨by first | kernel_rfl | rfl, ?_⟩; intro w hSw; obtain ⟨⟨x0, x1⟩, x2, x3, x4, ⟨x5, x6⟩, -, -⟩ := hSw; go_simp <;> (try with_reducible rfl))
                      try simp only [Act.put, List.setIfInBounds_toArray, List.set_cons_zero, List.set_cons_succ]
                      refine wpAnyH_take (i := 20) (oi := ?ef21o) (v := ?ef21v) ?ef21h (by kernel_rfl) (by kernel_rfl) (by kernel_rfl) ?ef21q ?ef21y hHeld ?ef21r
                      case ef21h => (simp only [List.getElem?_toArray, List.getElem?_cons_succ, List.getElem?_cons_zero]; rfl)
                      case ef21q => exact fun _ _ _ h => h
                      case ef21y => (refine Or.inl ⟨by first | kernel_rfl | rfl, ?_⟩; intro w hSw; obtain ⟨⟨x0, x1⟩, x2, x3, x4, ⟨x5, x6⟩, -, -⟩ := hSw; go_simp <;> (try with_reducible rfl))
                      try simp only [Act.put, List.setIfInBounds_toArray, List.set_cons_zero, List.set_cons_succ]
                      refine wpAnyH_take (i := 21) (oi := ?ef22o) (v := ?ef22v) ?ef22h (by kernel_rfl) (by kernel_rfl) (by kernel_rfl) ?ef22q ?ef22y hHeld ?ef22r
                      case ef22h => (simp only [List.getElem?_toArray, List.getElem?_cons_succ, List.getElem?_cons_zero]; rfl)
                      case ef22q => exact fun _ _ _ h => h
                      case ef22y => (refine Or.inl ⟨by first | kernel_rfl | rfl, ?_⟩; intro w hSw; obtain ⟨⟨x0, x1⟩, x2, x3, x4, ⟨x5, x6⟩, -, -⟩ := hSw; go_simp <;> (try with_reducible rfl))
                      try simp only [Act.put, List.setIfInBounds_toArray, List.set_cons_zero, List.set_cons_succ]
                      refine wpAnyH_take (i := 22) (oi := ?ef23o) (v := ?ef23v) ?ef23h (by kernel_rfl) (by kernel_rfl) (by kernel_rfl) ?ef23q ?ef23y hHeld ?ef23r
                      case ef23h => (simp only [List.getElem?_toArray, List.getElem?_cons_succ, List.getElem?_cons_zero]; rfl)
                      case ef23q => exact fun _ _ _ h => h
                      case ef23y => (refine Or.inl ⟨by first | kernel_rfl | rfl, ?_⟩; intro w hSw; obtain ⟨⟨x0, x1⟩, x2, x3, x4, ⟨x5, x6⟩, -, -⟩ := hSw; go_simp <;> (try with_reducible rfl))
                      try simp only [Act.put, List.setIfInBounds_toArray, List.set_cons_zero, List.set_cons_succ]
                      refine wpAnyH_take (i := 23) (oi := ?ef24o) (v := ?ef24v) ?ef24h (by kernel_rfl) (by kernel_rfl) (by kernel_rfl) ?ef24q ?ef24y hHeld ?ef24r
                      case ef24h => (simp only [List.getElem?_toArray, List.getElem?_cons_succ, List.getElem?_cons_zero]; rfl)
                      case ef24q => exact fun _ _ _ h => h
                      case ef24y => (refine Or.inl ⟨by first | kernel_rfl | rfl, ?_⟩; intro w hSw; obtain ⟨⟨x0, x1⟩, x2, x3, x4, ⟨x5, x6⟩, -, -⟩ := hSw; go_simp <;> (try with_reducible rfl))
                      try simp only [Act.put, List.setIfInBounds_toArray, List.set_cons_zero, List.set_cons_succ]
                      refine wpAnyH_take (i := 24) (oi := ?ef25o) (v := ?ef25v) ?ef25h (by kernel_rfl) (by kernel_rfl) (by kernel_rfl) ?ef25q ?ef25y hHeld ?ef25r
                      case ef25h => (simp only [List.getElem?_toArray, List.getElem?_cons_succ, List.getElem?_cons_zero]; rfl)
                      case ef25q => exact fun _ _ _ h => h
                      case ef25y => (refine Or.inl ⟨by first | kernel_rfl | rfl, ?_⟩; intro w hSw; obtain ⟨⟨x0, x1⟩, x2, x3, x4, ⟨x5, x6⟩, -, -⟩ := hSw; go_simp <;> (try with_reducible rfl))
                      try simp only [Act.put, List.setIfInBounds_toArray, List.set_cons_zero, List.set_cons_succ]
                      refine wpAnyH_take (i := 25) (oi := ?ef26o) (v := ?ef26v) ?ef26h (by kernel_rfl) (by kernel_rfl) (by kernel_rfl) ?ef26q ?ef26y hHeld ?ef26r
                      case ef26h => (simp only [List.getElem?_toArray, List.getElem?_cons_succ, List.getElem?_cons_zero]; rfl)
                      case ef26q => exact fun _ _ _ h => h
                      case ef26y => (refine Or.inl ⟨by first | kernel_rfl | rfl, ?_⟩; intro w hSw; obtain ⟨⟨x0, x1⟩, x2, x3, x4, ⟨x5, x6⟩, -, -⟩ := hSw; go_simp <;> (try with_reducible rfl))
                      try simp only [Act.put, List.setIfInBounds_toArray, List.set_cons_zero, List.set_cons_succ]
                      refine wpAnyH_take (i := 26) (oi := ?ef27o) (v := ?ef27v) ?ef27h (by kernel_rfl) (by kernel_rfl) (by kernel_rfl) ?ef27q ?ef27y hHeld ?ef27r
                      case ef27h => (simp only [List.getElem?_toArray, List.getElem?_cons_succ, List.getElem?_cons_zero]; rfl)
                      case ef27q => exact fun _ _ _ h => h
                      case ef27y => (refine Or.inl ⟨by first | kernel_rfl | rfl, ?_⟩; intro w hSw; obtain ⟨⟨x0, x1⟩, x2, x3, x4, ⟨x5, x6⟩, -, -⟩ := hSw; go_simp <;> (try with_reducible rfl))
                      try simp only [Act.put, List.setIfInBounds_toArray, List.set_cons_zero, List.set_cons_succ]
                      refine wpAnyH_take (i := 27) (oi := ?ef28o) (v := ?ef28v) ?ef28h (by kernel_rfl) (by kernel_rfl) (by kernel_rfl) ?ef28q ?ef28y hHeld ?ef28r
                      case ef28h => (simp only [List.getElem?_toArray, List.getElem?_cons_succ, List.getElem?_cons_zero]; rfl)
                      case ef28q => exact fun _ _ _ h => h
                      case ef28y => (refine Or.inl ⟨by first | kernel_rfl | rfl, ?_⟩; intro w hSw; obtain ⟨⟨x0, x1⟩, x2, x3, x4, ⟨x5, x6⟩, -, -⟩ := hSw; go_simp <;> (try with_reducible rfl))
                      try simp only [Act.put, List.setIfInBounds_toArray, List.set_cons_zero, List.set_cons_succ]
                      refine wpAnyH_take (i := 28) (oi := ?ef29o) (v := ?ef29v) ?ef29h (by kernel_rfl) (by kernel_rfl) (by kernel_rfl) ?ef29q ?ef29y hHeld ?ef29r
                      case ef29h => (simp only [List.getElem?_toArray, List.getElem?_cons_succ, List.getElem?_cons_zero]; rfl)
                      case ef29q => exact fun _ _ _ h => h
                      case ef29y => (refine Or.inl ⟨by first | kernel_rfl | rfl, ?_⟩; intro w hSw; obtain ⟨⟨x0, x1⟩, x2, x3, x4, ⟨x5, x6⟩, -, -⟩ := hSw; go_simp <;> (try with_reducible rfl))
                      try simp only [Act.put, List.setIfInBounds_toArray, List.set_cons_zero, List.set_cons_succ]
                      refine wpAnyH_take (i := 29) (oi := ?ef30o) (v := ?ef30v) ?ef30h (by kernel_rfl) (by kernel_rfl) (by kernel_rfl) ?ef30q ?ef30y hHeld ?ef30r
                      case ef30h => (simp only [List.getElem?_toArray, List.getElem?_cons_succ, List.getElem?_cons_zero]; rfl)
                      case ef30q => exact fun _ _ _ h => h
                      case ef30y => (refine Or.inl ⟨by first | kernel_rfl | rfl, ?_⟩; intro w hSw; obtain ⟨⟨x0, x1⟩, x2, x3, x4, ⟨x5, x6⟩, -, -⟩ := hSw; go_simp <;> (try with_reducible rfl))
                      try simp only [Act.put, List.setIfInBounds_toArray, List.set_cons_zero, List.set_cons_succ]
                      refine wpAnyH_take (i := 31) (oi := ?ef31o) (v := ?ef31v) ?ef31h (by kernel_rfl) (by kernel_rfl) (by kernel_rfl) ?ef31q ?ef31y hHeld ?ef31r
                      case ef31h => (simp only [List.getElem?_toArray, List.getElem?_cons_succ, List.getElem?_cons_zero]; rfl)
                      case ef31q => exact fun _ _ _ h => h
                      case ef31y => (refine Or.inl ⟨by first | kernel_rfl | rfl, ?_⟩; intro w hSw; obtain ⟨⟨x0, x1⟩, x2, x3, x4, ⟨x5, x6⟩, -, -⟩ := hSw; go_simp <;> (try with_reducible rfl))
                      try simp only [Act.put, List.setIfInBounds_toArray, List.set_cons_zero, List.set_cons_succ]
                      refine wpAnyH_ready (rs := [30]) (by kernel_rfl) (by simp) ?_
                      refine (AllReadyH.cons rfl (fun K hK => ?_) AllReadyH.nil)
                      go_simp
                      ((with_reducible refine (kof _ hHeld.tab).mono ?_); rintro e W2 ⟨rfl, hb2⟩)
                      refine hK.out _ _ (hHeld.keep hb2) (fun hHeld => ?_)
                      clear hK K
                      try simp only [Act.put, List.setIfInBounds_toArray, List.set_cons_zero, List.set_cons_succ]
                      refine wpAnyH_take (i := 32) (oi := ?ef32o) (v := ?ef32v) ?ef32h (by kernel_rfl) (by kernel_rfl) (by kernel_rfl) ?ef32q ?ef32y hHeld ?ef32r
                      case ef32h => (simp only [List.getElem?_toArray, List.getElem?_cons_succ, List.getElem?_cons_zero]; rfl)
                      case ef32q => exact fun _ _ _ h => h
                      case ef32y => (refine Or.inl ⟨by first | kernel_rfl | rfl, ?_⟩; intro w hSw; obtain ⟨⟨x0, x1⟩, x2, x3, x4, ⟨x5, x6⟩, -, -⟩ := hSw; go_simp <;> (try with_reducible rfl))
                      try simp only [Act.put, List.setIfInBounds_toArray, List.set_cons_zero, List.set_cons_succ]
                      refine wpAnyH_take (i := 33) (oi := ?ef33o) (v := ?ef33v) ?ef33h (by kernel_rfl) (by kernel_rfl) (by kernel_rfl) ?ef33q ?ef33y hHeld ?ef33r
                      case ef33h => (simp only [List.getElem?_toArray, List.getElem?_cons_succ, List.getElem?_cons_zero]; rfl)
                      case ef33q => exact fun _ _ _ h => h
                      case ef33y => (refine Or.inl ⟨by first | kernel_rfl | rfl, ?_⟩; intro w hSw; obtain ⟨⟨x0, x1⟩, x2, x3, x4, ⟨x5, x6⟩, -, -⟩ := hSw; go_simp <;> (try with_reducible rfl))
                      try simp only [Act.put, List.setIfInBounds_toArray, List.set_cons_zero, List.set_cons_succ]
                      refine wpAnyH_done (by kernel_rfl) ?_ _
                      have HPH2 := Lib.hid hHeld
                      clear hHeld
                      refine calm_n ?_
                      have hgw := HGW.out.keep HPH2.out.bel
                      have hrr := hgw.r
                      have hzz := hgw.z
                      have HKO := Lib.hid (below_keeps HPH2.out.bel)
                      clear hgw
                      gi_wp2
                      exact ⟨(HKO.out.trans (KeepsOthers.setCell _ _ _)).from _, HX.out⟩
                  · have d3 : (x.f != T) = true := by simpa using c3
                    have HX := Lib.hid (show ¬ pre ++ [x] <+: L from fun h => by have k1 := (HSX.out h).next HMP.out; rw [HTT.out] at k1; exact c3 k1)
                    clear c3
                    refine region_round (S := (PH w2.heap.size s x kk M T Bx W)) (by kernel_rfl) (by kernel_rfl) HPH.out.drew (fun hHeld => ?_)
                    refine wpAnyH_take (i := 0) (oi := ?g1o) (v := ?g1v) ?g1h (by kernel_rfl) (by kernel_rfl) (by kernel_rfl) ?g1q ?g1y hHeld ?g1r
                    case g1h => (simp only [List.getElem?_toArray, List.getElem?_cons_zero]; rfl)
                    case g1q => exact fun _ _ _ h => h
                    case g1y => (refine Or.inl ⟨by first | kernel_rfl | rfl, ?_⟩; intro w hSw; obtain ⟨⟨x0, x1⟩, x2, x3, x4, ⟨x5, x6⟩, -, -⟩ := hSw; go_simp <;> (try with_reducible rfl))
                    try simp only [Act.put, List.setIfInBounds_toArray, List.set_cons_zero, List.set_cons_succ]
                    refine wpAnyH_take (i := 1) (oi := ?g2o) (v := ?g2v) ?g2h (by kernel_rfl) (by kernel_rfl) (by kernel_rfl) ?g2q ?g2y hHeld ?g2r
                    case g2h => (simp only [List.getElem?_toArray, List.getElem?_cons_succ, List.getElem?_cons_zero]; rfl)
                    case g2q => exact fun _ _ _ h => h
                    case g2y => (refine Or.inl ⟨by first | kernel_rfl | rfl, ?_⟩; intro w hSw; obtain ⟨⟨x0, x1⟩, x2, x3, x4, ⟨x5, x6⟩, -, -⟩ := hSw; go_simp <;> (try with_reducible rfl))
                    try simp only [Act.put, List.setIfInBounds_toArray, List.set_cons_zero, List.set_cons_succ]
                    refine wpAnyH_take (i := 2) (oi := ?g3o) (v := ?g3v) ?g3h (by kernel_rfl) (by kernel_rfl) (by kernel_rfl) ?g3q ?g3y hHeld ?g3r
                    case g3h => (simp only [List.getElem?_toArray, List.getElem?_cons_succ, List.getElem?_cons_zero]; rfl)
                    case g3q => exact fun _ _ _ h => h
                    case g3y => (refine Or.inl ⟨by first | kernel_rfl | rfl, ?_⟩; intro w hSw; obtain ⟨⟨x0, x1⟩, x2, x3, x4, ⟨x5, x6⟩, -, -⟩ := hSw; go_simp <;> (try with_reducible rfl))
                    try simp only [Act.put, List.setIfInBounds_toArray, List.set_cons_zero, List.set_cons_succ]
                    refine wpAnyH_take (i := 3) (oi := ?g4o) (v := undef) ?g4h (by kernel_rfl) (by kernel_rfl) (by kernel_rfl) ?g4q ?g4y hHeld ?g4r
                    case g4h => (simp only [List.getElem?_toArray, List.getElem?_cons_succ, List.getElem?_cons_zero]; rfl)
                    case g4q => exact fun _ _ _ h => h
                    case g4y => exact Or.inr ⟨by first | kernel_rfl | rfl, rfl⟩
                    try simp only [Act.put, List.setIfInBounds_toArray, List.set_cons_zero, List.set_cons_succ]
                    refine wpAnyH_take (i := 4) (oi := ?g5o) (v := undef) ?g5h (by kernel_rfl) (by kernel_rfl) (by kernel_rfl) ?g5q ?g5y hHeld ?g5r
                    case g5h => (simp only [List.getElem?_toArray, List.getElem?_cons_succ, List.getElem?_cons_zero]; rfl)
                    case g5q => exact fun _ _ _ h => h
                    case g5y => exact Or.inr ⟨by first | kernel_rfl | rfl, rfl⟩
                    try simp only [Act.put, List.setIfInBounds_toArray, List.set_cons_zero, List.set_cons_succ]
                    refine wpAnyH_take (i := 5) (oi := ?g6o) (v := undef) ?g6h (by kernel_rfl) (by kernel_rfl) (by kernel_rfl) ?g6q ?g6y hHeld ?g6r
                    case g6h => (simp only [List.getElem?_toArray, List.getElem?_cons_succ, List.getElem?_cons_zero]; rfl)
                    case g6q => exact fun _ _ _ h => h
                    case g6y => exact Or.inr ⟨by first | kernel_rfl | rfl, rfl⟩
                    try simp only [Act.put, List.setIfInBounds_toArray, List.set_cons_zero, List.set_cons_succ]
                    refine wpAnyH_take (i := 6) (oi := ?g7o) (v := undef) ?g7h (by kernel_rfl) (by kernel_rfl) (by kernel_rfl) ?g7q ?g7y hHeld ?g7r
                    case g7h => (simp only [List.getElem?_toArray, List.getElem?_cons_succ, List.getElem?_cons_zero]; rfl)
                    case g7q => exact fun _ _ _ h => h
                    case g7y => exact Or.inr ⟨by first | kernel_rfl | rfl, rfl⟩
                    try simp only [Act.put, List.setIfInBounds_toArray, List.set_cons_zero, List.set_cons_succ]
                    refine wpAnyH_take (i := 7) (oi := ?g8o) (v := undef) ?g8h (by kernel_rfl) (by kernel_rfl) (by kernel_rfl) ?g8q ?g8y hHeld ?g8r
                    case g8h => (simp only [List.getElem?_toArray, List.getElem?_cons_succ, List.getElem?_cons_zero]; rfl)
                    case g8q => exact fun _ _ _ h => h
                    case g8y => exact Or.inr ⟨by first | kernel_rfl | rfl, rfl⟩
                    try simp only [Act.put, List.setIfInBounds_toArray, List.set_cons_zero, List.set_cons_succ]
                    refine wpAnyH_take (i := 8) (oi := ?g9o) (v := undef) ?g9h (by kernel_rfl) (by kernel_rfl) (by kernel_rfl) ?g9q ?g9y hHeld ?g9r
                    case g9h => (simp only [List.getElem?_toArray, List.getElem?_cons_succ, List.getElem?_cons_zero]; rfl)
                    case g9q => exact fun _ _ _ h => h
                    case g9y => exact Or.inr ⟨by first | kernel_rfl | rfl, rfl⟩
                    try simp only [Act.put, List.setIfInBounds_toArray, List.set_cons_zero, List.set_cons_succ]
                    refine wpAnyH_take (i := 9) (oi := ?g10o) (v := undef) ?g10h (by kernel_rfl) (by kernel_rfl) (by kernel_rfl) ?g10q ?g10y hHeld ?g10r
                    case g10h => (simp only [List.getElem?_toArray, List.getElem?_cons_succ, List.getElem?_cons_zero]; rfl)
                    case g10q => exact fun _ _ _ h => h
                    case g10y => exact Or.inr ⟨by first | kernel_rfl | rfl, rfl⟩
                    try simp only [Act.put, List.setIfInBounds_toArray, List.set_cons_zero, List.set_cons_succ]
                    refine wpAnyH_take (i := 10) (oi := ?g11o) (v := undef) ?g11h (by kernel_rfl) (by kernel_rfl) (by kernel_rfl) ?g11q ?g11y hHeld ?g11r
                    case g11h => (simp only [List.getElem?_toArray, List.getElem?_cons_succ, List.getElem?_cons_zero]; rfl)
                    case g11q => exact fun _ _ _ h => h
                    case g11y => exact Or.inr ⟨by first | kernel_rfl | rfl, rfl⟩
                    try simp only [Act.put, List.setIfInBounds_toArray, List.set_cons_zero, List.set_cons_succ]
                    refine wpAnyH_take (i := 11) (oi := ?g12o) (v := undef) ?g12h (by kernel_rfl) (by kernel_rfl) (by kernel_rfl) ?g12q ?g12y hHeld ?g12r
                    case g12h => (simp only [List.getElem?_toArray, List.getElem?_cons_succ, List.getElem?_cons_zero]; rfl)
                    case g12q => exact fun _ _ _ h => h
                    case g12y => exact Or.inr ⟨by first | kernel_rfl | rfl, rfl⟩
                    try simp only [Act.put, List.setIfInBounds_toArray, List.set_cons_zero, List.set_cons_succ]
                    refine wpAnyH_take (i := 12) (oi := ?g13o) (v := undef) ?g13h (by kernel_rfl) (by kernel_rfl) (by kernel_rfl) ?g13q ?g13y hHeld ?g13r
                    case g13h => (simp only [List.getElem?_toArray, List.getElem?_cons_succ, List.getElem?_cons_zero]; rfl)
                    case g13q => exact fun _ _ _ h => h
                    case g13y => exact Or.inr ⟨by first | kernel_rfl | rfl, rfl⟩
                    try simp only [Act.put, List.setIfInBounds_toArray, List.set_cons_zero, List.set_cons_succ]
                    refine wpAnyH_take (i := 13) (oi := ?g14o) (v := undef) ?g14h (by kernel_rfl) (by kernel_rfl) (by kernel_rfl) ?g14q ?g14y hHeld ?g14r
                    case g14h => (simp only [List.getElem?_toArray, List.getElem?_cons_succ, List.getElem?_cons_zero]; rfl)
                    case g14q => exact fun _ _ _ h => h
                    case g14y => exact Or.inr ⟨by first | kernel_rfl | rfl, rfl⟩
                    try simp only [Act.put, List.setIfInBounds_toArray, List.set_cons_zero, List.set_cons_succ]
                    refine wpAnyH_take (i := 14) (oi := ?g15o) (v := undef) ?g15h (by kernel_rfl) (by kernel_rfl) (by kernel_rfl) ?g15q ?g15y hHeld ?g15r
                    case g15h => (simp only [List.getElem?_toArray, List.getElem?_cons_succ, List.getElem?_cons_zero]; rfl)
                    case g15q => exact fun _ _ _ h => h
                    case g15y => exact Or.inr ⟨by first | kernel_rfl | rfl, rfl⟩
                    try simp only [Act.put, List.setIfInBounds_toArray, List.set_cons_zero, List.set_cons_succ]
                    refine wpAnyH_take (i := 15) (oi := ?g16o) (v := ?g16v) ?g16h (by kernel_rfl) (by kernel_rfl) (by kernel_rfl) ?g16q ?g16y hHeld ?g16r
                    case g16h => (simp only [List.getElem?_toArray, List.getElem?_cons_succ, List.getElem?_cons_zero]; rfl)
                    case g16q => exact fun _ _ _ h => h
                    case g16y => (refine Or.inl ⟨by first | kernel_rfl | rfl, ?_⟩; intro w hSw; obtain ⟨⟨x0, x1⟩, x2, x3, x4, ⟨x5, x6⟩, -, -⟩ := hSw; go_simp <;> (try with_reducible rfl))
                    try simp only [Act.put, List.setIfInBounds_toArray, List.set_cons_zero, List.set_cons_succ]
                    refine wpAnyH_take (i := 16) (oi := ?g17o) (v := ?g17v) ?g17h (by kernel_rfl) (by kernel_rfl) (by kernel_rfl) ?g17q ?g17y hHeld ?g17r
                    case g17h => (simp only [List.getElem?_toArray, List.getElem?_cons_succ, List.getElem?_cons_zero]; rfl)
                    case g17q => exact fun _ _ _ h => h
                    case g17y => (refine Or.inl ⟨by first | kernel_rfl | rfl, ?_⟩; intro w hSw; obtain ⟨⟨x0, x1⟩, x2, x3, x4, ⟨x5, x6⟩, -, -⟩ := hSw; go_simp <;> (try with_reducible rfl))
                    try simp only [Act.put, List.setIfInBounds_toArray, List.set_cons_zero, List.set_cons_succ]
                    refine wpAnyH_take (i := 17) (oi := ?g18o) (v := ?g18v) ?g18h (by kernel_rfl) (by kernel_rfl) (by kernel_rfl) ?g18q ?g18y hHeld ?g18r
                    case g18h => (simp only [List.getElem?_toArray, List.getElem?_cons_succ, List.getElem?_cons_zero]; rfl)
                    case g18q => exact fun _ _ _ h => h
                    case g18y => (refine Or.inl ⟨by first | kernel_rfl | rfl, ?_⟩; intro w hSw; obtain ⟨⟨x0, x1⟩, x2, x3, x4, ⟨x5, x6⟩, -, -⟩ := hSw; go_simp <;> (try with_reducible rfl))
                    try simp only [Act.put, List.setIfInBounds_toArray, List.set_cons_zero, List.set_cons_succ]
                    refine wpAnyH_take (i := 18) (oi := ?g19o) (v := ?g19v) ?g19h (by kernel_rfl) (by kernel_rfl) (by kernel_rfl) ?g19q ?g19y hHeld ?g19r
                    case g19h => (simp only [List.getElem?_toArray, List.getElem?_cons_succ, List.getElem?_cons_zero]; rfl)
                    case g19q => exact fun _ _ _ h => h
                    case g19y => (refine Or.inl ⟨by first | kernel_rfl | rfl, ?_⟩; intro w hSw; obtain ⟨⟨x0, x1⟩, x2, x3, x4, ⟨x5, x6⟩, -, -⟩ := hSw; go_simp <;> (try with_reducible rfl))
                    try simp only [Act.put, List.setIfInBounds_toArray, List.set_cons_zero, List.set_cons_succ]
                    refine wpAnyH_take (i := 19) (oi := ?g20o) (v := ?g20v) ?g20h (by kernel_rfl) (by kernel_rfl) (by kernel_rfl) ?g20q ?g20y hHeld ?g20r
                    case g20h => (simp only [List.getElem?_toArray, List.getElem?_cons_succ, List.getElem?_cons_zero]; rfl)
                    case g20q => exact fun _ _ _ h => h
                    case g20y => (refine Or.inl ⟨by first | kernel_rfl | rfl, ?_⟩; intro w hSw; obtain ⟨⟨x0, x1⟩, x2, x3, x4, ⟨x5, x6⟩, -, -⟩ := hSw; go_simp <;> (try with_reducible rfl))
                    try simp only [Act.put, List.setIfInBounds_toArray, List.set_cons_zero, List.set_cons_succ]
                    refine wpAnyH_take (i := 20) (oi := ?g21o) (v := ?g21v) ?g21h (by kernel_rfl) (by kernel_rfl) (by kernel_rfl) ?g21q ?g21y hHeld ?g21r
                    case g21h => (simp only [List.getElem?_toArray, List.getElem?_cons_succ, List.getElem?_cons_zero]; rfl)
                    case g21q => exact fun _ _ _ h => h
                    case g21y => (refine Or.inl ⟨by first | kernel_rfl | rfl, ?_⟩; intro w hSw; obtain ⟨⟨x0, x1⟩, x2, x3, x4, ⟨x5, x6⟩, -, -⟩ := hSw; go_simp <;> (try with_reducible rfl))
                    try simp only [Act.put, List.setIfInBounds_toArray, List.set_cons_zero, List.set_cons_succ]
                    refine wpAnyH_take (i := 21) (oi := ?g22o) (v := ?g22v) ?g22h (by kernel_rfl) (by kernel_rfl) (by kernel_rfl) ?g22q ?g22y hHeld ?g22r
                    case g22h => (simp only [List.getElem?_toArray, List.getElem?_cons_succ, List.getElem?_cons_zero]; rfl)
                    case g22q => exact fun _ _ _ h => h
                    case g22y => (refine Or.inl ⟨by first | kernel_rfl | rfl, ?_⟩; intro w hSw; obtain ⟨⟨x0, x1⟩, x2, x3, x4, ⟨x5, x6⟩, -, -⟩ := hSw; go_simp <;> (try with_reducible rfl))
                    try simp only [Act.put, List.setIfInBounds_toArray, List.set_cons_zero, List.set_cons_succ]
                    refine wpAnyH_take (i := 22) (oi := ?g23o) (v := ?g23v) ?g23h (by kernel_rfl) (by kernel_rfl) (by kernel_rfl) ?g23q ?g23y hHeld ?g23r
                    case g23h => (simp only [List.getElem?_toArray, List.getElem?_cons_succ, List.getElem?_cons_zero]; rfl)
                    case g23q => exact fun _ _ _ h => h
                    case g23y => (refine Or.inl ⟨by first | kernel_rfl | rfl, ?_⟩; intro w hSw; obtain ⟨⟨x0, x1⟩, x2, x3, x4, ⟨x5, x6⟩, -, -⟩ := hSw; go_simp <;> (try with_reducible rfl))
                    try simp only [Act.put, List.setIfInBounds_toArray, List.set_cons_zero, List.set_cons_succ]
                    refine wpAnyH_take (i := 23) (oi := ?g24o) (v := ?g24v) ?g24h (by kernel_rfl) (by kernel_rfl) (by kernel_rfl) ?g24q ?g24y hHeld ?g24r
                    case g24h => (simp only [List.getElem?_toArray, List.getElem?_cons_succ, List.getElem?_cons_zero]; rfl)
                    case g24q => exact fun _ _ _ h => h
                    case g24y => (refine Or.inl ⟨by first | kernel_rfl | rfl, ?_⟩; intro w hSw; obtain ⟨⟨x0, x1⟩, x2, x3, x4, ⟨x5, x6⟩, -, -⟩ := hSw; go_simp <;> (try with_reducible rfl))
                    try simp only [Act.put, List.setIfInBounds_toArray, List.set_cons_zero, List.set_cons_succ]
                    refine wpAnyH_take (i := 24) (oi := ?g25o) (v := ?g25v) ?g25h (by kernel_rfl) (by kernel_rfl) (by kernel_rfl) ?g25q ?g25y hHeld ?g25r
                    case g25h => (simp only [List.getElem?_toArray, List.getElem?_cons_succ, List.getElem?_cons_zero]; rfl)
                    case g25q => exact fun _ _ _ h => h
                    case g25y => (refine Or.inl ⟨by first | kernel_rfl | rfl, ?_⟩; intro w hSw; obtain ⟨⟨x0, x1⟩, x2, x3, x4, ⟨x5, x6⟩, -, -⟩ := hSw; go_simp <;> (try with_reducible rfl))
                    try simp only [Act.put, List.setIfInBounds_toArray, List.set_cons_zero, List.set_cons_succ]
                    refine wpAnyH_take (i := 25) (oi := ?g26o) (v := ?g26v) ?g26h (by kernel_rfl) (by kernel_rfl) (by kernel_rfl) ?g26q ?g26y hHeld ?g26r
                    case g26h => (simp only [List.getElem?_toArray, List.getElem?_cons_succ, List.getElem?_cons_zero]; rfl)
                    case g26q => exact fun _ _ _ h => h
                    case g26y => (refine Or.inl ⟨by first | kernel_rfl | rfl, ?_⟩; intro w hSw; obtain ⟨⟨x0, x1⟩, x2, x3, x4, ⟨x5, x6⟩, -, -⟩ := hSw; go_simp <;> (try with_reducible rfl))
                    try simp only [Act.put, List.setIfInBounds_toArray, List.set_cons_zero, List.set_cons_succ]
                    refine wpAnyH_take (i := 26) (oi := ?g27o) (v := ?g27v) ?g27h (by kernel_rfl) (by kernel_rfl) (by kernel_rfl) ?g27q ?g27y hHeld ?g27r
                    case g27h => (simp only [List.getElem?_toArray, List.getElem?_cons_succ, List.getElem?_cons_zero]; rfl)
                    case g27q => exact fun _ _ _ h => h
                    case g27y => (refine Or.inl ⟨by first | kernel_rfl | rfl, ?_⟩; intro w hSw; obtain ⟨⟨x0, x1⟩, x2, x3, x4, ⟨x5, x6⟩, -, -⟩ := hSw; go_simp <;> (try with_reducible rfl))
                    try simp only [Act.put, List.setIfInBounds_toArray, List.set_cons_zero, List.set_cons_succ]
                    refine wpAnyH_take (i := 27) (oi := ?g28o) (v := undef) ?g28h (by kernel_rfl) (by kernel_rfl) (by kernel_rfl) ?g28q ?g28y hHeld ?g28r
                    case g28h => (simp only [List.getElem?_toArray, List.getElem?_cons_succ, List.getElem?_cons_zero]; rfl)
                    case g28q => exact fun _ _ _ h => h
                    case g28y => exact Or.inr ⟨by first | kernel_rfl | rfl, rfl⟩
                    try simp only [Act.put, List.setIfInBounds_toArray, List.set_cons_zero, List.set_cons_succ]
                    refine wpAnyH_take (i := 28) (oi := ?g29o) (v := undef) ?g29h (by kernel_rfl) (by kernel_rfl) (by kernel_rfl) ?g29q ?g29y hHeld ?g29r
                    case g29h => (simp only [List.getElem?_toArray, List.getElem?_cons_succ, List.getElem?_cons_zero]; rfl)
                    case g29q => exact fun _ _ _ h => h
                    case g29y => exact Or.inr ⟨by first | kernel_rfl | rfl, rfl⟩
                    try simp only [Act.put, List.setIfInBounds_toArray, List.set_cons_zero, List.set_cons_succ]
                    refine wpAnyH_take (i := 29) (oi := ?g30o) (v := undef) ?g30h (by kernel_rfl) (by kernel_rfl) (by kernel_rfl) ?g30q ?g30y hHeld ?g30r
                    case g30h => (simp only [List.getElem?_toArray, List.getElem?_cons_succ, List.getElem?_cons_zero]; rfl)
                    case g30q => exact fun _ _ _ h => h
                    case g30y => exact Or.inr ⟨by first | kernel_rfl | rfl, rfl⟩
                    try simp only [Act.put, List.setIfInBounds_toArray, List.set_cons_zero, List.set_cons_succ]
                    refine wpAnyH_take (i := 30) (oi := ?g31o) (v := undef) ?g31h (by kernel_rfl) (by kernel_rfl) (by kernel_rfl) ?g31q ?g31y hHeld ?g31r
                    case g31h => (simp only [List.getElem?_toArray, List.getElem?_cons_succ, List.getElem?_cons_zero]; rfl)
                    case g31q => exact fun _ _ _ h => h
                    case g31y => exact Or.inr ⟨by first | kernel_rfl | rfl, rfl⟩
                    try simp only [Act.put, List.setIfInBounds_toArray, List.set_cons_zero, List.set_cons_succ]
                    refine wpAnyH_take (i := 31) (oi := ?g32o) (v := undef) ?g32h (by kernel_rfl) (by kernel_rfl) (by kernel_rfl) ?g32q ?g32y hHeld ?g32r
                    case g32h => (simp only [List.getElem?_toArray, List.getElem?_cons_succ, List.getElem?_cons_zero]; rfl)
                    case g32q => exact fun _ _ _ h => h
                    case g32y => exact Or.inr ⟨by first | kernel_rfl | rfl, rfl⟩
                    try simp only [Act.put, List.setIfInBounds_toArray, List.set_cons_zero, List.set_cons_succ]
                    refine wpAnyH_take (i := 32) (oi := ?g33o) (v := undef) ?g33h (by kernel_rfl) (by kernel_rfl) (by kernel_rfl) ?g33q ?g33y hHeld ?g33r
                    case g33h => (simp only [List.getElem?_toArray, List.getElem?_cons_succ, List.getElem?_cons_zero]; rfl)
                    case g33q => exact fun _ _ _ h => h
                    case g33y => exact Or.inr ⟨by first | kernel_rfl | rfl, rfl⟩
                    try simp only [Act.put, List.setIfInBounds_toArray, List.set_cons_zero, List.set_cons_succ]
                    refine wpAnyH_take (i := 33) (oi := ?g34o) (v := ?g34v) ?g34h (by kernel_rfl) (by kernel_rfl) (by kernel_rfl) ?g34q ?g34y hHeld ?g34r
                    case g34h => (simp only [List.getElem?_toArray, List.getElem?_cons_succ, List.getElem?_cons_zero]; rfl)
                    case g34q => exact fun _ _ _ h => h
                    case g34y => (refine Or.inl ⟨by first | kernel_rfl | rfl, ?_⟩; intro w hSw; obtain ⟨⟨x0, x1⟩, x2, x3, x4, ⟨x5, x6⟩, -, -⟩ := hSw; go_simp <;> (try with_reducible rfl))
                    try simp only [Act.put, List.setIfInBounds_toArray, List.set_cons_zero, List.set_cons_succ]
                    refine wpAnyH_done (by kernel_rfl) ?_ _
                    have HPH2 := Lib.hid hHeld
                    clear hHeld
                    refine calm_n ?_
                    have hgw := HGW.out.keep HPH2.out.bel
                    have hrr := hgw.r
                    have hzz := hgw.z
                    have HKO := Lib.hid (below_keeps HPH2.out.bel)
                    clear hgw
                    gi_wp2
                    exact ⟨(HKO.out.trans (KeepsOthers.setCell _ _ _)).from _, HX.out⟩
              case done =>
                rintro D ys W hD hys ⟨hm, hl, hB⟩ hK
                have e : ys = L := by rw [← HLL.out]; exact hys
                subst e
                exact hrest D W ⟨HG5.out.upto hB (by omega) (HE.out.tab.below hB (by have := hT.room; omega)), under HS5.out hB (by omega), (hB.cell (p := ⟨w2.heap.size + 1, 0, none⟩) (by show w2.heap.size + 1 < _; omega)).trans HK5.out, hm.cell, hl.cell, hK, by omega⟩
              case stop =>
                rintro D c pre W hD hpre hx hK
                exact absurd (by rw [← HLL.out]; exact hpre) hx
theorem walk (t fr q0 q1 : Int) (w : World) (ht : -9223372036854775808 ≤ t ∧ t ≤ 9223372036854775807) (hf : -9223372036854775808 ≤ fr ∧ fr ≤ 9223372036854775807) (hq0 : -9223372036854775808 ≤ q0 ∧ q0 ≤ 9223372036854775807) (hq1 : -9223372036854775808 ≤ q1 ∧ q1 ≤ 9223372036854775807) (hT : Tab w) :
    Calls Tryd.prog 6 #[.int .i64 t, .int .i64 fr, .agg #[.int .i64 q0, .int .i64 q1]] w fun e w' => e = .returned (.bool true) ∧ Below w.heap.size w w' := callsIn_wide.1 (inside t fr q0 q1 w ht hf hq0 hq1 hT)
end Go.Proofs.YtdkenokjdiamhaaDoor.windowParts
