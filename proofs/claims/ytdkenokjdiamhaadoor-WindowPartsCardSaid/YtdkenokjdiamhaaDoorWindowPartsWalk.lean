/- WindowParts' walk. -/
import Derived.RangeFuncNested
import Derived.RangeFuncBox
import Derived.RangeFuncLeaves
import Derived.RangeFuncCalls
import Derived.Shelf.Abstract
import Derived.WalkKit
import Derived.OwnWalkIn
import Derived.TacticsInMore
import Derived.LoopNIn
import Derived.LoopIn
import Derived.Maps.AppendAt
import Derived.Test.YtdkenokjdiamhaaDoorWindowEachP
import Derived.Test.YtdkenokjdiamhaaDoorWindowAwake
import Derived.Test.YtdkenokjdiamhaaDoorWindowArgs
import Derived.Test.YtdkenokjdiamhaaDoorWindowRound
import Derived.Test.YtdkenokjdiamhaaDoorWindowPartsMath
import Derived.Test.YtdkenokjdiamhaaDoorWindowOfAny
import Derived.Deep.RegionHeld
import Derived.Deep.CutRange
import Derived.Test.YtdkenokjdiamhaaDoorWindowPartsHeld
set_option maxRecDepth 20000
namespace Go.Proofs.YtdkenokjdiamhaaDoor.windowParts
open Go.RowKit Go.Shelf

attribute [local go_sem] Oper.semAt_some
set_option maxHeartbeats 8000000 in
theorem inside (t fr q0 q1 : Int) (w : World) (ht : -9223372036854775808 ≤ t ∧ t ≤ 9223372036854775807) (hf : -9223372036854775808 ≤ fr ∧ fr ≤ 9223372036854775807) (hq0 : -9223372036854775808 ≤ q0 ∧ q0 ≤ 9223372036854775807) (hq1 : -9223372036854775808 ≤ q1 ∧ q1 ≤ 9223372036854775807) (hT : Tab w) :
    CallsIn Fence.wide 9 Tryd.prog 6 #[.int .i64 t, .int .i64 fr, .agg #[.int .i64 q0, .int .i64 q1]] w fun e w' => e = .returned (.bool true) ∧ Below w.heap.size w w' := by
  have HG0 := Lib.hid (G1.new w q0 q1 hT)
  have k0 := awake_is _ HG0.out.tab
  have hRl : Fence.wide.round = none := rfl
  have hF1 : Fence.wide.fn 10 := trivial
  have hF2 : Fence.wide.fn 17 := trivial
  have hF3 : Fence.wide.fn 15 := trivial
  have hF4 : Fence.wide.fn 25 := trivial
  have hF5 : Fence.wide.fn 27 := trivial
  have hF6 : Fence.wide.fn 23 := trivial
  refine callsIn_of_wp_marks Tryd.func6 rfl trivial ?_ hRl
  simp only [Tryd.ntmps6, List.size_toArray, List.length_cons, List.length_nil, Nat.reduceAdd, Nat.reduceSub, Array.replicate_succ, Array.replicate_zero, List.push_toArray, List.append_toArray, List.nil_append, List.cons_append]
  by_cases ht0 : t < 0
  · gi_wp2_with (gi_at_call 10; (refine callsIn_wide.2 (k0.mono ?_)); rintro e w1 ⟨rfl, hb⟩; (have H1 := Lib.hid (HG0.out.keep hb)); (have h1 := H1.out); (obtain ⟨-, -, hr1, hz1, -, -, hs1⟩ := h1); clear hb)
    exact fin_early _ H1.out.bel (by omega) (World.cell?_setCell_same _ _ _ hr1) rfl rfl
  · by_cases ht1 : 1099511627776 < t
    · gi_wp2_with (gi_at_call 10; (refine callsIn_wide.2 (k0.mono ?_)); rintro e w1 ⟨rfl, hb⟩; (have H1 := Lib.hid (HG0.out.keep hb)); (have h1 := H1.out); (obtain ⟨-, -, hr1, hz1, -, -, hs1⟩ := h1); clear hb)
      exact fin_early _ H1.out.bel (by omega) (World.cell?_setCell_same _ _ _ hr1) rfl rfl
    · gi_wp2_with (gi_at_call 10; (refine callsIn_wide.2 (k0.mono ?_)); rintro e w1 ⟨rfl, hb⟩; (have H1 := Lib.hid (HG0.out.keep hb)); (have h1 := H1.out); (obtain ⟨-, -, hr1, hz1, -, -, hs1⟩ := h1); clear hb)
      gi_loopw [8] (fun i wr => ∃ k : Nat, i = .int .i64 (k : Int) ∧ k ≤ 4 ∧ Below w1.heap.size w1 wr) (fun i _ => 4 - (intOf i).toNat)
      case atStart => exact ⟨0, rfl, by omega, Below.refl _ _⟩
      case round =>
        obtain ⟨k, rfl, hk, hBr⟩ := hrel
        obtain ⟨w2, hw2⟩ : ∃ x, x = wr := ⟨_, rfl⟩
        subst hw2
        have H2 := Lib.hid (H1.out.keep hBr)
        have HB2 := Lib.hid hBr
        clear hBr
        by_cases hk4 : k < 4
        · have hk4i : (k : Int) < 4 := by omega
          have hwk : IntKind.i64.wrap ((k : Int) + 1) = (k : Int) + 1 := by rw [IntKind.wrap_i64]; omega
          have hok := win_ok (t := t) (k := (k : Int)) (by omega) (by omega)
          have hnx := fun h => win_next (t := t) (k := (k : Int)) (by omega) h
          obtain ⟨p, hp⟩ : ∃ p, ofI t (k : Int) = p := ⟨_, rfl⟩
          obtain ⟨v, hv⟩ : ∃ v, ofI t ((k : Int) + 1) = v := ⟨_, rfl⟩
          obtain ⟨Wd, hWd⟩ : ∃ Wd, wid (k : Int) = Wd := ⟨_, rfl⟩
          have hw4 := tier_wid (k := (k : Int)) (by omega)
          obtain ⟨o1, o2, o3, o4, o5, o6, o7⟩ := hok
          rw [hp] at o1 o2 o3 o4 o5 o6 o7
          rw [hWd] at o5 hw4
          rw [hp, hv] at hnx
          have kof := fun W h => of_is t (k : Int) p W h ht (Lib.hid hp)
          have kof2 := fun W h => of_is t ((k : Int) + 1) v W h ht (Lib.hid hv)
          have kw := fun W h => width_is (k : Int) Wd W h (Lib.hid hWd)
          have ks1 := fun W h => start_is p.f (k : Int) p.f W h (by omega) (Lib.hid o6)
          have ks2 := fun W h => start_is (p.t - 1) (k : Int) p.f W h (by omega) (Lib.hid o7)
          have HGG := Lib.hid (show decide (t < p.f) = false ∧ decide (p.t ≤ t) = false from ⟨decide_eq_false (by omega), decide_eq_false (by omega)⟩)
          have hW1 : ¬ Wd = 0 := by omega
          have hW0 : (Wd == 0) = false := by simp; omega
          have hmd : p.f.tmod Wd = 0 := by rw [(mod_facts (w := Wd) o3 (by omega)).1]; exact o5
          have hw3 : IntKind.i64.wrap (p.t - 1) = p.t - 1 := by rw [IntKind.wrap_i64]; omega
          have hpp : (p.f != p.f) = false := by simp
          have HNX := Lib.hid hnx
          unfold Sp.v at kof kof2
          clear hp hv hWd hw4 o1 o2 o3 o4 o5 o6 o7 hnx k0
          by_cases hk3 : k < 3
          · have hk3i : (k : Int) < 3 := by omega
            have hn := HNX.out (by omega)
            have HGN := Lib.hid (show decide (p.f < v.f) = false ∧ decide (v.t < p.t) = false ∧ decide ((k : Int) < 3) = true from ⟨decide_eq_false (by omega), decide_eq_false (by omega), decide_eq_true hk3i⟩)
            clear hn HNX
            gi_wp2_with (gi_at_call 15; first
              | ((refine callsIn_wide.2 ((kof2 _ H3.out.tab).mono ?_)); rintro e w4 ⟨rfl, hb⟩; (have HPS := Lib.hid ((HS3.out.below hb).below ((Below.refl _ _).alloc (Nat.le_refl _) (.cells #[.int .i64 v.f, .int .i64 v.t] 26)))); (have H4 := Lib.hid ((H3.out.keep hb).keep ((Below.refl _ _).alloc (Nat.le_refl _) (.cells #[.int .i64 v.f, .int .i64 v.t] 26)))); (have HB4 := Lib.hid (bel_next (bel_next HB3.out hb) ((Below.refl _ _).alloc (Nat.le_refl _) (.cells #[.int .i64 v.f, .int .i64 v.t] 26)))); (have HP9 := Lib.hid (P9.mk (w := w1) HPS.out (SpAt.new w4 v 26) H4.out.tab HB4.out)); clear hb)
              | ((refine callsIn_wide.2 ((kof _ H2.out.tab).mono ?_)); rintro e w3 ⟨rfl, hb⟩; (have H3 := Lib.hid ((H2.out.keep hb).keep ((Below.refl _ _).alloc (Nat.le_refl _) (.cells #[.int .i64 p.f, .int .i64 p.t] 26)))); (have HS3 := Lib.hid (SpAt.new w3 p 26)); (have HB3 := Lib.hid (bel_next (bel_next HB2.out hb) ((Below.refl _ _).alloc (Nat.le_refl _) (.cells #[.int .i64 p.f, .int .i64 p.t] 26)))); clear hb))
            refine wide_of ?_
            obtain ⟨g1, g2⟩ := HGG.out
            obtain ⟨g3, g4, g5⟩ := HGN.out
            clear hk3i
            as_aux_lemma =>
            refine wp_region_held_drew (S := (P9 w1 w3.heap.size w4.heap.size p v)) (by kernel_rfl) HP9.out.drew (fun hHeld => ?_)
            refine wpAnyH_take (i := 0) (oi := ?h1o) (v := ?h1v) ?h1h (by kernel_rfl) (by kernel_rfl) (by kernel_rfl) ?h1q ?h1y hHeld ?h1r
            case h1h => (simp only [List.getElem?_toArray, List.getElem?_cons_zero]; rfl)
            case h1q => exact fun _ _ _ h => h
            case h1y => (refine Or.inl ⟨by first | kernel_rfl | rfl, ?_⟩; intro w hSw; obtain ⟨⟨x0, x1⟩, ⟨y0, y1⟩, -, -⟩ := hSw; go_simp <;> (try with_reducible rfl))
            try simp only [Act.put, List.setIfInBounds_toArray, List.set_cons_zero, List.set_cons_succ]
            refine wpAnyH_take (i := 1) (oi := ?h2o) (v := ?h2v) ?h2h (by kernel_rfl) (by kernel_rfl) (by kernel_rfl) ?h2q ?h2y hHeld ?h2r
            case h2h => (simp only [List.getElem?_toArray, List.getElem?_cons_succ, List.getElem?_cons_zero]; rfl)
            case h2q => exact fun _ _ _ h => h
            case h2y => (refine Or.inl ⟨by first | kernel_rfl | rfl, ?_⟩; intro w hSw; obtain ⟨⟨x0, x1⟩, ⟨y0, y1⟩, -, -⟩ := hSw; go_simp <;> (try with_reducible rfl))
            try simp only [Act.put, List.setIfInBounds_toArray, List.set_cons_zero, List.set_cons_succ]
            refine wpAnyH_take (i := 2) (oi := ?h3o) (v := ?h3v) ?h3h (by kernel_rfl) (by kernel_rfl) (by kernel_rfl) ?h3q ?h3y hHeld ?h3r
            case h3h => (simp only [List.getElem?_toArray, List.getElem?_cons_succ, List.getElem?_cons_zero]; rfl)
            case h3q => exact fun _ _ _ h => h
            case h3y => (refine Or.inl ⟨by first | kernel_rfl | rfl, ?_⟩; intro w hSw; obtain ⟨⟨x0, x1⟩, ⟨y0, y1⟩, -, -⟩ := hSw; go_simp <;> (try with_reducible rfl))
            try simp only [Act.put, List.setIfInBounds_toArray, List.set_cons_zero, List.set_cons_succ]
            refine wpAnyH_take (i := 3) (oi := ?h4o) (v := ?h4v) ?h4h (by kernel_rfl) (by kernel_rfl) (by kernel_rfl) ?h4q ?h4y hHeld ?h4r
            case h4h => (simp only [List.getElem?_toArray, List.getElem?_cons_succ, List.getElem?_cons_zero]; rfl)
            case h4q => exact fun _ _ _ h => h
            case h4y => (refine Or.inl ⟨by first | kernel_rfl | rfl, ?_⟩; intro w hSw; obtain ⟨⟨x0, x1⟩, ⟨y0, y1⟩, -, -⟩ := hSw; go_simp <;> (try with_reducible rfl))
            try simp only [Act.put, List.setIfInBounds_toArray, List.set_cons_zero, List.set_cons_succ]
            refine wpAnyH_take (i := 4) (oi := ?h5o) (v := ?h5v) ?h5h (by kernel_rfl) (by kernel_rfl) (by kernel_rfl) ?h5q ?h5y hHeld ?h5r
            case h5h => (simp only [List.getElem?_toArray, List.getElem?_cons_succ, List.getElem?_cons_zero]; rfl)
            case h5q => exact fun _ _ _ h => h
            case h5y => (refine Or.inl ⟨by first | kernel_rfl | rfl, ?_⟩; intro w hSw; obtain ⟨⟨x0, x1⟩, ⟨y0, y1⟩, -, -⟩ := hSw; go_simp <;> (try with_reducible rfl))
            try simp only [Act.put, List.setIfInBounds_toArray, List.set_cons_zero, List.set_cons_succ]
            refine wpAnyH_take (i := 5) (oi := ?h6o) (v := ?h6v) ?h6h (by kernel_rfl) (by kernel_rfl) (by kernel_rfl) ?h6q ?h6y hHeld ?h6r
            case h6h => (simp only [List.getElem?_toArray, List.getElem?_cons_succ, List.getElem?_cons_zero]; rfl)
            case h6q => exact fun _ _ _ h => h
            case h6y => (refine Or.inl ⟨by first | kernel_rfl | rfl, ?_⟩; intro w hSw; obtain ⟨⟨x0, x1⟩, ⟨y0, y1⟩, -, -⟩ := hSw; go_simp <;> (try with_reducible rfl))
            try simp only [Act.put, List.setIfInBounds_toArray, List.set_cons_zero, List.set_cons_succ]
            refine wpAnyH_take (i := 6) (oi := ?h7o) (v := ?h7v) ?h7h (by kernel_rfl) (by kernel_rfl) (by kernel_rfl) ?h7q ?h7y hHeld ?h7r
            case h7h => (simp only [List.getElem?_toArray, List.getElem?_cons_succ, List.getElem?_cons_zero]; rfl)
            case h7q => exact fun _ _ _ h => h
            case h7y => (refine Or.inl ⟨by first | kernel_rfl | rfl, ?_⟩; intro w hSw; obtain ⟨⟨x0, x1⟩, ⟨y0, y1⟩, -, -⟩ := hSw; go_simp <;> (try with_reducible rfl))
            try simp only [Act.put, List.setIfInBounds_toArray, List.set_cons_zero, List.set_cons_succ]
            refine wpAnyH_take (i := 7) (oi := ?h8o) (v := ?h8v) ?h8h (by kernel_rfl) (by kernel_rfl) (by kernel_rfl) ?h8q ?h8y hHeld ?h8r
            case h8h => (simp only [List.getElem?_toArray, List.getElem?_cons_succ, List.getElem?_cons_zero]; rfl)
            case h8q => exact fun _ _ _ h => h
            case h8y => (refine Or.inl ⟨by first | kernel_rfl | rfl, ?_⟩; intro w hSw; obtain ⟨⟨x0, x1⟩, ⟨y0, y1⟩, -, -⟩ := hSw; go_simp <;> (try with_reducible rfl))
            try simp only [Act.put, List.setIfInBounds_toArray, List.set_cons_zero, List.set_cons_succ]
            refine wpAnyH_take (i := 8) (oi := ?h9o) (v := ?h9v) ?h9h (by kernel_rfl) (by kernel_rfl) (by kernel_rfl) ?h9q ?h9y hHeld ?h9r
            case h9h => (simp only [List.getElem?_toArray, List.getElem?_cons_succ, List.getElem?_cons_zero]; rfl)
            case h9q => exact fun _ _ _ h => h
            case h9y => (refine Or.inl ⟨by first | kernel_rfl | rfl, ?_⟩; intro w hSw; obtain ⟨⟨x0, x1⟩, ⟨y0, y1⟩, -, -⟩ := hSw; go_simp <;> (try with_reducible rfl))
            try simp only [Act.put, List.setIfInBounds_toArray, List.set_cons_zero, List.set_cons_succ]
            refine wpAnyH_take (i := 9) (oi := ?h10o) (v := ?h10v) ?h10h (by kernel_rfl) (by kernel_rfl) (by kernel_rfl) ?h10q ?h10y hHeld ?h10r
            case h10h => (simp only [List.getElem?_toArray, List.getElem?_cons_succ, List.getElem?_cons_zero]; rfl)
            case h10q => exact fun _ _ _ h => h
            case h10y => (refine Or.inl ⟨by first | kernel_rfl | rfl, ?_⟩; intro w hSw; obtain ⟨⟨x0, x1⟩, ⟨y0, y1⟩, -, -⟩ := hSw; go_simp <;> (try with_reducible rfl))
            try simp only [Act.put, List.setIfInBounds_toArray, List.set_cons_zero, List.set_cons_succ]
            refine wpAnyH_take (i := 10) (oi := ?h11o) (v := ?h11v) ?h11h (by kernel_rfl) (by kernel_rfl) (by kernel_rfl) ?h11q ?h11y hHeld ?h11r
            case h11h => (simp only [List.getElem?_toArray, List.getElem?_cons_succ, List.getElem?_cons_zero]; rfl)
            case h11q => exact fun _ _ _ h => h
            case h11y => (refine Or.inl ⟨by first | kernel_rfl | rfl, ?_⟩; intro w hSw; obtain ⟨⟨x0, x1⟩, ⟨y0, y1⟩, -, -⟩ := hSw; go_simp <;> (try with_reducible rfl))
            try simp only [Act.put, List.setIfInBounds_toArray, List.set_cons_zero, List.set_cons_succ]
            refine wpAnyH_take (i := 11) (oi := ?h12o) (v := ?h12v) ?h12h (by kernel_rfl) (by kernel_rfl) (by kernel_rfl) ?h12q ?h12y hHeld ?h12r
            case h12h => (simp only [List.getElem?_toArray, List.getElem?_cons_succ, List.getElem?_cons_zero]; rfl)
            case h12q => exact fun _ _ _ h => h
            case h12y => (refine Or.inl ⟨by first | kernel_rfl | rfl, ?_⟩; intro w hSw; obtain ⟨⟨x0, x1⟩, ⟨y0, y1⟩, -, -⟩ := hSw; go_simp <;> (try with_reducible rfl))
            try simp only [Act.put, List.setIfInBounds_toArray, List.set_cons_zero, List.set_cons_succ]
            refine wpAnyH_take (i := 12) (oi := ?h13o) (v := ?h13v) ?h13h (by kernel_rfl) (by kernel_rfl) (by kernel_rfl) ?h13q ?h13y hHeld ?h13r
            case h13h => (simp only [List.getElem?_toArray, List.getElem?_cons_succ, List.getElem?_cons_zero]; rfl)
            case h13q => exact fun _ _ _ h => h
            case h13y => (refine Or.inl ⟨by first | kernel_rfl | rfl, ?_⟩; intro w hSw; obtain ⟨⟨x0, x1⟩, ⟨y0, y1⟩, -, -⟩ := hSw; go_simp <;> (try with_reducible rfl))
            try simp only [Act.put, List.setIfInBounds_toArray, List.set_cons_zero, List.set_cons_succ]
            refine wpAnyH_take (i := 13) (oi := ?h14o) (v := ?h14v) ?h14h (by kernel_rfl) (by kernel_rfl) (by kernel_rfl) ?h14q ?h14y hHeld ?h14r
            case h14h => (simp only [List.getElem?_toArray, List.getElem?_cons_succ, List.getElem?_cons_zero]; rfl)
            case h14q => exact fun _ _ _ h => h
            case h14y => (refine Or.inl ⟨by first | kernel_rfl | rfl, ?_⟩; intro w hSw; obtain ⟨⟨x0, x1⟩, ⟨y0, y1⟩, -, -⟩ := hSw; go_simp <;> (try with_reducible rfl))
            try simp only [Act.put, List.setIfInBounds_toArray, List.set_cons_zero, List.set_cons_succ]
            refine wpAnyH_ready (rs := [14]) (by kernel_rfl) (by simp) ?_
            refine (AllReadyH.cons rfl (fun K hK => ?_) AllReadyH.nil)
            go_simp
            ((with_reducible refine (kw _ hHeld.tab).mono ?_); rintro e w' ⟨rfl, rfl⟩)
            refine hK.out _ _ (hHeld) (fun hHeld => ?_)
            clear hK K
            try simp only [Act.put, List.setIfInBounds_toArray, List.set_cons_zero, List.set_cons_succ]
            refine wpAnyH_take (i := 15) (oi := ?h15o) (v := ?h15v) ?h15h (by kernel_rfl) (by kernel_rfl) (by kernel_rfl) ?h15q ?h15y hHeld ?h15r
            case h15h => (simp only [List.getElem?_toArray, List.getElem?_cons_succ, List.getElem?_cons_zero]; rfl)
            case h15q => exact fun _ _ _ h => h
            case h15y => (refine Or.inl ⟨by first | kernel_rfl | rfl, ?_⟩; intro w hSw; obtain ⟨⟨x0, x1⟩, ⟨y0, y1⟩, -, -⟩ := hSw; go_simp <;> (try with_reducible rfl))
            try simp only [Act.put, List.setIfInBounds_toArray, List.set_cons_zero, List.set_cons_succ]
            refine wpAnyH_take (i := 16) (oi := ?h16o) (v := ?h16v) ?h16h (by kernel_rfl) (by kernel_rfl) (by kernel_rfl) ?h16q ?h16y hHeld ?h16r
            case h16h => (simp only [List.getElem?_toArray, List.getElem?_cons_succ, List.getElem?_cons_zero]; rfl)
            case h16q => exact fun _ _ _ h => h
            case h16y => (refine Or.inl ⟨by first | kernel_rfl | rfl, ?_⟩; intro w hSw; obtain ⟨⟨x0, x1⟩, ⟨y0, y1⟩, -, -⟩ := hSw; go_simp <;> (try with_reducible rfl))
            try simp only [Act.put, List.setIfInBounds_toArray, List.set_cons_zero, List.set_cons_succ]
            refine wpAnyH_take (i := 17) (oi := ?h17o) (v := ?h17v) ?h17h (by kernel_rfl) (by kernel_rfl) (by kernel_rfl) ?h17q ?h17y hHeld ?h17r
            case h17h => (simp only [List.getElem?_toArray, List.getElem?_cons_succ, List.getElem?_cons_zero]; rfl)
            case h17q => exact fun _ _ _ h => h
            case h17y => (refine Or.inl ⟨by first | kernel_rfl | rfl, ?_⟩; intro w hSw; obtain ⟨⟨x0, x1⟩, ⟨y0, y1⟩, -, -⟩ := hSw; go_simp <;> (try with_reducible rfl))
            try simp only [Act.put, List.setIfInBounds_toArray, List.set_cons_zero, List.set_cons_succ]
            refine wpAnyH_take (i := 18) (oi := ?h18o) (v := ?h18v) ?h18h (by kernel_rfl) (by kernel_rfl) (by kernel_rfl) ?h18q ?h18y hHeld ?h18r
            case h18h => (simp only [List.getElem?_toArray, List.getElem?_cons_succ, List.getElem?_cons_zero]; rfl)
            case h18q => exact fun _ _ _ h => h
            case h18y => (refine Or.inl ⟨by first | kernel_rfl | rfl, ?_⟩; intro w hSw; obtain ⟨⟨x0, x1⟩, ⟨y0, y1⟩, -, -⟩ := hSw; go_simp <;> (try with_reducible rfl))
            try simp only [Act.put, List.setIfInBounds_toArray, List.set_cons_zero, List.set_cons_succ]
            refine wpAnyH_take (i := 19) (oi := ?h19o) (v := ?h19v) ?h19h (by kernel_rfl) (by kernel_rfl) (by kernel_rfl) ?h19q ?h19y hHeld ?h19r
            case h19h => (simp only [List.getElem?_toArray, List.getElem?_cons_succ, List.getElem?_cons_zero]; rfl)
            case h19q => exact fun _ _ _ h => h
            case h19y => (refine Or.inl ⟨by first | kernel_rfl | rfl, ?_⟩; intro w hSw; obtain ⟨⟨x0, x1⟩, ⟨y0, y1⟩, -, -⟩ := hSw; go_simp <;> (try with_reducible rfl))
            try simp only [Act.put, List.setIfInBounds_toArray, List.set_cons_zero, List.set_cons_succ]
            refine wpAnyH_take (i := 20) (oi := ?h20o) (v := ?h20v) ?h20h (by kernel_rfl) (by kernel_rfl) (by kernel_rfl) ?h20q ?h20y hHeld ?h20r
            case h20h => (simp only [List.getElem?_toArray, List.getElem?_cons_succ, List.getElem?_cons_zero]; rfl)
            case h20q => exact fun _ _ _ h => h
            case h20y => (refine Or.inl ⟨by first | kernel_rfl | rfl, ?_⟩; intro w hSw; obtain ⟨⟨x0, x1⟩, ⟨y0, y1⟩, -, -⟩ := hSw; go_simp <;> (try with_reducible rfl))
            try simp only [Act.put, List.setIfInBounds_toArray, List.set_cons_zero, List.set_cons_succ]
            refine wpAnyH_take (i := 21) (oi := ?h21o) (v := ?h21v) ?h21h (by kernel_rfl) (by kernel_rfl) (by kernel_rfl) ?h21q ?h21y hHeld ?h21r
            case h21h => (simp only [List.getElem?_toArray, List.getElem?_cons_succ, List.getElem?_cons_zero]; rfl)
            case h21q => exact fun _ _ _ h => h
            case h21y => (refine Or.inl ⟨by first | kernel_rfl | rfl, ?_⟩; intro w hSw; obtain ⟨⟨x0, x1⟩, ⟨y0, y1⟩, -, -⟩ := hSw; go_simp <;> (try with_reducible rfl))
            try simp only [Act.put, List.setIfInBounds_toArray, List.set_cons_zero, List.set_cons_succ]
            refine wpAnyH_take (i := 22) (oi := ?h22o) (v := ?h22v) ?h22h (by kernel_rfl) (by kernel_rfl) (by kernel_rfl) ?h22q ?h22y hHeld ?h22r
            case h22h => (simp only [List.getElem?_toArray, List.getElem?_cons_succ, List.getElem?_cons_zero]; rfl)
            case h22q => exact fun _ _ _ h => h
            case h22y => (refine Or.inl ⟨by first | kernel_rfl | rfl, ?_⟩; intro w hSw; obtain ⟨⟨x0, x1⟩, ⟨y0, y1⟩, -, -⟩ := hSw; go_simp <;> (try with_reducible rfl))
            try simp only [Act.put, List.setIfInBounds_toArray, List.set_cons_zero, List.set_cons_succ]
            refine wpAnyH_take (i := 23) (oi := ?h23o) (v := ?h23v) ?h23h (by kernel_rfl) (by kernel_rfl) (by kernel_rfl) ?h23q ?h23y hHeld ?h23r
            case h23h => (simp only [List.getElem?_toArray, List.getElem?_cons_succ, List.getElem?_cons_zero]; rfl)
            case h23q => exact fun _ _ _ h => h
            case h23y => (refine Or.inl ⟨by first | kernel_rfl | rfl, ?_⟩; intro w hSw; obtain ⟨⟨x0, x1⟩, ⟨y0, y1⟩, -, -⟩ := hSw; go_simp <;> (try with_reducible rfl))
            try simp only [Act.put, List.setIfInBounds_toArray, List.set_cons_zero, List.set_cons_succ]
            refine wpAnyH_take (i := 24) (oi := ?h24o) (v := ?h24v) ?h24h (by kernel_rfl) (by kernel_rfl) (by kernel_rfl) ?h24q ?h24y hHeld ?h24r
            case h24h => (simp only [List.getElem?_toArray, List.getElem?_cons_succ, List.getElem?_cons_zero]; rfl)
            case h24q => exact fun _ _ _ h => h
            case h24y => (refine Or.inl ⟨by first | kernel_rfl | rfl, ?_⟩; intro w hSw; obtain ⟨⟨x0, x1⟩, ⟨y0, y1⟩, -, -⟩ := hSw; go_simp <;> (try with_reducible rfl))
            try simp only [Act.put, List.setIfInBounds_toArray, List.set_cons_zero, List.set_cons_succ]
            refine wpAnyH_take (i := 25) (oi := ?h25o) (v := ?h25v) ?h25h (by kernel_rfl) (by kernel_rfl) (by kernel_rfl) ?h25q ?h25y hHeld ?h25r
            case h25h => (simp only [List.getElem?_toArray, List.getElem?_cons_succ, List.getElem?_cons_zero]; rfl)
            case h25q => exact fun _ _ _ h => h
            case h25y => (refine Or.inl ⟨by first | kernel_rfl | rfl, ?_⟩; intro w hSw; obtain ⟨⟨x0, x1⟩, ⟨y0, y1⟩, -, -⟩ := hSw; go_simp <;> (try with_reducible rfl))
            try simp only [Act.put, List.setIfInBounds_toArray, List.set_cons_zero, List.set_cons_succ]
            refine wpAnyH_take (i := 26) (oi := ?h26o) (v := ?h26v) ?h26h (by kernel_rfl) (by kernel_rfl) (by kernel_rfl) ?h26q ?h26y hHeld ?h26r
            case h26h => (simp only [List.getElem?_toArray, List.getElem?_cons_succ, List.getElem?_cons_zero]; rfl)
            case h26q => exact fun _ _ _ h => h
            case h26y => (refine Or.inl ⟨by first | kernel_rfl | rfl, ?_⟩; intro w hSw; obtain ⟨⟨x0, x1⟩, ⟨y0, y1⟩, -, -⟩ := hSw; go_simp <;> (try with_reducible rfl))
            try simp only [Act.put, List.setIfInBounds_toArray, List.set_cons_zero, List.set_cons_succ]
            refine wpAnyH_take (i := 27) (oi := ?h27o) (v := ?h27v) ?h27h (by kernel_rfl) (by kernel_rfl) (by kernel_rfl) ?h27q ?h27y hHeld ?h27r
            case h27h => (simp only [List.getElem?_toArray, List.getElem?_cons_succ, List.getElem?_cons_zero]; rfl)
            case h27q => exact fun _ _ _ h => h
            case h27y => (refine Or.inl ⟨by first | kernel_rfl | rfl, ?_⟩; intro w hSw; obtain ⟨⟨x0, x1⟩, ⟨y0, y1⟩, -, -⟩ := hSw; go_simp <;> (try with_reducible rfl))
            try simp only [Act.put, List.setIfInBounds_toArray, List.set_cons_zero, List.set_cons_succ]
            refine wpAnyH_take (i := 28) (oi := ?h28o) (v := ?h28v) ?h28h (by kernel_rfl) (by kernel_rfl) (by kernel_rfl) ?h28q ?h28y hHeld ?h28r
            case h28h => (simp only [List.getElem?_toArray, List.getElem?_cons_succ, List.getElem?_cons_zero]; rfl)
            case h28q => exact fun _ _ _ h => h
            case h28y => (refine Or.inl ⟨by first | kernel_rfl | rfl, ?_⟩; intro w hSw; obtain ⟨⟨x0, x1⟩, ⟨y0, y1⟩, -, -⟩ := hSw; go_simp <;> (try with_reducible rfl))
            try simp only [Act.put, List.setIfInBounds_toArray, List.set_cons_zero, List.set_cons_succ]
            refine wpAnyH_take (i := 29) (oi := ?h29o) (v := ?h29v) ?h29h (by kernel_rfl) (by kernel_rfl) (by kernel_rfl) ?h29q ?h29y hHeld ?h29r
            case h29h => (simp only [List.getElem?_toArray, List.getElem?_cons_succ, List.getElem?_cons_zero]; rfl)
            case h29q => exact fun _ _ _ h => h
            case h29y => (refine Or.inl ⟨by first | kernel_rfl | rfl, ?_⟩; intro w hSw; obtain ⟨⟨x0, x1⟩, ⟨y0, y1⟩, -, -⟩ := hSw; go_simp <;> (try with_reducible rfl))
            try simp only [Act.put, List.setIfInBounds_toArray, List.set_cons_zero, List.set_cons_succ]
            refine wpAnyH_take (i := 30) (oi := ?h30o) (v := ?h30v) ?h30h (by kernel_rfl) (by kernel_rfl) (by kernel_rfl) ?h30q ?h30y hHeld ?h30r
            case h30h => (simp only [List.getElem?_toArray, List.getElem?_cons_succ, List.getElem?_cons_zero]; rfl)
            case h30q => exact fun _ _ _ h => h
            case h30y => (refine Or.inl ⟨by first | kernel_rfl | rfl, ?_⟩; intro w hSw; obtain ⟨⟨x0, x1⟩, ⟨y0, y1⟩, -, -⟩ := hSw; go_simp <;> (try with_reducible rfl))
            try simp only [Act.put, List.setIfInBounds_toArray, List.set_cons_zero, List.set_cons_succ]
            refine wpAnyH_take (i := 31) (oi := ?h31o) (v := ?h31v) ?h31h (by kernel_rfl) (by kernel_rfl) (by kernel_rfl) ?h31q ?h31y hHeld ?h31r
            case h31h => (simp only [List.getElem?_toArray, List.getElem?_cons_succ, List.getElem?_cons_zero]; rfl)
            case h31q => exact fun _ _ _ h => h
            case h31y => (refine Or.inl ⟨by first | kernel_rfl | rfl, ?_⟩; intro w hSw; obtain ⟨⟨x0, x1⟩, ⟨y0, y1⟩, -, -⟩ := hSw; go_simp <;> (try with_reducible rfl))
            try simp only [Act.put, List.setIfInBounds_toArray, List.set_cons_zero, List.set_cons_succ]
            refine wpAnyH_take (i := 32) (oi := ?h32o) (v := ?h32v) ?h32h (by kernel_rfl) (by kernel_rfl) (by kernel_rfl) ?h32q ?h32y hHeld ?h32r
            case h32h => (simp only [List.getElem?_toArray, List.getElem?_cons_succ, List.getElem?_cons_zero]; rfl)
            case h32q => exact fun _ _ _ h => h
            case h32y => (refine Or.inl ⟨by first | kernel_rfl | rfl, ?_⟩; intro w hSw; obtain ⟨⟨x0, x1⟩, ⟨y0, y1⟩, -, -⟩ := hSw; go_simp <;> (try with_reducible rfl))
            try simp only [Act.put, List.setIfInBounds_toArray, List.set_cons_zero, List.set_cons_succ]
            refine wpAnyH_take (i := 33) (oi := ?h33o) (v := ?h33v) ?h33h (by kernel_rfl) (by kernel_rfl) (by kernel_rfl) ?h33q ?h33y hHeld ?h33r
            case h33h => (simp only [List.getElem?_toArray, List.getElem?_cons_succ, List.getElem?_cons_zero]; rfl)
            case h33q => exact fun _ _ _ h => h
            case h33y => (refine Or.inl ⟨by first | kernel_rfl | rfl, ?_⟩; intro w hSw; obtain ⟨⟨x0, x1⟩, ⟨y0, y1⟩, -, -⟩ := hSw; go_simp <;> (try with_reducible rfl))
            try simp only [Act.put, List.setIfInBounds_toArray, List.set_cons_zero, List.set_cons_succ]
            refine wpAnyH_take (i := 34) (oi := ?h34o) (v := ?h34v) ?h34h (by kernel_rfl) (by kernel_rfl) (by kernel_rfl) ?h34q ?h34y hHeld ?h34r
            case h34h => (simp only [List.getElem?_toArray, List.getElem?_cons_succ, List.getElem?_cons_zero]; rfl)
            case h34q => exact fun _ _ _ h => h
            case h34y => (refine Or.inl ⟨by first | kernel_rfl | rfl, ?_⟩; intro w hSw; obtain ⟨⟨x0, x1⟩, ⟨y0, y1⟩, -, -⟩ := hSw; go_simp <;> (try with_reducible rfl))
            try simp only [Act.put, List.setIfInBounds_toArray, List.set_cons_zero, List.set_cons_succ]
            refine wpAnyH_take (i := 35) (oi := ?h35o) (v := ?h35v) ?h35h (by kernel_rfl) (by kernel_rfl) (by kernel_rfl) ?h35q ?h35y hHeld ?h35r
            case h35h => (simp only [List.getElem?_toArray, List.getElem?_cons_succ, List.getElem?_cons_zero]; rfl)
            case h35q => exact fun _ _ _ h => h
            case h35y => (refine Or.inl ⟨by first | kernel_rfl | rfl, ?_⟩; intro w hSw; obtain ⟨⟨x0, x1⟩, ⟨y0, y1⟩, -, -⟩ := hSw; go_simp <;> (try with_reducible rfl))
            try simp only [Act.put, List.setIfInBounds_toArray, List.set_cons_zero, List.set_cons_succ]
            refine wpAnyH_take (i := 36) (oi := ?h36o) (v := ?h36v) ?h36h (by kernel_rfl) (by kernel_rfl) (by kernel_rfl) ?h36q ?h36y hHeld ?h36r
            case h36h => (simp only [List.getElem?_toArray, List.getElem?_cons_succ, List.getElem?_cons_zero]; rfl)
            case h36q => exact fun _ _ _ h => h
            case h36y => (refine Or.inl ⟨by first | kernel_rfl | rfl, ?_⟩; intro w hSw; obtain ⟨⟨x0, x1⟩, ⟨y0, y1⟩, -, -⟩ := hSw; go_simp <;> (try with_reducible rfl))
            try simp only [Act.put, List.setIfInBounds_toArray, List.set_cons_zero, List.set_cons_succ]
            refine wpAnyH_take (i := 37) (oi := ?h37o) (v := ?h37v) ?h37h (by kernel_rfl) (by kernel_rfl) (by kernel_rfl) ?h37q ?h37y hHeld ?h37r
            case h37h => (simp only [List.getElem?_toArray, List.getElem?_cons_succ, List.getElem?_cons_zero]; rfl)
            case h37q => exact fun _ _ _ h => h
            case h37y => (refine Or.inl ⟨by first | kernel_rfl | rfl, ?_⟩; intro w hSw; obtain ⟨⟨x0, x1⟩, ⟨y0, y1⟩, -, -⟩ := hSw; go_simp <;> (try with_reducible rfl))
            try simp only [Act.put, List.setIfInBounds_toArray, List.set_cons_zero, List.set_cons_succ]
            refine wpAnyH_take (i := 38) (oi := ?h38o) (v := ?h38v) ?h38h (by kernel_rfl) (by kernel_rfl) (by kernel_rfl) ?h38q ?h38y hHeld ?h38r
            case h38h => (simp only [List.getElem?_toArray, List.getElem?_cons_succ, List.getElem?_cons_zero]; rfl)
            case h38q => exact fun _ _ _ h => h
            case h38y => (refine Or.inl ⟨by first | kernel_rfl | rfl, ?_⟩; intro w hSw; obtain ⟨⟨x0, x1⟩, ⟨y0, y1⟩, -, -⟩ := hSw; go_simp <;> (try with_reducible rfl))
            try simp only [Act.put, List.setIfInBounds_toArray, List.set_cons_zero, List.set_cons_succ]
            refine wpAnyH_take (i := 39) (oi := ?h39o) (v := ?h39v) ?h39h (by kernel_rfl) (by kernel_rfl) (by kernel_rfl) ?h39q ?h39y hHeld ?h39r
            case h39h => (simp only [List.getElem?_toArray, List.getElem?_cons_succ, List.getElem?_cons_zero]; rfl)
            case h39q => exact fun _ _ _ h => h
            case h39y => (refine Or.inl ⟨by first | kernel_rfl | rfl, ?_⟩; intro w hSw; obtain ⟨⟨x0, x1⟩, ⟨y0, y1⟩, -, -⟩ := hSw; go_simp <;> (try with_reducible rfl))
            try simp only [Act.put, List.setIfInBounds_toArray, List.set_cons_zero, List.set_cons_succ]
            refine wpAnyH_take (i := 41) (oi := ?h40o) (v := ?h40v) ?h40h (by kernel_rfl) (by kernel_rfl) (by kernel_rfl) ?h40q ?h40y hHeld ?h40r
            case h40h => (simp only [List.getElem?_toArray, List.getElem?_cons_succ, List.getElem?_cons_zero]; rfl)
            case h40q => exact fun _ _ _ h => h
            case h40y => (refine Or.inl ⟨by first | kernel_rfl | rfl, ?_⟩; intro w hSw; obtain ⟨⟨x0, x1⟩, ⟨y0, y1⟩, -, -⟩ := hSw; go_simp <;> (try with_reducible rfl))
            try simp only [Act.put, List.setIfInBounds_toArray, List.set_cons_zero, List.set_cons_succ]
            refine wpAnyH_take (i := 42) (oi := ?h41o) (v := ?h41v) ?h41h (by kernel_rfl) (by kernel_rfl) (by kernel_rfl) ?h41q ?h41y hHeld ?h41r
            case h41h => (simp only [List.getElem?_toArray, List.getElem?_cons_succ, List.getElem?_cons_zero]; rfl)
            case h41q => exact fun _ _ _ h => h
            case h41y => (refine Or.inl ⟨by first | kernel_rfl | rfl, ?_⟩; intro w hSw; obtain ⟨⟨x0, x1⟩, ⟨y0, y1⟩, -, -⟩ := hSw; go_simp <;> (try with_reducible rfl))
            try simp only [Act.put, List.setIfInBounds_toArray, List.set_cons_zero, List.set_cons_succ]
            refine wpAnyH_ready (rs := [40]) (by kernel_rfl) (by simp) ?_
            refine (AllReadyH.cons rfl (fun K hK => ?_) AllReadyH.nil)
            go_simp
            ((with_reducible refine (ks1 _ hHeld.tab).mono ?_); rintro e w' ⟨rfl, rfl⟩)
            refine hK.out _ _ (hHeld) (fun hHeld => ?_)
            clear hK K
            try simp only [Act.put, List.setIfInBounds_toArray, List.set_cons_zero, List.set_cons_succ]
            refine wpAnyH_take (i := 43) (oi := ?h42o) (v := ?h42v) ?h42h (by kernel_rfl) (by kernel_rfl) (by kernel_rfl) ?h42q ?h42y hHeld ?h42r
            case h42h => (simp only [List.getElem?_toArray, List.getElem?_cons_succ, List.getElem?_cons_zero]; rfl)
            case h42q => exact fun _ _ _ h => h
            case h42y => (refine Or.inl ⟨by first | kernel_rfl | rfl, ?_⟩; intro w hSw; obtain ⟨⟨x0, x1⟩, ⟨y0, y1⟩, -, -⟩ := hSw; go_simp <;> (try with_reducible rfl))
            try simp only [Act.put, List.setIfInBounds_toArray, List.set_cons_zero, List.set_cons_succ]
            refine wpAnyH_take (i := 44) (oi := ?h43o) (v := ?h43v) ?h43h (by kernel_rfl) (by kernel_rfl) (by kernel_rfl) ?h43q ?h43y hHeld ?h43r
            case h43h => (simp only [List.getElem?_toArray, List.getElem?_cons_succ, List.getElem?_cons_zero]; rfl)
            case h43q => exact fun _ _ _ h => h
            case h43y => (refine Or.inl ⟨by first | kernel_rfl | rfl, ?_⟩; intro w hSw; obtain ⟨⟨x0, x1⟩, ⟨y0, y1⟩, -, -⟩ := hSw; go_simp <;> (try with_reducible rfl))
            try simp only [Act.put, List.setIfInBounds_toArray, List.set_cons_zero, List.set_cons_succ]
            refine wpAnyH_take (i := 45) (oi := ?h44o) (v := ?h44v) ?h44h (by kernel_rfl) (by kernel_rfl) (by kernel_rfl) ?h44q ?h44y hHeld ?h44r
            case h44h => (simp only [List.getElem?_toArray, List.getElem?_cons_succ, List.getElem?_cons_zero]; rfl)
            case h44q => exact fun _ _ _ h => h
            case h44y => (refine Or.inl ⟨by first | kernel_rfl | rfl, ?_⟩; intro w hSw; obtain ⟨⟨x0, x1⟩, ⟨y0, y1⟩, -, -⟩ := hSw; go_simp <;> (try with_reducible rfl))
            try simp only [Act.put, List.setIfInBounds_toArray, List.set_cons_zero, List.set_cons_succ]
            refine wpAnyH_take (i := 46) (oi := ?h45o) (v := ?h45v) ?h45h (by kernel_rfl) (by kernel_rfl) (by kernel_rfl) ?h45q ?h45y hHeld ?h45r
            case h45h => (simp only [List.getElem?_toArray, List.getElem?_cons_succ, List.getElem?_cons_zero]; rfl)
            case h45q => exact fun _ _ _ h => h
            case h45y => (refine Or.inl ⟨by first | kernel_rfl | rfl, ?_⟩; intro w hSw; obtain ⟨⟨x0, x1⟩, ⟨y0, y1⟩, -, -⟩ := hSw; go_simp <;> (try with_reducible rfl))
            try simp only [Act.put, List.setIfInBounds_toArray, List.set_cons_zero, List.set_cons_succ]
            refine wpAnyH_take (i := 47) (oi := ?h46o) (v := ?h46v) ?h46h (by kernel_rfl) (by kernel_rfl) (by kernel_rfl) ?h46q ?h46y hHeld ?h46r
            case h46h => (simp only [List.getElem?_toArray, List.getElem?_cons_succ, List.getElem?_cons_zero]; rfl)
            case h46q => exact fun _ _ _ h => h
            case h46y => (refine Or.inl ⟨by first | kernel_rfl | rfl, ?_⟩; intro w hSw; obtain ⟨⟨x0, x1⟩, ⟨y0, y1⟩, -, -⟩ := hSw; go_simp <;> (try with_reducible rfl))
            try simp only [Act.put, List.setIfInBounds_toArray, List.set_cons_zero, List.set_cons_succ]
            refine wpAnyH_take (i := 48) (oi := ?h47o) (v := ?h47v) ?h47h (by kernel_rfl) (by kernel_rfl) (by kernel_rfl) ?h47q ?h47y hHeld ?h47r
            case h47h => (simp only [List.getElem?_toArray, List.getElem?_cons_succ, List.getElem?_cons_zero]; rfl)
            case h47q => exact fun _ _ _ h => h
            case h47y => (refine Or.inl ⟨by first | kernel_rfl | rfl, ?_⟩; intro w hSw; obtain ⟨⟨x0, x1⟩, ⟨y0, y1⟩, -, -⟩ := hSw; go_simp <;> (try with_reducible rfl))
            try simp only [Act.put, List.setIfInBounds_toArray, List.set_cons_zero, List.set_cons_succ]
            refine wpAnyH_take (i := 49) (oi := ?h48o) (v := ?h48v) ?h48h (by kernel_rfl) (by kernel_rfl) (by kernel_rfl) ?h48q ?h48y hHeld ?h48r
            case h48h => (simp only [List.getElem?_toArray, List.getElem?_cons_succ, List.getElem?_cons_zero]; rfl)
            case h48q => exact fun _ _ _ h => h
            case h48y => (refine Or.inl ⟨by first | kernel_rfl | rfl, ?_⟩; intro w hSw; obtain ⟨⟨x0, x1⟩, ⟨y0, y1⟩, -, -⟩ := hSw; go_simp <;> (try with_reducible rfl))
            try simp only [Act.put, List.setIfInBounds_toArray, List.set_cons_zero, List.set_cons_succ]
            refine wpAnyH_take (i := 51) (oi := ?h49o) (v := ?h49v) ?h49h (by kernel_rfl) (by kernel_rfl) (by kernel_rfl) ?h49q ?h49y hHeld ?h49r
            case h49h => (simp only [List.getElem?_toArray, List.getElem?_cons_succ, List.getElem?_cons_zero]; rfl)
            case h49q => exact fun _ _ _ h => h
            case h49y => (refine Or.inl ⟨by first | kernel_rfl | rfl, ?_⟩; intro w hSw; obtain ⟨⟨x0, x1⟩, ⟨y0, y1⟩, -, -⟩ := hSw; go_simp <;> (try with_reducible rfl))
            try simp only [Act.put, List.setIfInBounds_toArray, List.set_cons_zero, List.set_cons_succ]
            refine wpAnyH_take (i := 52) (oi := ?h50o) (v := ?h50v) ?h50h (by kernel_rfl) (by kernel_rfl) (by kernel_rfl) ?h50q ?h50y hHeld ?h50r
            case h50h => (simp only [List.getElem?_toArray, List.getElem?_cons_succ, List.getElem?_cons_zero]; rfl)
            case h50q => exact fun _ _ _ h => h
            case h50y => (refine Or.inl ⟨by first | kernel_rfl | rfl, ?_⟩; intro w hSw; obtain ⟨⟨x0, x1⟩, ⟨y0, y1⟩, -, -⟩ := hSw; go_simp <;> (try with_reducible rfl))
            try simp only [Act.put, List.setIfInBounds_toArray, List.set_cons_zero, List.set_cons_succ]
            refine wpAnyH_ready (rs := [50]) (by kernel_rfl) (by simp) ?_
            refine (AllReadyH.cons rfl (fun K hK => ?_) AllReadyH.nil)
            go_simp
            ((with_reducible refine (ks2 _ hHeld.tab).mono ?_); rintro e w' ⟨rfl, rfl⟩)
            refine hK.out _ _ (hHeld) (fun hHeld => ?_)
            clear hK K
            try simp only [Act.put, List.setIfInBounds_toArray, List.set_cons_zero, List.set_cons_succ]
            refine wpAnyH_take (i := 53) (oi := ?h51o) (v := ?h51v) ?h51h (by kernel_rfl) (by kernel_rfl) (by kernel_rfl) ?h51q ?h51y hHeld ?h51r
            case h51h => (simp only [List.getElem?_toArray, List.getElem?_cons_succ, List.getElem?_cons_zero]; rfl)
            case h51q => exact fun _ _ _ h => h
            case h51y => (refine Or.inl ⟨by first | kernel_rfl | rfl, ?_⟩; intro w hSw; obtain ⟨⟨x0, x1⟩, ⟨y0, y1⟩, -, -⟩ := hSw; go_simp <;> (try with_reducible rfl))
            try simp only [Act.put, List.setIfInBounds_toArray, List.set_cons_zero, List.set_cons_succ]
            refine wpAnyH_take (i := 54) (oi := ?h52o) (v := ?h52v) ?h52h (by kernel_rfl) (by kernel_rfl) (by kernel_rfl) ?h52q ?h52y hHeld ?h52r
            case h52h => (simp only [List.getElem?_toArray, List.getElem?_cons_succ, List.getElem?_cons_zero]; rfl)
            case h52q => exact fun _ _ _ h => h
            case h52y => (refine Or.inl ⟨by first | kernel_rfl | rfl, ?_⟩; intro w hSw; obtain ⟨⟨x0, x1⟩, ⟨y0, y1⟩, -, -⟩ := hSw; go_simp <;> (try with_reducible rfl))
            try simp only [Act.put, List.setIfInBounds_toArray, List.set_cons_zero, List.set_cons_succ]
            refine wpAnyH_done (by kernel_rfl) ?_ _
            have hbel := hHeld.bel
            refine noPanic_n ?_
            gi_wp2
            go_roundw
            case rel => exact ⟨k + 1, by go_num, by omega, hbel⟩
            case measure => simp [intOf]; omega
          · have HK3 := Lib.hid (show decide ((k : Int) < 3) = false from decide_eq_false (by omega))
            clear HNX
            gi_wp2_with (gi_at_call 15; first
              | ((refine callsIn_wide.2 ((kof2 _ H3.out.tab).mono ?_)); rintro e w4 ⟨rfl, hb⟩; (have HPS := Lib.hid ((HS3.out.below hb).below ((Below.refl _ _).alloc (Nat.le_refl _) (.cells #[.int .i64 v.f, .int .i64 v.t] 26)))); (have H4 := Lib.hid ((H3.out.keep hb).keep ((Below.refl _ _).alloc (Nat.le_refl _) (.cells #[.int .i64 v.f, .int .i64 v.t] 26)))); (have HB4 := Lib.hid (bel_next (bel_next HB3.out hb) ((Below.refl _ _).alloc (Nat.le_refl _) (.cells #[.int .i64 v.f, .int .i64 v.t] 26)))); (have HP9 := Lib.hid (P9.mk (w := w1) HPS.out (SpAt.new w4 v 26) H4.out.tab HB4.out)); clear hb)
              | ((refine callsIn_wide.2 ((kof _ H2.out.tab).mono ?_)); rintro e w3 ⟨rfl, hb⟩; (have H3 := Lib.hid ((H2.out.keep hb).keep ((Below.refl _ _).alloc (Nat.le_refl _) (.cells #[.int .i64 p.f, .int .i64 p.t] 26)))); (have HS3 := Lib.hid (SpAt.new w3 p 26)); (have HB3 := Lib.hid (bel_next (bel_next HB2.out hb) ((Below.refl _ _).alloc (Nat.le_refl _) (.cells #[.int .i64 p.f, .int .i64 p.t] 26)))); clear hb))
            refine wide_of ?_
            obtain ⟨g1, g2⟩ := HGG.out
            have hk3i := HK3.out
            as_aux_lemma =>
            refine wp_region_held_drew (S := (P9 w1 w3.heap.size w4.heap.size p v)) (by kernel_rfl) HP9.out.drew (fun hHeld => ?_)
            refine wpAnyH_take (i := 0) (oi := ?i1o) (v := ?i1v) ?i1h (by kernel_rfl) (by kernel_rfl) (by kernel_rfl) ?i1q ?i1y hHeld ?i1r
            case i1h => (simp only [List.getElem?_toArray, List.getElem?_cons_zero]; rfl)
            case i1q => exact fun _ _ _ h => h
            case i1y => (refine Or.inl ⟨by first | kernel_rfl | rfl, ?_⟩; intro w hSw; obtain ⟨⟨x0, x1⟩, ⟨y0, y1⟩, -, -⟩ := hSw; go_simp <;> (try with_reducible rfl))
            try simp only [Act.put, List.setIfInBounds_toArray, List.set_cons_zero, List.set_cons_succ]
            refine wpAnyH_take (i := 1) (oi := ?i2o) (v := ?i2v) ?i2h (by kernel_rfl) (by kernel_rfl) (by kernel_rfl) ?i2q ?i2y hHeld ?i2r
            case i2h => (simp only [List.getElem?_toArray, List.getElem?_cons_succ, List.getElem?_cons_zero]; rfl)
            case i2q => exact fun _ _ _ h => h
            case i2y => (refine Or.inl ⟨by first | kernel_rfl | rfl, ?_⟩; intro w hSw; obtain ⟨⟨x0, x1⟩, ⟨y0, y1⟩, -, -⟩ := hSw; go_simp <;> (try with_reducible rfl))
            try simp only [Act.put, List.setIfInBounds_toArray, List.set_cons_zero, List.set_cons_succ]
            refine wpAnyH_take (i := 2) (oi := ?i3o) (v := ?i3v) ?i3h (by kernel_rfl) (by kernel_rfl) (by kernel_rfl) ?i3q ?i3y hHeld ?i3r
            case i3h => (simp only [List.getElem?_toArray, List.getElem?_cons_succ, List.getElem?_cons_zero]; rfl)
            case i3q => exact fun _ _ _ h => h
            case i3y => (refine Or.inl ⟨by first | kernel_rfl | rfl, ?_⟩; intro w hSw; obtain ⟨⟨x0, x1⟩, ⟨y0, y1⟩, -, -⟩ := hSw; go_simp <;> (try with_reducible rfl))
            try simp only [Act.put, List.setIfInBounds_toArray, List.set_cons_zero, List.set_cons_succ]
            refine wpAnyH_take (i := 3) (oi := ?i4o) (v := ?i4v) ?i4h (by kernel_rfl) (by kernel_rfl) (by kernel_rfl) ?i4q ?i4y hHeld ?i4r
            case i4h => (simp only [List.getElem?_toArray, List.getElem?_cons_succ, List.getElem?_cons_zero]; rfl)
            case i4q => exact fun _ _ _ h => h
            case i4y => (refine Or.inl ⟨by first | kernel_rfl | rfl, ?_⟩; intro w hSw; obtain ⟨⟨x0, x1⟩, ⟨y0, y1⟩, -, -⟩ := hSw; go_simp <;> (try with_reducible rfl))
            try simp only [Act.put, List.setIfInBounds_toArray, List.set_cons_zero, List.set_cons_succ]
            refine wpAnyH_take (i := 4) (oi := ?i5o) (v := ?i5v) ?i5h (by kernel_rfl) (by kernel_rfl) (by kernel_rfl) ?i5q ?i5y hHeld ?i5r
            case i5h => (simp only [List.getElem?_toArray, List.getElem?_cons_succ, List.getElem?_cons_zero]; rfl)
            case i5q => exact fun _ _ _ h => h
            case i5y => (refine Or.inl ⟨by first | kernel_rfl | rfl, ?_⟩; intro w hSw; obtain ⟨⟨x0, x1⟩, ⟨y0, y1⟩, -, -⟩ := hSw; go_simp <;> (try with_reducible rfl))
            try simp only [Act.put, List.setIfInBounds_toArray, List.set_cons_zero, List.set_cons_succ]
            refine wpAnyH_take (i := 5) (oi := ?i6o) (v := ?i6v) ?i6h (by kernel_rfl) (by kernel_rfl) (by kernel_rfl) ?i6q ?i6y hHeld ?i6r
            case i6h => (simp only [List.getElem?_toArray, List.getElem?_cons_succ, List.getElem?_cons_zero]; rfl)
            case i6q => exact fun _ _ _ h => h
            case i6y => (refine Or.inl ⟨by first | kernel_rfl | rfl, ?_⟩; intro w hSw; obtain ⟨⟨x0, x1⟩, ⟨y0, y1⟩, -, -⟩ := hSw; go_simp <;> (try with_reducible rfl))
            try simp only [Act.put, List.setIfInBounds_toArray, List.set_cons_zero, List.set_cons_succ]
            refine wpAnyH_take (i := 6) (oi := ?i7o) (v := ?i7v) ?i7h (by kernel_rfl) (by kernel_rfl) (by kernel_rfl) ?i7q ?i7y hHeld ?i7r
            case i7h => (simp only [List.getElem?_toArray, List.getElem?_cons_succ, List.getElem?_cons_zero]; rfl)
            case i7q => exact fun _ _ _ h => h
            case i7y => (refine Or.inl ⟨by first | kernel_rfl | rfl, ?_⟩; intro w hSw; obtain ⟨⟨x0, x1⟩, ⟨y0, y1⟩, -, -⟩ := hSw; go_simp <;> (try with_reducible rfl))
            try simp only [Act.put, List.setIfInBounds_toArray, List.set_cons_zero, List.set_cons_succ]
            refine wpAnyH_take (i := 7) (oi := ?i8o) (v := ?i8v) ?i8h (by kernel_rfl) (by kernel_rfl) (by kernel_rfl) ?i8q ?i8y hHeld ?i8r
            case i8h => (simp only [List.getElem?_toArray, List.getElem?_cons_succ, List.getElem?_cons_zero]; rfl)
            case i8q => exact fun _ _ _ h => h
            case i8y => (refine Or.inl ⟨by first | kernel_rfl | rfl, ?_⟩; intro w hSw; obtain ⟨⟨x0, x1⟩, ⟨y0, y1⟩, -, -⟩ := hSw; go_simp <;> (try with_reducible rfl))
            try simp only [Act.put, List.setIfInBounds_toArray, List.set_cons_zero, List.set_cons_succ]
            refine wpAnyH_take (i := 8) (oi := ?i9o) (v := ?i9v) ?i9h (by kernel_rfl) (by kernel_rfl) (by kernel_rfl) ?i9q ?i9y hHeld ?i9r
            case i9h => (simp only [List.getElem?_toArray, List.getElem?_cons_succ, List.getElem?_cons_zero]; rfl)
            case i9q => exact fun _ _ _ h => h
            case i9y => (refine Or.inl ⟨by first | kernel_rfl | rfl, ?_⟩; intro w hSw; obtain ⟨⟨x0, x1⟩, ⟨y0, y1⟩, -, -⟩ := hSw; go_simp <;> (try with_reducible rfl))
            try simp only [Act.put, List.setIfInBounds_toArray, List.set_cons_zero, List.set_cons_succ]
            refine wpAnyH_take (i := 9) (oi := ?i10o) (v := ?i10v) ?i10h (by kernel_rfl) (by kernel_rfl) (by kernel_rfl) ?i10q ?i10y hHeld ?i10r
            case i10h => (simp only [List.getElem?_toArray, List.getElem?_cons_succ, List.getElem?_cons_zero]; rfl)
            case i10q => exact fun _ _ _ h => h
            case i10y => (refine Or.inl ⟨by first | kernel_rfl | rfl, ?_⟩; intro w hSw; obtain ⟨⟨x0, x1⟩, ⟨y0, y1⟩, -, -⟩ := hSw; go_simp <;> (try with_reducible rfl))
            try simp only [Act.put, List.setIfInBounds_toArray, List.set_cons_zero, List.set_cons_succ]
            refine wpAnyH_take (i := 10) (oi := ?i11o) (v := ?i11v) ?i11h (by kernel_rfl) (by kernel_rfl) (by kernel_rfl) ?i11q ?i11y hHeld ?i11r
            case i11h => (simp only [List.getElem?_toArray, List.getElem?_cons_succ, List.getElem?_cons_zero]; rfl)
            case i11q => exact fun _ _ _ h => h
            case i11y => (refine Or.inl ⟨by first | kernel_rfl | rfl, ?_⟩; intro w hSw; obtain ⟨⟨x0, x1⟩, ⟨y0, y1⟩, -, -⟩ := hSw; go_simp <;> (try with_reducible rfl))
            try simp only [Act.put, List.setIfInBounds_toArray, List.set_cons_zero, List.set_cons_succ]
            refine wpAnyH_take (i := 11) (oi := ?i12o) (v := ?i12v) ?i12h (by kernel_rfl) (by kernel_rfl) (by kernel_rfl) ?i12q ?i12y hHeld ?i12r
            case i12h => (simp only [List.getElem?_toArray, List.getElem?_cons_succ, List.getElem?_cons_zero]; rfl)
            case i12q => exact fun _ _ _ h => h
            case i12y => (refine Or.inl ⟨by first | kernel_rfl | rfl, ?_⟩; intro w hSw; obtain ⟨⟨x0, x1⟩, ⟨y0, y1⟩, -, -⟩ := hSw; go_simp <;> (try with_reducible rfl))
            try simp only [Act.put, List.setIfInBounds_toArray, List.set_cons_zero, List.set_cons_succ]
            refine wpAnyH_take (i := 12) (oi := ?i13o) (v := ?i13v) ?i13h (by kernel_rfl) (by kernel_rfl) (by kernel_rfl) ?i13q ?i13y hHeld ?i13r
            case i13h => (simp only [List.getElem?_toArray, List.getElem?_cons_succ, List.getElem?_cons_zero]; rfl)
            case i13q => exact fun _ _ _ h => h
            case i13y => (refine Or.inl ⟨by first | kernel_rfl | rfl, ?_⟩; intro w hSw; obtain ⟨⟨x0, x1⟩, ⟨y0, y1⟩, -, -⟩ := hSw; go_simp <;> (try with_reducible rfl))
            try simp only [Act.put, List.setIfInBounds_toArray, List.set_cons_zero, List.set_cons_succ]
            refine wpAnyH_take (i := 13) (oi := ?i14o) (v := ?i14v) ?i14h (by kernel_rfl) (by kernel_rfl) (by kernel_rfl) ?i14q ?i14y hHeld ?i14r
            case i14h => (simp only [List.getElem?_toArray, List.getElem?_cons_succ, List.getElem?_cons_zero]; rfl)
            case i14q => exact fun _ _ _ h => h
            case i14y => (refine Or.inl ⟨by first | kernel_rfl | rfl, ?_⟩; intro w hSw; obtain ⟨⟨x0, x1⟩, ⟨y0, y1⟩, -, -⟩ := hSw; go_simp <;> (try with_reducible rfl))
            try simp only [Act.put, List.setIfInBounds_toArray, List.set_cons_zero, List.set_cons_succ]
            refine wpAnyH_ready (rs := [14]) (by kernel_rfl) (by simp) ?_
            refine (AllReadyH.cons rfl (fun K hK => ?_) AllReadyH.nil)
            go_simp
            ((with_reducible refine (kw _ hHeld.tab).mono ?_); rintro e w' ⟨rfl, rfl⟩)
            refine hK.out _ _ (hHeld) (fun hHeld => ?_)
            clear hK K
            try simp only [Act.put, List.setIfInBounds_toArray, List.set_cons_zero, List.set_cons_succ]
            refine wpAnyH_take (i := 15) (oi := ?i15o) (v := ?i15v) ?i15h (by kernel_rfl) (by kernel_rfl) (by kernel_rfl) ?i15q ?i15y hHeld ?i15r
            case i15h => (simp only [List.getElem?_toArray, List.getElem?_cons_succ, List.getElem?_cons_zero]; rfl)
            case i15q => exact fun _ _ _ h => h
            case i15y => (refine Or.inl ⟨by first | kernel_rfl | rfl, ?_⟩; intro w hSw; obtain ⟨⟨x0, x1⟩, ⟨y0, y1⟩, -, -⟩ := hSw; go_simp <;> (try with_reducible rfl))
            try simp only [Act.put, List.setIfInBounds_toArray, List.set_cons_zero, List.set_cons_succ]
            refine wpAnyH_take (i := 16) (oi := ?i16o) (v := ?i16v) ?i16h (by kernel_rfl) (by kernel_rfl) (by kernel_rfl) ?i16q ?i16y hHeld ?i16r
            case i16h => (simp only [List.getElem?_toArray, List.getElem?_cons_succ, List.getElem?_cons_zero]; rfl)
            case i16q => exact fun _ _ _ h => h
            case i16y => (refine Or.inl ⟨by first | kernel_rfl | rfl, ?_⟩; intro w hSw; obtain ⟨⟨x0, x1⟩, ⟨y0, y1⟩, -, -⟩ := hSw; go_simp <;> (try with_reducible rfl))
            try simp only [Act.put, List.setIfInBounds_toArray, List.set_cons_zero, List.set_cons_succ]
            refine wpAnyH_take (i := 17) (oi := ?i17o) (v := ?i17v) ?i17h (by kernel_rfl) (by kernel_rfl) (by kernel_rfl) ?i17q ?i17y hHeld ?i17r
            case i17h => (simp only [List.getElem?_toArray, List.getElem?_cons_succ, List.getElem?_cons_zero]; rfl)
            case i17q => exact fun _ _ _ h => h
            case i17y => (refine Or.inl ⟨by first | kernel_rfl | rfl, ?_⟩; intro w hSw; obtain ⟨⟨x0, x1⟩, ⟨y0, y1⟩, -, -⟩ := hSw; go_simp <;> (try with_reducible rfl))
            try simp only [Act.put, List.setIfInBounds_toArray, List.set_cons_zero, List.set_cons_succ]
            refine wpAnyH_take (i := 18) (oi := ?i18o) (v := ?i18v) ?i18h (by kernel_rfl) (by kernel_rfl) (by kernel_rfl) ?i18q ?i18y hHeld ?i18r
            case i18h => (simp only [List.getElem?_toArray, List.getElem?_cons_succ, List.getElem?_cons_zero]; rfl)
            case i18q => exact fun _ _ _ h => h
            case i18y => (refine Or.inl ⟨by first | kernel_rfl | rfl, ?_⟩; intro w hSw; obtain ⟨⟨x0, x1⟩, ⟨y0, y1⟩, -, -⟩ := hSw; go_simp <;> (try with_reducible rfl))
            try simp only [Act.put, List.setIfInBounds_toArray, List.set_cons_zero, List.set_cons_succ]
            refine wpAnyH_take (i := 19) (oi := ?i19o) (v := ?i19v) ?i19h (by kernel_rfl) (by kernel_rfl) (by kernel_rfl) ?i19q ?i19y hHeld ?i19r
            case i19h => (simp only [List.getElem?_toArray, List.getElem?_cons_succ, List.getElem?_cons_zero]; rfl)
            case i19q => exact fun _ _ _ h => h
            case i19y => (refine Or.inl ⟨by first | kernel_rfl | rfl, ?_⟩; intro w hSw; obtain ⟨⟨x0, x1⟩, ⟨y0, y1⟩, -, -⟩ := hSw; go_simp <;> (try with_reducible rfl))
            try simp only [Act.put, List.setIfInBounds_toArray, List.set_cons_zero, List.set_cons_succ]
            refine wpAnyH_take (i := 20) (oi := ?i20o) (v := ?i20v) ?i20h (by kernel_rfl) (by kernel_rfl) (by kernel_rfl) ?i20q ?i20y hHeld ?i20r
            case i20h => (simp only [List.getElem?_toArray, List.getElem?_cons_succ, List.getElem?_cons_zero]; rfl)
            case i20q => exact fun _ _ _ h => h
            case i20y => (refine Or.inl ⟨by first | kernel_rfl | rfl, ?_⟩; intro w hSw; obtain ⟨⟨x0, x1⟩, ⟨y0, y1⟩, -, -⟩ := hSw; go_simp <;> (try with_reducible rfl))
            try simp only [Act.put, List.setIfInBounds_toArray, List.set_cons_zero, List.set_cons_succ]
            refine wpAnyH_take (i := 21) (oi := ?i21o) (v := ?i21v) ?i21h (by kernel_rfl) (by kernel_rfl) (by kernel_rfl) ?i21q ?i21y hHeld ?i21r
            case i21h => (simp only [List.getElem?_toArray, List.getElem?_cons_succ, List.getElem?_cons_zero]; rfl)
            case i21q => exact fun _ _ _ h => h
            case i21y => (refine Or.inl ⟨by first | kernel_rfl | rfl, ?_⟩; intro w hSw; obtain ⟨⟨x0, x1⟩, ⟨y0, y1⟩, -, -⟩ := hSw; go_simp <;> (try with_reducible rfl))
            try simp only [Act.put, List.setIfInBounds_toArray, List.set_cons_zero, List.set_cons_succ]
            refine wpAnyH_take (i := 22) (oi := ?i22o) (v := undef) ?i22h (by kernel_rfl) (by kernel_rfl) (by kernel_rfl) ?i22q ?i22y hHeld ?i22r
            case i22h => (simp only [List.getElem?_toArray, List.getElem?_cons_succ, List.getElem?_cons_zero]; rfl)
            case i22q => exact fun _ _ _ h => h
            case i22y => exact Or.inr ⟨by first | kernel_rfl | rfl, rfl⟩
            try simp only [Act.put, List.setIfInBounds_toArray, List.set_cons_zero, List.set_cons_succ]
            refine wpAnyH_take (i := 23) (oi := ?i23o) (v := undef) ?i23h (by kernel_rfl) (by kernel_rfl) (by kernel_rfl) ?i23q ?i23y hHeld ?i23r
            case i23h => (simp only [List.getElem?_toArray, List.getElem?_cons_succ, List.getElem?_cons_zero]; rfl)
            case i23q => exact fun _ _ _ h => h
            case i23y => exact Or.inr ⟨by first | kernel_rfl | rfl, rfl⟩
            try simp only [Act.put, List.setIfInBounds_toArray, List.set_cons_zero, List.set_cons_succ]
            refine wpAnyH_take (i := 24) (oi := ?i24o) (v := undef) ?i24h (by kernel_rfl) (by kernel_rfl) (by kernel_rfl) ?i24q ?i24y hHeld ?i24r
            case i24h => (simp only [List.getElem?_toArray, List.getElem?_cons_succ, List.getElem?_cons_zero]; rfl)
            case i24q => exact fun _ _ _ h => h
            case i24y => exact Or.inr ⟨by first | kernel_rfl | rfl, rfl⟩
            try simp only [Act.put, List.setIfInBounds_toArray, List.set_cons_zero, List.set_cons_succ]
            refine wpAnyH_take (i := 25) (oi := ?i25o) (v := undef) ?i25h (by kernel_rfl) (by kernel_rfl) (by kernel_rfl) ?i25q ?i25y hHeld ?i25r
            case i25h => (simp only [List.getElem?_toArray, List.getElem?_cons_succ, List.getElem?_cons_zero]; rfl)
            case i25q => exact fun _ _ _ h => h
            case i25y => exact Or.inr ⟨by first | kernel_rfl | rfl, rfl⟩
            try simp only [Act.put, List.setIfInBounds_toArray, List.set_cons_zero, List.set_cons_succ]
            refine wpAnyH_take (i := 26) (oi := ?i26o) (v := undef) ?i26h (by kernel_rfl) (by kernel_rfl) (by kernel_rfl) ?i26q ?i26y hHeld ?i26r
            case i26h => (simp only [List.getElem?_toArray, List.getElem?_cons_succ, List.getElem?_cons_zero]; rfl)
            case i26q => exact fun _ _ _ h => h
            case i26y => exact Or.inr ⟨by first | kernel_rfl | rfl, rfl⟩
            try simp only [Act.put, List.setIfInBounds_toArray, List.set_cons_zero, List.set_cons_succ]
            refine wpAnyH_take (i := 27) (oi := ?i27o) (v := undef) ?i27h (by kernel_rfl) (by kernel_rfl) (by kernel_rfl) ?i27q ?i27y hHeld ?i27r
            case i27h => (simp only [List.getElem?_toArray, List.getElem?_cons_succ, List.getElem?_cons_zero]; rfl)
            case i27q => exact fun _ _ _ h => h
            case i27y => exact Or.inr ⟨by first | kernel_rfl | rfl, rfl⟩
            try simp only [Act.put, List.setIfInBounds_toArray, List.set_cons_zero, List.set_cons_succ]
            refine wpAnyH_take (i := 28) (oi := ?i28o) (v := undef) ?i28h (by kernel_rfl) (by kernel_rfl) (by kernel_rfl) ?i28q ?i28y hHeld ?i28r
            case i28h => (simp only [List.getElem?_toArray, List.getElem?_cons_succ, List.getElem?_cons_zero]; rfl)
            case i28q => exact fun _ _ _ h => h
            case i28y => exact Or.inr ⟨by first | kernel_rfl | rfl, rfl⟩
            try simp only [Act.put, List.setIfInBounds_toArray, List.set_cons_zero, List.set_cons_succ]
            refine wpAnyH_take (i := 29) (oi := ?i29o) (v := undef) ?i29h (by kernel_rfl) (by kernel_rfl) (by kernel_rfl) ?i29q ?i29y hHeld ?i29r
            case i29h => (simp only [List.getElem?_toArray, List.getElem?_cons_succ, List.getElem?_cons_zero]; rfl)
            case i29q => exact fun _ _ _ h => h
            case i29y => exact Or.inr ⟨by first | kernel_rfl | rfl, rfl⟩
            try simp only [Act.put, List.setIfInBounds_toArray, List.set_cons_zero, List.set_cons_succ]
            refine wpAnyH_take (i := 30) (oi := ?i30o) (v := undef) ?i30h (by kernel_rfl) (by kernel_rfl) (by kernel_rfl) ?i30q ?i30y hHeld ?i30r
            case i30h => (simp only [List.getElem?_toArray, List.getElem?_cons_succ, List.getElem?_cons_zero]; rfl)
            case i30q => exact fun _ _ _ h => h
            case i30y => exact Or.inr ⟨by first | kernel_rfl | rfl, rfl⟩
            try simp only [Act.put, List.setIfInBounds_toArray, List.set_cons_zero, List.set_cons_succ]
            refine wpAnyH_take (i := 31) (oi := ?i31o) (v := undef) ?i31h (by kernel_rfl) (by kernel_rfl) (by kernel_rfl) ?i31q ?i31y hHeld ?i31r
            case i31h => (simp only [List.getElem?_toArray, List.getElem?_cons_succ, List.getElem?_cons_zero]; rfl)
            case i31q => exact fun _ _ _ h => h
            case i31y => exact Or.inr ⟨by first | kernel_rfl | rfl, rfl⟩
            try simp only [Act.put, List.setIfInBounds_toArray, List.set_cons_zero, List.set_cons_succ]
            refine wpAnyH_take (i := 32) (oi := ?i32o) (v := undef) ?i32h (by kernel_rfl) (by kernel_rfl) (by kernel_rfl) ?i32q ?i32y hHeld ?i32r
            case i32h => (simp only [List.getElem?_toArray, List.getElem?_cons_succ, List.getElem?_cons_zero]; rfl)
            case i32q => exact fun _ _ _ h => h
            case i32y => exact Or.inr ⟨by first | kernel_rfl | rfl, rfl⟩
            try simp only [Act.put, List.setIfInBounds_toArray, List.set_cons_zero, List.set_cons_succ]
            refine wpAnyH_take (i := 33) (oi := ?i33o) (v := undef) ?i33h (by kernel_rfl) (by kernel_rfl) (by kernel_rfl) ?i33q ?i33y hHeld ?i33r
            case i33h => (simp only [List.getElem?_toArray, List.getElem?_cons_succ, List.getElem?_cons_zero]; rfl)
            case i33q => exact fun _ _ _ h => h
            case i33y => exact Or.inr ⟨by first | kernel_rfl | rfl, rfl⟩
            try simp only [Act.put, List.setIfInBounds_toArray, List.set_cons_zero, List.set_cons_succ]
            refine wpAnyH_take (i := 34) (oi := ?i34o) (v := ?i34v) ?i34h (by kernel_rfl) (by kernel_rfl) (by kernel_rfl) ?i34q ?i34y hHeld ?i34r
            case i34h => (simp only [List.getElem?_toArray, List.getElem?_cons_succ, List.getElem?_cons_zero]; rfl)
            case i34q => exact fun _ _ _ h => h
            case i34y => (refine Or.inl ⟨by first | kernel_rfl | rfl, ?_⟩; intro w hSw; obtain ⟨⟨x0, x1⟩, ⟨y0, y1⟩, -, -⟩ := hSw; go_simp <;> (try with_reducible rfl))
            try simp only [Act.put, List.setIfInBounds_toArray, List.set_cons_zero, List.set_cons_succ]
            refine wpAnyH_take (i := 35) (oi := ?i35o) (v := ?i35v) ?i35h (by kernel_rfl) (by kernel_rfl) (by kernel_rfl) ?i35q ?i35y hHeld ?i35r
            case i35h => (simp only [List.getElem?_toArray, List.getElem?_cons_succ, List.getElem?_cons_zero]; rfl)
            case i35q => exact fun _ _ _ h => h
            case i35y => (refine Or.inl ⟨by first | kernel_rfl | rfl, ?_⟩; intro w hSw; obtain ⟨⟨x0, x1⟩, ⟨y0, y1⟩, -, -⟩ := hSw; go_simp <;> (try with_reducible rfl))
            try simp only [Act.put, List.setIfInBounds_toArray, List.set_cons_zero, List.set_cons_succ]
            refine wpAnyH_take (i := 36) (oi := ?i36o) (v := ?i36v) ?i36h (by kernel_rfl) (by kernel_rfl) (by kernel_rfl) ?i36q ?i36y hHeld ?i36r
            case i36h => (simp only [List.getElem?_toArray, List.getElem?_cons_succ, List.getElem?_cons_zero]; rfl)
            case i36q => exact fun _ _ _ h => h
            case i36y => (refine Or.inl ⟨by first | kernel_rfl | rfl, ?_⟩; intro w hSw; obtain ⟨⟨x0, x1⟩, ⟨y0, y1⟩, -, -⟩ := hSw; go_simp <;> (try with_reducible rfl))
            try simp only [Act.put, List.setIfInBounds_toArray, List.set_cons_zero, List.set_cons_succ]
            refine wpAnyH_take (i := 37) (oi := ?i37o) (v := ?i37v) ?i37h (by kernel_rfl) (by kernel_rfl) (by kernel_rfl) ?i37q ?i37y hHeld ?i37r
            case i37h => (simp only [List.getElem?_toArray, List.getElem?_cons_succ, List.getElem?_cons_zero]; rfl)
            case i37q => exact fun _ _ _ h => h
            case i37y => (refine Or.inl ⟨by first | kernel_rfl | rfl, ?_⟩; intro w hSw; obtain ⟨⟨x0, x1⟩, ⟨y0, y1⟩, -, -⟩ := hSw; go_simp <;> (try with_reducible rfl))
            try simp only [Act.put, List.setIfInBounds_toArray, List.set_cons_zero, List.set_cons_succ]
            refine wpAnyH_take (i := 38) (oi := ?i38o) (v := ?i38v) ?i38h (by kernel_rfl) (by kernel_rfl) (by kernel_rfl) ?i38q ?i38y hHeld ?i38r
            case i38h => (simp only [List.getElem?_toArray, List.getElem?_cons_succ, List.getElem?_cons_zero]; rfl)
            case i38q => exact fun _ _ _ h => h
            case i38y => (refine Or.inl ⟨by first | kernel_rfl | rfl, ?_⟩; intro w hSw; obtain ⟨⟨x0, x1⟩, ⟨y0, y1⟩, -, -⟩ := hSw; go_simp <;> (try with_reducible rfl))
            try simp only [Act.put, List.setIfInBounds_toArray, List.set_cons_zero, List.set_cons_succ]
            refine wpAnyH_take (i := 39) (oi := ?i39o) (v := ?i39v) ?i39h (by kernel_rfl) (by kernel_rfl) (by kernel_rfl) ?i39q ?i39y hHeld ?i39r
            case i39h => (simp only [List.getElem?_toArray, List.getElem?_cons_succ, List.getElem?_cons_zero]; rfl)
            case i39q => exact fun _ _ _ h => h
            case i39y => (refine Or.inl ⟨by first | kernel_rfl | rfl, ?_⟩; intro w hSw; obtain ⟨⟨x0, x1⟩, ⟨y0, y1⟩, -, -⟩ := hSw; go_simp <;> (try with_reducible rfl))
            try simp only [Act.put, List.setIfInBounds_toArray, List.set_cons_zero, List.set_cons_succ]
            refine wpAnyH_take (i := 41) (oi := ?i40o) (v := ?i40v) ?i40h (by kernel_rfl) (by kernel_rfl) (by kernel_rfl) ?i40q ?i40y hHeld ?i40r
            case i40h => (simp only [List.getElem?_toArray, List.getElem?_cons_succ, List.getElem?_cons_zero]; rfl)
            case i40q => exact fun _ _ _ h => h
            case i40y => (refine Or.inl ⟨by first | kernel_rfl | rfl, ?_⟩; intro w hSw; obtain ⟨⟨x0, x1⟩, ⟨y0, y1⟩, -, -⟩ := hSw; go_simp <;> (try with_reducible rfl))
            try simp only [Act.put, List.setIfInBounds_toArray, List.set_cons_zero, List.set_cons_succ]
            refine wpAnyH_take (i := 42) (oi := ?i41o) (v := ?i41v) ?i41h (by kernel_rfl) (by kernel_rfl) (by kernel_rfl) ?i41q ?i41y hHeld ?i41r
            case i41h => (simp only [List.getElem?_toArray, List.getElem?_cons_succ, List.getElem?_cons_zero]; rfl)
            case i41q => exact fun _ _ _ h => h
            case i41y => (refine Or.inl ⟨by first | kernel_rfl | rfl, ?_⟩; intro w hSw; obtain ⟨⟨x0, x1⟩, ⟨y0, y1⟩, -, -⟩ := hSw; go_simp <;> (try with_reducible rfl))
            try simp only [Act.put, List.setIfInBounds_toArray, List.set_cons_zero, List.set_cons_succ]
            refine wpAnyH_ready (rs := [40]) (by kernel_rfl) (by simp) ?_
            refine (AllReadyH.cons rfl (fun K hK => ?_) AllReadyH.nil)
            go_simp
            ((with_reducible refine (ks1 _ hHeld.tab).mono ?_); rintro e w' ⟨rfl, rfl⟩)
            refine hK.out _ _ (hHeld) (fun hHeld => ?_)
            clear hK K
            try simp only [Act.put, List.setIfInBounds_toArray, List.set_cons_zero, List.set_cons_succ]
            refine wpAnyH_take (i := 43) (oi := ?i42o) (v := ?i42v) ?i42h (by kernel_rfl) (by kernel_rfl) (by kernel_rfl) ?i42q ?i42y hHeld ?i42r
            case i42h => (simp only [List.getElem?_toArray, List.getElem?_cons_succ, List.getElem?_cons_zero]; rfl)
            case i42q => exact fun _ _ _ h => h
            case i42y => (refine Or.inl ⟨by first | kernel_rfl | rfl, ?_⟩; intro w hSw; obtain ⟨⟨x0, x1⟩, ⟨y0, y1⟩, -, -⟩ := hSw; go_simp <;> (try with_reducible rfl))
            try simp only [Act.put, List.setIfInBounds_toArray, List.set_cons_zero, List.set_cons_succ]
            refine wpAnyH_take (i := 44) (oi := ?i43o) (v := ?i43v) ?i43h (by kernel_rfl) (by kernel_rfl) (by kernel_rfl) ?i43q ?i43y hHeld ?i43r
            case i43h => (simp only [List.getElem?_toArray, List.getElem?_cons_succ, List.getElem?_cons_zero]; rfl)
            case i43q => exact fun _ _ _ h => h
            case i43y => (refine Or.inl ⟨by first | kernel_rfl | rfl, ?_⟩; intro w hSw; obtain ⟨⟨x0, x1⟩, ⟨y0, y1⟩, -, -⟩ := hSw; go_simp <;> (try with_reducible rfl))
            try simp only [Act.put, List.setIfInBounds_toArray, List.set_cons_zero, List.set_cons_succ]
            refine wpAnyH_take (i := 45) (oi := ?i44o) (v := ?i44v) ?i44h (by kernel_rfl) (by kernel_rfl) (by kernel_rfl) ?i44q ?i44y hHeld ?i44r
            case i44h => (simp only [List.getElem?_toArray, List.getElem?_cons_succ, List.getElem?_cons_zero]; rfl)
            case i44q => exact fun _ _ _ h => h
            case i44y => (refine Or.inl ⟨by first | kernel_rfl | rfl, ?_⟩; intro w hSw; obtain ⟨⟨x0, x1⟩, ⟨y0, y1⟩, -, -⟩ := hSw; go_simp <;> (try with_reducible rfl))
            try simp only [Act.put, List.setIfInBounds_toArray, List.set_cons_zero, List.set_cons_succ]
            refine wpAnyH_take (i := 46) (oi := ?i45o) (v := ?i45v) ?i45h (by kernel_rfl) (by kernel_rfl) (by kernel_rfl) ?i45q ?i45y hHeld ?i45r
            case i45h => (simp only [List.getElem?_toArray, List.getElem?_cons_succ, List.getElem?_cons_zero]; rfl)
            case i45q => exact fun _ _ _ h => h
            case i45y => (refine Or.inl ⟨by first | kernel_rfl | rfl, ?_⟩; intro w hSw; obtain ⟨⟨x0, x1⟩, ⟨y0, y1⟩, -, -⟩ := hSw; go_simp <;> (try with_reducible rfl))
            try simp only [Act.put, List.setIfInBounds_toArray, List.set_cons_zero, List.set_cons_succ]
            refine wpAnyH_take (i := 47) (oi := ?i46o) (v := ?i46v) ?i46h (by kernel_rfl) (by kernel_rfl) (by kernel_rfl) ?i46q ?i46y hHeld ?i46r
            case i46h => (simp only [List.getElem?_toArray, List.getElem?_cons_succ, List.getElem?_cons_zero]; rfl)
            case i46q => exact fun _ _ _ h => h
            case i46y => (refine Or.inl ⟨by first | kernel_rfl | rfl, ?_⟩; intro w hSw; obtain ⟨⟨x0, x1⟩, ⟨y0, y1⟩, -, -⟩ := hSw; go_simp <;> (try with_reducible rfl))
            try simp only [Act.put, List.setIfInBounds_toArray, List.set_cons_zero, List.set_cons_succ]
            refine wpAnyH_take (i := 48) (oi := ?i47o) (v := ?i47v) ?i47h (by kernel_rfl) (by kernel_rfl) (by kernel_rfl) ?i47q ?i47y hHeld ?i47r
            case i47h => (simp only [List.getElem?_toArray, List.getElem?_cons_succ, List.getElem?_cons_zero]; rfl)
            case i47q => exact fun _ _ _ h => h
            case i47y => (refine Or.inl ⟨by first | kernel_rfl | rfl, ?_⟩; intro w hSw; obtain ⟨⟨x0, x1⟩, ⟨y0, y1⟩, -, -⟩ := hSw; go_simp <;> (try with_reducible rfl))
            try simp only [Act.put, List.setIfInBounds_toArray, List.set_cons_zero, List.set_cons_succ]
            refine wpAnyH_take (i := 49) (oi := ?i48o) (v := ?i48v) ?i48h (by kernel_rfl) (by kernel_rfl) (by kernel_rfl) ?i48q ?i48y hHeld ?i48r
            case i48h => (simp only [List.getElem?_toArray, List.getElem?_cons_succ, List.getElem?_cons_zero]; rfl)
            case i48q => exact fun _ _ _ h => h
            case i48y => (refine Or.inl ⟨by first | kernel_rfl | rfl, ?_⟩; intro w hSw; obtain ⟨⟨x0, x1⟩, ⟨y0, y1⟩, -, -⟩ := hSw; go_simp <;> (try with_reducible rfl))
            try simp only [Act.put, List.setIfInBounds_toArray, List.set_cons_zero, List.set_cons_succ]
            refine wpAnyH_take (i := 51) (oi := ?i49o) (v := ?i49v) ?i49h (by kernel_rfl) (by kernel_rfl) (by kernel_rfl) ?i49q ?i49y hHeld ?i49r
            case i49h => (simp only [List.getElem?_toArray, List.getElem?_cons_succ, List.getElem?_cons_zero]; rfl)
            case i49q => exact fun _ _ _ h => h
            case i49y => (refine Or.inl ⟨by first | kernel_rfl | rfl, ?_⟩; intro w hSw; obtain ⟨⟨x0, x1⟩, ⟨y0, y1⟩, -, -⟩ := hSw; go_simp <;> (try with_reducible rfl))
            try simp only [Act.put, List.setIfInBounds_toArray, List.set_cons_zero, List.set_cons_succ]
            refine wpAnyH_take (i := 52) (oi := ?i50o) (v := ?i50v) ?i50h (by kernel_rfl) (by kernel_rfl) (by kernel_rfl) ?i50q ?i50y hHeld ?i50r
            case i50h => (simp only [List.getElem?_toArray, List.getElem?_cons_succ, List.getElem?_cons_zero]; rfl)
            case i50q => exact fun _ _ _ h => h
            case i50y => (refine Or.inl ⟨by first | kernel_rfl | rfl, ?_⟩; intro w hSw; obtain ⟨⟨x0, x1⟩, ⟨y0, y1⟩, -, -⟩ := hSw; go_simp <;> (try with_reducible rfl))
            try simp only [Act.put, List.setIfInBounds_toArray, List.set_cons_zero, List.set_cons_succ]
            refine wpAnyH_ready (rs := [50]) (by kernel_rfl) (by simp) ?_
            refine (AllReadyH.cons rfl (fun K hK => ?_) AllReadyH.nil)
            go_simp
            ((with_reducible refine (ks2 _ hHeld.tab).mono ?_); rintro e w' ⟨rfl, rfl⟩)
            refine hK.out _ _ (hHeld) (fun hHeld => ?_)
            clear hK K
            try simp only [Act.put, List.setIfInBounds_toArray, List.set_cons_zero, List.set_cons_succ]
            refine wpAnyH_take (i := 53) (oi := ?i51o) (v := ?i51v) ?i51h (by kernel_rfl) (by kernel_rfl) (by kernel_rfl) ?i51q ?i51y hHeld ?i51r
            case i51h => (simp only [List.getElem?_toArray, List.getElem?_cons_succ, List.getElem?_cons_zero]; rfl)
            case i51q => exact fun _ _ _ h => h
            case i51y => (refine Or.inl ⟨by first | kernel_rfl | rfl, ?_⟩; intro w hSw; obtain ⟨⟨x0, x1⟩, ⟨y0, y1⟩, -, -⟩ := hSw; go_simp <;> (try with_reducible rfl))
            try simp only [Act.put, List.setIfInBounds_toArray, List.set_cons_zero, List.set_cons_succ]
            refine wpAnyH_take (i := 54) (oi := ?i52o) (v := ?i52v) ?i52h (by kernel_rfl) (by kernel_rfl) (by kernel_rfl) ?i52q ?i52y hHeld ?i52r
            case i52h => (simp only [List.getElem?_toArray, List.getElem?_cons_succ, List.getElem?_cons_zero]; rfl)
            case i52q => exact fun _ _ _ h => h
            case i52y => (refine Or.inl ⟨by first | kernel_rfl | rfl, ?_⟩; intro w hSw; obtain ⟨⟨x0, x1⟩, ⟨y0, y1⟩, -, -⟩ := hSw; go_simp <;> (try with_reducible rfl))
            try simp only [Act.put, List.setIfInBounds_toArray, List.set_cons_zero, List.set_cons_succ]
            refine wpAnyH_done (by kernel_rfl) ?_ _
            have hbel := hHeld.bel
            refine noPanic_n ?_
            gi_wp2
            go_roundw
            case rel => exact ⟨k + 1, by go_num, by omega, hbel⟩
            case measure => simp [intOf]; omega
        · have hk4i : ¬ (k : Int) < 4 := by omega
          have hc0 := H2.out.c0
          have hc1 := H2.out.c1
          have hr2 := H2.out.r
          have hz2 := H2.out.z
          have hs2 := H2.out.size
          rename_i Kl hKl
          have hKl2 : ∀ a w, _ → Kl a w := fun a w h => hKl a w (wide_of h)
          clear hKl
          gi_wp2
          by_cases hf0 : fr < 0
          · go_wp2
            exact fin_early _ H2.out.bel (by omega) (World.cell?_setCell_same _ _ _ hr2) rfl rfl
          by_cases hf1 : 1099511627776 < fr
          · go_wp2
            exact fin_early _ H2.out.bel (by omega) (World.cell?_setCell_same _ _ _ hr2) rfl rfl
          obtain ⟨r, hr⟩ : ∃ r, q0.tmod 5000 = r := ⟨_, rfl⟩
          have hrb := tmod_bounds q0 5000 (by omega)
          rw [hr] at hrb
          clear hr2 hz2
          go_upto_if 107 with fail
          go_cut [11] from 31 (fun v W => W = w2 ∧ ∃ n : Int, v = .int .i64 n ∧ 0 ≤ n ∧ n < 5000)
          case first =>
            by_cases hneg : r < 0
            · have hwn : IntKind.i64.wrap (-r) = -r := by rw [IntKind.wrap_i64]; omega
              go_wp2_with fail
              go_meet
              case rel => exact ⟨rfl, -r, rfl, by omega, by omega⟩
            · go_wp2_with fail
              go_meet
              case rel => exact ⟨rfl, r, rfl, by omega, by omega⟩
          case rest =>
            obtain ⟨hwc, n, rfl, hn0, hn1⟩ := hcut
            rw [hwc]
            clear hwc hr hrb wc
            obtain ⟨e, he⟩ : ∃ e, fr + n = e := ⟨_, rfl⟩
            have hwe : IntKind.i64.wrap e = e := by rw [IntKind.wrap_i64]; omega
            go_upto_if 117 with fail
            go_cut [] from 31 (fun W => ∃ z : Int, W = w2.alloc (.cells #[.int .i64 fr, .int .i64 z] 26) ∧ fr ≤ z ∧ z ≤ 1099511627777)
            case first =>
              by_cases hce : 1099511627777 < e
              · go_wp2_with fail
                go_meet
                case rel => exact ⟨1099511627777, rfl, by omega, by omega⟩
              · go_wp2_with fail
                go_meet
                case rel => exact ⟨e, rfl, by omega, by omega⟩
            case rest =>
              obtain ⟨z, hwc, hz0, hz1⟩ := hcut
              rw [hwc]
              clear he hwe hn0 hn1 hwc wc
              obtain ⟨s, hs⟩ : ∃ s : Sp, Sp.mk fr z = s := ⟨_, rfl⟩
              have hsf : s.f = fr := by rw [← hs]
              have hst : s.t = z := by rw [← hs]
              have hsis : s.is = true := Sp.is_iff.2 (by omega)
              have HSP := Lib.hid (show SpAt (w2.alloc (.cells #[.int .i64 fr, .int .i64 z] 26)) w2.heap.size s by rw [← hs]; exact SpAt.new w2 ⟨fr, z⟩ 26)
              have H3 := Lib.hid (H2.out.keep ((Below.refl _ _).alloc (Nat.le_refl _) (.cells #[.int .i64 fr, .int .i64 z] 26)))
              have hc13 := H3.out.c1
              have HSF := Lib.hid (And.intro hsf hst)
              obtain ⟨kk, hkk⟩ : ∃ kk, bits .and .i64 q1 3 = kk := ⟨_, rfl⟩
              have hkb : 0 ≤ kk ∧ kk ≤ 3 := by rw [← hkk, and3]; omega
              have HTn := Lib.hid (((H3.out.keep ((Below.refl _ _).alloc (Nat.le_refl _) (.cells #[.int .i64 kk] 3))).keep ((Below.refl _ _).alloc (Nat.le_refl _) (.cells #[.int .i64 0] 3))).keep ((Below.refl _ _).alloc (Nat.le_refl _) (.cells #[.int .i64 (-1)] 3)))
              have ke : ∀ W, Tab W → Calls Tryd.prog 17 #[.agg #[.int .i64 fr, .int .i64 z], .int .i64 kk] W (EachDone s kk W) := fun W h => by have := each_is s kk W h; unfold Sp.v at this; rw [hsf, hst] at this; exact this
              clear k0 hs hsf hst
              go_wp2_with (go_at_call 17; (with_reducible refine (ke _ HTn.out.tab).mono ?_); rintro e5 w5 ⟨Bc, Bw, Bt, rfl, hge, hE, hb⟩; (have HE := Lib.hid hE); (have HGE := Lib.hid hge); (have H5 := Lib.hid hb); clear hge hE hb)
              obtain ⟨g1, g2, g3⟩ := HGE.out
              have h5s := H5.out.size
              simp at g1 g2 g3 h5s
              have HS5 := Lib.hid (show SpAt w5 w2.heap.size s from ⟨(H5.out.cell (p := ⟨w2.heap.size, 0, none⟩) (by simp <;> omega)).trans (by simp [go_sem, HSF.out.1]), (H5.out.cell (p := ⟨w2.heap.size, 1, none⟩) (by simp <;> omega)).trans (by simp [go_sem, HSF.out.2])⟩)
              have HK5 := Lib.hid ((H5.out.cell (p := ⟨w2.heap.size + 1, 0, none⟩) (by simp <;> omega)).trans (show _ = some (.int .i64 kk) by simp [go_sem]))
              have HBm := Lib.hid (show Boxed w5 (w2.heap.size + 1 + 1) 3 (.int .i64 0) from (H5.out.block (w2.heap.size + 1 + 1) (by simp)).trans (by
                have := (Boxed.new ((w2.alloc (.cells #[.int .i64 fr, .int .i64 z] 26)).alloc (.cells #[.int .i64 kk] 3)) 3 (.int .i64 0)).alloc (.cells #[.int .i64 (-1)] 3)
                simp only [World.size_alloc] at this
                exact this))
              have HBl := Lib.hid (show Boxed w5 (w2.heap.size + 1 + 1 + 1) 3 (.int .i64 (-1)) from (H5.out.block (w2.heap.size + 1 + 1 + 1) (by simp)).trans (by
                have := (Boxed.new (((w2.alloc (.cells #[.int .i64 fr, .int .i64 z] 26)).alloc (.cells #[.int .i64 kk] 3)).alloc (.cells #[.int .i64 0] 3)) 3 (.int .i64 (-1)))
                simp only [World.size_alloc] at this
                exact this))
              have hroom := H2.out.tab.room
              have hEB : ∀ q, EB Bc Bw Bt q → q ≠ w2.heap.size + 1 + 1 ∧ q ≠ w2.heap.size + 1 + 1 + 1 ∧ q ≠ w.heap.size + 1 := by
                have := hT.room
                rintro q (rfl | rfl | rfl | rfl) <;> omega
              have hEL := HE.out.room
              have HG5 := Lib.hid (HTn.out.keep H5.out)
              rename_i Kf hKf
              obtain ⟨L, hL⟩ : ∃ L, allW s kk = L := ⟨_, rfl⟩
              have HLL := Lib.hid hL
              have HSIS := Lib.hid hsis
              have HKB := Lib.hid hkb
              have hrest : ∀ (D : Nat) (W : World), PE w q0 q1 w2.heap.size s kk (L.length : Int) (lastT L) D W → Kf { tmps := #[Value.int IntKind.i64 t, Value.int IntKind.i64 fr, Value.agg #[Value.int IntKind.i64 q0, Value.int IntKind.i64 q1], undef, undef, Value.pointer (some ⟨w.heap.size, 0, none⟩), Value.pointer (some ⟨w.heap.size + 1, 0, none⟩), Value.bool true, Value.int IntKind.i64 (k : Int), u9, u10, Value.int IntKind.i64 n, Value.pointer (some ⟨w2.heap.size, 0, none⟩), Value.pointer (some ⟨w2.heap.size + 1, 0, none⟩), Value.pointer (some ⟨w2.heap.size + 1 + 1, 0, none⟩), Value.pointer (some ⟨w2.heap.size + 1 + 1 + 1, 0, none⟩), undef, undef, undef, Value.bool true, Value.bool true, Value.bool false, Value.bool false, Value.int IntKind.i64 t, Value.bool (decide (t < 0)), Value.bool (decide (t < 0)), Value.bool (decide (t < 0)), Value.int IntKind.i64 t, Value.bool (decide (1099511627776 < t)), Value.bool (decide (t < 0) || decide (1099511627776 < t)), undef, u31, u32, u33, u34, u35, u36, u37, u38, u39, u40, u41, u42, u43, u44, u45, u46, u47, u48, u49, u50, u51, u52, u53, u54, u55, u56, u57, u58, u59, u60, u61, u62, u63, u64, u65, u66, u67, u68, u69, u70, u71, u72, u73, u74, u75, u76, u77, u78, u79, u80, u81, u82, u83, u84, u85, u86, u87, u88, u89, u90, u91, u92, u93, u94, u95, u96, u97, u98, u99, u100, u101, u102, u103, u104, u105, u106, u107, u108, u109, u110, u111, u112, u113, u114, u115, u116, u117, u118, Value.pointer (some ⟨w.heap.size, 1, none⟩), Value.int IntKind.i64 q1, Value.int IntKind.i64 kk, Value.agg #[Value.int IntKind.i64 fr, Value.int IntKind.i64 z], Value.int IntKind.i64 kk, ECL Bc Bw Bt, u125, u126, u127, u128, u129, u130, u131, u132, u133, u134, u135, u136, u137, u138, u139, u140, u141, u142, u143, u144, u145, u146, u147, u148, u149, u150, u151, u152, u153, u154, u155, u156, u157, u158, u159, u160, u161, u162, u163, u164, u165, u166, u167, u168, u169, u170, u171, u172, u173, u174, u175, u176, u177, u178, u179, u180, u181, u182, u183, u184, u185, u186, u187, u188, u189, u190, u191, u192, u193, u194, u195, u196, u197, u198, u199, u200, u201, u202, u203, u204, u205, u206, u207, u208, u209, u210, u211, u212, u213, u214, u215, u216, u217, u218, u219, u220, u221, u222, u223, u224, u225, u226, u227, u228, u229], defers := [{ target := .collected D, args := #[] }] } W := by
                intro D W hPE
                have HPE := Lib.hid hPE
                have hend := parts_end HSIS.out HKB.out
                rw [HLL.out] at hend
                have hN : (L.length : Int) = s.count kk := by
                  rw [← HLL.out, allW_length]
                  have := count_bounds s kk
                  omega
                rw [hN] at HPE
                obtain ⟨c, hc⟩ : ∃ c, s.cover kk = c := ⟨_, rfl⟩
                obtain ⟨inn, hin⟩ : ∃ c, s.inner kk = c := ⟨_, rfl⟩
                obtain ⟨N, hNN⟩ : ∃ c, s.count kk = c := ⟨_, rfl⟩
                obtain ⟨T, hTT⟩ : ∃ c, lastT L = c := ⟨_, rfl⟩
                rw [hc, hin, hNN, hTT] at hend
                rw [hNN, hTT] at HPE
                have kco := fun W h => cover_is s c kk W h (Lib.hid hc)
                have kin := fun W h => inner_is s inn kk W h (Lib.hid hin)
                have kal := fun W h => aligned_is c kk true W h (Lib.hid hend.al)
                have kcn := fun W h => count_is s kk N W h (Lib.hid hNN)
                unfold Sp.v at kco kin kal kcn
                have i1 : ¬ inn.f < s.f := by have := hend.lo; omega
                have i2 : ¬ s.t < inn.t := by have := hend.hi; omega
                have HEND := Lib.hid hend
                have hW0 := HPE.out.sb
                obtain ⟨sb0, sb1⟩ := hW0
                have hk0 := HPE.out.kb
                clear hPE hend hN hc hin hNN hTT
                refine hKf _ _ ?_
                go_wp2_with (first
                  | (go_at_call 25; (with_reducible refine (kco _ HPE.out.g.tab).mono ?_); rintro e w6 ⟨rfl, hb⟩; (have H6 := Lib.hid ((HPE.out.keep hb).keep ((Below.refl _ _).alloc (Nat.le_refl _) (.cells #[.int .i64 c.f, .int .i64 c.t] 26)))); (have HC6 := Lib.hid (SpAt.new w6 c 26)); (have HCB := Lib.hid (show w.heap.size + 1 ≠ w6.heap.size by have := HPE.out.g.size; have := hb.size; omega)); (have hW1 := H6.out.sb); (obtain ⟨sb2, sb3⟩ := hW1); (have hk1 := H6.out.kb); clear hb)
                  | (go_at_call 27; (with_reducible refine (kin _ H6.out.g.tab).mono ?_); rintro e w7 ⟨rfl, hb⟩; (have H7 := Lib.hid ((H6.out.keep hb).keep ((Below.refl _ _).alloc (Nat.le_refl _) (.cells #[.int .i64 inn.f, .int .i64 inn.t] 26)))); (have HC7 := Lib.hid ((HC6.out.below hb).below ((Below.refl _ _).alloc (Nat.le_refl _) (.cells #[.int .i64 inn.f, .int .i64 inn.t] 26)))); (have hW2 := H7.out.sb); (obtain ⟨sb4, sb5⟩ := hW2); (have hk2 := H7.out.kb); (have hW3 := HC7.out); (obtain ⟨cb0, cb1⟩ := hW3); (have hW4 := SpAt.new w7 inn 26); (obtain ⟨ib0, ib1⟩ := hW4); clear hb)
                  | (go_at_call 23; (with_reducible refine (kal _ H7.out.g.tab).mono ?_); rintro e w8 ⟨rfl, hb⟩; (have H8 := Lib.hid (H7.out.keep hb)); (have H8D := Lib.hid (H8.out.keep ((Below.refl _ _).drew))); (have HC8 := Lib.hid ((HC7.out.below hb).below ((Below.refl _ _).drew))); (have HPS := Lib.hid (PS.mk H8D.out.sb H8D.out.kb H8D.out.mb H8D.out.lb HC8.out)); clear hb))
                have qN : (N == N) = true := by simp
                by_cases hst : s.f = s.t
                · have d0 := HEND.out.empty hst
                  have d1 : (s.f == s.t) = true := by simpa using hst
                  have d2 : (N == 0) = true := by simpa using d0
                  clear hst d0
                  as_aux_lemma =>
                  refine wp_region_held_drew (S := (PS w2.heap.size s kk N T w6.heap.size c)) (by kernel_rfl) HPS.out (fun hHeld => ?_)
                  refine wpAnyH_take (i := 0) (oi := ?j1o) (v := ?j1v) ?j1h (by kernel_rfl) (by kernel_rfl) (by kernel_rfl) ?j1q ?j1y hHeld ?j1r
                  case j1h => (simp only [List.getElem?_toArray, List.getElem?_cons_zero]; rfl)
                  case j1q => exact fun _ _ _ h => h
                  case j1y => (refine Or.inl ⟨by first | kernel_rfl | rfl, ?_⟩; intro w hSw; obtain ⟨⟨x0, x1⟩, x2, x3, x4, ⟨x5, x6⟩⟩ := hSw; go_simp <;> (try with_reducible rfl))
                  try simp only [Act.put, List.setIfInBounds_toArray, List.set_cons_zero, List.set_cons_succ]
                  refine wpAnyH_take (i := 1) (oi := ?j2o) (v := ?j2v) ?j2h (by kernel_rfl) (by kernel_rfl) (by kernel_rfl) ?j2q ?j2y hHeld ?j2r
                  case j2h => (simp only [List.getElem?_toArray, List.getElem?_cons_succ, List.getElem?_cons_zero]; rfl)
                  case j2q => exact fun _ _ _ h => h
                  case j2y => (refine Or.inl ⟨by first | kernel_rfl | rfl, ?_⟩; intro w hSw; obtain ⟨⟨x0, x1⟩, x2, x3, x4, ⟨x5, x6⟩⟩ := hSw; go_simp <;> (try with_reducible rfl))
                  try simp only [Act.put, List.setIfInBounds_toArray, List.set_cons_zero, List.set_cons_succ]
                  refine wpAnyH_take (i := 2) (oi := ?j3o) (v := ?j3v) ?j3h (by kernel_rfl) (by kernel_rfl) (by kernel_rfl) ?j3q ?j3y hHeld ?j3r
                  case j3h => (simp only [List.getElem?_toArray, List.getElem?_cons_succ, List.getElem?_cons_zero]; rfl)
                  case j3q => exact fun _ _ _ h => h
                  case j3y => (refine Or.inl ⟨by first | kernel_rfl | rfl, ?_⟩; intro w hSw; obtain ⟨⟨x0, x1⟩, x2, x3, x4, ⟨x5, x6⟩⟩ := hSw; go_simp <;> (try with_reducible rfl))
                  try simp only [Act.put, List.setIfInBounds_toArray, List.set_cons_zero, List.set_cons_succ]
                  refine wpAnyH_ready (rs := [3]) (by kernel_rfl) (by simp) ?_
                  refine (AllReadyH.cons rfl (fun K hK => ?_) AllReadyH.nil)
                  go_simp
                  ((with_reducible refine (kcn _ H8D.out.g.tab).mono ?_); rintro e w9 ⟨rfl, hb9⟩; have H9 := Lib.hid (H8D.out.keep hb9))
                  refine hK.out _ _ (hHeld.keep hb9) (fun hHeld => ?_)
                  clear hK K
                  try simp only [Act.put, List.setIfInBounds_toArray, List.set_cons_zero, List.set_cons_succ]
                  refine wpAnyH_take (i := 4) (oi := ?j4o) (v := ?j4v) ?j4h (by kernel_rfl) (by kernel_rfl) (by kernel_rfl) ?j4q ?j4y hHeld ?j4r
                  case j4h => (simp only [List.getElem?_toArray, List.getElem?_cons_succ, List.getElem?_cons_zero]; rfl)
                  case j4q => exact fun _ _ _ h => h
                  case j4y => (refine Or.inl ⟨by first | kernel_rfl | rfl, ?_⟩; intro w hSw; obtain ⟨⟨x0, x1⟩, x2, x3, x4, ⟨x5, x6⟩⟩ := hSw; go_simp <;> (try with_reducible rfl))
                  try simp only [Act.put, List.setIfInBounds_toArray, List.set_cons_zero, List.set_cons_succ]
                  refine wpAnyH_take (i := 5) (oi := ?j5o) (v := ?j5v) ?j5h (by kernel_rfl) (by kernel_rfl) (by kernel_rfl) ?j5q ?j5y hHeld ?j5r
                  case j5h => (simp only [List.getElem?_toArray, List.getElem?_cons_succ, List.getElem?_cons_zero]; rfl)
                  case j5q => exact fun _ _ _ h => h
                  case j5y => (refine Or.inl ⟨by first | kernel_rfl | rfl, ?_⟩; intro w hSw; obtain ⟨⟨x0, x1⟩, x2, x3, x4, ⟨x5, x6⟩⟩ := hSw; go_simp <;> (try with_reducible rfl))
                  try simp only [Act.put, List.setIfInBounds_toArray, List.set_cons_zero, List.set_cons_succ]
                  refine wpAnyH_take (i := 6) (oi := ?j6o) (v := ?j6v) ?j6h (by kernel_rfl) (by kernel_rfl) (by kernel_rfl) ?j6q ?j6y hHeld ?j6r
                  case j6h => (simp only [List.getElem?_toArray, List.getElem?_cons_succ, List.getElem?_cons_zero]; rfl)
                  case j6q => exact fun _ _ _ h => h
                  case j6y => (refine Or.inl ⟨by first | kernel_rfl | rfl, ?_⟩; intro w hSw; obtain ⟨⟨x0, x1⟩, x2, x3, x4, ⟨x5, x6⟩⟩ := hSw; go_simp <;> (try with_reducible rfl))
                  try simp only [Act.put, List.setIfInBounds_toArray, List.set_cons_zero, List.set_cons_succ]
                  refine wpAnyH_take (i := 7) (oi := ?j7o) (v := ?j7v) ?j7h (by kernel_rfl) (by kernel_rfl) (by kernel_rfl) ?j7q ?j7y hHeld ?j7r
                  case j7h => (simp only [List.getElem?_toArray, List.getElem?_cons_succ, List.getElem?_cons_zero]; rfl)
                  case j7q => exact fun _ _ _ h => h
                  case j7y => (refine Or.inl ⟨by first | kernel_rfl | rfl, ?_⟩; intro w hSw; obtain ⟨⟨x0, x1⟩, x2, x3, x4, ⟨x5, x6⟩⟩ := hSw; go_simp <;> (try with_reducible rfl))
                  try simp only [Act.put, List.setIfInBounds_toArray, List.set_cons_zero, List.set_cons_succ]
                  refine wpAnyH_take (i := 8) (oi := ?j8o) (v := ?j8v) ?j8h (by kernel_rfl) (by kernel_rfl) (by kernel_rfl) ?j8q ?j8y hHeld ?j8r
                  case j8h => (simp only [List.getElem?_toArray, List.getElem?_cons_succ, List.getElem?_cons_zero]; rfl)
                  case j8q => exact fun _ _ _ h => h
                  case j8y => (refine Or.inl ⟨by first | kernel_rfl | rfl, ?_⟩; intro w hSw; obtain ⟨⟨x0, x1⟩, x2, x3, x4, ⟨x5, x6⟩⟩ := hSw; go_simp <;> (try with_reducible rfl))
                  try simp only [Act.put, List.setIfInBounds_toArray, List.set_cons_zero, List.set_cons_succ]
                  refine wpAnyH_take (i := 9) (oi := ?j9o) (v := ?j9v) ?j9h (by kernel_rfl) (by kernel_rfl) (by kernel_rfl) ?j9q ?j9y hHeld ?j9r
                  case j9h => (simp only [List.getElem?_toArray, List.getElem?_cons_succ, List.getElem?_cons_zero]; rfl)
                  case j9q => exact fun _ _ _ h => h
                  case j9y => (refine Or.inl ⟨by first | kernel_rfl | rfl, ?_⟩; intro w hSw; obtain ⟨⟨x0, x1⟩, x2, x3, x4, ⟨x5, x6⟩⟩ := hSw; go_simp <;> (try with_reducible rfl))
                  try simp only [Act.put, List.setIfInBounds_toArray, List.set_cons_zero, List.set_cons_succ]
                  refine wpAnyH_take (i := 10) (oi := ?j10o) (v := ?j10v) ?j10h (by kernel_rfl) (by kernel_rfl) (by kernel_rfl) ?j10q ?j10y hHeld ?j10r
                  case j10h => (simp only [List.getElem?_toArray, List.getElem?_cons_succ, List.getElem?_cons_zero]; rfl)
                  case j10q => exact fun _ _ _ h => h
                  case j10y => (refine Or.inl ⟨by first | kernel_rfl | rfl, ?_⟩; intro w hSw; obtain ⟨⟨x0, x1⟩, x2, x3, x4, ⟨x5, x6⟩⟩ := hSw; go_simp <;> (try with_reducible rfl))
                  try simp only [Act.put, List.setIfInBounds_toArray, List.set_cons_zero, List.set_cons_succ]
                  refine wpAnyH_take (i := 11) (oi := ?j11o) (v := ?j11v) ?j11h (by kernel_rfl) (by kernel_rfl) (by kernel_rfl) ?j11q ?j11y hHeld ?j11r
                  case j11h => (simp only [List.getElem?_toArray, List.getElem?_cons_succ, List.getElem?_cons_zero]; rfl)
                  case j11q => exact fun _ _ _ h => h
                  case j11y => (refine Or.inl ⟨by first | kernel_rfl | rfl, ?_⟩; intro w hSw; obtain ⟨⟨x0, x1⟩, x2, x3, x4, ⟨x5, x6⟩⟩ := hSw; go_simp <;> (try with_reducible rfl))
                  try simp only [Act.put, List.setIfInBounds_toArray, List.set_cons_zero, List.set_cons_succ]
                  refine wpAnyH_take (i := 12) (oi := ?j12o) (v := ?j12v) ?j12h (by kernel_rfl) (by kernel_rfl) (by kernel_rfl) ?j12q ?j12y hHeld ?j12r
                  case j12h => (simp only [List.getElem?_toArray, List.getElem?_cons_succ, List.getElem?_cons_zero]; rfl)
                  case j12q => exact fun _ _ _ h => h
                  case j12y => (refine Or.inl ⟨by first | kernel_rfl | rfl, ?_⟩; intro w hSw; obtain ⟨⟨x0, x1⟩, x2, x3, x4, ⟨x5, x6⟩⟩ := hSw; go_simp <;> (try with_reducible rfl))
                  try simp only [Act.put, List.setIfInBounds_toArray, List.set_cons_zero, List.set_cons_succ]
                  refine wpAnyH_take (i := 13) (oi := ?j13o) (v := ?j13v) ?j13h (by kernel_rfl) (by kernel_rfl) (by kernel_rfl) ?j13q ?j13y hHeld ?j13r
                  case j13h => (simp only [List.getElem?_toArray, List.getElem?_cons_succ, List.getElem?_cons_zero]; rfl)
                  case j13q => exact fun _ _ _ h => h
                  case j13y => (refine Or.inl ⟨by first | kernel_rfl | rfl, ?_⟩; intro w hSw; obtain ⟨⟨x0, x1⟩, x2, x3, x4, ⟨x5, x6⟩⟩ := hSw; go_simp <;> (try with_reducible rfl))
                  try simp only [Act.put, List.setIfInBounds_toArray, List.set_cons_zero, List.set_cons_succ]
                  refine wpAnyH_take (i := 14) (oi := ?j14o) (v := ?j14v) ?j14h (by kernel_rfl) (by kernel_rfl) (by kernel_rfl) ?j14q ?j14y hHeld ?j14r
                  case j14h => (simp only [List.getElem?_toArray, List.getElem?_cons_succ, List.getElem?_cons_zero]; rfl)
                  case j14q => exact fun _ _ _ h => h
                  case j14y => (refine Or.inl ⟨by first | kernel_rfl | rfl, ?_⟩; intro w hSw; obtain ⟨⟨x0, x1⟩, x2, x3, x4, ⟨x5, x6⟩⟩ := hSw; go_simp <;> (try with_reducible rfl))
                  try simp only [Act.put, List.setIfInBounds_toArray, List.set_cons_zero, List.set_cons_succ]
                  refine wpAnyH_take (i := 15) (oi := ?j15o) (v := ?j15v) ?j15h (by kernel_rfl) (by kernel_rfl) (by kernel_rfl) ?j15q ?j15y hHeld ?j15r
                  case j15h => (simp only [List.getElem?_toArray, List.getElem?_cons_succ, List.getElem?_cons_zero]; rfl)
                  case j15q => exact fun _ _ _ h => h
                  case j15y => (refine Or.inl ⟨by first | kernel_rfl | rfl, ?_⟩; intro w hSw; obtain ⟨⟨x0, x1⟩, x2, x3, x4, ⟨x5, x6⟩⟩ := hSw; go_simp <;> (try with_reducible rfl))
                  try simp only [Act.put, List.setIfInBounds_toArray, List.set_cons_zero, List.set_cons_succ]
                  refine wpAnyH_take (i := 16) (oi := ?j16o) (v := undef) ?j16h (by kernel_rfl) (by kernel_rfl) (by kernel_rfl) ?j16q ?j16y hHeld ?j16r
                  case j16h => (simp only [List.getElem?_toArray, List.getElem?_cons_succ, List.getElem?_cons_zero]; rfl)
                  case j16q => exact fun _ _ _ h => h
                  case j16y => exact Or.inr ⟨by first | kernel_rfl | rfl, rfl⟩
                  try simp only [Act.put, List.setIfInBounds_toArray, List.set_cons_zero, List.set_cons_succ]
                  refine wpAnyH_take (i := 17) (oi := ?j17o) (v := undef) ?j17h (by kernel_rfl) (by kernel_rfl) (by kernel_rfl) ?j17q ?j17y hHeld ?j17r
                  case j17h => (simp only [List.getElem?_toArray, List.getElem?_cons_succ, List.getElem?_cons_zero]; rfl)
                  case j17q => exact fun _ _ _ h => h
                  case j17y => exact Or.inr ⟨by first | kernel_rfl | rfl, rfl⟩
                  try simp only [Act.put, List.setIfInBounds_toArray, List.set_cons_zero, List.set_cons_succ]
                  refine wpAnyH_take (i := 18) (oi := ?j18o) (v := undef) ?j18h (by kernel_rfl) (by kernel_rfl) (by kernel_rfl) ?j18q ?j18y hHeld ?j18r
                  case j18h => (simp only [List.getElem?_toArray, List.getElem?_cons_succ, List.getElem?_cons_zero]; rfl)
                  case j18q => exact fun _ _ _ h => h
                  case j18y => exact Or.inr ⟨by first | kernel_rfl | rfl, rfl⟩
                  try simp only [Act.put, List.setIfInBounds_toArray, List.set_cons_zero, List.set_cons_succ]
                  refine wpAnyH_take (i := 19) (oi := ?j19o) (v := undef) ?j19h (by kernel_rfl) (by kernel_rfl) (by kernel_rfl) ?j19q ?j19y hHeld ?j19r
                  case j19h => (simp only [List.getElem?_toArray, List.getElem?_cons_succ, List.getElem?_cons_zero]; rfl)
                  case j19q => exact fun _ _ _ h => h
                  case j19y => exact Or.inr ⟨by first | kernel_rfl | rfl, rfl⟩
                  try simp only [Act.put, List.setIfInBounds_toArray, List.set_cons_zero, List.set_cons_succ]
                  refine wpAnyH_take (i := 20) (oi := ?j20o) (v := undef) ?j20h (by kernel_rfl) (by kernel_rfl) (by kernel_rfl) ?j20q ?j20y hHeld ?j20r
                  case j20h => (simp only [List.getElem?_toArray, List.getElem?_cons_succ, List.getElem?_cons_zero]; rfl)
                  case j20q => exact fun _ _ _ h => h
                  case j20y => exact Or.inr ⟨by first | kernel_rfl | rfl, rfl⟩
                  try simp only [Act.put, List.setIfInBounds_toArray, List.set_cons_zero, List.set_cons_succ]
                  refine wpAnyH_take (i := 21) (oi := ?j21o) (v := undef) ?j21h (by kernel_rfl) (by kernel_rfl) (by kernel_rfl) ?j21q ?j21y hHeld ?j21r
                  case j21h => (simp only [List.getElem?_toArray, List.getElem?_cons_succ, List.getElem?_cons_zero]; rfl)
                  case j21q => exact fun _ _ _ h => h
                  case j21y => exact Or.inr ⟨by first | kernel_rfl | rfl, rfl⟩
                  try simp only [Act.put, List.setIfInBounds_toArray, List.set_cons_zero, List.set_cons_succ]
                  refine wpAnyH_take (i := 22) (oi := ?j22o) (v := undef) ?j22h (by kernel_rfl) (by kernel_rfl) (by kernel_rfl) ?j22q ?j22y hHeld ?j22r
                  case j22h => (simp only [List.getElem?_toArray, List.getElem?_cons_succ, List.getElem?_cons_zero]; rfl)
                  case j22q => exact fun _ _ _ h => h
                  case j22y => exact Or.inr ⟨by first | kernel_rfl | rfl, rfl⟩
                  try simp only [Act.put, List.setIfInBounds_toArray, List.set_cons_zero, List.set_cons_succ]
                  refine wpAnyH_take (i := 23) (oi := ?j23o) (v := undef) ?j23h (by kernel_rfl) (by kernel_rfl) (by kernel_rfl) ?j23q ?j23y hHeld ?j23r
                  case j23h => (simp only [List.getElem?_toArray, List.getElem?_cons_succ, List.getElem?_cons_zero]; rfl)
                  case j23q => exact fun _ _ _ h => h
                  case j23y => exact Or.inr ⟨by first | kernel_rfl | rfl, rfl⟩
                  try simp only [Act.put, List.setIfInBounds_toArray, List.set_cons_zero, List.set_cons_succ]
                  refine wpAnyH_take (i := 24) (oi := ?j24o) (v := undef) ?j24h (by kernel_rfl) (by kernel_rfl) (by kernel_rfl) ?j24q ?j24y hHeld ?j24r
                  case j24h => (simp only [List.getElem?_toArray, List.getElem?_cons_succ, List.getElem?_cons_zero]; rfl)
                  case j24q => exact fun _ _ _ h => h
                  case j24y => exact Or.inr ⟨by first | kernel_rfl | rfl, rfl⟩
                  try simp only [Act.put, List.setIfInBounds_toArray, List.set_cons_zero, List.set_cons_succ]
                  refine wpAnyH_take (i := 25) (oi := ?j25o) (v := undef) ?j25h (by kernel_rfl) (by kernel_rfl) (by kernel_rfl) ?j25q ?j25y hHeld ?j25r
                  case j25h => (simp only [List.getElem?_toArray, List.getElem?_cons_succ, List.getElem?_cons_zero]; rfl)
                  case j25q => exact fun _ _ _ h => h
                  case j25y => exact Or.inr ⟨by first | kernel_rfl | rfl, rfl⟩
                  try simp only [Act.put, List.setIfInBounds_toArray, List.set_cons_zero, List.set_cons_succ]
                  refine wpAnyH_take (i := 26) (oi := ?j26o) (v := undef) ?j26h (by kernel_rfl) (by kernel_rfl) (by kernel_rfl) ?j26q ?j26y hHeld ?j26r
                  case j26h => (simp only [List.getElem?_toArray, List.getElem?_cons_succ, List.getElem?_cons_zero]; rfl)
                  case j26q => exact fun _ _ _ h => h
                  case j26y => exact Or.inr ⟨by first | kernel_rfl | rfl, rfl⟩
                  try simp only [Act.put, List.setIfInBounds_toArray, List.set_cons_zero, List.set_cons_succ]
                  refine wpAnyH_take (i := 27) (oi := ?j27o) (v := undef) ?j27h (by kernel_rfl) (by kernel_rfl) (by kernel_rfl) ?j27q ?j27y hHeld ?j27r
                  case j27h => (simp only [List.getElem?_toArray, List.getElem?_cons_succ, List.getElem?_cons_zero]; rfl)
                  case j27q => exact fun _ _ _ h => h
                  case j27y => exact Or.inr ⟨by first | kernel_rfl | rfl, rfl⟩
                  try simp only [Act.put, List.setIfInBounds_toArray, List.set_cons_zero, List.set_cons_succ]
                  refine wpAnyH_take (i := 28) (oi := ?j28o) (v := undef) ?j28h (by kernel_rfl) (by kernel_rfl) (by kernel_rfl) ?j28q ?j28y hHeld ?j28r
                  case j28h => (simp only [List.getElem?_toArray, List.getElem?_cons_succ, List.getElem?_cons_zero]; rfl)
                  case j28q => exact fun _ _ _ h => h
                  case j28y => exact Or.inr ⟨by first | kernel_rfl | rfl, rfl⟩
                  try simp only [Act.put, List.setIfInBounds_toArray, List.set_cons_zero, List.set_cons_succ]
                  refine wpAnyH_take (i := 29) (oi := ?j29o) (v := undef) ?j29h (by kernel_rfl) (by kernel_rfl) (by kernel_rfl) ?j29q ?j29y hHeld ?j29r
                  case j29h => (simp only [List.getElem?_toArray, List.getElem?_cons_succ, List.getElem?_cons_zero]; rfl)
                  case j29q => exact fun _ _ _ h => h
                  case j29y => exact Or.inr ⟨by first | kernel_rfl | rfl, rfl⟩
                  try simp only [Act.put, List.setIfInBounds_toArray, List.set_cons_zero, List.set_cons_succ]
                  refine wpAnyH_take (i := 30) (oi := ?j30o) (v := undef) ?j30h (by kernel_rfl) (by kernel_rfl) (by kernel_rfl) ?j30q ?j30y hHeld ?j30r
                  case j30h => (simp only [List.getElem?_toArray, List.getElem?_cons_succ, List.getElem?_cons_zero]; rfl)
                  case j30q => exact fun _ _ _ h => h
                  case j30y => exact Or.inr ⟨by first | kernel_rfl | rfl, rfl⟩
                  try simp only [Act.put, List.setIfInBounds_toArray, List.set_cons_zero, List.set_cons_succ]
                  refine wpAnyH_take (i := 31) (oi := ?j31o) (v := undef) ?j31h (by kernel_rfl) (by kernel_rfl) (by kernel_rfl) ?j31q ?j31y hHeld ?j31r
                  case j31h => (simp only [List.getElem?_toArray, List.getElem?_cons_succ, List.getElem?_cons_zero]; rfl)
                  case j31q => exact fun _ _ _ h => h
                  case j31y => exact Or.inr ⟨by first | kernel_rfl | rfl, rfl⟩
                  try simp only [Act.put, List.setIfInBounds_toArray, List.set_cons_zero, List.set_cons_succ]
                  refine wpAnyH_take (i := 32) (oi := ?j32o) (v := undef) ?j32h (by kernel_rfl) (by kernel_rfl) (by kernel_rfl) ?j32q ?j32y hHeld ?j32r
                  case j32h => (simp only [List.getElem?_toArray, List.getElem?_cons_succ, List.getElem?_cons_zero]; rfl)
                  case j32q => exact fun _ _ _ h => h
                  case j32y => exact Or.inr ⟨by first | kernel_rfl | rfl, rfl⟩
                  try simp only [Act.put, List.setIfInBounds_toArray, List.set_cons_zero, List.set_cons_succ]
                  refine wpAnyH_take (i := 33) (oi := ?j33o) (v := undef) ?j33h (by kernel_rfl) (by kernel_rfl) (by kernel_rfl) ?j33q ?j33y hHeld ?j33r
                  case j33h => (simp only [List.getElem?_toArray, List.getElem?_cons_succ, List.getElem?_cons_zero]; rfl)
                  case j33q => exact fun _ _ _ h => h
                  case j33y => exact Or.inr ⟨by first | kernel_rfl | rfl, rfl⟩
                  try simp only [Act.put, List.setIfInBounds_toArray, List.set_cons_zero, List.set_cons_succ]
                  refine wpAnyH_take (i := 34) (oi := ?j34o) (v := undef) ?j34h (by kernel_rfl) (by kernel_rfl) (by kernel_rfl) ?j34q ?j34y hHeld ?j34r
                  case j34h => (simp only [List.getElem?_toArray, List.getElem?_cons_succ, List.getElem?_cons_zero]; rfl)
                  case j34q => exact fun _ _ _ h => h
                  case j34y => exact Or.inr ⟨by first | kernel_rfl | rfl, rfl⟩
                  try simp only [Act.put, List.setIfInBounds_toArray, List.set_cons_zero, List.set_cons_succ]
                  refine wpAnyH_take (i := 35) (oi := ?j35o) (v := undef) ?j35h (by kernel_rfl) (by kernel_rfl) (by kernel_rfl) ?j35q ?j35y hHeld ?j35r
                  case j35h => (simp only [List.getElem?_toArray, List.getElem?_cons_succ, List.getElem?_cons_zero]; rfl)
                  case j35q => exact fun _ _ _ h => h
                  case j35y => exact Or.inr ⟨by first | kernel_rfl | rfl, rfl⟩
                  try simp only [Act.put, List.setIfInBounds_toArray, List.set_cons_zero, List.set_cons_succ]
                  refine wpAnyH_take (i := 36) (oi := ?j36o) (v := undef) ?j36h (by kernel_rfl) (by kernel_rfl) (by kernel_rfl) ?j36q ?j36y hHeld ?j36r
                  case j36h => (simp only [List.getElem?_toArray, List.getElem?_cons_succ, List.getElem?_cons_zero]; rfl)
                  case j36q => exact fun _ _ _ h => h
                  case j36y => exact Or.inr ⟨by first | kernel_rfl | rfl, rfl⟩
                  try simp only [Act.put, List.setIfInBounds_toArray, List.set_cons_zero, List.set_cons_succ]
                  refine wpAnyH_take (i := 37) (oi := ?j37o) (v := undef) ?j37h (by kernel_rfl) (by kernel_rfl) (by kernel_rfl) ?j37q ?j37y hHeld ?j37r
                  case j37h => (simp only [List.getElem?_toArray, List.getElem?_cons_succ, List.getElem?_cons_zero]; rfl)
                  case j37q => exact fun _ _ _ h => h
                  case j37y => exact Or.inr ⟨by first | kernel_rfl | rfl, rfl⟩
                  try simp only [Act.put, List.setIfInBounds_toArray, List.set_cons_zero, List.set_cons_succ]
                  refine wpAnyH_take (i := 38) (oi := ?j38o) (v := undef) ?j38h (by kernel_rfl) (by kernel_rfl) (by kernel_rfl) ?j38q ?j38y hHeld ?j38r
                  case j38h => (simp only [List.getElem?_toArray, List.getElem?_cons_succ, List.getElem?_cons_zero]; rfl)
                  case j38q => exact fun _ _ _ h => h
                  case j38y => exact Or.inr ⟨by first | kernel_rfl | rfl, rfl⟩
                  try simp only [Act.put, List.setIfInBounds_toArray, List.set_cons_zero, List.set_cons_succ]
                  refine wpAnyH_take (i := 39) (oi := ?j39o) (v := undef) ?j39h (by kernel_rfl) (by kernel_rfl) (by kernel_rfl) ?j39q ?j39y hHeld ?j39r
                  case j39h => (simp only [List.getElem?_toArray, List.getElem?_cons_succ, List.getElem?_cons_zero]; rfl)
                  case j39q => exact fun _ _ _ h => h
                  case j39y => exact Or.inr ⟨by first | kernel_rfl | rfl, rfl⟩
                  try simp only [Act.put, List.setIfInBounds_toArray, List.set_cons_zero, List.set_cons_succ]
                  refine wpAnyH_take (i := 40) (oi := ?j40o) (v := ?j40v) ?j40h (by kernel_rfl) (by kernel_rfl) (by kernel_rfl) ?j40q ?j40y hHeld ?j40r
                  case j40h => (simp only [List.getElem?_toArray, List.getElem?_cons_succ, List.getElem?_cons_zero]; rfl)
                  case j40q => exact fun _ _ _ h => h
                  case j40y => (refine Or.inl ⟨by first | kernel_rfl | rfl, ?_⟩; intro w hSw; obtain ⟨⟨x0, x1⟩, x2, x3, x4, ⟨x5, x6⟩⟩ := hSw; go_simp <;> (try with_reducible rfl))
                  try simp only [Act.put, List.setIfInBounds_toArray, List.set_cons_zero, List.set_cons_succ]
                  refine wpAnyH_take (i := 41) (oi := ?j41o) (v := ?j41v) ?j41h (by kernel_rfl) (by kernel_rfl) (by kernel_rfl) ?j41q ?j41y hHeld ?j41r
                  case j41h => (simp only [List.getElem?_toArray, List.getElem?_cons_succ, List.getElem?_cons_zero]; rfl)
                  case j41q => exact fun _ _ _ h => h
                  case j41y => (refine Or.inl ⟨by first | kernel_rfl | rfl, ?_⟩; intro w hSw; obtain ⟨⟨x0, x1⟩, x2, x3, x4, ⟨x5, x6⟩⟩ := hSw; go_simp <;> (try with_reducible rfl))
                  try simp only [Act.put, List.setIfInBounds_toArray, List.set_cons_zero, List.set_cons_succ]
                  refine wpAnyH_ready (rs := [42]) (by kernel_rfl) (by simp) ?_
                  refine (AllReadyH.cons rfl (fun K hK => ?_) AllReadyH.nil)
                  have hr3 := H9.out.g.r
                  have hz3 := H9.out.g.z
                  go_simp
                  refine hK.out _ _ (hHeld.set _ _ (by omega) HCB.out) (fun hHeld => ?_)
                  clear hK K
                  try simp only [Act.put, List.setIfInBounds_toArray, List.set_cons_zero, List.set_cons_succ]
                  refine wpAnyH_done (by kernel_rfl) ?_ _
                  go_wp2
                  exact fin_late _ H9.out.g.bel (by omega) (by have := H9.out.dd; omega) (by have := H9.out.dd; omega) (World.cell?_setCell_same _ _ _ H9.out.g.r) rfl rfl H9.out.df
                · have hlt : s.f < s.t := by have := Sp.is_iff.1 HSIS.out; omega
                  obtain ⟨k1, k2, k3⟩ := HEND.out.last hlt
                  have d1 : (s.f == s.t) = false := by simpa using hst
                  have d2 : decide (s.f < s.t) = true := decide_eq_true hlt
                  have d3 : decide (s.t ≤ T) = true := decide_eq_true k1
                  have d4 : decide (c.f ≤ s.f) = true := decide_eq_true k2
                  have d5 : (c.t == T) = true := by simpa using k3
                  clear hst hlt k1 k2 k3
                  as_aux_lemma =>
                  refine wp_region_held_drew (S := (PS w2.heap.size s kk N T w6.heap.size c)) (by kernel_rfl) HPS.out (fun hHeld => ?_)
                  refine wpAnyH_take (i := 0) (oi := ?k1o) (v := ?k1v) ?k1h (by kernel_rfl) (by kernel_rfl) (by kernel_rfl) ?k1q ?k1y hHeld ?k1r
                  case k1h => (simp only [List.getElem?_toArray, List.getElem?_cons_zero]; rfl)
                  case k1q => exact fun _ _ _ h => h
                  case k1y => (refine Or.inl ⟨by first | kernel_rfl | rfl, ?_⟩; intro w hSw; obtain ⟨⟨x0, x1⟩, x2, x3, x4, ⟨x5, x6⟩⟩ := hSw; go_simp <;> (try with_reducible rfl))
                  try simp only [Act.put, List.setIfInBounds_toArray, List.set_cons_zero, List.set_cons_succ]
                  refine wpAnyH_take (i := 1) (oi := ?k2o) (v := ?k2v) ?k2h (by kernel_rfl) (by kernel_rfl) (by kernel_rfl) ?k2q ?k2y hHeld ?k2r
                  case k2h => (simp only [List.getElem?_toArray, List.getElem?_cons_succ, List.getElem?_cons_zero]; rfl)
                  case k2q => exact fun _ _ _ h => h
                  case k2y => (refine Or.inl ⟨by first | kernel_rfl | rfl, ?_⟩; intro w hSw; obtain ⟨⟨x0, x1⟩, x2, x3, x4, ⟨x5, x6⟩⟩ := hSw; go_simp <;> (try with_reducible rfl))
                  try simp only [Act.put, List.setIfInBounds_toArray, List.set_cons_zero, List.set_cons_succ]
                  refine wpAnyH_take (i := 2) (oi := ?k3o) (v := ?k3v) ?k3h (by kernel_rfl) (by kernel_rfl) (by kernel_rfl) ?k3q ?k3y hHeld ?k3r
                  case k3h => (simp only [List.getElem?_toArray, List.getElem?_cons_succ, List.getElem?_cons_zero]; rfl)
                  case k3q => exact fun _ _ _ h => h
                  case k3y => (refine Or.inl ⟨by first | kernel_rfl | rfl, ?_⟩; intro w hSw; obtain ⟨⟨x0, x1⟩, x2, x3, x4, ⟨x5, x6⟩⟩ := hSw; go_simp <;> (try with_reducible rfl))
                  try simp only [Act.put, List.setIfInBounds_toArray, List.set_cons_zero, List.set_cons_succ]
                  refine wpAnyH_ready (rs := [3]) (by kernel_rfl) (by simp) ?_
                  refine (AllReadyH.cons rfl (fun K hK => ?_) AllReadyH.nil)
                  go_simp
                  ((with_reducible refine (kcn _ H8D.out.g.tab).mono ?_); rintro e w9 ⟨rfl, hb9⟩; have H9 := Lib.hid (H8D.out.keep hb9))
                  refine hK.out _ _ (hHeld.keep hb9) (fun hHeld => ?_)
                  clear hK K
                  try simp only [Act.put, List.setIfInBounds_toArray, List.set_cons_zero, List.set_cons_succ]
                  refine wpAnyH_take (i := 4) (oi := ?k4o) (v := ?k4v) ?k4h (by kernel_rfl) (by kernel_rfl) (by kernel_rfl) ?k4q ?k4y hHeld ?k4r
                  case k4h => (simp only [List.getElem?_toArray, List.getElem?_cons_succ, List.getElem?_cons_zero]; rfl)
                  case k4q => exact fun _ _ _ h => h
                  case k4y => (refine Or.inl ⟨by first | kernel_rfl | rfl, ?_⟩; intro w hSw; obtain ⟨⟨x0, x1⟩, x2, x3, x4, ⟨x5, x6⟩⟩ := hSw; go_simp <;> (try with_reducible rfl))
                  try simp only [Act.put, List.setIfInBounds_toArray, List.set_cons_zero, List.set_cons_succ]
                  refine wpAnyH_take (i := 5) (oi := ?k5o) (v := ?k5v) ?k5h (by kernel_rfl) (by kernel_rfl) (by kernel_rfl) ?k5q ?k5y hHeld ?k5r
                  case k5h => (simp only [List.getElem?_toArray, List.getElem?_cons_succ, List.getElem?_cons_zero]; rfl)
                  case k5q => exact fun _ _ _ h => h
                  case k5y => (refine Or.inl ⟨by first | kernel_rfl | rfl, ?_⟩; intro w hSw; obtain ⟨⟨x0, x1⟩, x2, x3, x4, ⟨x5, x6⟩⟩ := hSw; go_simp <;> (try with_reducible rfl))
                  try simp only [Act.put, List.setIfInBounds_toArray, List.set_cons_zero, List.set_cons_succ]
                  refine wpAnyH_take (i := 6) (oi := ?k6o) (v := ?k6v) ?k6h (by kernel_rfl) (by kernel_rfl) (by kernel_rfl) ?k6q ?k6y hHeld ?k6r
                  case k6h => (simp only [List.getElem?_toArray, List.getElem?_cons_succ, List.getElem?_cons_zero]; rfl)
                  case k6q => exact fun _ _ _ h => h
                  case k6y => (refine Or.inl ⟨by first | kernel_rfl | rfl, ?_⟩; intro w hSw; obtain ⟨⟨x0, x1⟩, x2, x3, x4, ⟨x5, x6⟩⟩ := hSw; go_simp <;> (try with_reducible rfl))
                  try simp only [Act.put, List.setIfInBounds_toArray, List.set_cons_zero, List.set_cons_succ]
                  refine wpAnyH_take (i := 7) (oi := ?k7o) (v := ?k7v) ?k7h (by kernel_rfl) (by kernel_rfl) (by kernel_rfl) ?k7q ?k7y hHeld ?k7r
                  case k7h => (simp only [List.getElem?_toArray, List.getElem?_cons_succ, List.getElem?_cons_zero]; rfl)
                  case k7q => exact fun _ _ _ h => h
                  case k7y => (refine Or.inl ⟨by first | kernel_rfl | rfl, ?_⟩; intro w hSw; obtain ⟨⟨x0, x1⟩, x2, x3, x4, ⟨x5, x6⟩⟩ := hSw; go_simp <;> (try with_reducible rfl))
                  try simp only [Act.put, List.setIfInBounds_toArray, List.set_cons_zero, List.set_cons_succ]
                  refine wpAnyH_take (i := 8) (oi := ?k8o) (v := ?k8v) ?k8h (by kernel_rfl) (by kernel_rfl) (by kernel_rfl) ?k8q ?k8y hHeld ?k8r
                  case k8h => (simp only [List.getElem?_toArray, List.getElem?_cons_succ, List.getElem?_cons_zero]; rfl)
                  case k8q => exact fun _ _ _ h => h
                  case k8y => (refine Or.inl ⟨by first | kernel_rfl | rfl, ?_⟩; intro w hSw; obtain ⟨⟨x0, x1⟩, x2, x3, x4, ⟨x5, x6⟩⟩ := hSw; go_simp <;> (try with_reducible rfl))
                  try simp only [Act.put, List.setIfInBounds_toArray, List.set_cons_zero, List.set_cons_succ]
                  refine wpAnyH_take (i := 9) (oi := ?k9o) (v := ?k9v) ?k9h (by kernel_rfl) (by kernel_rfl) (by kernel_rfl) ?k9q ?k9y hHeld ?k9r
                  case k9h => (simp only [List.getElem?_toArray, List.getElem?_cons_succ, List.getElem?_cons_zero]; rfl)
                  case k9q => exact fun _ _ _ h => h
                  case k9y => (refine Or.inl ⟨by first | kernel_rfl | rfl, ?_⟩; intro w hSw; obtain ⟨⟨x0, x1⟩, x2, x3, x4, ⟨x5, x6⟩⟩ := hSw; go_simp <;> (try with_reducible rfl))
                  try simp only [Act.put, List.setIfInBounds_toArray, List.set_cons_zero, List.set_cons_succ]
                  refine wpAnyH_take (i := 10) (oi := ?k10o) (v := ?k10v) ?k10h (by kernel_rfl) (by kernel_rfl) (by kernel_rfl) ?k10q ?k10y hHeld ?k10r
                  case k10h => (simp only [List.getElem?_toArray, List.getElem?_cons_succ, List.getElem?_cons_zero]; rfl)
                  case k10q => exact fun _ _ _ h => h
                  case k10y => (refine Or.inl ⟨by first | kernel_rfl | rfl, ?_⟩; intro w hSw; obtain ⟨⟨x0, x1⟩, x2, x3, x4, ⟨x5, x6⟩⟩ := hSw; go_simp <;> (try with_reducible rfl))
                  try simp only [Act.put, List.setIfInBounds_toArray, List.set_cons_zero, List.set_cons_succ]
                  refine wpAnyH_take (i := 11) (oi := ?k11o) (v := ?k11v) ?k11h (by kernel_rfl) (by kernel_rfl) (by kernel_rfl) ?k11q ?k11y hHeld ?k11r
                  case k11h => (simp only [List.getElem?_toArray, List.getElem?_cons_succ, List.getElem?_cons_zero]; rfl)
                  case k11q => exact fun _ _ _ h => h
                  case k11y => (refine Or.inl ⟨by first | kernel_rfl | rfl, ?_⟩; intro w hSw; obtain ⟨⟨x0, x1⟩, x2, x3, x4, ⟨x5, x6⟩⟩ := hSw; go_simp <;> (try with_reducible rfl))
                  try simp only [Act.put, List.setIfInBounds_toArray, List.set_cons_zero, List.set_cons_succ]
                  refine wpAnyH_take (i := 12) (oi := ?k12o) (v := undef) ?k12h (by kernel_rfl) (by kernel_rfl) (by kernel_rfl) ?k12q ?k12y hHeld ?k12r
                  case k12h => (simp only [List.getElem?_toArray, List.getElem?_cons_succ, List.getElem?_cons_zero]; rfl)
                  case k12q => exact fun _ _ _ h => h
                  case k12y => exact Or.inr ⟨by first | kernel_rfl | rfl, rfl⟩
                  try simp only [Act.put, List.setIfInBounds_toArray, List.set_cons_zero, List.set_cons_succ]
                  refine wpAnyH_take (i := 13) (oi := ?k13o) (v := undef) ?k13h (by kernel_rfl) (by kernel_rfl) (by kernel_rfl) ?k13q ?k13y hHeld ?k13r
                  case k13h => (simp only [List.getElem?_toArray, List.getElem?_cons_succ, List.getElem?_cons_zero]; rfl)
                  case k13q => exact fun _ _ _ h => h
                  case k13y => exact Or.inr ⟨by first | kernel_rfl | rfl, rfl⟩
                  try simp only [Act.put, List.setIfInBounds_toArray, List.set_cons_zero, List.set_cons_succ]
                  refine wpAnyH_take (i := 14) (oi := ?k14o) (v := ?k14v) ?k14h (by kernel_rfl) (by kernel_rfl) (by kernel_rfl) ?k14q ?k14y hHeld ?k14r
                  case k14h => (simp only [List.getElem?_toArray, List.getElem?_cons_succ, List.getElem?_cons_zero]; rfl)
                  case k14q => exact fun _ _ _ h => h
                  case k14y => (refine Or.inl ⟨by first | kernel_rfl | rfl, ?_⟩; intro w hSw; obtain ⟨⟨x0, x1⟩, x2, x3, x4, ⟨x5, x6⟩⟩ := hSw; go_simp <;> (try with_reducible rfl))
                  try simp only [Act.put, List.setIfInBounds_toArray, List.set_cons_zero, List.set_cons_succ]
                  refine wpAnyH_take (i := 15) (oi := ?k15o) (v := ?k15v) ?k15h (by kernel_rfl) (by kernel_rfl) (by kernel_rfl) ?k15q ?k15y hHeld ?k15r
                  case k15h => (simp only [List.getElem?_toArray, List.getElem?_cons_succ, List.getElem?_cons_zero]; rfl)
                  case k15q => exact fun _ _ _ h => h
                  case k15y => (refine Or.inl ⟨by first | kernel_rfl | rfl, ?_⟩; intro w hSw; obtain ⟨⟨x0, x1⟩, x2, x3, x4, ⟨x5, x6⟩⟩ := hSw; go_simp <;> (try with_reducible rfl))
                  try simp only [Act.put, List.setIfInBounds_toArray, List.set_cons_zero, List.set_cons_succ]
                  refine wpAnyH_take (i := 16) (oi := ?k16o) (v := ?k16v) ?k16h (by kernel_rfl) (by kernel_rfl) (by kernel_rfl) ?k16q ?k16y hHeld ?k16r
                  case k16h => (simp only [List.getElem?_toArray, List.getElem?_cons_succ, List.getElem?_cons_zero]; rfl)
                  case k16q => exact fun _ _ _ h => h
                  case k16y => (refine Or.inl ⟨by first | kernel_rfl | rfl, ?_⟩; intro w hSw; obtain ⟨⟨x0, x1⟩, x2, x3, x4, ⟨x5, x6⟩⟩ := hSw; go_simp <;> (try with_reducible rfl))
                  try simp only [Act.put, List.setIfInBounds_toArray, List.set_cons_zero, List.set_cons_succ]
                  refine wpAnyH_take (i := 17) (oi := ?k17o) (v := ?k17v) ?k17h (by kernel_rfl) (by kernel_rfl) (by kernel_rfl) ?k17q ?k17y hHeld ?k17r
                  case k17h => (simp only [List.getElem?_toArray, List.getElem?_cons_succ, List.getElem?_cons_zero]; rfl)
                  case k17q => exact fun _ _ _ h => h
                  case k17y => (refine Or.inl ⟨by first | kernel_rfl | rfl, ?_⟩; intro w hSw; obtain ⟨⟨x0, x1⟩, x2, x3, x4, ⟨x5, x6⟩⟩ := hSw; go_simp <;> (try with_reducible rfl))
                  try simp only [Act.put, List.setIfInBounds_toArray, List.set_cons_zero, List.set_cons_succ]
                  refine wpAnyH_take (i := 18) (oi := ?k18o) (v := ?k18v) ?k18h (by kernel_rfl) (by kernel_rfl) (by kernel_rfl) ?k18q ?k18y hHeld ?k18r
                  case k18h => (simp only [List.getElem?_toArray, List.getElem?_cons_succ, List.getElem?_cons_zero]; rfl)
                  case k18q => exact fun _ _ _ h => h
                  case k18y => (refine Or.inl ⟨by first | kernel_rfl | rfl, ?_⟩; intro w hSw; obtain ⟨⟨x0, x1⟩, x2, x3, x4, ⟨x5, x6⟩⟩ := hSw; go_simp <;> (try with_reducible rfl))
                  try simp only [Act.put, List.setIfInBounds_toArray, List.set_cons_zero, List.set_cons_succ]
                  refine wpAnyH_take (i := 19) (oi := ?k19o) (v := ?k19v) ?k19h (by kernel_rfl) (by kernel_rfl) (by kernel_rfl) ?k19q ?k19y hHeld ?k19r
                  case k19h => (simp only [List.getElem?_toArray, List.getElem?_cons_succ, List.getElem?_cons_zero]; rfl)
                  case k19q => exact fun _ _ _ h => h
                  case k19y => (refine Or.inl ⟨by first | kernel_rfl | rfl, ?_⟩; intro w hSw; obtain ⟨⟨x0, x1⟩, x2, x3, x4, ⟨x5, x6⟩⟩ := hSw; go_simp <;> (try with_reducible rfl))
                  try simp only [Act.put, List.setIfInBounds_toArray, List.set_cons_zero, List.set_cons_succ]
                  refine wpAnyH_take (i := 20) (oi := ?k20o) (v := ?k20v) ?k20h (by kernel_rfl) (by kernel_rfl) (by kernel_rfl) ?k20q ?k20y hHeld ?k20r
                  case k20h => (simp only [List.getElem?_toArray, List.getElem?_cons_succ, List.getElem?_cons_zero]; rfl)
                  case k20q => exact fun _ _ _ h => h
                  case k20y => (refine Or.inl ⟨by first | kernel_rfl | rfl, ?_⟩; intro w hSw; obtain ⟨⟨x0, x1⟩, x2, x3, x4, ⟨x5, x6⟩⟩ := hSw; go_simp <;> (try with_reducible rfl))
                  try simp only [Act.put, List.setIfInBounds_toArray, List.set_cons_zero, List.set_cons_succ]
                  refine wpAnyH_take (i := 21) (oi := ?k21o) (v := ?k21v) ?k21h (by kernel_rfl) (by kernel_rfl) (by kernel_rfl) ?k21q ?k21y hHeld ?k21r
                  case k21h => (simp only [List.getElem?_toArray, List.getElem?_cons_succ, List.getElem?_cons_zero]; rfl)
                  case k21q => exact fun _ _ _ h => h
                  case k21y => (refine Or.inl ⟨by first | kernel_rfl | rfl, ?_⟩; intro w hSw; obtain ⟨⟨x0, x1⟩, x2, x3, x4, ⟨x5, x6⟩⟩ := hSw; go_simp <;> (try with_reducible rfl))
                  try simp only [Act.put, List.setIfInBounds_toArray, List.set_cons_zero, List.set_cons_succ]
                  refine wpAnyH_take (i := 22) (oi := ?k22o) (v := ?k22v) ?k22h (by kernel_rfl) (by kernel_rfl) (by kernel_rfl) ?k22q ?k22y hHeld ?k22r
                  case k22h => (simp only [List.getElem?_toArray, List.getElem?_cons_succ, List.getElem?_cons_zero]; rfl)
                  case k22q => exact fun _ _ _ h => h
                  case k22y => (refine Or.inl ⟨by first | kernel_rfl | rfl, ?_⟩; intro w hSw; obtain ⟨⟨x0, x1⟩, x2, x3, x4, ⟨x5, x6⟩⟩ := hSw; go_simp <;> (try with_reducible rfl))
                  try simp only [Act.put, List.setIfInBounds_toArray, List.set_cons_zero, List.set_cons_succ]
                  refine wpAnyH_take (i := 23) (oi := ?k23o) (v := ?k23v) ?k23h (by kernel_rfl) (by kernel_rfl) (by kernel_rfl) ?k23q ?k23y hHeld ?k23r
                  case k23h => (simp only [List.getElem?_toArray, List.getElem?_cons_succ, List.getElem?_cons_zero]; rfl)
                  case k23q => exact fun _ _ _ h => h
                  case k23y => (refine Or.inl ⟨by first | kernel_rfl | rfl, ?_⟩; intro w hSw; obtain ⟨⟨x0, x1⟩, x2, x3, x4, ⟨x5, x6⟩⟩ := hSw; go_simp <;> (try with_reducible rfl))
                  try simp only [Act.put, List.setIfInBounds_toArray, List.set_cons_zero, List.set_cons_succ]
                  refine wpAnyH_take (i := 24) (oi := ?k24o) (v := ?k24v) ?k24h (by kernel_rfl) (by kernel_rfl) (by kernel_rfl) ?k24q ?k24y hHeld ?k24r
                  case k24h => (simp only [List.getElem?_toArray, List.getElem?_cons_succ, List.getElem?_cons_zero]; rfl)
                  case k24q => exact fun _ _ _ h => h
                  case k24y => (refine Or.inl ⟨by first | kernel_rfl | rfl, ?_⟩; intro w hSw; obtain ⟨⟨x0, x1⟩, x2, x3, x4, ⟨x5, x6⟩⟩ := hSw; go_simp <;> (try with_reducible rfl))
                  try simp only [Act.put, List.setIfInBounds_toArray, List.set_cons_zero, List.set_cons_succ]
                  refine wpAnyH_take (i := 25) (oi := ?k25o) (v := ?k25v) ?k25h (by kernel_rfl) (by kernel_rfl) (by kernel_rfl) ?k25q ?k25y hHeld ?k25r
                  case k25h => (simp only [List.getElem?_toArray, List.getElem?_cons_succ, List.getElem?_cons_zero]; rfl)
                  case k25q => exact fun _ _ _ h => h
                  case k25y => (refine Or.inl ⟨by first | kernel_rfl | rfl, ?_⟩; intro w hSw; obtain ⟨⟨x0, x1⟩, x2, x3, x4, ⟨x5, x6⟩⟩ := hSw; go_simp <;> (try with_reducible rfl))
                  try simp only [Act.put, List.setIfInBounds_toArray, List.set_cons_zero, List.set_cons_succ]
                  refine wpAnyH_take (i := 26) (oi := ?k26o) (v := ?k26v) ?k26h (by kernel_rfl) (by kernel_rfl) (by kernel_rfl) ?k26q ?k26y hHeld ?k26r
                  case k26h => (simp only [List.getElem?_toArray, List.getElem?_cons_succ, List.getElem?_cons_zero]; rfl)
                  case k26q => exact fun _ _ _ h => h
                  case k26y => (refine Or.inl ⟨by first | kernel_rfl | rfl, ?_⟩; intro w hSw; obtain ⟨⟨x0, x1⟩, x2, x3, x4, ⟨x5, x6⟩⟩ := hSw; go_simp <;> (try with_reducible rfl))
                  try simp only [Act.put, List.setIfInBounds_toArray, List.set_cons_zero, List.set_cons_succ]
                  refine wpAnyH_take (i := 27) (oi := ?k27o) (v := ?k27v) ?k27h (by kernel_rfl) (by kernel_rfl) (by kernel_rfl) ?k27q ?k27y hHeld ?k27r
                  case k27h => (simp only [List.getElem?_toArray, List.getElem?_cons_succ, List.getElem?_cons_zero]; rfl)
                  case k27q => exact fun _ _ _ h => h
                  case k27y => (refine Or.inl ⟨by first | kernel_rfl | rfl, ?_⟩; intro w hSw; obtain ⟨⟨x0, x1⟩, x2, x3, x4, ⟨x5, x6⟩⟩ := hSw; go_simp <;> (try with_reducible rfl))
                  try simp only [Act.put, List.setIfInBounds_toArray, List.set_cons_zero, List.set_cons_succ]
                  refine wpAnyH_take (i := 28) (oi := ?k28o) (v := ?k28v) ?k28h (by kernel_rfl) (by kernel_rfl) (by kernel_rfl) ?k28q ?k28y hHeld ?k28r
                  case k28h => (simp only [List.getElem?_toArray, List.getElem?_cons_succ, List.getElem?_cons_zero]; rfl)
                  case k28q => exact fun _ _ _ h => h
                  case k28y => (refine Or.inl ⟨by first | kernel_rfl | rfl, ?_⟩; intro w hSw; obtain ⟨⟨x0, x1⟩, x2, x3, x4, ⟨x5, x6⟩⟩ := hSw; go_simp <;> (try with_reducible rfl))
                  try simp only [Act.put, List.setIfInBounds_toArray, List.set_cons_zero, List.set_cons_succ]
                  refine wpAnyH_take (i := 29) (oi := ?k29o) (v := ?k29v) ?k29h (by kernel_rfl) (by kernel_rfl) (by kernel_rfl) ?k29q ?k29y hHeld ?k29r
                  case k29h => (simp only [List.getElem?_toArray, List.getElem?_cons_succ, List.getElem?_cons_zero]; rfl)
                  case k29q => exact fun _ _ _ h => h
                  case k29y => (refine Or.inl ⟨by first | kernel_rfl | rfl, ?_⟩; intro w hSw; obtain ⟨⟨x0, x1⟩, x2, x3, x4, ⟨x5, x6⟩⟩ := hSw; go_simp <;> (try with_reducible rfl))
                  try simp only [Act.put, List.setIfInBounds_toArray, List.set_cons_zero, List.set_cons_succ]
                  refine wpAnyH_take (i := 30) (oi := ?k30o) (v := ?k30v) ?k30h (by kernel_rfl) (by kernel_rfl) (by kernel_rfl) ?k30q ?k30y hHeld ?k30r
                  case k30h => (simp only [List.getElem?_toArray, List.getElem?_cons_succ, List.getElem?_cons_zero]; rfl)
                  case k30q => exact fun _ _ _ h => h
                  case k30y => (refine Or.inl ⟨by first | kernel_rfl | rfl, ?_⟩; intro w hSw; obtain ⟨⟨x0, x1⟩, x2, x3, x4, ⟨x5, x6⟩⟩ := hSw; go_simp <;> (try with_reducible rfl))
                  try simp only [Act.put, List.setIfInBounds_toArray, List.set_cons_zero, List.set_cons_succ]
                  refine wpAnyH_take (i := 31) (oi := ?k31o) (v := ?k31v) ?k31h (by kernel_rfl) (by kernel_rfl) (by kernel_rfl) ?k31q ?k31y hHeld ?k31r
                  case k31h => (simp only [List.getElem?_toArray, List.getElem?_cons_succ, List.getElem?_cons_zero]; rfl)
                  case k31q => exact fun _ _ _ h => h
                  case k31y => (refine Or.inl ⟨by first | kernel_rfl | rfl, ?_⟩; intro w hSw; obtain ⟨⟨x0, x1⟩, x2, x3, x4, ⟨x5, x6⟩⟩ := hSw; go_simp <;> (try with_reducible rfl))
                  try simp only [Act.put, List.setIfInBounds_toArray, List.set_cons_zero, List.set_cons_succ]
                  refine wpAnyH_take (i := 32) (oi := ?k32o) (v := ?k32v) ?k32h (by kernel_rfl) (by kernel_rfl) (by kernel_rfl) ?k32q ?k32y hHeld ?k32r
                  case k32h => (simp only [List.getElem?_toArray, List.getElem?_cons_succ, List.getElem?_cons_zero]; rfl)
                  case k32q => exact fun _ _ _ h => h
                  case k32y => (refine Or.inl ⟨by first | kernel_rfl | rfl, ?_⟩; intro w hSw; obtain ⟨⟨x0, x1⟩, x2, x3, x4, ⟨x5, x6⟩⟩ := hSw; go_simp <;> (try with_reducible rfl))
                  try simp only [Act.put, List.setIfInBounds_toArray, List.set_cons_zero, List.set_cons_succ]
                  refine wpAnyH_take (i := 33) (oi := ?k33o) (v := ?k33v) ?k33h (by kernel_rfl) (by kernel_rfl) (by kernel_rfl) ?k33q ?k33y hHeld ?k33r
                  case k33h => (simp only [List.getElem?_toArray, List.getElem?_cons_succ, List.getElem?_cons_zero]; rfl)
                  case k33q => exact fun _ _ _ h => h
                  case k33y => (refine Or.inl ⟨by first | kernel_rfl | rfl, ?_⟩; intro w hSw; obtain ⟨⟨x0, x1⟩, x2, x3, x4, ⟨x5, x6⟩⟩ := hSw; go_simp <;> (try with_reducible rfl))
                  try simp only [Act.put, List.setIfInBounds_toArray, List.set_cons_zero, List.set_cons_succ]
                  refine wpAnyH_take (i := 34) (oi := ?k34o) (v := ?k34v) ?k34h (by kernel_rfl) (by kernel_rfl) (by kernel_rfl) ?k34q ?k34y hHeld ?k34r
                  case k34h => (simp only [List.getElem?_toArray, List.getElem?_cons_succ, List.getElem?_cons_zero]; rfl)
                  case k34q => exact fun _ _ _ h => h
                  case k34y => (refine Or.inl ⟨by first | kernel_rfl | rfl, ?_⟩; intro w hSw; obtain ⟨⟨x0, x1⟩, x2, x3, x4, ⟨x5, x6⟩⟩ := hSw; go_simp <;> (try with_reducible rfl))
                  try simp only [Act.put, List.setIfInBounds_toArray, List.set_cons_zero, List.set_cons_succ]
                  refine wpAnyH_take (i := 35) (oi := ?k35o) (v := ?k35v) ?k35h (by kernel_rfl) (by kernel_rfl) (by kernel_rfl) ?k35q ?k35y hHeld ?k35r
                  case k35h => (simp only [List.getElem?_toArray, List.getElem?_cons_succ, List.getElem?_cons_zero]; rfl)
                  case k35q => exact fun _ _ _ h => h
                  case k35y => (refine Or.inl ⟨by first | kernel_rfl | rfl, ?_⟩; intro w hSw; obtain ⟨⟨x0, x1⟩, x2, x3, x4, ⟨x5, x6⟩⟩ := hSw; go_simp <;> (try with_reducible rfl))
                  try simp only [Act.put, List.setIfInBounds_toArray, List.set_cons_zero, List.set_cons_succ]
                  refine wpAnyH_take (i := 36) (oi := ?k36o) (v := ?k36v) ?k36h (by kernel_rfl) (by kernel_rfl) (by kernel_rfl) ?k36q ?k36y hHeld ?k36r
                  case k36h => (simp only [List.getElem?_toArray, List.getElem?_cons_succ, List.getElem?_cons_zero]; rfl)
                  case k36q => exact fun _ _ _ h => h
                  case k36y => (refine Or.inl ⟨by first | kernel_rfl | rfl, ?_⟩; intro w hSw; obtain ⟨⟨x0, x1⟩, x2, x3, x4, ⟨x5, x6⟩⟩ := hSw; go_simp <;> (try with_reducible rfl))
                  try simp only [Act.put, List.setIfInBounds_toArray, List.set_cons_zero, List.set_cons_succ]
                  refine wpAnyH_take (i := 37) (oi := ?k37o) (v := ?k37v) ?k37h (by kernel_rfl) (by kernel_rfl) (by kernel_rfl) ?k37q ?k37y hHeld ?k37r
                  case k37h => (simp only [List.getElem?_toArray, List.getElem?_cons_succ, List.getElem?_cons_zero]; rfl)
                  case k37q => exact fun _ _ _ h => h
                  case k37y => (refine Or.inl ⟨by first | kernel_rfl | rfl, ?_⟩; intro w hSw; obtain ⟨⟨x0, x1⟩, x2, x3, x4, ⟨x5, x6⟩⟩ := hSw; go_simp <;> (try with_reducible rfl))
                  try simp only [Act.put, List.setIfInBounds_toArray, List.set_cons_zero, List.set_cons_succ]
                  refine wpAnyH_take (i := 38) (oi := ?k38o) (v := ?k38v) ?k38h (by kernel_rfl) (by kernel_rfl) (by kernel_rfl) ?k38q ?k38y hHeld ?k38r
                  case k38h => (simp only [List.getElem?_toArray, List.getElem?_cons_succ, List.getElem?_cons_zero]; rfl)
                  case k38q => exact fun _ _ _ h => h
                  case k38y => (refine Or.inl ⟨by first | kernel_rfl | rfl, ?_⟩; intro w hSw; obtain ⟨⟨x0, x1⟩, x2, x3, x4, ⟨x5, x6⟩⟩ := hSw; go_simp <;> (try with_reducible rfl))
                  try simp only [Act.put, List.setIfInBounds_toArray, List.set_cons_zero, List.set_cons_succ]
                  refine wpAnyH_take (i := 39) (oi := ?k39o) (v := ?k39v) ?k39h (by kernel_rfl) (by kernel_rfl) (by kernel_rfl) ?k39q ?k39y hHeld ?k39r
                  case k39h => (simp only [List.getElem?_toArray, List.getElem?_cons_succ, List.getElem?_cons_zero]; rfl)
                  case k39q => exact fun _ _ _ h => h
                  case k39y => (refine Or.inl ⟨by first | kernel_rfl | rfl, ?_⟩; intro w hSw; obtain ⟨⟨x0, x1⟩, x2, x3, x4, ⟨x5, x6⟩⟩ := hSw; go_simp <;> (try with_reducible rfl))
                  try simp only [Act.put, List.setIfInBounds_toArray, List.set_cons_zero, List.set_cons_succ]
                  refine wpAnyH_take (i := 40) (oi := ?k40o) (v := ?k40v) ?k40h (by kernel_rfl) (by kernel_rfl) (by kernel_rfl) ?k40q ?k40y hHeld ?k40r
                  case k40h => (simp only [List.getElem?_toArray, List.getElem?_cons_succ, List.getElem?_cons_zero]; rfl)
                  case k40q => exact fun _ _ _ h => h
                  case k40y => (refine Or.inl ⟨by first | kernel_rfl | rfl, ?_⟩; intro w hSw; obtain ⟨⟨x0, x1⟩, x2, x3, x4, ⟨x5, x6⟩⟩ := hSw; go_simp <;> (try with_reducible rfl))
                  try simp only [Act.put, List.setIfInBounds_toArray, List.set_cons_zero, List.set_cons_succ]
                  refine wpAnyH_take (i := 41) (oi := ?k41o) (v := ?k41v) ?k41h (by kernel_rfl) (by kernel_rfl) (by kernel_rfl) ?k41q ?k41y hHeld ?k41r
                  case k41h => (simp only [List.getElem?_toArray, List.getElem?_cons_succ, List.getElem?_cons_zero]; rfl)
                  case k41q => exact fun _ _ _ h => h
                  case k41y => (refine Or.inl ⟨by first | kernel_rfl | rfl, ?_⟩; intro w hSw; obtain ⟨⟨x0, x1⟩, x2, x3, x4, ⟨x5, x6⟩⟩ := hSw; go_simp <;> (try with_reducible rfl))
                  try simp only [Act.put, List.setIfInBounds_toArray, List.set_cons_zero, List.set_cons_succ]
                  refine wpAnyH_ready (rs := [42]) (by kernel_rfl) (by simp) ?_
                  refine (AllReadyH.cons rfl (fun K hK => ?_) AllReadyH.nil)
                  have hr3 := H9.out.g.r
                  have hz3 := H9.out.g.z
                  go_simp
                  refine hK.out _ _ (hHeld.set _ _ (by omega) HCB.out) (fun hHeld => ?_)
                  clear hK K
                  try simp only [Act.put, List.setIfInBounds_toArray, List.set_cons_zero, List.set_cons_succ]
                  refine wpAnyH_done (by kernel_rfl) ?_ _
                  go_wp2
                  exact fin_late _ H9.out.g.bel (by omega) (by have := H9.out.dd; omega) (by have := H9.out.dd; omega) (World.cell?_setCell_same _ _ _ H9.out.g.r) rfl rfl H9.out.df
              refine (wpIn_wide (n := 9)).1 ?_
              refine wpIn_rangeFunc_ownH hRl (by omega) (gf := 43) (lb := #[.pointer (some ⟨Bc, 0, none⟩), .pointer (some ⟨Bw, 0, none⟩), .pointer (some ⟨Bt, 0, none⟩)]) rfl trivial (enters_of Tryd.func43 (by kernel_rfl) rfl)
                (each_stops 8 (by omega) Bc Bw Bt s kk w5 HE.out) keepB_t (keepB_b hEL) (Below.refl _ _) (fun _ => rfl)
                (fun pre W => Boxed W (w2.heap.size + 1 + 1) 3 (.int .i64 (pre.length : Int)) ∧ Boxed W (w2.heap.size + 1 + 1 + 1) 3 (.int .i64 (lastT pre)) ∧ Below (w2.heap.size + 1 + 1) w5 W)
                (fun c pre W => ¬ pre <+: L)
                (OwnFrom.and (Own.from (boxed_own (w2.heap.size + 1 + 1) 3 (fun pre : List Sp => .int .i64 (pre.length : Int))) _) (OwnFrom.and (Own.from (boxed_own (w2.heap.size + 1 + 1 + 1) 3 (fun pre : List Sp => .int .i64 (lastT pre))) _) (ownFrom_below (by omega) (by omega))))
                (fun c => const_own _ (fun pre => ¬ pre <+: L))
                ⟨HBm.out, HBl.out, Below.refl _ _⟩
                (fun x a' W => ∃ Bx, w5.heap.size ≤ Bx ∧ Box2 W Bx x ∧ a' = { tmps := #[Value.int IntKind.i64 t, Value.int IntKind.i64 fr, Value.agg #[Value.int IntKind.i64 q0, Value.int IntKind.i64 q1], undef, undef, Value.pointer (some ⟨w.heap.size, 0, none⟩), Value.pointer (some ⟨w.heap.size + 1, 0, none⟩), Value.bool true, Value.int IntKind.i64 (k : Int), u9, u10, Value.int IntKind.i64 n, Value.pointer (some ⟨w2.heap.size, 0, none⟩), Value.pointer (some ⟨w2.heap.size + 1, 0, none⟩), Value.pointer (some ⟨w2.heap.size + 1 + 1, 0, none⟩), Value.pointer (some ⟨w2.heap.size + 1 + 1 + 1, 0, none⟩), Value.pointer (some ⟨Bx, 0, none⟩), undef, undef, Value.bool true, Value.bool true, Value.bool false, Value.bool false, Value.int IntKind.i64 t, Value.bool (decide (t < 0)), Value.bool (decide (t < 0)), Value.bool (decide (t < 0)), Value.int IntKind.i64 t, Value.bool (decide (1099511627776 < t)), Value.bool (decide (t < 0) || decide (1099511627776 < t)), undef, u31, u32, u33, u34, u35, u36, u37, u38, u39, u40, u41, u42, u43, u44, u45, u46, u47, u48, u49, u50, u51, u52, u53, u54, u55, u56, u57, u58, u59, u60, u61, u62, u63, u64, u65, u66, u67, u68, u69, u70, u71, u72, u73, u74, u75, u76, u77, u78, u79, u80, u81, u82, u83, u84, u85, u86, u87, u88, u89, u90, u91, u92, u93, u94, u95, u96, u97, u98, u99, u100, u101, u102, u103, u104, u105, u106, u107, u108, u109, u110, u111, u112, u113, u114, u115, u116, u117, u118, Value.pointer (some ⟨w.heap.size, 1, none⟩), Value.int IntKind.i64 q1, Value.int IntKind.i64 kk, Value.agg #[Value.int IntKind.i64 fr, Value.int IntKind.i64 z], Value.int IntKind.i64 kk, ECL Bc Bw Bt, Value.agg #[Value.int IntKind.i64 x.f, Value.int IntKind.i64 x.t], u126, u127, u128, u129, u130, u131, u132, u133, u134, u135, u136, u137, u138, u139, u140, u141, u142, u143, u144, u145, u146, u147, u148, u149, u150, u151, u152, u153, u154, u155, u156, u157, u158, u159, u160, u161, u162, u163, u164, u165, u166, u167, u168, u169, u170, u171, u172, u173, u174, u175, u176, u177, u178, u179, u180, u181, u182, u183, u184, u185, u186, u187, u188, u189, u190, u191, u192, u193, u194, u195, u196, u197, u198, u199, u200, u201, u202, u203, u204, u205, u206, u207, u208, u209, u210, u211, u212, u213, u214, u215, u216, u217, u218, u219, u220, u221, u222, u223, u224, u225, u226, u227, u228, u229], defers := [] })
                (fun x a' _ X Y row hs hg hr => by obtain ⟨Bx, k1, k2, k3⟩ := hs; exact ⟨Bx, k1, k2.own hg (fun r e => (hr r e).2), k3⟩)
                ?assign ?body ?done ?stop
              case assign =>
                rintro l pre x W K ⟨hm, hl, hB⟩ hK
                unfold encSp
                gi_wp2
                exact hK _ _ ((KeepsOthers.alloc _ _).from _) (.of_below ((Below.refl _ W).alloc (Nat.le_refl _) _) (fun q hq => Nat.lt_of_lt_of_le (hEL q hq) hB.size)) ⟨hm.alloc _, hl.alloc _, hB.alloc (by have := hB.size; omega) _⟩ ⟨W.heap.size, hB.size, Box2.new W x, rfl⟩
              case body =>
                rintro l pre x a' W hl - ⟨hm, hlb, hB⟩ ⟨Bx, hBx, bX, rfl⟩ hlt
                have HSX := Lib.hid (show pre ++ [x] <+: L → StepOk s kk pre x from fun h => parts_step HSIS.out HKB.out (by rw [HLL.out]; exact h))
                obtain ⟨M, hMM⟩ : ∃ M : Int, (pre.length : Int) = M := ⟨_, rfl⟩
                obtain ⟨T, hTT⟩ : ∃ T, lastT pre = T := ⟨_, rfl⟩
                rw [hMM] at hm
                rw [hTT] at hlb
                have HMM := Lib.hid hMM
                have HTT := Lib.hid hTT
                obtain ⟨v, hv⟩ : ∃ v, ofI x.f kk = v := ⟨_, rfl⟩
                have HPH := Lib.hid (show PH w2.heap.size s x kk M T Bx W W from ⟨under HS5.out hB (by omega), (hB.cell (p := ⟨w2.heap.size + 1, 0, none⟩) (by show w2.heap.size + 1 < _; omega)).trans HK5.out, hm.cell, hlb.cell, bX.at_, HE.out.tab.below hB (by have := hT.room; omega), Below.refl _ _⟩)
                have HGW := Lib.hid (HG5.out.upto hB (by omega) (HE.out.tab.below hB (by have := hT.room; omega)))
                have HV := Lib.hid hv
                have HWM := Lib.hid (show IntKind.i64.wrap (M + 1) = M + 1 by
                  have hN := count_bounds s kk
                  rw [allW_length] at hlt
                  rw [IntKind.wrap_i64]; omega)
                have qn := fun w => sp_neq v x w
                have kof := fun W h => ofAny_is x.f kk v W h (Lib.hid hv)
                unfold Sp.v at kof
                clear hv
                have HHB := Lib.hid hB
                clear hlt hB hMM hTT
                gi_wp2_with fail
                by_cases hM : M = 0
                · subst hM
                  have HHM := Lib.hid hm
                  have HHL := Lib.hid hlb
                  clear hm hlb
                  by_cases c1 : s.f < x.f
                  · have d1 : decide (s.f < x.f) = true := decide_eq_true c1
                    have HX := Lib.hid (show ¬ pre ++ [x] <+: L from fun h => by have k1 := (HSX.out h).first (by have := HMM.out; omega); omega)
                    clear c1
                    as_aux_lemma =>
                    refine region_round (S := (PH w2.heap.size s x kk 0 T Bx W)) (by kernel_rfl) (by kernel_rfl) HPH.out.drew (fun hHeld => ?_)
                    refine wpAnyH_take (i := 0) (oi := ?a1o) (v := ?a1v) ?a1h (by kernel_rfl) (by kernel_rfl) (by kernel_rfl) ?a1q ?a1y hHeld ?a1r
                    case a1h => (simp only [List.getElem?_toArray, List.getElem?_cons_zero]; rfl)
                    case a1q => exact fun _ _ _ h => h
                    case a1y => (refine Or.inl ⟨by first | kernel_rfl | rfl, ?_⟩; intro w hSw; obtain ⟨⟨x0, x1⟩, x2, x3, x4, ⟨x5, x6⟩, -, -⟩ := hSw; go_simp <;> (try with_reducible rfl))
                    try simp only [Act.put, List.setIfInBounds_toArray, List.set_cons_zero, List.set_cons_succ]
                    refine wpAnyH_take (i := 1) (oi := ?a2o) (v := ?a2v) ?a2h (by kernel_rfl) (by kernel_rfl) (by kernel_rfl) ?a2q ?a2y hHeld ?a2r
                    case a2h => (simp only [List.getElem?_toArray, List.getElem?_cons_succ, List.getElem?_cons_zero]; rfl)
                    case a2q => exact fun _ _ _ h => h
                    case a2y => (refine Or.inl ⟨by first | kernel_rfl | rfl, ?_⟩; intro w hSw; obtain ⟨⟨x0, x1⟩, x2, x3, x4, ⟨x5, x6⟩, -, -⟩ := hSw; go_simp <;> (try with_reducible rfl))
                    try simp only [Act.put, List.setIfInBounds_toArray, List.set_cons_zero, List.set_cons_succ]
                    refine wpAnyH_take (i := 2) (oi := ?a3o) (v := ?a3v) ?a3h (by kernel_rfl) (by kernel_rfl) (by kernel_rfl) ?a3q ?a3y hHeld ?a3r
                    case a3h => (simp only [List.getElem?_toArray, List.getElem?_cons_succ, List.getElem?_cons_zero]; rfl)
                    case a3q => exact fun _ _ _ h => h
                    case a3y => (refine Or.inl ⟨by first | kernel_rfl | rfl, ?_⟩; intro w hSw; obtain ⟨⟨x0, x1⟩, x2, x3, x4, ⟨x5, x6⟩, -, -⟩ := hSw; go_simp <;> (try with_reducible rfl))
                    try simp only [Act.put, List.setIfInBounds_toArray, List.set_cons_zero, List.set_cons_succ]
                    refine wpAnyH_take (i := 3) (oi := ?a4o) (v := ?a4v) ?a4h (by kernel_rfl) (by kernel_rfl) (by kernel_rfl) ?a4q ?a4y hHeld ?a4r
                    case a4h => (simp only [List.getElem?_toArray, List.getElem?_cons_succ, List.getElem?_cons_zero]; rfl)
                    case a4q => exact fun _ _ _ h => h
                    case a4y => (refine Or.inl ⟨by first | kernel_rfl | rfl, ?_⟩; intro w hSw; obtain ⟨⟨x0, x1⟩, x2, x3, x4, ⟨x5, x6⟩, -, -⟩ := hSw; go_simp <;> (try with_reducible rfl))
                    try simp only [Act.put, List.setIfInBounds_toArray, List.set_cons_zero, List.set_cons_succ]
                    refine wpAnyH_take (i := 4) (oi := ?a5o) (v := ?a5v) ?a5h (by kernel_rfl) (by kernel_rfl) (by kernel_rfl) ?a5q ?a5y hHeld ?a5r
                    case a5h => (simp only [List.getElem?_toArray, List.getElem?_cons_succ, List.getElem?_cons_zero]; rfl)
                    case a5q => exact fun _ _ _ h => h
                    case a5y => (refine Or.inl ⟨by first | kernel_rfl | rfl, ?_⟩; intro w hSw; obtain ⟨⟨x0, x1⟩, x2, x3, x4, ⟨x5, x6⟩, -, -⟩ := hSw; go_simp <;> (try with_reducible rfl))
                    try simp only [Act.put, List.setIfInBounds_toArray, List.set_cons_zero, List.set_cons_succ]
                    refine wpAnyH_take (i := 5) (oi := ?a6o) (v := ?a6v) ?a6h (by kernel_rfl) (by kernel_rfl) (by kernel_rfl) ?a6q ?a6y hHeld ?a6r
                    case a6h => (simp only [List.getElem?_toArray, List.getElem?_cons_succ, List.getElem?_cons_zero]; rfl)
                    case a6q => exact fun _ _ _ h => h
                    case a6y => (refine Or.inl ⟨by first | kernel_rfl | rfl, ?_⟩; intro w hSw; obtain ⟨⟨x0, x1⟩, x2, x3, x4, ⟨x5, x6⟩, -, -⟩ := hSw; go_simp <;> (try with_reducible rfl))
                    try simp only [Act.put, List.setIfInBounds_toArray, List.set_cons_zero, List.set_cons_succ]
                    refine wpAnyH_take (i := 6) (oi := ?a7o) (v := ?a7v) ?a7h (by kernel_rfl) (by kernel_rfl) (by kernel_rfl) ?a7q ?a7y hHeld ?a7r
                    case a7h => (simp only [List.getElem?_toArray, List.getElem?_cons_succ, List.getElem?_cons_zero]; rfl)
                    case a7q => exact fun _ _ _ h => h
                    case a7y => (refine Or.inl ⟨by first | kernel_rfl | rfl, ?_⟩; intro w hSw; obtain ⟨⟨x0, x1⟩, x2, x3, x4, ⟨x5, x6⟩, -, -⟩ := hSw; go_simp <;> (try with_reducible rfl))
                    try simp only [Act.put, List.setIfInBounds_toArray, List.set_cons_zero, List.set_cons_succ]
                    refine wpAnyH_take (i := 7) (oi := ?a8o) (v := ?a8v) ?a8h (by kernel_rfl) (by kernel_rfl) (by kernel_rfl) ?a8q ?a8y hHeld ?a8r
                    case a8h => (simp only [List.getElem?_toArray, List.getElem?_cons_succ, List.getElem?_cons_zero]; rfl)
                    case a8q => exact fun _ _ _ h => h
                    case a8y => (refine Or.inl ⟨by first | kernel_rfl | rfl, ?_⟩; intro w hSw; obtain ⟨⟨x0, x1⟩, x2, x3, x4, ⟨x5, x6⟩, -, -⟩ := hSw; go_simp <;> (try with_reducible rfl))
                    try simp only [Act.put, List.setIfInBounds_toArray, List.set_cons_zero, List.set_cons_succ]
                    refine wpAnyH_take (i := 8) (oi := ?a9o) (v := ?a9v) ?a9h (by kernel_rfl) (by kernel_rfl) (by kernel_rfl) ?a9q ?a9y hHeld ?a9r
                    case a9h => (simp only [List.getElem?_toArray, List.getElem?_cons_succ, List.getElem?_cons_zero]; rfl)
                    case a9q => exact fun _ _ _ h => h
                    case a9y => (refine Or.inl ⟨by first | kernel_rfl | rfl, ?_⟩; intro w hSw; obtain ⟨⟨x0, x1⟩, x2, x3, x4, ⟨x5, x6⟩, -, -⟩ := hSw; go_simp <;> (try with_reducible rfl))
                    try simp only [Act.put, List.setIfInBounds_toArray, List.set_cons_zero, List.set_cons_succ]
                    refine wpAnyH_take (i := 9) (oi := ?a10o) (v := undef) ?a10h (by kernel_rfl) (by kernel_rfl) (by kernel_rfl) ?a10q ?a10y hHeld ?a10r
                    case a10h => (simp only [List.getElem?_toArray, List.getElem?_cons_succ, List.getElem?_cons_zero]; rfl)
                    case a10q => exact fun _ _ _ h => h
                    case a10y => exact Or.inr ⟨by first | kernel_rfl | rfl, rfl⟩
                    try simp only [Act.put, List.setIfInBounds_toArray, List.set_cons_zero, List.set_cons_succ]
                    refine wpAnyH_take (i := 10) (oi := ?a11o) (v := undef) ?a11h (by kernel_rfl) (by kernel_rfl) (by kernel_rfl) ?a11q ?a11y hHeld ?a11r
                    case a11h => (simp only [List.getElem?_toArray, List.getElem?_cons_succ, List.getElem?_cons_zero]; rfl)
                    case a11q => exact fun _ _ _ h => h
                    case a11y => exact Or.inr ⟨by first | kernel_rfl | rfl, rfl⟩
                    try simp only [Act.put, List.setIfInBounds_toArray, List.set_cons_zero, List.set_cons_succ]
                    refine wpAnyH_take (i := 11) (oi := ?a12o) (v := undef) ?a12h (by kernel_rfl) (by kernel_rfl) (by kernel_rfl) ?a12q ?a12y hHeld ?a12r
                    case a12h => (simp only [List.getElem?_toArray, List.getElem?_cons_succ, List.getElem?_cons_zero]; rfl)
                    case a12q => exact fun _ _ _ h => h
                    case a12y => exact Or.inr ⟨by first | kernel_rfl | rfl, rfl⟩
                    try simp only [Act.put, List.setIfInBounds_toArray, List.set_cons_zero, List.set_cons_succ]
                    refine wpAnyH_take (i := 12) (oi := ?a13o) (v := undef) ?a13h (by kernel_rfl) (by kernel_rfl) (by kernel_rfl) ?a13q ?a13y hHeld ?a13r
                    case a13h => (simp only [List.getElem?_toArray, List.getElem?_cons_succ, List.getElem?_cons_zero]; rfl)
                    case a13q => exact fun _ _ _ h => h
                    case a13y => exact Or.inr ⟨by first | kernel_rfl | rfl, rfl⟩
                    try simp only [Act.put, List.setIfInBounds_toArray, List.set_cons_zero, List.set_cons_succ]
                    refine wpAnyH_take (i := 13) (oi := ?a14o) (v := undef) ?a14h (by kernel_rfl) (by kernel_rfl) (by kernel_rfl) ?a14q ?a14y hHeld ?a14r
                    case a14h => (simp only [List.getElem?_toArray, List.getElem?_cons_succ, List.getElem?_cons_zero]; rfl)
                    case a14q => exact fun _ _ _ h => h
                    case a14y => exact Or.inr ⟨by first | kernel_rfl | rfl, rfl⟩
                    try simp only [Act.put, List.setIfInBounds_toArray, List.set_cons_zero, List.set_cons_succ]
                    refine wpAnyH_take (i := 14) (oi := ?a15o) (v := ?a15v) ?a15h (by kernel_rfl) (by kernel_rfl) (by kernel_rfl) ?a15q ?a15y hHeld ?a15r
                    case a15h => (simp only [List.getElem?_toArray, List.getElem?_cons_succ, List.getElem?_cons_zero]; rfl)
                    case a15q => exact fun _ _ _ h => h
                    case a15y => (refine Or.inl ⟨by first | kernel_rfl | rfl, ?_⟩; intro w hSw; obtain ⟨⟨x0, x1⟩, x2, x3, x4, ⟨x5, x6⟩, -, -⟩ := hSw; go_simp <;> (try with_reducible rfl))
                    try simp only [Act.put, List.setIfInBounds_toArray, List.set_cons_zero, List.set_cons_succ]
                    refine wpAnyH_take (i := 15) (oi := ?a16o) (v := ?a16v) ?a16h (by kernel_rfl) (by kernel_rfl) (by kernel_rfl) ?a16q ?a16y hHeld ?a16r
                    case a16h => (simp only [List.getElem?_toArray, List.getElem?_cons_succ, List.getElem?_cons_zero]; rfl)
                    case a16q => exact fun _ _ _ h => h
                    case a16y => (refine Or.inl ⟨by first | kernel_rfl | rfl, ?_⟩; intro w hSw; obtain ⟨⟨x0, x1⟩, x2, x3, x4, ⟨x5, x6⟩, -, -⟩ := hSw; go_simp <;> (try with_reducible rfl))
                    try simp only [Act.put, List.setIfInBounds_toArray, List.set_cons_zero, List.set_cons_succ]
                    refine wpAnyH_take (i := 16) (oi := ?a17o) (v := ?a17v) ?a17h (by kernel_rfl) (by kernel_rfl) (by kernel_rfl) ?a17q ?a17y hHeld ?a17r
                    case a17h => (simp only [List.getElem?_toArray, List.getElem?_cons_succ, List.getElem?_cons_zero]; rfl)
                    case a17q => exact fun _ _ _ h => h
                    case a17y => (refine Or.inl ⟨by first | kernel_rfl | rfl, ?_⟩; intro w hSw; obtain ⟨⟨x0, x1⟩, x2, x3, x4, ⟨x5, x6⟩, -, -⟩ := hSw; go_simp <;> (try with_reducible rfl))
                    try simp only [Act.put, List.setIfInBounds_toArray, List.set_cons_zero, List.set_cons_succ]
                    refine wpAnyH_take (i := 17) (oi := ?a18o) (v := undef) ?a18h (by kernel_rfl) (by kernel_rfl) (by kernel_rfl) ?a18q ?a18y hHeld ?a18r
                    case a18h => (simp only [List.getElem?_toArray, List.getElem?_cons_succ, List.getElem?_cons_zero]; rfl)
                    case a18q => exact fun _ _ _ h => h
                    case a18y => exact Or.inr ⟨by first | kernel_rfl | rfl, rfl⟩
                    try simp only [Act.put, List.setIfInBounds_toArray, List.set_cons_zero, List.set_cons_succ]
                    refine wpAnyH_take (i := 18) (oi := ?a19o) (v := undef) ?a19h (by kernel_rfl) (by kernel_rfl) (by kernel_rfl) ?a19q ?a19y hHeld ?a19r
                    case a19h => (simp only [List.getElem?_toArray, List.getElem?_cons_succ, List.getElem?_cons_zero]; rfl)
                    case a19q => exact fun _ _ _ h => h
                    case a19y => exact Or.inr ⟨by first | kernel_rfl | rfl, rfl⟩
                    try simp only [Act.put, List.setIfInBounds_toArray, List.set_cons_zero, List.set_cons_succ]
                    refine wpAnyH_take (i := 19) (oi := ?a20o) (v := undef) ?a20h (by kernel_rfl) (by kernel_rfl) (by kernel_rfl) ?a20q ?a20y hHeld ?a20r
                    case a20h => (simp only [List.getElem?_toArray, List.getElem?_cons_succ, List.getElem?_cons_zero]; rfl)
                    case a20q => exact fun _ _ _ h => h
                    case a20y => exact Or.inr ⟨by first | kernel_rfl | rfl, rfl⟩
                    try simp only [Act.put, List.setIfInBounds_toArray, List.set_cons_zero, List.set_cons_succ]
                    refine wpAnyH_take (i := 20) (oi := ?a21o) (v := undef) ?a21h (by kernel_rfl) (by kernel_rfl) (by kernel_rfl) ?a21q ?a21y hHeld ?a21r
                    case a21h => (simp only [List.getElem?_toArray, List.getElem?_cons_succ, List.getElem?_cons_zero]; rfl)
                    case a21q => exact fun _ _ _ h => h
                    case a21y => exact Or.inr ⟨by first | kernel_rfl | rfl, rfl⟩
                    try simp only [Act.put, List.setIfInBounds_toArray, List.set_cons_zero, List.set_cons_succ]
                    refine wpAnyH_take (i := 21) (oi := ?a22o) (v := undef) ?a22h (by kernel_rfl) (by kernel_rfl) (by kernel_rfl) ?a22q ?a22y hHeld ?a22r
                    case a22h => (simp only [List.getElem?_toArray, List.getElem?_cons_succ, List.getElem?_cons_zero]; rfl)
                    case a22q => exact fun _ _ _ h => h
                    case a22y => exact Or.inr ⟨by first | kernel_rfl | rfl, rfl⟩
                    try simp only [Act.put, List.setIfInBounds_toArray, List.set_cons_zero, List.set_cons_succ]
                    refine wpAnyH_take (i := 22) (oi := ?a23o) (v := undef) ?a23h (by kernel_rfl) (by kernel_rfl) (by kernel_rfl) ?a23q ?a23y hHeld ?a23r
                    case a23h => (simp only [List.getElem?_toArray, List.getElem?_cons_succ, List.getElem?_cons_zero]; rfl)
                    case a23q => exact fun _ _ _ h => h
                    case a23y => exact Or.inr ⟨by first | kernel_rfl | rfl, rfl⟩
                    try simp only [Act.put, List.setIfInBounds_toArray, List.set_cons_zero, List.set_cons_succ]
                    refine wpAnyH_take (i := 23) (oi := ?a24o) (v := undef) ?a24h (by kernel_rfl) (by kernel_rfl) (by kernel_rfl) ?a24q ?a24y hHeld ?a24r
                    case a24h => (simp only [List.getElem?_toArray, List.getElem?_cons_succ, List.getElem?_cons_zero]; rfl)
                    case a24q => exact fun _ _ _ h => h
                    case a24y => exact Or.inr ⟨by first | kernel_rfl | rfl, rfl⟩
                    try simp only [Act.put, List.setIfInBounds_toArray, List.set_cons_zero, List.set_cons_succ]
                    refine wpAnyH_take (i := 24) (oi := ?a25o) (v := undef) ?a25h (by kernel_rfl) (by kernel_rfl) (by kernel_rfl) ?a25q ?a25y hHeld ?a25r
                    case a25h => (simp only [List.getElem?_toArray, List.getElem?_cons_succ, List.getElem?_cons_zero]; rfl)
                    case a25q => exact fun _ _ _ h => h
                    case a25y => exact Or.inr ⟨by first | kernel_rfl | rfl, rfl⟩
                    try simp only [Act.put, List.setIfInBounds_toArray, List.set_cons_zero, List.set_cons_succ]
                    refine wpAnyH_take (i := 25) (oi := ?a26o) (v := ?a26v) ?a26h (by kernel_rfl) (by kernel_rfl) (by kernel_rfl) ?a26q ?a26y hHeld ?a26r
                    case a26h => (simp only [List.getElem?_toArray, List.getElem?_cons_succ, List.getElem?_cons_zero]; rfl)
                    case a26q => exact fun _ _ _ h => h
                    case a26y => (refine Or.inl ⟨by first | kernel_rfl | rfl, ?_⟩; intro w hSw; obtain ⟨⟨x0, x1⟩, x2, x3, x4, ⟨x5, x6⟩, -, -⟩ := hSw; go_simp <;> (try with_reducible rfl))
                    try simp only [Act.put, List.setIfInBounds_toArray, List.set_cons_zero, List.set_cons_succ]
                    refine wpAnyH_take (i := 26) (oi := ?a27o) (v := ?a27v) ?a27h (by kernel_rfl) (by kernel_rfl) (by kernel_rfl) ?a27q ?a27y hHeld ?a27r
                    case a27h => (simp only [List.getElem?_toArray, List.getElem?_cons_succ, List.getElem?_cons_zero]; rfl)
                    case a27q => exact fun _ _ _ h => h
                    case a27y => (refine Or.inl ⟨by first | kernel_rfl | rfl, ?_⟩; intro w hSw; obtain ⟨⟨x0, x1⟩, x2, x3, x4, ⟨x5, x6⟩, -, -⟩ := hSw; go_simp <;> (try with_reducible rfl))
                    try simp only [Act.put, List.setIfInBounds_toArray, List.set_cons_zero, List.set_cons_succ]
                    refine wpAnyH_take (i := 27) (oi := ?a28o) (v := undef) ?a28h (by kernel_rfl) (by kernel_rfl) (by kernel_rfl) ?a28q ?a28y hHeld ?a28r
                    case a28h => (simp only [List.getElem?_toArray, List.getElem?_cons_succ, List.getElem?_cons_zero]; rfl)
                    case a28q => exact fun _ _ _ h => h
                    case a28y => exact Or.inr ⟨by first | kernel_rfl | rfl, rfl⟩
                    try simp only [Act.put, List.setIfInBounds_toArray, List.set_cons_zero, List.set_cons_succ]
                    refine wpAnyH_take (i := 28) (oi := ?a29o) (v := undef) ?a29h (by kernel_rfl) (by kernel_rfl) (by kernel_rfl) ?a29q ?a29y hHeld ?a29r
                    case a29h => (simp only [List.getElem?_toArray, List.getElem?_cons_succ, List.getElem?_cons_zero]; rfl)
                    case a29q => exact fun _ _ _ h => h
                    case a29y => exact Or.inr ⟨by first | kernel_rfl | rfl, rfl⟩
                    try simp only [Act.put, List.setIfInBounds_toArray, List.set_cons_zero, List.set_cons_succ]
                    refine wpAnyH_take (i := 29) (oi := ?a30o) (v := undef) ?a30h (by kernel_rfl) (by kernel_rfl) (by kernel_rfl) ?a30q ?a30y hHeld ?a30r
                    case a30h => (simp only [List.getElem?_toArray, List.getElem?_cons_succ, List.getElem?_cons_zero]; rfl)
                    case a30q => exact fun _ _ _ h => h
                    case a30y => exact Or.inr ⟨by first | kernel_rfl | rfl, rfl⟩
                    try simp only [Act.put, List.setIfInBounds_toArray, List.set_cons_zero, List.set_cons_succ]
                    refine wpAnyH_take (i := 30) (oi := ?a31o) (v := undef) ?a31h (by kernel_rfl) (by kernel_rfl) (by kernel_rfl) ?a31q ?a31y hHeld ?a31r
                    case a31h => (simp only [List.getElem?_toArray, List.getElem?_cons_succ, List.getElem?_cons_zero]; rfl)
                    case a31q => exact fun _ _ _ h => h
                    case a31y => exact Or.inr ⟨by first | kernel_rfl | rfl, rfl⟩
                    try simp only [Act.put, List.setIfInBounds_toArray, List.set_cons_zero, List.set_cons_succ]
                    refine wpAnyH_take (i := 31) (oi := ?a32o) (v := undef) ?a32h (by kernel_rfl) (by kernel_rfl) (by kernel_rfl) ?a32q ?a32y hHeld ?a32r
                    case a32h => (simp only [List.getElem?_toArray, List.getElem?_cons_succ, List.getElem?_cons_zero]; rfl)
                    case a32q => exact fun _ _ _ h => h
                    case a32y => exact Or.inr ⟨by first | kernel_rfl | rfl, rfl⟩
                    try simp only [Act.put, List.setIfInBounds_toArray, List.set_cons_zero, List.set_cons_succ]
                    refine wpAnyH_take (i := 32) (oi := ?a33o) (v := undef) ?a33h (by kernel_rfl) (by kernel_rfl) (by kernel_rfl) ?a33q ?a33y hHeld ?a33r
                    case a33h => (simp only [List.getElem?_toArray, List.getElem?_cons_succ, List.getElem?_cons_zero]; rfl)
                    case a33q => exact fun _ _ _ h => h
                    case a33y => exact Or.inr ⟨by first | kernel_rfl | rfl, rfl⟩
                    try simp only [Act.put, List.setIfInBounds_toArray, List.set_cons_zero, List.set_cons_succ]
                    refine wpAnyH_take (i := 33) (oi := ?a34o) (v := ?a34v) ?a34h (by kernel_rfl) (by kernel_rfl) (by kernel_rfl) ?a34q ?a34y hHeld ?a34r
                    case a34h => (simp only [List.getElem?_toArray, List.getElem?_cons_succ, List.getElem?_cons_zero]; rfl)
                    case a34q => exact fun _ _ _ h => h
                    case a34y => (refine Or.inl ⟨by first | kernel_rfl | rfl, ?_⟩; intro w hSw; obtain ⟨⟨x0, x1⟩, x2, x3, x4, ⟨x5, x6⟩, -, -⟩ := hSw; go_simp <;> (try with_reducible rfl))
                    try simp only [Act.put, List.setIfInBounds_toArray, List.set_cons_zero, List.set_cons_succ]
                    refine wpAnyH_done (by kernel_rfl) ?_ _
                    have HPH2 := Lib.hid hHeld
                    clear hHeld
                    refine calm_n ?_
                    have hgw := HGW.out.keep HPH2.out.bel
                    have hrr := hgw.r
                    have hzz := hgw.z
                    have HKO := Lib.hid (below_keeps HPH2.out.bel)
                    clear hgw
                    gi_wp2
                    exact ⟨(HKO.out.trans (KeepsOthers.setCell _ _ _)).from _, HX.out⟩
                  · have d1 : decide (s.f < x.f) = false := decide_eq_false c1
                    by_cases c2 : x.t ≤ s.f
                    · have d2 : decide (x.t ≤ s.f) = true := decide_eq_true c2
                      have HX := Lib.hid (show ¬ pre ++ [x] <+: L from fun h => by have k1 := (HSX.out h).first (by have := HMM.out; omega); omega)
                      clear c1 c2
                      as_aux_lemma =>
                      refine region_round (S := (PH w2.heap.size s x kk 0 T Bx W)) (by kernel_rfl) (by kernel_rfl) HPH.out.drew (fun hHeld => ?_)
                      refine wpAnyH_take (i := 0) (oi := ?b1o) (v := ?b1v) ?b1h (by kernel_rfl) (by kernel_rfl) (by kernel_rfl) ?b1q ?b1y hHeld ?b1r
                      case b1h => (simp only [List.getElem?_toArray, List.getElem?_cons_zero]; rfl)
                      case b1q => exact fun _ _ _ h => h
                      case b1y => (refine Or.inl ⟨by first | kernel_rfl | rfl, ?_⟩; intro w hSw; obtain ⟨⟨x0, x1⟩, x2, x3, x4, ⟨x5, x6⟩, -, -⟩ := hSw; go_simp <;> (try with_reducible rfl))
                      try simp only [Act.put, List.setIfInBounds_toArray, List.set_cons_zero, List.set_cons_succ]
                      refine wpAnyH_take (i := 1) (oi := ?b2o) (v := ?b2v) ?b2h (by kernel_rfl) (by kernel_rfl) (by kernel_rfl) ?b2q ?b2y hHeld ?b2r
                      case b2h => (simp only [List.getElem?_toArray, List.getElem?_cons_succ, List.getElem?_cons_zero]; rfl)
                      case b2q => exact fun _ _ _ h => h
                      case b2y => (refine Or.inl ⟨by first | kernel_rfl | rfl, ?_⟩; intro w hSw; obtain ⟨⟨x0, x1⟩, x2, x3, x4, ⟨x5, x6⟩, -, -⟩ := hSw; go_simp <;> (try with_reducible rfl))
                      try simp only [Act.put, List.setIfInBounds_toArray, List.set_cons_zero, List.set_cons_succ]
                      refine wpAnyH_take (i := 2) (oi := ?b3o) (v := ?b3v) ?b3h (by kernel_rfl) (by kernel_rfl) (by kernel_rfl) ?b3q ?b3y hHeld ?b3r
                      case b3h => (simp only [List.getElem?_toArray, List.getElem?_cons_succ, List.getElem?_cons_zero]; rfl)
                      case b3q => exact fun _ _ _ h => h
                      case b3y => (refine Or.inl ⟨by first | kernel_rfl | rfl, ?_⟩; intro w hSw; obtain ⟨⟨x0, x1⟩, x2, x3, x4, ⟨x5, x6⟩, -, -⟩ := hSw; go_simp <;> (try with_reducible rfl))
                      try simp only [Act.put, List.setIfInBounds_toArray, List.set_cons_zero, List.set_cons_succ]
                      refine wpAnyH_take (i := 3) (oi := ?b4o) (v := ?b4v) ?b4h (by kernel_rfl) (by kernel_rfl) (by kernel_rfl) ?b4q ?b4y hHeld ?b4r
                      case b4h => (simp only [List.getElem?_toArray, List.getElem?_cons_succ, List.getElem?_cons_zero]; rfl)
                      case b4q => exact fun _ _ _ h => h
                      case b4y => (refine Or.inl ⟨by first | kernel_rfl | rfl, ?_⟩; intro w hSw; obtain ⟨⟨x0, x1⟩, x2, x3, x4, ⟨x5, x6⟩, -, -⟩ := hSw; go_simp <;> (try with_reducible rfl))
                      try simp only [Act.put, List.setIfInBounds_toArray, List.set_cons_zero, List.set_cons_succ]
                      refine wpAnyH_take (i := 4) (oi := ?b5o) (v := ?b5v) ?b5h (by kernel_rfl) (by kernel_rfl) (by kernel_rfl) ?b5q ?b5y hHeld ?b5r
                      case b5h => (simp only [List.getElem?_toArray, List.getElem?_cons_succ, List.getElem?_cons_zero]; rfl)
                      case b5q => exact fun _ _ _ h => h
                      case b5y => (refine Or.inl ⟨by first | kernel_rfl | rfl, ?_⟩; intro w hSw; obtain ⟨⟨x0, x1⟩, x2, x3, x4, ⟨x5, x6⟩, -, -⟩ := hSw; go_simp <;> (try with_reducible rfl))
                      try simp only [Act.put, List.setIfInBounds_toArray, List.set_cons_zero, List.set_cons_succ]
                      refine wpAnyH_take (i := 5) (oi := ?b6o) (v := ?b6v) ?b6h (by kernel_rfl) (by kernel_rfl) (by kernel_rfl) ?b6q ?b6y hHeld ?b6r
                      case b6h => (simp only [List.getElem?_toArray, List.getElem?_cons_succ, List.getElem?_cons_zero]; rfl)
                      case b6q => exact fun _ _ _ h => h
                      case b6y => (refine Or.inl ⟨by first | kernel_rfl | rfl, ?_⟩; intro w hSw; obtain ⟨⟨x0, x1⟩, x2, x3, x4, ⟨x5, x6⟩, -, -⟩ := hSw; go_simp <;> (try with_reducible rfl))
                      try simp only [Act.put, List.setIfInBounds_toArray, List.set_cons_zero, List.set_cons_succ]
                      refine wpAnyH_take (i := 6) (oi := ?b7o) (v := ?b7v) ?b7h (by kernel_rfl) (by kernel_rfl) (by kernel_rfl) ?b7q ?b7y hHeld ?b7r
                      case b7h => (simp only [List.getElem?_toArray, List.getElem?_cons_succ, List.getElem?_cons_zero]; rfl)
                      case b7q => exact fun _ _ _ h => h
                      case b7y => (refine Or.inl ⟨by first | kernel_rfl | rfl, ?_⟩; intro w hSw; obtain ⟨⟨x0, x1⟩, x2, x3, x4, ⟨x5, x6⟩, -, -⟩ := hSw; go_simp <;> (try with_reducible rfl))
                      try simp only [Act.put, List.setIfInBounds_toArray, List.set_cons_zero, List.set_cons_succ]
                      refine wpAnyH_take (i := 7) (oi := ?b8o) (v := ?b8v) ?b8h (by kernel_rfl) (by kernel_rfl) (by kernel_rfl) ?b8q ?b8y hHeld ?b8r
                      case b8h => (simp only [List.getElem?_toArray, List.getElem?_cons_succ, List.getElem?_cons_zero]; rfl)
                      case b8q => exact fun _ _ _ h => h
                      case b8y => (refine Or.inl ⟨by first | kernel_rfl | rfl, ?_⟩; intro w hSw; obtain ⟨⟨x0, x1⟩, x2, x3, x4, ⟨x5, x6⟩, -, -⟩ := hSw; go_simp <;> (try with_reducible rfl))
                      try simp only [Act.put, List.setIfInBounds_toArray, List.set_cons_zero, List.set_cons_succ]
                      refine wpAnyH_take (i := 8) (oi := ?b9o) (v := ?b9v) ?b9h (by kernel_rfl) (by kernel_rfl) (by kernel_rfl) ?b9q ?b9y hHeld ?b9r
                      case b9h => (simp only [List.getElem?_toArray, List.getElem?_cons_succ, List.getElem?_cons_zero]; rfl)
                      case b9q => exact fun _ _ _ h => h
                      case b9y => (refine Or.inl ⟨by first | kernel_rfl | rfl, ?_⟩; intro w hSw; obtain ⟨⟨x0, x1⟩, x2, x3, x4, ⟨x5, x6⟩, -, -⟩ := hSw; go_simp <;> (try with_reducible rfl))
                      try simp only [Act.put, List.setIfInBounds_toArray, List.set_cons_zero, List.set_cons_succ]
                      refine wpAnyH_take (i := 9) (oi := ?b10o) (v := ?b10v) ?b10h (by kernel_rfl) (by kernel_rfl) (by kernel_rfl) ?b10q ?b10y hHeld ?b10r
                      case b10h => (simp only [List.getElem?_toArray, List.getElem?_cons_succ, List.getElem?_cons_zero]; rfl)
                      case b10q => exact fun _ _ _ h => h
                      case b10y => (refine Or.inl ⟨by first | kernel_rfl | rfl, ?_⟩; intro w hSw; obtain ⟨⟨x0, x1⟩, x2, x3, x4, ⟨x5, x6⟩, -, -⟩ := hSw; go_simp <;> (try with_reducible rfl))
                      try simp only [Act.put, List.setIfInBounds_toArray, List.set_cons_zero, List.set_cons_succ]
                      refine wpAnyH_take (i := 10) (oi := ?b11o) (v := ?b11v) ?b11h (by kernel_rfl) (by kernel_rfl) (by kernel_rfl) ?b11q ?b11y hHeld ?b11r
                      case b11h => (simp only [List.getElem?_toArray, List.getElem?_cons_succ, List.getElem?_cons_zero]; rfl)
                      case b11q => exact fun _ _ _ h => h
                      case b11y => (refine Or.inl ⟨by first | kernel_rfl | rfl, ?_⟩; intro w hSw; obtain ⟨⟨x0, x1⟩, x2, x3, x4, ⟨x5, x6⟩, -, -⟩ := hSw; go_simp <;> (try with_reducible rfl))
                      try simp only [Act.put, List.setIfInBounds_toArray, List.set_cons_zero, List.set_cons_succ]
                      refine wpAnyH_take (i := 11) (oi := ?b12o) (v := ?b12v) ?b12h (by kernel_rfl) (by kernel_rfl) (by kernel_rfl) ?b12q ?b12y hHeld ?b12r
                      case b12h => (simp only [List.getElem?_toArray, List.getElem?_cons_succ, List.getElem?_cons_zero]; rfl)
                      case b12q => exact fun _ _ _ h => h
                      case b12y => (refine Or.inl ⟨by first | kernel_rfl | rfl, ?_⟩; intro w hSw; obtain ⟨⟨x0, x1⟩, x2, x3, x4, ⟨x5, x6⟩, -, -⟩ := hSw; go_simp <;> (try with_reducible rfl))
                      try simp only [Act.put, List.setIfInBounds_toArray, List.set_cons_zero, List.set_cons_succ]
                      refine wpAnyH_take (i := 12) (oi := ?b13o) (v := ?b13v) ?b13h (by kernel_rfl) (by kernel_rfl) (by kernel_rfl) ?b13q ?b13y hHeld ?b13r
                      case b13h => (simp only [List.getElem?_toArray, List.getElem?_cons_succ, List.getElem?_cons_zero]; rfl)
                      case b13q => exact fun _ _ _ h => h
                      case b13y => (refine Or.inl ⟨by first | kernel_rfl | rfl, ?_⟩; intro w hSw; obtain ⟨⟨x0, x1⟩, x2, x3, x4, ⟨x5, x6⟩, -, -⟩ := hSw; go_simp <;> (try with_reducible rfl))
                      try simp only [Act.put, List.setIfInBounds_toArray, List.set_cons_zero, List.set_cons_succ]
                      refine wpAnyH_take (i := 13) (oi := ?b14o) (v := ?b14v) ?b14h (by kernel_rfl) (by kernel_rfl) (by kernel_rfl) ?b14q ?b14y hHeld ?b14r
                      case b14h => (simp only [List.getElem?_toArray, List.getElem?_cons_succ, List.getElem?_cons_zero]; rfl)
                      case b14q => exact fun _ _ _ h => h
                      case b14y => (refine Or.inl ⟨by first | kernel_rfl | rfl, ?_⟩; intro w hSw; obtain ⟨⟨x0, x1⟩, x2, x3, x4, ⟨x5, x6⟩, -, -⟩ := hSw; go_simp <;> (try with_reducible rfl))
                      try simp only [Act.put, List.setIfInBounds_toArray, List.set_cons_zero, List.set_cons_succ]
                      refine wpAnyH_take (i := 14) (oi := ?b15o) (v := ?b15v) ?b15h (by kernel_rfl) (by kernel_rfl) (by kernel_rfl) ?b15q ?b15y hHeld ?b15r
                      case b15h => (simp only [List.getElem?_toArray, List.getElem?_cons_succ, List.getElem?_cons_zero]; rfl)
                      case b15q => exact fun _ _ _ h => h
                      case b15y => (refine Or.inl ⟨by first | kernel_rfl | rfl, ?_⟩; intro w hSw; obtain ⟨⟨x0, x1⟩, x2, x3, x4, ⟨x5, x6⟩, -, -⟩ := hSw; go_simp <;> (try with_reducible rfl))
                      try simp only [Act.put, List.setIfInBounds_toArray, List.set_cons_zero, List.set_cons_succ]
                      refine wpAnyH_take (i := 15) (oi := ?b16o) (v := ?b16v) ?b16h (by kernel_rfl) (by kernel_rfl) (by kernel_rfl) ?b16q ?b16y hHeld ?b16r
                      case b16h => (simp only [List.getElem?_toArray, List.getElem?_cons_succ, List.getElem?_cons_zero]; rfl)
                      case b16q => exact fun _ _ _ h => h
                      case b16y => (refine Or.inl ⟨by first | kernel_rfl | rfl, ?_⟩; intro w hSw; obtain ⟨⟨x0, x1⟩, x2, x3, x4, ⟨x5, x6⟩, -, -⟩ := hSw; go_simp <;> (try with_reducible rfl))
                      try simp only [Act.put, List.setIfInBounds_toArray, List.set_cons_zero, List.set_cons_succ]
                      refine wpAnyH_take (i := 16) (oi := ?b17o) (v := ?b17v) ?b17h (by kernel_rfl) (by kernel_rfl) (by kernel_rfl) ?b17q ?b17y hHeld ?b17r
                      case b17h => (simp only [List.getElem?_toArray, List.getElem?_cons_succ, List.getElem?_cons_zero]; rfl)
                      case b17q => exact fun _ _ _ h => h
                      case b17y => (refine Or.inl ⟨by first | kernel_rfl | rfl, ?_⟩; intro w hSw; obtain ⟨⟨x0, x1⟩, x2, x3, x4, ⟨x5, x6⟩, -, -⟩ := hSw; go_simp <;> (try with_reducible rfl))
                      try simp only [Act.put, List.setIfInBounds_toArray, List.set_cons_zero, List.set_cons_succ]
                      refine wpAnyH_take (i := 17) (oi := ?b18o) (v := undef) ?b18h (by kernel_rfl) (by kernel_rfl) (by kernel_rfl) ?b18q ?b18y hHeld ?b18r
                      case b18h => (simp only [List.getElem?_toArray, List.getElem?_cons_succ, List.getElem?_cons_zero]; rfl)
                      case b18q => exact fun _ _ _ h => h
                      case b18y => exact Or.inr ⟨by first | kernel_rfl | rfl, rfl⟩
                      try simp only [Act.put, List.setIfInBounds_toArray, List.set_cons_zero, List.set_cons_succ]
                      refine wpAnyH_take (i := 18) (oi := ?b19o) (v := undef) ?b19h (by kernel_rfl) (by kernel_rfl) (by kernel_rfl) ?b19q ?b19y hHeld ?b19r
                      case b19h => (simp only [List.getElem?_toArray, List.getElem?_cons_succ, List.getElem?_cons_zero]; rfl)
                      case b19q => exact fun _ _ _ h => h
                      case b19y => exact Or.inr ⟨by first | kernel_rfl | rfl, rfl⟩
                      try simp only [Act.put, List.setIfInBounds_toArray, List.set_cons_zero, List.set_cons_succ]
                      refine wpAnyH_take (i := 19) (oi := ?b20o) (v := undef) ?b20h (by kernel_rfl) (by kernel_rfl) (by kernel_rfl) ?b20q ?b20y hHeld ?b20r
                      case b20h => (simp only [List.getElem?_toArray, List.getElem?_cons_succ, List.getElem?_cons_zero]; rfl)
                      case b20q => exact fun _ _ _ h => h
                      case b20y => exact Or.inr ⟨by first | kernel_rfl | rfl, rfl⟩
                      try simp only [Act.put, List.setIfInBounds_toArray, List.set_cons_zero, List.set_cons_succ]
                      refine wpAnyH_take (i := 20) (oi := ?b21o) (v := undef) ?b21h (by kernel_rfl) (by kernel_rfl) (by kernel_rfl) ?b21q ?b21y hHeld ?b21r
                      case b21h => (simp only [List.getElem?_toArray, List.getElem?_cons_succ, List.getElem?_cons_zero]; rfl)
                      case b21q => exact fun _ _ _ h => h
                      case b21y => exact Or.inr ⟨by first | kernel_rfl | rfl, rfl⟩
                      try simp only [Act.put, List.setIfInBounds_toArray, List.set_cons_zero, List.set_cons_succ]
                      refine wpAnyH_take (i := 21) (oi := ?b22o) (v := undef) ?b22h (by kernel_rfl) (by kernel_rfl) (by kernel_rfl) ?b22q ?b22y hHeld ?b22r
                      case b22h => (simp only [List.getElem?_toArray, List.getElem?_cons_succ, List.getElem?_cons_zero]; rfl)
                      case b22q => exact fun _ _ _ h => h
                      case b22y => exact Or.inr ⟨by first | kernel_rfl | rfl, rfl⟩
                      try simp only [Act.put, List.setIfInBounds_toArray, List.set_cons_zero, List.set_cons_succ]
                      refine wpAnyH_take (i := 22) (oi := ?b23o) (v := undef) ?b23h (by kernel_rfl) (by kernel_rfl) (by kernel_rfl) ?b23q ?b23y hHeld ?b23r
                      case b23h => (simp only [List.getElem?_toArray, List.getElem?_cons_succ, List.getElem?_cons_zero]; rfl)
                      case b23q => exact fun _ _ _ h => h
                      case b23y => exact Or.inr ⟨by first | kernel_rfl | rfl, rfl⟩
                      try simp only [Act.put, List.setIfInBounds_toArray, List.set_cons_zero, List.set_cons_succ]
                      refine wpAnyH_take (i := 23) (oi := ?b24o) (v := undef) ?b24h (by kernel_rfl) (by kernel_rfl) (by kernel_rfl) ?b24q ?b24y hHeld ?b24r
                      case b24h => (simp only [List.getElem?_toArray, List.getElem?_cons_succ, List.getElem?_cons_zero]; rfl)
                      case b24q => exact fun _ _ _ h => h
                      case b24y => exact Or.inr ⟨by first | kernel_rfl | rfl, rfl⟩
                      try simp only [Act.put, List.setIfInBounds_toArray, List.set_cons_zero, List.set_cons_succ]
                      refine wpAnyH_take (i := 24) (oi := ?b25o) (v := undef) ?b25h (by kernel_rfl) (by kernel_rfl) (by kernel_rfl) ?b25q ?b25y hHeld ?b25r
                      case b25h => (simp only [List.getElem?_toArray, List.getElem?_cons_succ, List.getElem?_cons_zero]; rfl)
                      case b25q => exact fun _ _ _ h => h
                      case b25y => exact Or.inr ⟨by first | kernel_rfl | rfl, rfl⟩
                      try simp only [Act.put, List.setIfInBounds_toArray, List.set_cons_zero, List.set_cons_succ]
                      refine wpAnyH_take (i := 25) (oi := ?b26o) (v := ?b26v) ?b26h (by kernel_rfl) (by kernel_rfl) (by kernel_rfl) ?b26q ?b26y hHeld ?b26r
                      case b26h => (simp only [List.getElem?_toArray, List.getElem?_cons_succ, List.getElem?_cons_zero]; rfl)
                      case b26q => exact fun _ _ _ h => h
                      case b26y => (refine Or.inl ⟨by first | kernel_rfl | rfl, ?_⟩; intro w hSw; obtain ⟨⟨x0, x1⟩, x2, x3, x4, ⟨x5, x6⟩, -, -⟩ := hSw; go_simp <;> (try with_reducible rfl))
                      try simp only [Act.put, List.setIfInBounds_toArray, List.set_cons_zero, List.set_cons_succ]
                      refine wpAnyH_take (i := 26) (oi := ?b27o) (v := ?b27v) ?b27h (by kernel_rfl) (by kernel_rfl) (by kernel_rfl) ?b27q ?b27y hHeld ?b27r
                      case b27h => (simp only [List.getElem?_toArray, List.getElem?_cons_succ, List.getElem?_cons_zero]; rfl)
                      case b27q => exact fun _ _ _ h => h
                      case b27y => (refine Or.inl ⟨by first | kernel_rfl | rfl, ?_⟩; intro w hSw; obtain ⟨⟨x0, x1⟩, x2, x3, x4, ⟨x5, x6⟩, -, -⟩ := hSw; go_simp <;> (try with_reducible rfl))
                      try simp only [Act.put, List.setIfInBounds_toArray, List.set_cons_zero, List.set_cons_succ]
                      refine wpAnyH_take (i := 27) (oi := ?b28o) (v := undef) ?b28h (by kernel_rfl) (by kernel_rfl) (by kernel_rfl) ?b28q ?b28y hHeld ?b28r
                      case b28h => (simp only [List.getElem?_toArray, List.getElem?_cons_succ, List.getElem?_cons_zero]; rfl)
                      case b28q => exact fun _ _ _ h => h
                      case b28y => exact Or.inr ⟨by first | kernel_rfl | rfl, rfl⟩
                      try simp only [Act.put, List.setIfInBounds_toArray, List.set_cons_zero, List.set_cons_succ]
                      refine wpAnyH_take (i := 28) (oi := ?b29o) (v := undef) ?b29h (by kernel_rfl) (by kernel_rfl) (by kernel_rfl) ?b29q ?b29y hHeld ?b29r
                      case b29h => (simp only [List.getElem?_toArray, List.getElem?_cons_succ, List.getElem?_cons_zero]; rfl)
                      case b29q => exact fun _ _ _ h => h
                      case b29y => exact Or.inr ⟨by first | kernel_rfl | rfl, rfl⟩
                      try simp only [Act.put, List.setIfInBounds_toArray, List.set_cons_zero, List.set_cons_succ]
                      refine wpAnyH_take (i := 29) (oi := ?b30o) (v := undef) ?b30h (by kernel_rfl) (by kernel_rfl) (by kernel_rfl) ?b30q ?b30y hHeld ?b30r
                      case b30h => (simp only [List.getElem?_toArray, List.getElem?_cons_succ, List.getElem?_cons_zero]; rfl)
                      case b30q => exact fun _ _ _ h => h
                      case b30y => exact Or.inr ⟨by first | kernel_rfl | rfl, rfl⟩
                      try simp only [Act.put, List.setIfInBounds_toArray, List.set_cons_zero, List.set_cons_succ]
                      refine wpAnyH_take (i := 30) (oi := ?b31o) (v := undef) ?b31h (by kernel_rfl) (by kernel_rfl) (by kernel_rfl) ?b31q ?b31y hHeld ?b31r
                      case b31h => (simp only [List.getElem?_toArray, List.getElem?_cons_succ, List.getElem?_cons_zero]; rfl)
                      case b31q => exact fun _ _ _ h => h
                      case b31y => exact Or.inr ⟨by first | kernel_rfl | rfl, rfl⟩
                      try simp only [Act.put, List.setIfInBounds_toArray, List.set_cons_zero, List.set_cons_succ]
                      refine wpAnyH_take (i := 31) (oi := ?b32o) (v := undef) ?b32h (by kernel_rfl) (by kernel_rfl) (by kernel_rfl) ?b32q ?b32y hHeld ?b32r
                      case b32h => (simp only [List.getElem?_toArray, List.getElem?_cons_succ, List.getElem?_cons_zero]; rfl)
                      case b32q => exact fun _ _ _ h => h
                      case b32y => exact Or.inr ⟨by first | kernel_rfl | rfl, rfl⟩
                      try simp only [Act.put, List.setIfInBounds_toArray, List.set_cons_zero, List.set_cons_succ]
                      refine wpAnyH_take (i := 32) (oi := ?b33o) (v := undef) ?b33h (by kernel_rfl) (by kernel_rfl) (by kernel_rfl) ?b33q ?b33y hHeld ?b33r
                      case b33h => (simp only [List.getElem?_toArray, List.getElem?_cons_succ, List.getElem?_cons_zero]; rfl)
                      case b33q => exact fun _ _ _ h => h
                      case b33y => exact Or.inr ⟨by first | kernel_rfl | rfl, rfl⟩
                      try simp only [Act.put, List.setIfInBounds_toArray, List.set_cons_zero, List.set_cons_succ]
                      refine wpAnyH_take (i := 33) (oi := ?b34o) (v := ?b34v) ?b34h (by kernel_rfl) (by kernel_rfl) (by kernel_rfl) ?b34q ?b34y hHeld ?b34r
                      case b34h => (simp only [List.getElem?_toArray, List.getElem?_cons_succ, List.getElem?_cons_zero]; rfl)
                      case b34q => exact fun _ _ _ h => h
                      case b34y => (refine Or.inl ⟨by first | kernel_rfl | rfl, ?_⟩; intro w hSw; obtain ⟨⟨x0, x1⟩, x2, x3, x4, ⟨x5, x6⟩, -, -⟩ := hSw; go_simp <;> (try with_reducible rfl))
                      try simp only [Act.put, List.setIfInBounds_toArray, List.set_cons_zero, List.set_cons_succ]
                      refine wpAnyH_done (by kernel_rfl) ?_ _
                      have HPH2 := Lib.hid hHeld
                      clear hHeld
                      refine calm_n ?_
                      have hgw := HGW.out.keep HPH2.out.bel
                      have hrr := hgw.r
                      have hzz := hgw.z
                      have HKO := Lib.hid (below_keeps HPH2.out.bel)
                      clear hgw
                      gi_wp2
                      exact ⟨(HKO.out.trans (KeepsOthers.setCell _ _ _)).from _, HX.out⟩
                    · have d2 : decide (x.t ≤ s.f) = false := decide_eq_false c2
                      clear c1 c2
                      cases hsm : v.same x with
                      | true =>
                        rw [hsm] at qn
                        clear hsm
                        as_aux_lemma =>
                        refine region_round (S := (PH w2.heap.size s x kk 0 T Bx W)) (by kernel_rfl) (by kernel_rfl) HPH.out.drew (fun hHeld => ?_)
                        refine wpAnyH_take (i := 0) (oi := ?c1o) (v := ?c1v) ?c1h (by kernel_rfl) (by kernel_rfl) (by kernel_rfl) ?c1q ?c1y hHeld ?c1r
                        case c1h => (simp only [List.getElem?_toArray, List.getElem?_cons_zero]; rfl)
                        case c1q => exact fun _ _ _ h => h
                        case c1y => (refine Or.inl ⟨by first | kernel_rfl | rfl, ?_⟩; intro w hSw; obtain ⟨⟨x0, x1⟩, x2, x3, x4, ⟨x5, x6⟩, -, -⟩ := hSw; go_simp <;> (try with_reducible rfl))
                        try simp only [Act.put, List.setIfInBounds_toArray, List.set_cons_zero, List.set_cons_succ]
                        refine wpAnyH_take (i := 1) (oi := ?c2o) (v := ?c2v) ?c2h (by kernel_rfl) (by kernel_rfl) (by kernel_rfl) ?c2q ?c2y hHeld ?c2r
                        case c2h => (simp only [List.getElem?_toArray, List.getElem?_cons_succ, List.getElem?_cons_zero]; rfl)
                        case c2q => exact fun _ _ _ h => h
                        case c2y => (refine Or.inl ⟨by first | kernel_rfl | rfl, ?_⟩; intro w hSw; obtain ⟨⟨x0, x1⟩, x2, x3, x4, ⟨x5, x6⟩, -, -⟩ := hSw; go_simp <;> (try with_reducible rfl))
                        try simp only [Act.put, List.setIfInBounds_toArray, List.set_cons_zero, List.set_cons_succ]
                        refine wpAnyH_take (i := 2) (oi := ?c3o) (v := ?c3v) ?c3h (by kernel_rfl) (by kernel_rfl) (by kernel_rfl) ?c3q ?c3y hHeld ?c3r
                        case c3h => (simp only [List.getElem?_toArray, List.getElem?_cons_succ, List.getElem?_cons_zero]; rfl)
                        case c3q => exact fun _ _ _ h => h
                        case c3y => (refine Or.inl ⟨by first | kernel_rfl | rfl, ?_⟩; intro w hSw; obtain ⟨⟨x0, x1⟩, x2, x3, x4, ⟨x5, x6⟩, -, -⟩ := hSw; go_simp <;> (try with_reducible rfl))
                        try simp only [Act.put, List.setIfInBounds_toArray, List.set_cons_zero, List.set_cons_succ]
                        refine wpAnyH_take (i := 3) (oi := ?c4o) (v := ?c4v) ?c4h (by kernel_rfl) (by kernel_rfl) (by kernel_rfl) ?c4q ?c4y hHeld ?c4r
                        case c4h => (simp only [List.getElem?_toArray, List.getElem?_cons_succ, List.getElem?_cons_zero]; rfl)
                        case c4q => exact fun _ _ _ h => h
                        case c4y => (refine Or.inl ⟨by first | kernel_rfl | rfl, ?_⟩; intro w hSw; obtain ⟨⟨x0, x1⟩, x2, x3, x4, ⟨x5, x6⟩, -, -⟩ := hSw; go_simp <;> (try with_reducible rfl))
                        try simp only [Act.put, List.setIfInBounds_toArray, List.set_cons_zero, List.set_cons_succ]
                        refine wpAnyH_take (i := 4) (oi := ?c5o) (v := ?c5v) ?c5h (by kernel_rfl) (by kernel_rfl) (by kernel_rfl) ?c5q ?c5y hHeld ?c5r
                        case c5h => (simp only [List.getElem?_toArray, List.getElem?_cons_succ, List.getElem?_cons_zero]; rfl)
                        case c5q => exact fun _ _ _ h => h
                        case c5y => (refine Or.inl ⟨by first | kernel_rfl | rfl, ?_⟩; intro w hSw; obtain ⟨⟨x0, x1⟩, x2, x3, x4, ⟨x5, x6⟩, -, -⟩ := hSw; go_simp <;> (try with_reducible rfl))
                        try simp only [Act.put, List.setIfInBounds_toArray, List.set_cons_zero, List.set_cons_succ]
                        refine wpAnyH_take (i := 5) (oi := ?c6o) (v := ?c6v) ?c6h (by kernel_rfl) (by kernel_rfl) (by kernel_rfl) ?c6q ?c6y hHeld ?c6r
                        case c6h => (simp only [List.getElem?_toArray, List.getElem?_cons_succ, List.getElem?_cons_zero]; rfl)
                        case c6q => exact fun _ _ _ h => h
                        case c6y => (refine Or.inl ⟨by first | kernel_rfl | rfl, ?_⟩; intro w hSw; obtain ⟨⟨x0, x1⟩, x2, x3, x4, ⟨x5, x6⟩, -, -⟩ := hSw; go_simp <;> (try with_reducible rfl))
                        try simp only [Act.put, List.setIfInBounds_toArray, List.set_cons_zero, List.set_cons_succ]
                        refine wpAnyH_take (i := 6) (oi := ?c7o) (v := ?c7v) ?c7h (by kernel_rfl) (by kernel_rfl) (by kernel_rfl) ?c7q ?c7y hHeld ?c7r
                        case c7h => (simp only [List.getElem?_toArray, List.getElem?_cons_succ, List.getElem?_cons_zero]; rfl)
                        case c7q => exact fun _ _ _ h => h
                        case c7y => (refine Or.inl ⟨by first | kernel_rfl | rfl, ?_⟩; intro w hSw; obtain ⟨⟨x0, x1⟩, x2, x3, x4, ⟨x5, x6⟩, -, -⟩ := hSw; go_simp <;> (try with_reducible rfl))
                        try simp only [Act.put, List.setIfInBounds_toArray, List.set_cons_zero, List.set_cons_succ]
                        refine wpAnyH_take (i := 7) (oi := ?c8o) (v := ?c8v) ?c8h (by kernel_rfl) (by kernel_rfl) (by kernel_rfl) ?c8q ?c8y hHeld ?c8r
                        case c8h => (simp only [List.getElem?_toArray, List.getElem?_cons_succ, List.getElem?_cons_zero]; rfl)
                        case c8q => exact fun _ _ _ h => h
                        case c8y => (refine Or.inl ⟨by first | kernel_rfl | rfl, ?_⟩; intro w hSw; obtain ⟨⟨x0, x1⟩, x2, x3, x4, ⟨x5, x6⟩, -, -⟩ := hSw; go_simp <;> (try with_reducible rfl))
                        try simp only [Act.put, List.setIfInBounds_toArray, List.set_cons_zero, List.set_cons_succ]
                        refine wpAnyH_take (i := 8) (oi := ?c9o) (v := ?c9v) ?c9h (by kernel_rfl) (by kernel_rfl) (by kernel_rfl) ?c9q ?c9y hHeld ?c9r
                        case c9h => (simp only [List.getElem?_toArray, List.getElem?_cons_succ, List.getElem?_cons_zero]; rfl)
                        case c9q => exact fun _ _ _ h => h
                        case c9y => (refine Or.inl ⟨by first | kernel_rfl | rfl, ?_⟩; intro w hSw; obtain ⟨⟨x0, x1⟩, x2, x3, x4, ⟨x5, x6⟩, -, -⟩ := hSw; go_simp <;> (try with_reducible rfl))
                        try simp only [Act.put, List.setIfInBounds_toArray, List.set_cons_zero, List.set_cons_succ]
                        refine wpAnyH_take (i := 9) (oi := ?c10o) (v := ?c10v) ?c10h (by kernel_rfl) (by kernel_rfl) (by kernel_rfl) ?c10q ?c10y hHeld ?c10r
                        case c10h => (simp only [List.getElem?_toArray, List.getElem?_cons_succ, List.getElem?_cons_zero]; rfl)
                        case c10q => exact fun _ _ _ h => h
                        case c10y => (refine Or.inl ⟨by first | kernel_rfl | rfl, ?_⟩; intro w hSw; obtain ⟨⟨x0, x1⟩, x2, x3, x4, ⟨x5, x6⟩, -, -⟩ := hSw; go_simp <;> (try with_reducible rfl))
                        try simp only [Act.put, List.setIfInBounds_toArray, List.set_cons_zero, List.set_cons_succ]
                        refine wpAnyH_take (i := 10) (oi := ?c11o) (v := ?c11v) ?c11h (by kernel_rfl) (by kernel_rfl) (by kernel_rfl) ?c11q ?c11y hHeld ?c11r
                        case c11h => (simp only [List.getElem?_toArray, List.getElem?_cons_succ, List.getElem?_cons_zero]; rfl)
                        case c11q => exact fun _ _ _ h => h
                        case c11y => (refine Or.inl ⟨by first | kernel_rfl | rfl, ?_⟩; intro w hSw; obtain ⟨⟨x0, x1⟩, x2, x3, x4, ⟨x5, x6⟩, -, -⟩ := hSw; go_simp <;> (try with_reducible rfl))
                        try simp only [Act.put, List.setIfInBounds_toArray, List.set_cons_zero, List.set_cons_succ]
                        refine wpAnyH_take (i := 11) (oi := ?c12o) (v := ?c12v) ?c12h (by kernel_rfl) (by kernel_rfl) (by kernel_rfl) ?c12q ?c12y hHeld ?c12r
                        case c12h => (simp only [List.getElem?_toArray, List.getElem?_cons_succ, List.getElem?_cons_zero]; rfl)
                        case c12q => exact fun _ _ _ h => h
                        case c12y => (refine Or.inl ⟨by first | kernel_rfl | rfl, ?_⟩; intro w hSw; obtain ⟨⟨x0, x1⟩, x2, x3, x4, ⟨x5, x6⟩, -, -⟩ := hSw; go_simp <;> (try with_reducible rfl))
                        try simp only [Act.put, List.setIfInBounds_toArray, List.set_cons_zero, List.set_cons_succ]
                        refine wpAnyH_take (i := 12) (oi := ?c13o) (v := ?c13v) ?c13h (by kernel_rfl) (by kernel_rfl) (by kernel_rfl) ?c13q ?c13y hHeld ?c13r
                        case c13h => (simp only [List.getElem?_toArray, List.getElem?_cons_succ, List.getElem?_cons_zero]; rfl)
                        case c13q => exact fun _ _ _ h => h
                        case c13y => (refine Or.inl ⟨by first | kernel_rfl | rfl, ?_⟩; intro w hSw; obtain ⟨⟨x0, x1⟩, x2, x3, x4, ⟨x5, x6⟩, -, -⟩ := hSw; go_simp <;> (try with_reducible rfl))
                        try simp only [Act.put, List.setIfInBounds_toArray, List.set_cons_zero, List.set_cons_succ]
                        refine wpAnyH_take (i := 13) (oi := ?c14o) (v := ?c14v) ?c14h (by kernel_rfl) (by kernel_rfl) (by kernel_rfl) ?c14q ?c14y hHeld ?c14r
                        case c14h => (simp only [List.getElem?_toArray, List.getElem?_cons_succ, List.getElem?_cons_zero]; rfl)
                        case c14q => exact fun _ _ _ h => h
                        case c14y => (refine Or.inl ⟨by first | kernel_rfl | rfl, ?_⟩; intro w hSw; obtain ⟨⟨x0, x1⟩, x2, x3, x4, ⟨x5, x6⟩, -, -⟩ := hSw; go_simp <;> (try with_reducible rfl))
                        try simp only [Act.put, List.setIfInBounds_toArray, List.set_cons_zero, List.set_cons_succ]
                        refine wpAnyH_take (i := 14) (oi := ?c15o) (v := ?c15v) ?c15h (by kernel_rfl) (by kernel_rfl) (by kernel_rfl) ?c15q ?c15y hHeld ?c15r
                        case c15h => (simp only [List.getElem?_toArray, List.getElem?_cons_succ, List.getElem?_cons_zero]; rfl)
                        case c15q => exact fun _ _ _ h => h
                        case c15y => (refine Or.inl ⟨by first | kernel_rfl | rfl, ?_⟩; intro w hSw; obtain ⟨⟨x0, x1⟩, x2, x3, x4, ⟨x5, x6⟩, -, -⟩ := hSw; go_simp <;> (try with_reducible rfl))
                        try simp only [Act.put, List.setIfInBounds_toArray, List.set_cons_zero, List.set_cons_succ]
                        refine wpAnyH_take (i := 15) (oi := ?c16o) (v := ?c16v) ?c16h (by kernel_rfl) (by kernel_rfl) (by kernel_rfl) ?c16q ?c16y hHeld ?c16r
                        case c16h => (simp only [List.getElem?_toArray, List.getElem?_cons_succ, List.getElem?_cons_zero]; rfl)
                        case c16q => exact fun _ _ _ h => h
                        case c16y => (refine Or.inl ⟨by first | kernel_rfl | rfl, ?_⟩; intro w hSw; obtain ⟨⟨x0, x1⟩, x2, x3, x4, ⟨x5, x6⟩, -, -⟩ := hSw; go_simp <;> (try with_reducible rfl))
                        try simp only [Act.put, List.setIfInBounds_toArray, List.set_cons_zero, List.set_cons_succ]
                        refine wpAnyH_take (i := 16) (oi := ?c17o) (v := ?c17v) ?c17h (by kernel_rfl) (by kernel_rfl) (by kernel_rfl) ?c17q ?c17y hHeld ?c17r
                        case c17h => (simp only [List.getElem?_toArray, List.getElem?_cons_succ, List.getElem?_cons_zero]; rfl)
                        case c17q => exact fun _ _ _ h => h
                        case c17y => (refine Or.inl ⟨by first | kernel_rfl | rfl, ?_⟩; intro w hSw; obtain ⟨⟨x0, x1⟩, x2, x3, x4, ⟨x5, x6⟩, -, -⟩ := hSw; go_simp <;> (try with_reducible rfl))
                        try simp only [Act.put, List.setIfInBounds_toArray, List.set_cons_zero, List.set_cons_succ]
                        refine wpAnyH_take (i := 17) (oi := ?c18o) (v := ?c18v) ?c18h (by kernel_rfl) (by kernel_rfl) (by kernel_rfl) ?c18q ?c18y hHeld ?c18r
                        case c18h => (simp only [List.getElem?_toArray, List.getElem?_cons_succ, List.getElem?_cons_zero]; rfl)
                        case c18q => exact fun _ _ _ h => h
                        case c18y => (refine Or.inl ⟨by first | kernel_rfl | rfl, ?_⟩; intro w hSw; obtain ⟨⟨x0, x1⟩, x2, x3, x4, ⟨x5, x6⟩, -, -⟩ := hSw; go_simp <;> (try with_reducible rfl))
                        try simp only [Act.put, List.setIfInBounds_toArray, List.set_cons_zero, List.set_cons_succ]
                        refine wpAnyH_take (i := 18) (oi := ?c19o) (v := ?c19v) ?c19h (by kernel_rfl) (by kernel_rfl) (by kernel_rfl) ?c19q ?c19y hHeld ?c19r
                        case c19h => (simp only [List.getElem?_toArray, List.getElem?_cons_succ, List.getElem?_cons_zero]; rfl)
                        case c19q => exact fun _ _ _ h => h
                        case c19y => (refine Or.inl ⟨by first | kernel_rfl | rfl, ?_⟩; intro w hSw; obtain ⟨⟨x0, x1⟩, x2, x3, x4, ⟨x5, x6⟩, -, -⟩ := hSw; go_simp <;> (try with_reducible rfl))
                        try simp only [Act.put, List.setIfInBounds_toArray, List.set_cons_zero, List.set_cons_succ]
                        refine wpAnyH_take (i := 19) (oi := ?c20o) (v := ?c20v) ?c20h (by kernel_rfl) (by kernel_rfl) (by kernel_rfl) ?c20q ?c20y hHeld ?c20r
                        case c20h => (simp only [List.getElem?_toArray, List.getElem?_cons_succ, List.getElem?_cons_zero]; rfl)
                        case c20q => exact fun _ _ _ h => h
                        case c20y => (refine Or.inl ⟨by first | kernel_rfl | rfl, ?_⟩; intro w hSw; obtain ⟨⟨x0, x1⟩, x2, x3, x4, ⟨x5, x6⟩, -, -⟩ := hSw; go_simp <;> (try with_reducible rfl))
                        try simp only [Act.put, List.setIfInBounds_toArray, List.set_cons_zero, List.set_cons_succ]
                        refine wpAnyH_take (i := 20) (oi := ?c21o) (v := undef) ?c21h (by kernel_rfl) (by kernel_rfl) (by kernel_rfl) ?c21q ?c21y hHeld ?c21r
                        case c21h => (simp only [List.getElem?_toArray, List.getElem?_cons_succ, List.getElem?_cons_zero]; rfl)
                        case c21q => exact fun _ _ _ h => h
                        case c21y => exact Or.inr ⟨by first | kernel_rfl | rfl, rfl⟩
                        try simp only [Act.put, List.setIfInBounds_toArray, List.set_cons_zero, List.set_cons_succ]
                        refine wpAnyH_take (i := 21) (oi := ?c22o) (v := undef) ?c22h (by kernel_rfl) (by kernel_rfl) (by kernel_rfl) ?c22q ?c22y hHeld ?c22r
                        case c22h => (simp only [List.getElem?_toArray, List.getElem?_cons_succ, List.getElem?_cons_zero]; rfl)
                        case c22q => exact fun _ _ _ h => h
                        case c22y => exact Or.inr ⟨by first | kernel_rfl | rfl, rfl⟩
                        try simp only [Act.put, List.setIfInBounds_toArray, List.set_cons_zero, List.set_cons_succ]
                        refine wpAnyH_take (i := 22) (oi := ?c23o) (v := undef) ?c23h (by kernel_rfl) (by kernel_rfl) (by kernel_rfl) ?c23q ?c23y hHeld ?c23r
                        case c23h => (simp only [List.getElem?_toArray, List.getElem?_cons_succ, List.getElem?_cons_zero]; rfl)
                        case c23q => exact fun _ _ _ h => h
                        case c23y => exact Or.inr ⟨by first | kernel_rfl | rfl, rfl⟩
                        try simp only [Act.put, List.setIfInBounds_toArray, List.set_cons_zero, List.set_cons_succ]
                        refine wpAnyH_take (i := 23) (oi := ?c24o) (v := undef) ?c24h (by kernel_rfl) (by kernel_rfl) (by kernel_rfl) ?c24q ?c24y hHeld ?c24r
                        case c24h => (simp only [List.getElem?_toArray, List.getElem?_cons_succ, List.getElem?_cons_zero]; rfl)
                        case c24q => exact fun _ _ _ h => h
                        case c24y => exact Or.inr ⟨by first | kernel_rfl | rfl, rfl⟩
                        try simp only [Act.put, List.setIfInBounds_toArray, List.set_cons_zero, List.set_cons_succ]
                        refine wpAnyH_take (i := 24) (oi := ?c25o) (v := ?c25v) ?c25h (by kernel_rfl) (by kernel_rfl) (by kernel_rfl) ?c25q ?c25y hHeld ?c25r
                        case c25h => (simp only [List.getElem?_toArray, List.getElem?_cons_succ, List.getElem?_cons_zero]; rfl)
                        case c25q => exact fun _ _ _ h => h
                        case c25y => (refine Or.inl ⟨by first | kernel_rfl | rfl, ?_⟩; intro w hSw; obtain ⟨⟨x0, x1⟩, x2, x3, x4, ⟨x5, x6⟩, -, -⟩ := hSw; go_simp <;> (try with_reducible rfl))
                        try simp only [Act.put, List.setIfInBounds_toArray, List.set_cons_zero, List.set_cons_succ]
                        refine wpAnyH_take (i := 25) (oi := ?c26o) (v := ?c26v) ?c26h (by kernel_rfl) (by kernel_rfl) (by kernel_rfl) ?c26q ?c26y hHeld ?c26r
                        case c26h => (simp only [List.getElem?_toArray, List.getElem?_cons_succ, List.getElem?_cons_zero]; rfl)
                        case c26q => exact fun _ _ _ h => h
                        case c26y => (refine Or.inl ⟨by first | kernel_rfl | rfl, ?_⟩; intro w hSw; obtain ⟨⟨x0, x1⟩, x2, x3, x4, ⟨x5, x6⟩, -, -⟩ := hSw; go_simp <;> (try with_reducible rfl))
                        try simp only [Act.put, List.setIfInBounds_toArray, List.set_cons_zero, List.set_cons_succ]
                        refine wpAnyH_take (i := 26) (oi := ?c27o) (v := ?c27v) ?c27h (by kernel_rfl) (by kernel_rfl) (by kernel_rfl) ?c27q ?c27y hHeld ?c27r
                        case c27h => (simp only [List.getElem?_toArray, List.getElem?_cons_succ, List.getElem?_cons_zero]; rfl)
                        case c27q => exact fun _ _ _ h => h
                        case c27y => (refine Or.inl ⟨by first | kernel_rfl | rfl, ?_⟩; intro w hSw; obtain ⟨⟨x0, x1⟩, x2, x3, x4, ⟨x5, x6⟩, -, -⟩ := hSw; go_simp <;> (try with_reducible rfl))
                        try simp only [Act.put, List.setIfInBounds_toArray, List.set_cons_zero, List.set_cons_succ]
                        refine wpAnyH_take (i := 27) (oi := ?c28o) (v := ?c28v) ?c28h (by kernel_rfl) (by kernel_rfl) (by kernel_rfl) ?c28q ?c28y hHeld ?c28r
                        case c28h => (simp only [List.getElem?_toArray, List.getElem?_cons_succ, List.getElem?_cons_zero]; rfl)
                        case c28q => exact fun _ _ _ h => h
                        case c28y => (refine Or.inl ⟨by first | kernel_rfl | rfl, ?_⟩; intro w hSw; obtain ⟨⟨x0, x1⟩, x2, x3, x4, ⟨x5, x6⟩, -, -⟩ := hSw; go_simp <;> (try with_reducible rfl))
                        try simp only [Act.put, List.setIfInBounds_toArray, List.set_cons_zero, List.set_cons_succ]
                        refine wpAnyH_take (i := 28) (oi := ?c29o) (v := ?c29v) ?c29h (by kernel_rfl) (by kernel_rfl) (by kernel_rfl) ?c29q ?c29y hHeld ?c29r
                        case c29h => (simp only [List.getElem?_toArray, List.getElem?_cons_succ, List.getElem?_cons_zero]; rfl)
                        case c29q => exact fun _ _ _ h => h
                        case c29y => (refine Or.inl ⟨by first | kernel_rfl | rfl, ?_⟩; intro w hSw; obtain ⟨⟨x0, x1⟩, x2, x3, x4, ⟨x5, x6⟩, -, -⟩ := hSw; go_simp <;> (try with_reducible rfl))
                        try simp only [Act.put, List.setIfInBounds_toArray, List.set_cons_zero, List.set_cons_succ]
                        refine wpAnyH_take (i := 29) (oi := ?c30o) (v := ?c30v) ?c30h (by kernel_rfl) (by kernel_rfl) (by kernel_rfl) ?c30q ?c30y hHeld ?c30r
                        case c30h => (simp only [List.getElem?_toArray, List.getElem?_cons_succ, List.getElem?_cons_zero]; rfl)
                        case c30q => exact fun _ _ _ h => h
                        case c30y => (refine Or.inl ⟨by first | kernel_rfl | rfl, ?_⟩; intro w hSw; obtain ⟨⟨x0, x1⟩, x2, x3, x4, ⟨x5, x6⟩, -, -⟩ := hSw; go_simp <;> (try with_reducible rfl))
                        try simp only [Act.put, List.setIfInBounds_toArray, List.set_cons_zero, List.set_cons_succ]
                        refine wpAnyH_take (i := 31) (oi := ?c31o) (v := ?c31v) ?c31h (by kernel_rfl) (by kernel_rfl) (by kernel_rfl) ?c31q ?c31y hHeld ?c31r
                        case c31h => (simp only [List.getElem?_toArray, List.getElem?_cons_succ, List.getElem?_cons_zero]; rfl)
                        case c31q => exact fun _ _ _ h => h
                        case c31y => (refine Or.inl ⟨by first | kernel_rfl | rfl, ?_⟩; intro w hSw; obtain ⟨⟨x0, x1⟩, x2, x3, x4, ⟨x5, x6⟩, -, -⟩ := hSw; go_simp <;> (try with_reducible rfl))
                        try simp only [Act.put, List.setIfInBounds_toArray, List.set_cons_zero, List.set_cons_succ]
                        refine wpAnyH_ready (rs := [30]) (by kernel_rfl) (by simp) ?_
                        refine (AllReadyH.cons rfl (fun K hK => ?_) AllReadyH.nil)
                        go_simp
                        ((with_reducible refine (kof _ hHeld.tab).mono ?_); rintro e W2 ⟨rfl, hb2⟩)
                        refine hK.out _ _ (hHeld.keep hb2) (fun hHeld => ?_)
                        clear hK K
                        try simp only [Act.put, List.setIfInBounds_toArray, List.set_cons_zero, List.set_cons_succ]
                        refine wpAnyH_take (i := 32) (oi := ?c32o) (v := ?c32v) ?c32h (by kernel_rfl) (by kernel_rfl) (by kernel_rfl) ?c32q ?c32y hHeld ?c32r
                        case c32h => (simp only [List.getElem?_toArray, List.getElem?_cons_succ, List.getElem?_cons_zero]; rfl)
                        case c32q => exact fun _ _ _ h => h
                        case c32y => (refine Or.inl ⟨by first | kernel_rfl | rfl, ?_⟩; intro w hSw; obtain ⟨⟨x0, x1⟩, x2, x3, x4, ⟨x5, x6⟩, -, -⟩ := hSw; go_simp <;> (try with_reducible rfl))
                        try simp only [Act.put, List.setIfInBounds_toArray, List.set_cons_zero, List.set_cons_succ]
                        refine wpAnyH_take (i := 33) (oi := ?c33o) (v := ?c33v) ?c33h (by kernel_rfl) (by kernel_rfl) (by kernel_rfl) ?c33q ?c33y hHeld ?c33r
                        case c33h => (simp only [List.getElem?_toArray, List.getElem?_cons_succ, List.getElem?_cons_zero]; rfl)
                        case c33q => exact fun _ _ _ h => h
                        case c33y => (refine Or.inl ⟨by first | kernel_rfl | rfl, ?_⟩; intro w hSw; obtain ⟨⟨x0, x1⟩, x2, x3, x4, ⟨x5, x6⟩, -, -⟩ := hSw; go_simp <;> (try with_reducible rfl))
                        try simp only [Act.put, List.setIfInBounds_toArray, List.set_cons_zero, List.set_cons_succ]
                        refine wpAnyH_done (by kernel_rfl) ?_ _
                        have HPH2 := Lib.hid hHeld
                        clear hHeld
                        refine calm_n ?_
                        have HOK := Lib.hid (cont_ok (x := x) HPH2.out.bel HHM.out HHL.out HHB.out HMM.out (fun q hq => ⟨Nat.lt_of_lt_of_le (hEL q hq) HHB.out.size, (hEB q hq).1, (hEB q hq).2.1⟩))
                        have hm2 := boxed_below HHM.out HPH2.out.bel
                        have hl2 := boxed_below HHL.out HPH2.out.bel
                        have hl3 := hl2.cell
                        have hl4 := hl2.frozen
                        have hm3 := fun u => (hm2.other (B' := w2.heap.size + 1 + 1 + 1) (by omega) u).cell
                        have hm4 := fun u => (hm2.other (B' := w2.heap.size + 1 + 1 + 1) (by omega) u).frozen
                        obtain ⟨x5, x6⟩ := HPH2.out.xb
                        have hwm := HWM.out
                        clear hm2 hl2
                        gi_wp2
                        exact HOK.out
                      | false =>
                        rw [hsm] at qn
                        have HX := Lib.hid (show ¬ pre ++ [x] <+: L from fun h => by have k1 := (HSX.out h).of_; rw [HV.out] at k1; rw [Sp.same_iff.2 k1] at hsm; cases hsm)
                        clear hsm
                        as_aux_lemma =>
                        refine region_round (S := (PH w2.heap.size s x kk 0 T Bx W)) (by kernel_rfl) (by kernel_rfl) HPH.out.drew (fun hHeld => ?_)
                        refine wpAnyH_take (i := 0) (oi := ?d1o) (v := ?d1v) ?d1h (by kernel_rfl) (by kernel_rfl) (by kernel_rfl) ?d1q ?d1y hHeld ?d1r
                        case d1h => (simp only [List.getElem?_toArray, List.getElem?_cons_zero]; rfl)
                        case d1q => exact fun _ _ _ h => h
                        case d1y => (refine Or.inl ⟨by first | kernel_rfl | rfl, ?_⟩; intro w hSw; obtain ⟨⟨x0, x1⟩, x2, x3, x4, ⟨x5, x6⟩, -, -⟩ := hSw; go_simp <;> (try with_reducible rfl))
                        try simp only [Act.put, List.setIfInBounds_toArray, List.set_cons_zero, List.set_cons_succ]
                        refine wpAnyH_take (i := 1) (oi := ?d2o) (v := ?d2v) ?d2h (by kernel_rfl) (by kernel_rfl) (by kernel_rfl) ?d2q ?d2y hHeld ?d2r
                        case d2h => (simp only [List.getElem?_toArray, List.getElem?_cons_succ, List.getElem?_cons_zero]; rfl)
                        case d2q => exact fun _ _ _ h => h
                        case d2y => (refine Or.inl ⟨by first | kernel_rfl | rfl, ?_⟩; intro w hSw; obtain ⟨⟨x0, x1⟩, x2, x3, x4, ⟨x5, x6⟩, -, -⟩ := hSw; go_simp <;> (try with_reducible rfl))
                        try simp only [Act.put, List.setIfInBounds_toArray, List.set_cons_zero, List.set_cons_succ]
                        refine wpAnyH_take (i := 2) (oi := ?d3o) (v := ?d3v) ?d3h (by kernel_rfl) (by kernel_rfl) (by kernel_rfl) ?d3q ?d3y hHeld ?d3r
                        case d3h => (simp only [List.getElem?_toArray, List.getElem?_cons_succ, List.getElem?_cons_zero]; rfl)
                        case d3q => exact fun _ _ _ h => h
                        case d3y => (refine Or.inl ⟨by first | kernel_rfl | rfl, ?_⟩; intro w hSw; obtain ⟨⟨x0, x1⟩, x2, x3, x4, ⟨x5, x6⟩, -, -⟩ := hSw; go_simp <;> (try with_reducible rfl))
                        try simp only [Act.put, List.setIfInBounds_toArray, List.set_cons_zero, List.set_cons_succ]
                        refine wpAnyH_take (i := 3) (oi := ?d4o) (v := ?d4v) ?d4h (by kernel_rfl) (by kernel_rfl) (by kernel_rfl) ?d4q ?d4y hHeld ?d4r
                        case d4h => (simp only [List.getElem?_toArray, List.getElem?_cons_succ, List.getElem?_cons_zero]; rfl)
                        case d4q => exact fun _ _ _ h => h
                        case d4y => (refine Or.inl ⟨by first | kernel_rfl | rfl, ?_⟩; intro w hSw; obtain ⟨⟨x0, x1⟩, x2, x3, x4, ⟨x5, x6⟩, -, -⟩ := hSw; go_simp <;> (try with_reducible rfl))
                        try simp only [Act.put, List.setIfInBounds_toArray, List.set_cons_zero, List.set_cons_succ]
                        refine wpAnyH_take (i := 4) (oi := ?d5o) (v := ?d5v) ?d5h (by kernel_rfl) (by kernel_rfl) (by kernel_rfl) ?d5q ?d5y hHeld ?d5r
                        case d5h => (simp only [List.getElem?_toArray, List.getElem?_cons_succ, List.getElem?_cons_zero]; rfl)
                        case d5q => exact fun _ _ _ h => h
                        case d5y => (refine Or.inl ⟨by first | kernel_rfl | rfl, ?_⟩; intro w hSw; obtain ⟨⟨x0, x1⟩, x2, x3, x4, ⟨x5, x6⟩, -, -⟩ := hSw; go_simp <;> (try with_reducible rfl))
                        try simp only [Act.put, List.setIfInBounds_toArray, List.set_cons_zero, List.set_cons_succ]
                        refine wpAnyH_take (i := 5) (oi := ?d6o) (v := ?d6v) ?d6h (by kernel_rfl) (by kernel_rfl) (by kernel_rfl) ?d6q ?d6y hHeld ?d6r
                        case d6h => (simp only [List.getElem?_toArray, List.getElem?_cons_succ, List.getElem?_cons_zero]; rfl)
                        case d6q => exact fun _ _ _ h => h
                        case d6y => (refine Or.inl ⟨by first | kernel_rfl | rfl, ?_⟩; intro w hSw; obtain ⟨⟨x0, x1⟩, x2, x3, x4, ⟨x5, x6⟩, -, -⟩ := hSw; go_simp <;> (try with_reducible rfl))
                        try simp only [Act.put, List.setIfInBounds_toArray, List.set_cons_zero, List.set_cons_succ]
                        refine wpAnyH_take (i := 6) (oi := ?d7o) (v := ?d7v) ?d7h (by kernel_rfl) (by kernel_rfl) (by kernel_rfl) ?d7q ?d7y hHeld ?d7r
                        case d7h => (simp only [List.getElem?_toArray, List.getElem?_cons_succ, List.getElem?_cons_zero]; rfl)
                        case d7q => exact fun _ _ _ h => h
                        case d7y => (refine Or.inl ⟨by first | kernel_rfl | rfl, ?_⟩; intro w hSw; obtain ⟨⟨x0, x1⟩, x2, x3, x4, ⟨x5, x6⟩, -, -⟩ := hSw; go_simp <;> (try with_reducible rfl))
                        try simp only [Act.put, List.setIfInBounds_toArray, List.set_cons_zero, List.set_cons_succ]
                        refine wpAnyH_take (i := 7) (oi := ?d8o) (v := ?d8v) ?d8h (by kernel_rfl) (by kernel_rfl) (by kernel_rfl) ?d8q ?d8y hHeld ?d8r
                        case d8h => (simp only [List.getElem?_toArray, List.getElem?_cons_succ, List.getElem?_cons_zero]; rfl)
                        case d8q => exact fun _ _ _ h => h
                        case d8y => (refine Or.inl ⟨by first | kernel_rfl | rfl, ?_⟩; intro w hSw; obtain ⟨⟨x0, x1⟩, x2, x3, x4, ⟨x5, x6⟩, -, -⟩ := hSw; go_simp <;> (try with_reducible rfl))
                        try simp only [Act.put, List.setIfInBounds_toArray, List.set_cons_zero, List.set_cons_succ]
                        refine wpAnyH_take (i := 8) (oi := ?d9o) (v := ?d9v) ?d9h (by kernel_rfl) (by kernel_rfl) (by kernel_rfl) ?d9q ?d9y hHeld ?d9r
                        case d9h => (simp only [List.getElem?_toArray, List.getElem?_cons_succ, List.getElem?_cons_zero]; rfl)
                        case d9q => exact fun _ _ _ h => h
                        case d9y => (refine Or.inl ⟨by first | kernel_rfl | rfl, ?_⟩; intro w hSw; obtain ⟨⟨x0, x1⟩, x2, x3, x4, ⟨x5, x6⟩, -, -⟩ := hSw; go_simp <;> (try with_reducible rfl))
                        try simp only [Act.put, List.setIfInBounds_toArray, List.set_cons_zero, List.set_cons_succ]
                        refine wpAnyH_take (i := 9) (oi := ?d10o) (v := ?d10v) ?d10h (by kernel_rfl) (by kernel_rfl) (by kernel_rfl) ?d10q ?d10y hHeld ?d10r
                        case d10h => (simp only [List.getElem?_toArray, List.getElem?_cons_succ, List.getElem?_cons_zero]; rfl)
                        case d10q => exact fun _ _ _ h => h
                        case d10y => (refine Or.inl ⟨by first | kernel_rfl | rfl, ?_⟩; intro w hSw; obtain ⟨⟨x0, x1⟩, x2, x3, x4, ⟨x5, x6⟩, -, -⟩ := hSw; go_simp <;> (try with_reducible rfl))
                        try simp only [Act.put, List.setIfInBounds_toArray, List.set_cons_zero, List.set_cons_succ]
                        refine wpAnyH_take (i := 10) (oi := ?d11o) (v := ?d11v) ?d11h (by kernel_rfl) (by kernel_rfl) (by kernel_rfl) ?d11q ?d11y hHeld ?d11r
                        case d11h => (simp only [List.getElem?_toArray, List.getElem?_cons_succ, List.getElem?_cons_zero]; rfl)
                        case d11q => exact fun _ _ _ h => h
                        case d11y => (refine Or.inl ⟨by first | kernel_rfl | rfl, ?_⟩; intro w hSw; obtain ⟨⟨x0, x1⟩, x2, x3, x4, ⟨x5, x6⟩, -, -⟩ := hSw; go_simp <;> (try with_reducible rfl))
                        try simp only [Act.put, List.setIfInBounds_toArray, List.set_cons_zero, List.set_cons_succ]
                        refine wpAnyH_take (i := 11) (oi := ?d12o) (v := ?d12v) ?d12h (by kernel_rfl) (by kernel_rfl) (by kernel_rfl) ?d12q ?d12y hHeld ?d12r
                        case d12h => (simp only [List.getElem?_toArray, List.getElem?_cons_succ, List.getElem?_cons_zero]; rfl)
                        case d12q => exact fun _ _ _ h => h
                        case d12y => (refine Or.inl ⟨by first | kernel_rfl | rfl, ?_⟩; intro w hSw; obtain ⟨⟨x0, x1⟩, x2, x3, x4, ⟨x5, x6⟩, -, -⟩ := hSw; go_simp <;> (try with_reducible rfl))
                        try simp only [Act.put, List.setIfInBounds_toArray, List.set_cons_zero, List.set_cons_succ]
                        refine wpAnyH_take (i := 12) (oi := ?d13o) (v := ?d13v) ?d13h (by kernel_rfl) (by kernel_rfl) (by kernel_rfl) ?d13q ?d13y hHeld ?d13r
                        case d13h => (simp only [List.getElem?_toArray, List.getElem?_cons_succ, List.getElem?_cons_zero]; rfl)
                        case d13q => exact fun _ _ _ h => h
                        case d13y => (refine Or.inl ⟨by first | kernel_rfl | rfl, ?_⟩; intro w hSw; obtain ⟨⟨x0, x1⟩, x2, x3, x4, ⟨x5, x6⟩, -, -⟩ := hSw; go_simp <;> (try with_reducible rfl))
                        try simp only [Act.put, List.setIfInBounds_toArray, List.set_cons_zero, List.set_cons_succ]
                        refine wpAnyH_take (i := 13) (oi := ?d14o) (v := ?d14v) ?d14h (by kernel_rfl) (by kernel_rfl) (by kernel_rfl) ?d14q ?d14y hHeld ?d14r
                        case d14h => (simp only [List.getElem?_toArray, List.getElem?_cons_succ, List.getElem?_cons_zero]; rfl)
                        case d14q => exact fun _ _ _ h => h
                        case d14y => (refine Or.inl ⟨by first | kernel_rfl | rfl, ?_⟩; intro w hSw; obtain ⟨⟨x0, x1⟩, x2, x3, x4, ⟨x5, x6⟩, -, -⟩ := hSw; go_simp <;> (try with_reducible rfl))
                        try simp only [Act.put, List.setIfInBounds_toArray, List.set_cons_zero, List.set_cons_succ]
                        refine wpAnyH_take (i := 14) (oi := ?d15o) (v := ?d15v) ?d15h (by kernel_rfl) (by kernel_rfl) (by kernel_rfl) ?d15q ?d15y hHeld ?d15r
                        case d15h => (simp only [List.getElem?_toArray, List.getElem?_cons_succ, List.getElem?_cons_zero]; rfl)
                        case d15q => exact fun _ _ _ h => h
                        case d15y => (refine Or.inl ⟨by first | kernel_rfl | rfl, ?_⟩; intro w hSw; obtain ⟨⟨x0, x1⟩, x2, x3, x4, ⟨x5, x6⟩, -, -⟩ := hSw; go_simp <;> (try with_reducible rfl))
                        try simp only [Act.put, List.setIfInBounds_toArray, List.set_cons_zero, List.set_cons_succ]
                        refine wpAnyH_take (i := 15) (oi := ?d16o) (v := ?d16v) ?d16h (by kernel_rfl) (by kernel_rfl) (by kernel_rfl) ?d16q ?d16y hHeld ?d16r
                        case d16h => (simp only [List.getElem?_toArray, List.getElem?_cons_succ, List.getElem?_cons_zero]; rfl)
                        case d16q => exact fun _ _ _ h => h
                        case d16y => (refine Or.inl ⟨by first | kernel_rfl | rfl, ?_⟩; intro w hSw; obtain ⟨⟨x0, x1⟩, x2, x3, x4, ⟨x5, x6⟩, -, -⟩ := hSw; go_simp <;> (try with_reducible rfl))
                        try simp only [Act.put, List.setIfInBounds_toArray, List.set_cons_zero, List.set_cons_succ]
                        refine wpAnyH_take (i := 16) (oi := ?d17o) (v := ?d17v) ?d17h (by kernel_rfl) (by kernel_rfl) (by kernel_rfl) ?d17q ?d17y hHeld ?d17r
                        case d17h => (simp only [List.getElem?_toArray, List.getElem?_cons_succ, List.getElem?_cons_zero]; rfl)
                        case d17q => exact fun _ _ _ h => h
                        case d17y => (refine Or.inl ⟨by first | kernel_rfl | rfl, ?_⟩; intro w hSw; obtain ⟨⟨x0, x1⟩, x2, x3, x4, ⟨x5, x6⟩, -, -⟩ := hSw; go_simp <;> (try with_reducible rfl))
                        try simp only [Act.put, List.setIfInBounds_toArray, List.set_cons_zero, List.set_cons_succ]
                        refine wpAnyH_take (i := 17) (oi := ?d18o) (v := ?d18v) ?d18h (by kernel_rfl) (by kernel_rfl) (by kernel_rfl) ?d18q ?d18y hHeld ?d18r
                        case d18h => (simp only [List.getElem?_toArray, List.getElem?_cons_succ, List.getElem?_cons_zero]; rfl)
                        case d18q => exact fun _ _ _ h => h
                        case d18y => (refine Or.inl ⟨by first | kernel_rfl | rfl, ?_⟩; intro w hSw; obtain ⟨⟨x0, x1⟩, x2, x3, x4, ⟨x5, x6⟩, -, -⟩ := hSw; go_simp <;> (try with_reducible rfl))
                        try simp only [Act.put, List.setIfInBounds_toArray, List.set_cons_zero, List.set_cons_succ]
                        refine wpAnyH_take (i := 18) (oi := ?d19o) (v := ?d19v) ?d19h (by kernel_rfl) (by kernel_rfl) (by kernel_rfl) ?d19q ?d19y hHeld ?d19r
                        case d19h => (simp only [List.getElem?_toArray, List.getElem?_cons_succ, List.getElem?_cons_zero]; rfl)
                        case d19q => exact fun _ _ _ h => h
                        case d19y => (refine Or.inl ⟨by first | kernel_rfl | rfl, ?_⟩; intro w hSw; obtain ⟨⟨x0, x1⟩, x2, x3, x4, ⟨x5, x6⟩, -, -⟩ := hSw; go_simp <;> (try with_reducible rfl))
                        try simp only [Act.put, List.setIfInBounds_toArray, List.set_cons_zero, List.set_cons_succ]
                        refine wpAnyH_take (i := 19) (oi := ?d20o) (v := ?d20v) ?d20h (by kernel_rfl) (by kernel_rfl) (by kernel_rfl) ?d20q ?d20y hHeld ?d20r
                        case d20h => (simp only [List.getElem?_toArray, List.getElem?_cons_succ, List.getElem?_cons_zero]; rfl)
                        case d20q => exact fun _ _ _ h => h
                        case d20y => (refine Or.inl ⟨by first | kernel_rfl | rfl, ?_⟩; intro w hSw; obtain ⟨⟨x0, x1⟩, x2, x3, x4, ⟨x5, x6⟩, -, -⟩ := hSw; go_simp <;> (try with_reducible rfl))
                        try simp only [Act.put, List.setIfInBounds_toArray, List.set_cons_zero, List.set_cons_succ]
                        refine wpAnyH_take (i := 20) (oi := ?d21o) (v := undef) ?d21h (by kernel_rfl) (by kernel_rfl) (by kernel_rfl) ?d21q ?d21y hHeld ?d21r
                        case d21h => (simp only [List.getElem?_toArray, List.getElem?_cons_succ, List.getElem?_cons_zero]; rfl)
                        case d21q => exact fun _ _ _ h => h
                        case d21y => exact Or.inr ⟨by first | kernel_rfl | rfl, rfl⟩
                        try simp only [Act.put, List.setIfInBounds_toArray, List.set_cons_zero, List.set_cons_succ]
                        refine wpAnyH_take (i := 21) (oi := ?d22o) (v := undef) ?d22h (by kernel_rfl) (by kernel_rfl) (by kernel_rfl) ?d22q ?d22y hHeld ?d22r
                        case d22h => (simp only [List.getElem?_toArray, List.getElem?_cons_succ, List.getElem?_cons_zero]; rfl)
                        case d22q => exact fun _ _ _ h => h
                        case d22y => exact Or.inr ⟨by first | kernel_rfl | rfl, rfl⟩
                        try simp only [Act.put, List.setIfInBounds_toArray, List.set_cons_zero, List.set_cons_succ]
                        refine wpAnyH_take (i := 22) (oi := ?d23o) (v := undef) ?d23h (by kernel_rfl) (by kernel_rfl) (by kernel_rfl) ?d23q ?d23y hHeld ?d23r
                        case d23h => (simp only [List.getElem?_toArray, List.getElem?_cons_succ, List.getElem?_cons_zero]; rfl)
                        case d23q => exact fun _ _ _ h => h
                        case d23y => exact Or.inr ⟨by first | kernel_rfl | rfl, rfl⟩
                        try simp only [Act.put, List.setIfInBounds_toArray, List.set_cons_zero, List.set_cons_succ]
                        refine wpAnyH_take (i := 23) (oi := ?d24o) (v := undef) ?d24h (by kernel_rfl) (by kernel_rfl) (by kernel_rfl) ?d24q ?d24y hHeld ?d24r
                        case d24h => (simp only [List.getElem?_toArray, List.getElem?_cons_succ, List.getElem?_cons_zero]; rfl)
                        case d24q => exact fun _ _ _ h => h
                        case d24y => exact Or.inr ⟨by first | kernel_rfl | rfl, rfl⟩
                        try simp only [Act.put, List.setIfInBounds_toArray, List.set_cons_zero, List.set_cons_succ]
                        refine wpAnyH_take (i := 24) (oi := ?d25o) (v := ?d25v) ?d25h (by kernel_rfl) (by kernel_rfl) (by kernel_rfl) ?d25q ?d25y hHeld ?d25r
                        case d25h => (simp only [List.getElem?_toArray, List.getElem?_cons_succ, List.getElem?_cons_zero]; rfl)
                        case d25q => exact fun _ _ _ h => h
                        case d25y => (refine Or.inl ⟨by first | kernel_rfl | rfl, ?_⟩; intro w hSw; obtain ⟨⟨x0, x1⟩, x2, x3, x4, ⟨x5, x6⟩, -, -⟩ := hSw; go_simp <;> (try with_reducible rfl))
                        try simp only [Act.put, List.setIfInBounds_toArray, List.set_cons_zero, List.set_cons_succ]
                        refine wpAnyH_take (i := 25) (oi := ?d26o) (v := ?d26v) ?d26h (by kernel_rfl) (by kernel_rfl) (by kernel_rfl) ?d26q ?d26y hHeld ?d26r
                        case d26h => (simp only [List.getElem?_toArray, List.getElem?_cons_succ, List.getElem?_cons_zero]; rfl)
                        case d26q => exact fun _ _ _ h => h
                        case d26y => (refine Or.inl ⟨by first | kernel_rfl | rfl, ?_⟩; intro w hSw; obtain ⟨⟨x0, x1⟩, x2, x3, x4, ⟨x5, x6⟩, -, -⟩ := hSw; go_simp <;> (try with_reducible rfl))
                        try simp only [Act.put, List.setIfInBounds_toArray, List.set_cons_zero, List.set_cons_succ]
                        refine wpAnyH_take (i := 26) (oi := ?d27o) (v := ?d27v) ?d27h (by kernel_rfl) (by kernel_rfl) (by kernel_rfl) ?d27q ?d27y hHeld ?d27r
                        case d27h => (simp only [List.getElem?_toArray, List.getElem?_cons_succ, List.getElem?_cons_zero]; rfl)
                        case d27q => exact fun _ _ _ h => h
                        case d27y => (refine Or.inl ⟨by first | kernel_rfl | rfl, ?_⟩; intro w hSw; obtain ⟨⟨x0, x1⟩, x2, x3, x4, ⟨x5, x6⟩, -, -⟩ := hSw; go_simp <;> (try with_reducible rfl))
                        try simp only [Act.put, List.setIfInBounds_toArray, List.set_cons_zero, List.set_cons_succ]
                        refine wpAnyH_take (i := 27) (oi := ?d28o) (v := ?d28v) ?d28h (by kernel_rfl) (by kernel_rfl) (by kernel_rfl) ?d28q ?d28y hHeld ?d28r
                        case d28h => (simp only [List.getElem?_toArray, List.getElem?_cons_succ, List.getElem?_cons_zero]; rfl)
                        case d28q => exact fun _ _ _ h => h
                        case d28y => (refine Or.inl ⟨by first | kernel_rfl | rfl, ?_⟩; intro w hSw; obtain ⟨⟨x0, x1⟩, x2, x3, x4, ⟨x5, x6⟩, -, -⟩ := hSw; go_simp <;> (try with_reducible rfl))
                        try simp only [Act.put, List.setIfInBounds_toArray, List.set_cons_zero, List.set_cons_succ]
                        refine wpAnyH_take (i := 28) (oi := ?d29o) (v := ?d29v) ?d29h (by kernel_rfl) (by kernel_rfl) (by kernel_rfl) ?d29q ?d29y hHeld ?d29r
                        case d29h => (simp only [List.getElem?_toArray, List.getElem?_cons_succ, List.getElem?_cons_zero]; rfl)
                        case d29q => exact fun _ _ _ h => h
                        case d29y => (refine Or.inl ⟨by first | kernel_rfl | rfl, ?_⟩; intro w hSw; obtain ⟨⟨x0, x1⟩, x2, x3, x4, ⟨x5, x6⟩, -, -⟩ := hSw; go_simp <;> (try with_reducible rfl))
                        try simp only [Act.put, List.setIfInBounds_toArray, List.set_cons_zero, List.set_cons_succ]
                        refine wpAnyH_take (i := 29) (oi := ?d30o) (v := ?d30v) ?d30h (by kernel_rfl) (by kernel_rfl) (by kernel_rfl) ?d30q ?d30y hHeld ?d30r
                        case d30h => (simp only [List.getElem?_toArray, List.getElem?_cons_succ, List.getElem?_cons_zero]; rfl)
                        case d30q => exact fun _ _ _ h => h
                        case d30y => (refine Or.inl ⟨by first | kernel_rfl | rfl, ?_⟩; intro w hSw; obtain ⟨⟨x0, x1⟩, x2, x3, x4, ⟨x5, x6⟩, -, -⟩ := hSw; go_simp <;> (try with_reducible rfl))
                        try simp only [Act.put, List.setIfInBounds_toArray, List.set_cons_zero, List.set_cons_succ]
                        refine wpAnyH_take (i := 31) (oi := ?d31o) (v := ?d31v) ?d31h (by kernel_rfl) (by kernel_rfl) (by kernel_rfl) ?d31q ?d31y hHeld ?d31r
                        case d31h => (simp only [List.getElem?_toArray, List.getElem?_cons_succ, List.getElem?_cons_zero]; rfl)
                        case d31q => exact fun _ _ _ h => h
                        case d31y => (refine Or.inl ⟨by first | kernel_rfl | rfl, ?_⟩; intro w hSw; obtain ⟨⟨x0, x1⟩, x2, x3, x4, ⟨x5, x6⟩, -, -⟩ := hSw; go_simp <;> (try with_reducible rfl))
                        try simp only [Act.put, List.setIfInBounds_toArray, List.set_cons_zero, List.set_cons_succ]
                        refine wpAnyH_ready (rs := [30]) (by kernel_rfl) (by simp) ?_
                        refine (AllReadyH.cons rfl (fun K hK => ?_) AllReadyH.nil)
                        go_simp
                        ((with_reducible refine (kof _ hHeld.tab).mono ?_); rintro e W2 ⟨rfl, hb2⟩)
                        refine hK.out _ _ (hHeld.keep hb2) (fun hHeld => ?_)
                        clear hK K
                        try simp only [Act.put, List.setIfInBounds_toArray, List.set_cons_zero, List.set_cons_succ]
                        refine wpAnyH_take (i := 32) (oi := ?d32o) (v := ?d32v) ?d32h (by kernel_rfl) (by kernel_rfl) (by kernel_rfl) ?d32q ?d32y hHeld ?d32r
                        case d32h => (simp only [List.getElem?_toArray, List.getElem?_cons_succ, List.getElem?_cons_zero]; rfl)
                        case d32q => exact fun _ _ _ h => h
                        case d32y => (refine Or.inl ⟨by first | kernel_rfl | rfl, ?_⟩; intro w hSw; obtain ⟨⟨x0, x1⟩, x2, x3, x4, ⟨x5, x6⟩, -, -⟩ := hSw; go_simp <;> (try with_reducible rfl))
                        try simp only [Act.put, List.setIfInBounds_toArray, List.set_cons_zero, List.set_cons_succ]
                        refine wpAnyH_take (i := 33) (oi := ?d33o) (v := ?d33v) ?d33h (by kernel_rfl) (by kernel_rfl) (by kernel_rfl) ?d33q ?d33y hHeld ?d33r
                        case d33h => (simp only [List.getElem?_toArray, List.getElem?_cons_succ, List.getElem?_cons_zero]; rfl)
                        case d33q => exact fun _ _ _ h => h
                        case d33y => (refine Or.inl ⟨by first | kernel_rfl | rfl, ?_⟩; intro w hSw; obtain ⟨⟨x0, x1⟩, x2, x3, x4, ⟨x5, x6⟩, -, -⟩ := hSw; go_simp <;> (try with_reducible rfl))
                        try simp only [Act.put, List.setIfInBounds_toArray, List.set_cons_zero, List.set_cons_succ]
                        refine wpAnyH_done (by kernel_rfl) ?_ _
                        have HPH2 := Lib.hid hHeld
                        clear hHeld
                        refine calm_n ?_
                        have hgw := HGW.out.keep HPH2.out.bel
                        have hrr := hgw.r
                        have hzz := hgw.z
                        have HKO := Lib.hid (below_keeps HPH2.out.bel)
                        clear hgw
                        gi_wp2
                        exact ⟨(HKO.out.trans (KeepsOthers.setCell _ _ _)).from _, HX.out⟩
                · have hM0 : (M == 0) = false := by simpa using hM
                  have hM1 : decide (0 < M) = true := decide_eq_true (by have := HMM.out; omega)
                  have HMP := Lib.hid (show 0 < pre.length by have := HMM.out; omega)
                  have HHM := Lib.hid hm
                  have HHL := Lib.hid hlb
                  clear hm hlb hM
                  by_cases c3 : x.f = T
                  · have d3 : (x.f != T) = false := by simpa using c3
                    clear c3
                    cases hsm : v.same x with
                    | true =>
                      rw [hsm] at qn
                      clear hsm
                      as_aux_lemma =>
                      refine region_round (S := (PH w2.heap.size s x kk M T Bx W)) (by kernel_rfl) (by kernel_rfl) HPH.out.drew (fun hHeld => ?_)
                      refine wpAnyH_take (i := 0) (oi := ?e1o) (v := ?e1v) ?e1h (by kernel_rfl) (by kernel_rfl) (by kernel_rfl) ?e1q ?e1y hHeld ?e1r
                      case e1h => (simp only [List.getElem?_toArray, List.getElem?_cons_zero]; rfl)
                      case e1q => exact fun _ _ _ h => h
                      case e1y => (refine Or.inl ⟨by first | kernel_rfl | rfl, ?_⟩; intro w hSw; obtain ⟨⟨x0, x1⟩, x2, x3, x4, ⟨x5, x6⟩, -, -⟩ := hSw; go_simp <;> (try with_reducible rfl))
                      try simp only [Act.put, List.setIfInBounds_toArray, List.set_cons_zero, List.set_cons_succ]
                      refine wpAnyH_take (i := 1) (oi := ?e2o) (v := ?e2v) ?e2h (by kernel_rfl) (by kernel_rfl) (by kernel_rfl) ?e2q ?e2y hHeld ?e2r
                      case e2h => (simp only [List.getElem?_toArray, List.getElem?_cons_succ, List.getElem?_cons_zero]; rfl)
                      case e2q => exact fun _ _ _ h => h
                      case e2y => (refine Or.inl ⟨by first | kernel_rfl | rfl, ?_⟩; intro w hSw; obtain ⟨⟨x0, x1⟩, x2, x3, x4, ⟨x5, x6⟩, -, -⟩ := hSw; go_simp <;> (try with_reducible rfl))
                      try simp only [Act.put, List.setIfInBounds_toArray, List.set_cons_zero, List.set_cons_succ]
                      refine wpAnyH_take (i := 2) (oi := ?e3o) (v := ?e3v) ?e3h (by kernel_rfl) (by kernel_rfl) (by kernel_rfl) ?e3q ?e3y hHeld ?e3r
                      case e3h => (simp only [List.getElem?_toArray, List.getElem?_cons_succ, List.getElem?_cons_zero]; rfl)
                      case e3q => exact fun _ _ _ h => h
                      case e3y => (refine Or.inl ⟨by first | kernel_rfl | rfl, ?_⟩; intro w hSw; obtain ⟨⟨x0, x1⟩, x2, x3, x4, ⟨x5, x6⟩, -, -⟩ := hSw; go_simp <;> (try with_reducible rfl))
                      try simp only [Act.put, List.setIfInBounds_toArray, List.set_cons_zero, List.set_cons_succ]
                      refine wpAnyH_take (i := 3) (oi := ?e4o) (v := undef) ?e4h (by kernel_rfl) (by kernel_rfl) (by kernel_rfl) ?e4q ?e4y hHeld ?e4r
                      case e4h => (simp only [List.getElem?_toArray, List.getElem?_cons_succ, List.getElem?_cons_zero]; rfl)
                      case e4q => exact fun _ _ _ h => h
                      case e4y => exact Or.inr ⟨by first | kernel_rfl | rfl, rfl⟩
                      try simp only [Act.put, List.setIfInBounds_toArray, List.set_cons_zero, List.set_cons_succ]
                      refine wpAnyH_take (i := 4) (oi := ?e5o) (v := undef) ?e5h (by kernel_rfl) (by kernel_rfl) (by kernel_rfl) ?e5q ?e5y hHeld ?e5r
                      case e5h => (simp only [List.getElem?_toArray, List.getElem?_cons_succ, List.getElem?_cons_zero]; rfl)
                      case e5q => exact fun _ _ _ h => h
                      case e5y => exact Or.inr ⟨by first | kernel_rfl | rfl, rfl⟩
                      try simp only [Act.put, List.setIfInBounds_toArray, List.set_cons_zero, List.set_cons_succ]
                      refine wpAnyH_take (i := 5) (oi := ?e6o) (v := undef) ?e6h (by kernel_rfl) (by kernel_rfl) (by kernel_rfl) ?e6q ?e6y hHeld ?e6r
                      case e6h => (simp only [List.getElem?_toArray, List.getElem?_cons_succ, List.getElem?_cons_zero]; rfl)
                      case e6q => exact fun _ _ _ h => h
                      case e6y => exact Or.inr ⟨by first | kernel_rfl | rfl, rfl⟩
                      try simp only [Act.put, List.setIfInBounds_toArray, List.set_cons_zero, List.set_cons_succ]
                      refine wpAnyH_take (i := 6) (oi := ?e7o) (v := undef) ?e7h (by kernel_rfl) (by kernel_rfl) (by kernel_rfl) ?e7q ?e7y hHeld ?e7r
                      case e7h => (simp only [List.getElem?_toArray, List.getElem?_cons_succ, List.getElem?_cons_zero]; rfl)
                      case e7q => exact fun _ _ _ h => h
                      case e7y => exact Or.inr ⟨by first | kernel_rfl | rfl, rfl⟩
                      try simp only [Act.put, List.setIfInBounds_toArray, List.set_cons_zero, List.set_cons_succ]
                      refine wpAnyH_take (i := 7) (oi := ?e8o) (v := undef) ?e8h (by kernel_rfl) (by kernel_rfl) (by kernel_rfl) ?e8q ?e8y hHeld ?e8r
                      case e8h => (simp only [List.getElem?_toArray, List.getElem?_cons_succ, List.getElem?_cons_zero]; rfl)
                      case e8q => exact fun _ _ _ h => h
                      case e8y => exact Or.inr ⟨by first | kernel_rfl | rfl, rfl⟩
                      try simp only [Act.put, List.setIfInBounds_toArray, List.set_cons_zero, List.set_cons_succ]
                      refine wpAnyH_take (i := 8) (oi := ?e9o) (v := undef) ?e9h (by kernel_rfl) (by kernel_rfl) (by kernel_rfl) ?e9q ?e9y hHeld ?e9r
                      case e9h => (simp only [List.getElem?_toArray, List.getElem?_cons_succ, List.getElem?_cons_zero]; rfl)
                      case e9q => exact fun _ _ _ h => h
                      case e9y => exact Or.inr ⟨by first | kernel_rfl | rfl, rfl⟩
                      try simp only [Act.put, List.setIfInBounds_toArray, List.set_cons_zero, List.set_cons_succ]
                      refine wpAnyH_take (i := 9) (oi := ?e10o) (v := undef) ?e10h (by kernel_rfl) (by kernel_rfl) (by kernel_rfl) ?e10q ?e10y hHeld ?e10r
                      case e10h => (simp only [List.getElem?_toArray, List.getElem?_cons_succ, List.getElem?_cons_zero]; rfl)
                      case e10q => exact fun _ _ _ h => h
                      case e10y => exact Or.inr ⟨by first | kernel_rfl | rfl, rfl⟩
                      try simp only [Act.put, List.setIfInBounds_toArray, List.set_cons_zero, List.set_cons_succ]
                      refine wpAnyH_take (i := 10) (oi := ?e11o) (v := undef) ?e11h (by kernel_rfl) (by kernel_rfl) (by kernel_rfl) ?e11q ?e11y hHeld ?e11r
                      case e11h => (simp only [List.getElem?_toArray, List.getElem?_cons_succ, List.getElem?_cons_zero]; rfl)
                      case e11q => exact fun _ _ _ h => h
                      case e11y => exact Or.inr ⟨by first | kernel_rfl | rfl, rfl⟩
                      try simp only [Act.put, List.setIfInBounds_toArray, List.set_cons_zero, List.set_cons_succ]
                      refine wpAnyH_take (i := 11) (oi := ?e12o) (v := undef) ?e12h (by kernel_rfl) (by kernel_rfl) (by kernel_rfl) ?e12q ?e12y hHeld ?e12r
                      case e12h => (simp only [List.getElem?_toArray, List.getElem?_cons_succ, List.getElem?_cons_zero]; rfl)
                      case e12q => exact fun _ _ _ h => h
                      case e12y => exact Or.inr ⟨by first | kernel_rfl | rfl, rfl⟩
                      try simp only [Act.put, List.setIfInBounds_toArray, List.set_cons_zero, List.set_cons_succ]
                      refine wpAnyH_take (i := 12) (oi := ?e13o) (v := undef) ?e13h (by kernel_rfl) (by kernel_rfl) (by kernel_rfl) ?e13q ?e13y hHeld ?e13r
                      case e13h => (simp only [List.getElem?_toArray, List.getElem?_cons_succ, List.getElem?_cons_zero]; rfl)
                      case e13q => exact fun _ _ _ h => h
                      case e13y => exact Or.inr ⟨by first | kernel_rfl | rfl, rfl⟩
                      try simp only [Act.put, List.setIfInBounds_toArray, List.set_cons_zero, List.set_cons_succ]
                      refine wpAnyH_take (i := 13) (oi := ?e14o) (v := undef) ?e14h (by kernel_rfl) (by kernel_rfl) (by kernel_rfl) ?e14q ?e14y hHeld ?e14r
                      case e14h => (simp only [List.getElem?_toArray, List.getElem?_cons_succ, List.getElem?_cons_zero]; rfl)
                      case e14q => exact fun _ _ _ h => h
                      case e14y => exact Or.inr ⟨by first | kernel_rfl | rfl, rfl⟩
                      try simp only [Act.put, List.setIfInBounds_toArray, List.set_cons_zero, List.set_cons_succ]
                      refine wpAnyH_take (i := 14) (oi := ?e15o) (v := undef) ?e15h (by kernel_rfl) (by kernel_rfl) (by kernel_rfl) ?e15q ?e15y hHeld ?e15r
                      case e15h => (simp only [List.getElem?_toArray, List.getElem?_cons_succ, List.getElem?_cons_zero]; rfl)
                      case e15q => exact fun _ _ _ h => h
                      case e15y => exact Or.inr ⟨by first | kernel_rfl | rfl, rfl⟩
                      try simp only [Act.put, List.setIfInBounds_toArray, List.set_cons_zero, List.set_cons_succ]
                      refine wpAnyH_take (i := 15) (oi := ?e16o) (v := ?e16v) ?e16h (by kernel_rfl) (by kernel_rfl) (by kernel_rfl) ?e16q ?e16y hHeld ?e16r
                      case e16h => (simp only [List.getElem?_toArray, List.getElem?_cons_succ, List.getElem?_cons_zero]; rfl)
                      case e16q => exact fun _ _ _ h => h
                      case e16y => (refine Or.inl ⟨by first | kernel_rfl | rfl, ?_⟩; intro w hSw; obtain ⟨⟨x0, x1⟩, x2, x3, x4, ⟨x5, x6⟩, -, -⟩ := hSw; go_simp <;> (try with_reducible rfl))
                      try simp only [Act.put, List.setIfInBounds_toArray, List.set_cons_zero, List.set_cons_succ]
                      refine wpAnyH_take (i := 16) (oi := ?e17o) (v := ?e17v) ?e17h (by kernel_rfl) (by kernel_rfl) (by kernel_rfl) ?e17q ?e17y hHeld ?e17r
                      case e17h => (simp only [List.getElem?_toArray, List.getElem?_cons_succ, List.getElem?_cons_zero]; rfl)
                      case e17q => exact fun _ _ _ h => h
                      case e17y => (refine Or.inl ⟨by first | kernel_rfl | rfl, ?_⟩; intro w hSw; obtain ⟨⟨x0, x1⟩, x2, x3, x4, ⟨x5, x6⟩, -, -⟩ := hSw; go_simp <;> (try with_reducible rfl))
                      try simp only [Act.put, List.setIfInBounds_toArray, List.set_cons_zero, List.set_cons_succ]
                      refine wpAnyH_take (i := 17) (oi := ?e18o) (v := ?e18v) ?e18h (by kernel_rfl) (by kernel_rfl) (by kernel_rfl) ?e18q ?e18y hHeld ?e18r
                      case e18h => (simp only [List.getElem?_toArray, List.getElem?_cons_succ, List.getElem?_cons_zero]; rfl)
                      case e18q => exact fun _ _ _ h => h
                      case e18y => (refine Or.inl ⟨by first | kernel_rfl | rfl, ?_⟩; intro w hSw; obtain ⟨⟨x0, x1⟩, x2, x3, x4, ⟨x5, x6⟩, -, -⟩ := hSw; go_simp <;> (try with_reducible rfl))
                      try simp only [Act.put, List.setIfInBounds_toArray, List.set_cons_zero, List.set_cons_succ]
                      refine wpAnyH_take (i := 18) (oi := ?e19o) (v := ?e19v) ?e19h (by kernel_rfl) (by kernel_rfl) (by kernel_rfl) ?e19q ?e19y hHeld ?e19r
                      case e19h => (simp only [List.getElem?_toArray, List.getElem?_cons_succ, List.getElem?_cons_zero]; rfl)
                      case e19q => exact fun _ _ _ h => h
                      case e19y => (refine Or.inl ⟨by first | kernel_rfl | rfl, ?_⟩; intro w hSw; obtain ⟨⟨x0, x1⟩, x2, x3, x4, ⟨x5, x6⟩, -, -⟩ := hSw; go_simp <;> (try with_reducible rfl))
                      try simp only [Act.put, List.setIfInBounds_toArray, List.set_cons_zero, List.set_cons_succ]
                      refine wpAnyH_take (i := 19) (oi := ?e20o) (v := ?e20v) ?e20h (by kernel_rfl) (by kernel_rfl) (by kernel_rfl) ?e20q ?e20y hHeld ?e20r
                      case e20h => (simp only [List.getElem?_toArray, List.getElem?_cons_succ, List.getElem?_cons_zero]; rfl)
                      case e20q => exact fun _ _ _ h => h
                      case e20y => (refine Or.inl ⟨by first | kernel_rfl | rfl, ?_⟩; intro w hSw; obtain ⟨⟨x0, x1⟩, x2, x3, x4, ⟨x5, x6⟩, -, -⟩ := hSw; go_simp <;> (try with_reducible rfl))
                      try simp only [Act.put, List.setIfInBounds_toArray, List.set_cons_zero, List.set_cons_succ]
                      refine wpAnyH_take (i := 20) (oi := ?e21o) (v := ?e21v) ?e21h (by kernel_rfl) (by kernel_rfl) (by kernel_rfl) ?e21q ?e21y hHeld ?e21r
                      case e21h => (simp only [List.getElem?_toArray, List.getElem?_cons_succ, List.getElem?_cons_zero]; rfl)
                      case e21q => exact fun _ _ _ h => h
                      case e21y => (refine Or.inl ⟨by first | kernel_rfl | rfl, ?_⟩; intro w hSw; obtain ⟨⟨x0, x1⟩, x2, x3, x4, ⟨x5, x6⟩, -, -⟩ := hSw; go_simp <;> (try with_reducible rfl))
                      try simp only [Act.put, List.setIfInBounds_toArray, List.set_cons_zero, List.set_cons_succ]
                      refine wpAnyH_take (i := 21) (oi := ?e22o) (v := ?e22v) ?e22h (by kernel_rfl) (by kernel_rfl) (by kernel_rfl) ?e22q ?e22y hHeld ?e22r
                      case e22h => (simp only [List.getElem?_toArray, List.getElem?_cons_succ, List.getElem?_cons_zero]; rfl)
                      case e22q => exact fun _ _ _ h => h
                      case e22y => (refine Or.inl ⟨by first | kernel_rfl | rfl, ?_⟩; intro w hSw; obtain ⟨⟨x0, x1⟩, x2, x3, x4, ⟨x5, x6⟩, -, -⟩ := hSw; go_simp <;> (try with_reducible rfl))
                      try simp only [Act.put, List.setIfInBounds_toArray, List.set_cons_zero, List.set_cons_succ]
                      refine wpAnyH_take (i := 22) (oi := ?e23o) (v := ?e23v) ?e23h (by kernel_rfl) (by kernel_rfl) (by kernel_rfl) ?e23q ?e23y hHeld ?e23r
                      case e23h => (simp only [List.getElem?_toArray, List.getElem?_cons_succ, List.getElem?_cons_zero]; rfl)
                      case e23q => exact fun _ _ _ h => h
                      case e23y => (refine Or.inl ⟨by first | kernel_rfl | rfl, ?_⟩; intro w hSw; obtain ⟨⟨x0, x1⟩, x2, x3, x4, ⟨x5, x6⟩, -, -⟩ := hSw; go_simp <;> (try with_reducible rfl))
                      try simp only [Act.put, List.setIfInBounds_toArray, List.set_cons_zero, List.set_cons_succ]
                      refine wpAnyH_take (i := 23) (oi := ?e24o) (v := ?e24v) ?e24h (by kernel_rfl) (by kernel_rfl) (by kernel_rfl) ?e24q ?e24y hHeld ?e24r
                      case e24h => (simp only [List.getElem?_toArray, List.getElem?_cons_succ, List.getElem?_cons_zero]; rfl)
                      case e24q => exact fun _ _ _ h => h
                      case e24y => (refine Or.inl ⟨by first | kernel_rfl | rfl, ?_⟩; intro w hSw; obtain ⟨⟨x0, x1⟩, x2, x3, x4, ⟨x5, x6⟩, -, -⟩ := hSw; go_simp <;> (try with_reducible rfl))
                      try simp only [Act.put, List.setIfInBounds_toArray, List.set_cons_zero, List.set_cons_succ]
                      refine wpAnyH_take (i := 24) (oi := ?e25o) (v := ?e25v) ?e25h (by kernel_rfl) (by kernel_rfl) (by kernel_rfl) ?e25q ?e25y hHeld ?e25r
                      case e25h => (simp only [List.getElem?_toArray, List.getElem?_cons_succ, List.getElem?_cons_zero]; rfl)
                      case e25q => exact fun _ _ _ h => h
                      case e25y => (refine Or.inl ⟨by first | kernel_rfl | rfl, ?_⟩; intro w hSw; obtain ⟨⟨x0, x1⟩, x2, x3, x4, ⟨x5, x6⟩, -, -⟩ := hSw; go_simp <;> (try with_reducible rfl))
                      try simp only [Act.put, List.setIfInBounds_toArray, List.set_cons_zero, List.set_cons_succ]
                      refine wpAnyH_take (i := 25) (oi := ?e26o) (v := ?e26v) ?e26h (by kernel_rfl) (by kernel_rfl) (by kernel_rfl) ?e26q ?e26y hHeld ?e26r
                      case e26h => (simp only [List.getElem?_toArray, List.getElem?_cons_succ, List.getElem?_cons_zero]; rfl)
                      case e26q => exact fun _ _ _ h => h
                      case e26y => (refine Or.inl ⟨by first | kernel_rfl | rfl, ?_⟩; intro w hSw; obtain ⟨⟨x0, x1⟩, x2, x3, x4, ⟨x5, x6⟩, -, -⟩ := hSw; go_simp <;> (try with_reducible rfl))
                      try simp only [Act.put, List.setIfInBounds_toArray, List.set_cons_zero, List.set_cons_succ]
                      refine wpAnyH_take (i := 26) (oi := ?e27o) (v := ?e27v) ?e27h (by kernel_rfl) (by kernel_rfl) (by kernel_rfl) ?e27q ?e27y hHeld ?e27r
                      case e27h => (simp only [List.getElem?_toArray, List.getElem?_cons_succ, List.getElem?_cons_zero]; rfl)
                      case e27q => exact fun _ _ _ h => h
                      case e27y => (refine Or.inl ⟨by first | kernel_rfl | rfl, ?_⟩; intro w hSw; obtain ⟨⟨x0, x1⟩, x2, x3, x4, ⟨x5, x6⟩, -, -⟩ := hSw; go_simp <;> (try with_reducible rfl))
                      try simp only [Act.put, List.setIfInBounds_toArray, List.set_cons_zero, List.set_cons_succ]
                      refine wpAnyH_take (i := 27) (oi := ?e28o) (v := ?e28v) ?e28h (by kernel_rfl) (by kernel_rfl) (by kernel_rfl) ?e28q ?e28y hHeld ?e28r
                      case e28h => (simp only [List.getElem?_toArray, List.getElem?_cons_succ, List.getElem?_cons_zero]; rfl)
                      case e28q => exact fun _ _ _ h => h
                      case e28y => (refine Or.inl ⟨by first | kernel_rfl | rfl, ?_⟩; intro w hSw; obtain ⟨⟨x0, x1⟩, x2, x3, x4, ⟨x5, x6⟩, -, -⟩ := hSw; go_simp <;> (try with_reducible rfl))
                      try simp only [Act.put, List.setIfInBounds_toArray, List.set_cons_zero, List.set_cons_succ]
                      refine wpAnyH_take (i := 28) (oi := ?e29o) (v := ?e29v) ?e29h (by kernel_rfl) (by kernel_rfl) (by kernel_rfl) ?e29q ?e29y hHeld ?e29r
                      case e29h => (simp only [List.getElem?_toArray, List.getElem?_cons_succ, List.getElem?_cons_zero]; rfl)
                      case e29q => exact fun _ _ _ h => h
                      case e29y => (refine Or.inl ⟨by first | kernel_rfl | rfl, ?_⟩; intro w hSw; obtain ⟨⟨x0, x1⟩, x2, x3, x4, ⟨x5, x6⟩, -, -⟩ := hSw; go_simp <;> (try with_reducible rfl))
                      try simp only [Act.put, List.setIfInBounds_toArray, List.set_cons_zero, List.set_cons_succ]
                      refine wpAnyH_take (i := 29) (oi := ?e30o) (v := ?e30v) ?e30h (by kernel_rfl) (by kernel_rfl) (by kernel_rfl) ?e30q ?e30y hHeld ?e30r
                      case e30h => (simp only [List.getElem?_toArray, List.getElem?_cons_succ, List.getElem?_cons_zero]; rfl)
                      case e30q => exact fun _ _ _ h => h
                      case e30y => (refine Or.inl ⟨by first | kernel_rfl | rfl, ?_⟩; intro w hSw; obtain ⟨⟨x0, x1⟩, x2, x3, x4, ⟨x5, x6⟩, -, -⟩ := hSw; go_simp <;> (try with_reducible rfl))
                      try simp only [Act.put, List.setIfInBounds_toArray, List.set_cons_zero, List.set_cons_succ]
                      refine wpAnyH_take (i := 31) (oi := ?e31o) (v := ?e31v) ?e31h (by kernel_rfl) (by kernel_rfl) (by kernel_rfl) ?e31q ?e31y hHeld ?e31r
                      case e31h => (simp only [List.getElem?_toArray, List.getElem?_cons_succ, List.getElem?_cons_zero]; rfl)
                      case e31q => exact fun _ _ _ h => h
                      case e31y => (refine Or.inl ⟨by first | kernel_rfl | rfl, ?_⟩; intro w hSw; obtain ⟨⟨x0, x1⟩, x2, x3, x4, ⟨x5, x6⟩, -, -⟩ := hSw; go_simp <;> (try with_reducible rfl))
                      try simp only [Act.put, List.setIfInBounds_toArray, List.set_cons_zero, List.set_cons_succ]
                      refine wpAnyH_ready (rs := [30]) (by kernel_rfl) (by simp) ?_
                      refine (AllReadyH.cons rfl (fun K hK => ?_) AllReadyH.nil)
                      go_simp
                      ((with_reducible refine (kof _ hHeld.tab).mono ?_); rintro e W2 ⟨rfl, hb2⟩)
                      refine hK.out _ _ (hHeld.keep hb2) (fun hHeld => ?_)
                      clear hK K
                      try simp only [Act.put, List.setIfInBounds_toArray, List.set_cons_zero, List.set_cons_succ]
                      refine wpAnyH_take (i := 32) (oi := ?e32o) (v := ?e32v) ?e32h (by kernel_rfl) (by kernel_rfl) (by kernel_rfl) ?e32q ?e32y hHeld ?e32r
                      case e32h => (simp only [List.getElem?_toArray, List.getElem?_cons_succ, List.getElem?_cons_zero]; rfl)
                      case e32q => exact fun _ _ _ h => h
                      case e32y => (refine Or.inl ⟨by first | kernel_rfl | rfl, ?_⟩; intro w hSw; obtain ⟨⟨x0, x1⟩, x2, x3, x4, ⟨x5, x6⟩, -, -⟩ := hSw; go_simp <;> (try with_reducible rfl))
                      try simp only [Act.put, List.setIfInBounds_toArray, List.set_cons_zero, List.set_cons_succ]
                      refine wpAnyH_take (i := 33) (oi := ?e33o) (v := ?e33v) ?e33h (by kernel_rfl) (by kernel_rfl) (by kernel_rfl) ?e33q ?e33y hHeld ?e33r
                      case e33h => (simp only [List.getElem?_toArray, List.getElem?_cons_succ, List.getElem?_cons_zero]; rfl)
                      case e33q => exact fun _ _ _ h => h
                      case e33y => (refine Or.inl ⟨by first | kernel_rfl | rfl, ?_⟩; intro w hSw; obtain ⟨⟨x0, x1⟩, x2, x3, x4, ⟨x5, x6⟩, -, -⟩ := hSw; go_simp <;> (try with_reducible rfl))
                      try simp only [Act.put, List.setIfInBounds_toArray, List.set_cons_zero, List.set_cons_succ]
                      refine wpAnyH_done (by kernel_rfl) ?_ _
                      have HPH2 := Lib.hid hHeld
                      clear hHeld
                      refine calm_n ?_
                      have HOK := Lib.hid (cont_ok (x := x) HPH2.out.bel HHM.out HHL.out HHB.out HMM.out (fun q hq => ⟨Nat.lt_of_lt_of_le (hEL q hq) HHB.out.size, (hEB q hq).1, (hEB q hq).2.1⟩))
                      have hm2 := boxed_below HHM.out HPH2.out.bel
                      have hl2 := boxed_below HHL.out HPH2.out.bel
                      have hl3 := hl2.cell
                      have hl4 := hl2.frozen
                      have hm3 := fun u => (hm2.other (B' := w2.heap.size + 1 + 1 + 1) (by omega) u).cell
                      have hm4 := fun u => (hm2.other (B' := w2.heap.size + 1 + 1 + 1) (by omega) u).frozen
                      obtain ⟨x5, x6⟩ := HPH2.out.xb
                      have hwm := HWM.out
                      clear hm2 hl2
                      gi_wp2
                      exact HOK.out
                    | false =>
                      rw [hsm] at qn
                      have HX := Lib.hid (show ¬ pre ++ [x] <+: L from fun h => by have k1 := (HSX.out h).of_; rw [HV.out] at k1; rw [Sp.same_iff.2 k1] at hsm; cases hsm)
                      clear hsm
                      as_aux_lemma =>
                      refine region_round (S := (PH w2.heap.size s x kk M T Bx W)) (by kernel_rfl) (by kernel_rfl) HPH.out.drew (fun hHeld => ?_)
                      refine wpAnyH_take (i := 0) (oi := ?f1o) (v := ?f1v) ?f1h (by kernel_rfl) (by kernel_rfl) (by kernel_rfl) ?f1q ?f1y hHeld ?f1r
                      case f1h => (simp only [List.getElem?_toArray, List.getElem?_cons_zero]; rfl)
                      case f1q => exact fun _ _ _ h => h
                      case f1y => (refine Or.inl ⟨by first | kernel_rfl | rfl, ?_⟩; intro w hSw; obtain ⟨⟨x0, x1⟩, x2, x3, x4, ⟨x5, x6⟩, -, -⟩ := hSw; go_simp <;> (try with_reducible rfl))
                      try simp only [Act.put, List.setIfInBounds_toArray, List.set_cons_zero, List.set_cons_succ]
                      refine wpAnyH_take (i := 1) (oi := ?f2o) (v := ?f2v) ?f2h (by kernel_rfl) (by kernel_rfl) (by kernel_rfl) ?f2q ?f2y hHeld ?f2r
                      case f2h => (simp only [List.getElem?_toArray, List.getElem?_cons_succ, List.getElem?_cons_zero]; rfl)
                      case f2q => exact fun _ _ _ h => h
                      case f2y => (refine Or.inl ⟨by first | kernel_rfl | rfl, ?_⟩; intro w hSw; obtain ⟨⟨x0, x1⟩, x2, x3, x4, ⟨x5, x6⟩, -, -⟩ := hSw; go_simp <;> (try with_reducible rfl))
                      try simp only [Act.put, List.setIfInBounds_toArray, List.set_cons_zero, List.set_cons_succ]
                      refine wpAnyH_take (i := 2) (oi := ?f3o) (v := ?f3v) ?f3h (by kernel_rfl) (by kernel_rfl) (by kernel_rfl) ?f3q ?f3y hHeld ?f3r
                      case f3h => (simp only [List.getElem?_toArray, List.getElem?_cons_succ, List.getElem?_cons_zero]; rfl)
                      case f3q => exact fun _ _ _ h => h
                      case f3y => (refine Or.inl ⟨by first | kernel_rfl | rfl, ?_⟩; intro w hSw; obtain ⟨⟨x0, x1⟩, x2, x3, x4, ⟨x5, x6⟩, -, -⟩ := hSw; go_simp <;> (try with_reducible rfl))
                      try simp only [Act.put, List.setIfInBounds_toArray, List.set_cons_zero, List.set_cons_succ]
                      refine wpAnyH_take (i := 3) (oi := ?f4o) (v := undef) ?f4h (by kernel_rfl) (by kernel_rfl) (by kernel_rfl) ?f4q ?f4y hHeld ?f4r
                      case f4h => (simp only [List.getElem?_toArray, List.getElem?_cons_succ, List.getElem?_cons_zero]; rfl)
                      case f4q => exact fun _ _ _ h => h
                      case f4y => exact Or.inr ⟨by first | kernel_rfl | rfl, rfl⟩
                      try simp only [Act.put, List.setIfInBounds_toArray, List.set_cons_zero, List.set_cons_succ]
                      refine wpAnyH_take (i := 4) (oi := ?f5o) (v := undef) ?f5h (by kernel_rfl) (by kernel_rfl) (by kernel_rfl) ?f5q ?f5y hHeld ?f5r
                      case f5h => (simp only [List.getElem?_toArray, List.getElem?_cons_succ, List.getElem?_cons_zero]; rfl)
                      case f5q => exact fun _ _ _ h => h
                      case f5y => exact Or.inr ⟨by first | kernel_rfl | rfl, rfl⟩
                      try simp only [Act.put, List.setIfInBounds_toArray, List.set_cons_zero, List.set_cons_succ]
                      refine wpAnyH_take (i := 5) (oi := ?f6o) (v := undef) ?f6h (by kernel_rfl) (by kernel_rfl) (by kernel_rfl) ?f6q ?f6y hHeld ?f6r
                      case f6h => (simp only [List.getElem?_toArray, List.getElem?_cons_succ, List.getElem?_cons_zero]; rfl)
                      case f6q => exact fun _ _ _ h => h
                      case f6y => exact Or.inr ⟨by first | kernel_rfl | rfl, rfl⟩
                      try simp only [Act.put, List.setIfInBounds_toArray, List.set_cons_zero, List.set_cons_succ]
                      refine wpAnyH_take (i := 6) (oi := ?f7o) (v := undef) ?f7h (by kernel_rfl) (by kernel_rfl) (by kernel_rfl) ?f7q ?f7y hHeld ?f7r
                      case f7h => (simp only [List.getElem?_toArray, List.getElem?_cons_succ, List.getElem?_cons_zero]; rfl)
                      case f7q => exact fun _ _ _ h => h
                      case f7y => exact Or.inr ⟨by first | kernel_rfl | rfl, rfl⟩
                      try simp only [Act.put, List.setIfInBounds_toArray, List.set_cons_zero, List.set_cons_succ]
                      refine wpAnyH_take (i := 7) (oi := ?f8o) (v := undef) ?f8h (by kernel_rfl) (by kernel_rfl) (by kernel_rfl) ?f8q ?f8y hHeld ?f8r
                      case f8h => (simp only [List.getElem?_toArray, List.getElem?_cons_succ, List.getElem?_cons_zero]; rfl)
                      case f8q => exact fun _ _ _ h => h
                      case f8y => exact Or.inr ⟨by first | kernel_rfl | rfl, rfl⟩
                      try simp only [Act.put, List.setIfInBounds_toArray, List.set_cons_zero, List.set_cons_succ]
                      refine wpAnyH_take (i := 8) (oi := ?f9o) (v := undef) ?f9h (by kernel_rfl) (by kernel_rfl) (by kernel_rfl) ?f9q ?f9y hHeld ?f9r
                      case f9h => (simp only [List.getElem?_toArray, List.getElem?_cons_succ, List.getElem?_cons_zero]; rfl)
                      case f9q => exact fun _ _ _ h => h
                      case f9y => exact Or.inr ⟨by first | kernel_rfl | rfl, rfl⟩
                      try simp only [Act.put, List.setIfInBounds_toArray, List.set_cons_zero, List.set_cons_succ]
                      refine wpAnyH_take (i := 9) (oi := ?f10o) (v := undef) ?f10h (by kernel_rfl) (by kernel_rfl) (by kernel_rfl) ?f10q ?f10y hHeld ?f10r
                      case f10h => (simp only [List.getElem?_toArray, List.getElem?_cons_succ, List.getElem?_cons_zero]; rfl)
                      case f10q => exact fun _ _ _ h => h
                      case f10y => exact Or.inr ⟨by first | kernel_rfl | rfl, rfl⟩
                      try simp only [Act.put, List.setIfInBounds_toArray, List.set_cons_zero, List.set_cons_succ]
                      refine wpAnyH_take (i := 10) (oi := ?f11o) (v := undef) ?f11h (by kernel_rfl) (by kernel_rfl) (by kernel_rfl) ?f11q ?f11y hHeld ?f11r
                      case f11h => (simp only [List.getElem?_toArray, List.getElem?_cons_succ, List.getElem?_cons_zero]; rfl)
                      case f11q => exact fun _ _ _ h => h
                      case f11y => exact Or.inr ⟨by first | kernel_rfl | rfl, rfl⟩
                      try simp only [Act.put, List.setIfInBounds_toArray, List.set_cons_zero, List.set_cons_succ]
                      refine wpAnyH_take (i := 11) (oi := ?f12o) (v := undef) ?f12h (by kernel_rfl) (by kernel_rfl) (by kernel_rfl) ?f12q ?f12y hHeld ?f12r
                      case f12h => (simp only [List.getElem?_toArray, List.getElem?_cons_succ, List.getElem?_cons_zero]; rfl)
                      case f12q => exact fun _ _ _ h => h
                      case f12y => exact Or.inr ⟨by first | kernel_rfl | rfl, rfl⟩
                      try simp only [Act.put, List.setIfInBounds_toArray, List.set_cons_zero, List.set_cons_succ]
                      refine wpAnyH_take (i := 12) (oi := ?f13o) (v := undef) ?f13h (by kernel_rfl) (by kernel_rfl) (by kernel_rfl) ?f13q ?f13y hHeld ?f13r
                      case f13h => (simp only [List.getElem?_toArray, List.getElem?_cons_succ, List.getElem?_cons_zero]; rfl)
                      case f13q => exact fun _ _ _ h => h
                      case f13y => exact Or.inr ⟨by first | kernel_rfl | rfl, rfl⟩
                      try simp only [Act.put, List.setIfInBounds_toArray, List.set_cons_zero, List.set_cons_succ]
                      refine wpAnyH_take (i := 13) (oi := ?f14o) (v := undef) ?f14h (by kernel_rfl) (by kernel_rfl) (by kernel_rfl) ?f14q ?f14y hHeld ?f14r
                      case f14h => (simp only [List.getElem?_toArray, List.getElem?_cons_succ, List.getElem?_cons_zero]; rfl)
                      case f14q => exact fun _ _ _ h => h
                      case f14y => exact Or.inr ⟨by first | kernel_rfl | rfl, rfl⟩
                      try simp only [Act.put, List.setIfInBounds_toArray, List.set_cons_zero, List.set_cons_succ]
                      refine wpAnyH_take (i := 14) (oi := ?f15o) (v := undef) ?f15h (by kernel_rfl) (by kernel_rfl) (by kernel_rfl) ?f15q ?f15y hHeld ?f15r
                      case f15h => (simp only [List.getElem?_toArray, List.getElem?_cons_succ, List.getElem?_cons_zero]; rfl)
                      case f15q => exact fun _ _ _ h => h
                      case f15y => exact Or.inr ⟨by first | kernel_rfl | rfl, rfl⟩
                      try simp only [Act.put, List.setIfInBounds_toArray, List.set_cons_zero, List.set_cons_succ]
                      refine wpAnyH_take (i := 15) (oi := ?f16o) (v := ?f16v) ?f16h (by kernel_rfl) (by kernel_rfl) (by kernel_rfl) ?f16q ?f16y hHeld ?f16r
                      case f16h => (simp only [List.getElem?_toArray, List.getElem?_cons_succ, List.getElem?_cons_zero]; rfl)
                      case f16q => exact fun _ _ _ h => h
                      case f16y => (refine Or.inl ⟨by first | kernel_rfl | rfl, ?_⟩; intro w hSw; obtain ⟨⟨x0, x1⟩, x2, x3, x4, ⟨x5, x6⟩, -, -⟩ := hSw; go_simp <;> (try with_reducible rfl))
                      try simp only [Act.put, List.setIfInBounds_toArray, List.set_cons_zero, List.set_cons_succ]
                      refine wpAnyH_take (i := 16) (oi := ?f17o) (v := ?f17v) ?f17h (by kernel_rfl) (by kernel_rfl) (by kernel_rfl) ?f17q ?f17y hHeld ?f17r
                      case f17h => (simp only [List.getElem?_toArray, List.getElem?_cons_succ, List.getElem?_cons_zero]; rfl)
                      case f17q => exact fun _ _ _ h => h
                      case f17y => (refine Or.inl ⟨by first | kernel_rfl | rfl, ?_⟩; intro w hSw; obtain ⟨⟨x0, x1⟩, x2, x3, x4, ⟨x5, x6⟩, -, -⟩ := hSw; go_simp <;> (try with_reducible rfl))
                      try simp only [Act.put, List.setIfInBounds_toArray, List.set_cons_zero, List.set_cons_succ]
                      refine wpAnyH_take (i := 17) (oi := ?f18o) (v := ?f18v) ?f18h (by kernel_rfl) (by kernel_rfl) (by kernel_rfl) ?f18q ?f18y hHeld ?f18r
                      case f18h => (simp only [List.getElem?_toArray, List.getElem?_cons_succ, List.getElem?_cons_zero]; rfl)
                      case f18q => exact fun _ _ _ h => h
                      case f18y => (refine Or.inl ⟨by first | kernel_rfl | rfl, ?_⟩; intro w hSw; obtain ⟨⟨x0, x1⟩, x2, x3, x4, ⟨x5, x6⟩, -, -⟩ := hSw; go_simp <;> (try with_reducible rfl))
                      try simp only [Act.put, List.setIfInBounds_toArray, List.set_cons_zero, List.set_cons_succ]
                      refine wpAnyH_take (i := 18) (oi := ?f19o) (v := ?f19v) ?f19h (by kernel_rfl) (by kernel_rfl) (by kernel_rfl) ?f19q ?f19y hHeld ?f19r
                      case f19h => (simp only [List.getElem?_toArray, List.getElem?_cons_succ, List.getElem?_cons_zero]; rfl)
                      case f19q => exact fun _ _ _ h => h
                      case f19y => (refine Or.inl ⟨by first | kernel_rfl | rfl, ?_⟩; intro w hSw; obtain ⟨⟨x0, x1⟩, x2, x3, x4, ⟨x5, x6⟩, -, -⟩ := hSw; go_simp <;> (try with_reducible rfl))
                      try simp only [Act.put, List.setIfInBounds_toArray, List.set_cons_zero, List.set_cons_succ]
                      refine wpAnyH_take (i := 19) (oi := ?f20o) (v := ?f20v) ?f20h (by kernel_rfl) (by kernel_rfl) (by kernel_rfl) ?f20q ?f20y hHeld ?f20r
                      case f20h => (simp only [List.getElem?_toArray, List.getElem?_cons_succ, List.getElem?_cons_zero]; rfl)
                      case f20q => exact fun _ _ _ h => h
                      case f20y => (refine Or.inl ⟨by first | kernel_rfl | rfl, ?_⟩; intro w hSw; obtain ⟨⟨x0, x1⟩, x2, x3, x4, ⟨x5, x6⟩, -, -⟩ := hSw; go_simp <;> (try with_reducible rfl))
                      try simp only [Act.put, List.setIfInBounds_toArray, List.set_cons_zero, List.set_cons_succ]
                      refine wpAnyH_take (i := 20) (oi := ?f21o) (v := ?f21v) ?f21h (by kernel_rfl) (by kernel_rfl) (by kernel_rfl) ?f21q ?f21y hHeld ?f21r
                      case f21h => (simp only [List.getElem?_toArray, List.getElem?_cons_succ, List.getElem?_cons_zero]; rfl)
                      case f21q => exact fun _ _ _ h => h
                      case f21y => (refine Or.inl ⟨by first | kernel_rfl | rfl, ?_⟩; intro w hSw; obtain ⟨⟨x0, x1⟩, x2, x3, x4, ⟨x5, x6⟩, -, -⟩ := hSw; go_simp <;> (try with_reducible rfl))
                      try simp only [Act.put, List.setIfInBounds_toArray, List.set_cons_zero, List.set_cons_succ]
                      refine wpAnyH_take (i := 21) (oi := ?f22o) (v := ?f22v) ?f22h (by kernel_rfl) (by kernel_rfl) (by kernel_rfl) ?f22q ?f22y hHeld ?f22r
                      case f22h => (simp only [List.getElem?_toArray, List.getElem?_cons_succ, List.getElem?_cons_zero]; rfl)
                      case f22q => exact fun _ _ _ h => h
                      case f22y => (refine Or.inl ⟨by first | kernel_rfl | rfl, ?_⟩; intro w hSw; obtain ⟨⟨x0, x1⟩, x2, x3, x4, ⟨x5, x6⟩, -, -⟩ := hSw; go_simp <;> (try with_reducible rfl))
                      try simp only [Act.put, List.setIfInBounds_toArray, List.set_cons_zero, List.set_cons_succ]
                      refine wpAnyH_take (i := 22) (oi := ?f23o) (v := ?f23v) ?f23h (by kernel_rfl) (by kernel_rfl) (by kernel_rfl) ?f23q ?f23y hHeld ?f23r
                      case f23h => (simp only [List.getElem?_toArray, List.getElem?_cons_succ, List.getElem?_cons_zero]; rfl)
                      case f23q => exact fun _ _ _ h => h
                      case f23y => (refine Or.inl ⟨by first | kernel_rfl | rfl, ?_⟩; intro w hSw; obtain ⟨⟨x0, x1⟩, x2, x3, x4, ⟨x5, x6⟩, -, -⟩ := hSw; go_simp <;> (try with_reducible rfl))
                      try simp only [Act.put, List.setIfInBounds_toArray, List.set_cons_zero, List.set_cons_succ]
                      refine wpAnyH_take (i := 23) (oi := ?f24o) (v := ?f24v) ?f24h (by kernel_rfl) (by kernel_rfl) (by kernel_rfl) ?f24q ?f24y hHeld ?f24r
                      case f24h => (simp only [List.getElem?_toArray, List.getElem?_cons_succ, List.getElem?_cons_zero]; rfl)
                      case f24q => exact fun _ _ _ h => h
                      case f24y => (refine Or.inl ⟨by first | kernel_rfl | rfl, ?_⟩; intro w hSw; obtain ⟨⟨x0, x1⟩, x2, x3, x4, ⟨x5, x6⟩, -, -⟩ := hSw; go_simp <;> (try with_reducible rfl))
                      try simp only [Act.put, List.setIfInBounds_toArray, List.set_cons_zero, List.set_cons_succ]
                      refine wpAnyH_take (i := 24) (oi := ?f25o) (v := ?f25v) ?f25h (by kernel_rfl) (by kernel_rfl) (by kernel_rfl) ?f25q ?f25y hHeld ?f25r
                      case f25h => (simp only [List.getElem?_toArray, List.getElem?_cons_succ, List.getElem?_cons_zero]; rfl)
                      case f25q => exact fun _ _ _ h => h
                      case f25y => (refine Or.inl ⟨by first | kernel_rfl | rfl, ?_⟩; intro w hSw; obtain ⟨⟨x0, x1⟩, x2, x3, x4, ⟨x5, x6⟩, -, -⟩ := hSw; go_simp <;> (try with_reducible rfl))
                      try simp only [Act.put, List.setIfInBounds_toArray, List.set_cons_zero, List.set_cons_succ]
                      refine wpAnyH_take (i := 25) (oi := ?f26o) (v := ?f26v) ?f26h (by kernel_rfl) (by kernel_rfl) (by kernel_rfl) ?f26q ?f26y hHeld ?f26r
                      case f26h => (simp only [List.getElem?_toArray, List.getElem?_cons_succ, List.getElem?_cons_zero]; rfl)
                      case f26q => exact fun _ _ _ h => h
                      case f26y => (refine Or.inl ⟨by first | kernel_rfl | rfl, ?_⟩; intro w hSw; obtain ⟨⟨x0, x1⟩, x2, x3, x4, ⟨x5, x6⟩, -, -⟩ := hSw; go_simp <;> (try with_reducible rfl))
                      try simp only [Act.put, List.setIfInBounds_toArray, List.set_cons_zero, List.set_cons_succ]
                      refine wpAnyH_take (i := 26) (oi := ?f27o) (v := ?f27v) ?f27h (by kernel_rfl) (by kernel_rfl) (by kernel_rfl) ?f27q ?f27y hHeld ?f27r
                      case f27h => (simp only [List.getElem?_toArray, List.getElem?_cons_succ, List.getElem?_cons_zero]; rfl)
                      case f27q => exact fun _ _ _ h => h
                      case f27y => (refine Or.inl ⟨by first | kernel_rfl | rfl, ?_⟩; intro w hSw; obtain ⟨⟨x0, x1⟩, x2, x3, x4, ⟨x5, x6⟩, -, -⟩ := hSw; go_simp <;> (try with_reducible rfl))
                      try simp only [Act.put, List.setIfInBounds_toArray, List.set_cons_zero, List.set_cons_succ]
                      refine wpAnyH_take (i := 27) (oi := ?f28o) (v := ?f28v) ?f28h (by kernel_rfl) (by kernel_rfl) (by kernel_rfl) ?f28q ?f28y hHeld ?f28r
                      case f28h => (simp only [List.getElem?_toArray, List.getElem?_cons_succ, List.getElem?_cons_zero]; rfl)
                      case f28q => exact fun _ _ _ h => h
                      case f28y => (refine Or.inl ⟨by first | kernel_rfl | rfl, ?_⟩; intro w hSw; obtain ⟨⟨x0, x1⟩, x2, x3, x4, ⟨x5, x6⟩, -, -⟩ := hSw; go_simp <;> (try with_reducible rfl))
                      try simp only [Act.put, List.setIfInBounds_toArray, List.set_cons_zero, List.set_cons_succ]
                      refine wpAnyH_take (i := 28) (oi := ?f29o) (v := ?f29v) ?f29h (by kernel_rfl) (by kernel_rfl) (by kernel_rfl) ?f29q ?f29y hHeld ?f29r
                      case f29h => (simp only [List.getElem?_toArray, List.getElem?_cons_succ, List.getElem?_cons_zero]; rfl)
                      case f29q => exact fun _ _ _ h => h
                      case f29y => (refine Or.inl ⟨by first | kernel_rfl | rfl, ?_⟩; intro w hSw; obtain ⟨⟨x0, x1⟩, x2, x3, x4, ⟨x5, x6⟩, -, -⟩ := hSw; go_simp <;> (try with_reducible rfl))
                      try simp only [Act.put, List.setIfInBounds_toArray, List.set_cons_zero, List.set_cons_succ]
                      refine wpAnyH_take (i := 29) (oi := ?f30o) (v := ?f30v) ?f30h (by kernel_rfl) (by kernel_rfl) (by kernel_rfl) ?f30q ?f30y hHeld ?f30r
                      case f30h => (simp only [List.getElem?_toArray, List.getElem?_cons_succ, List.getElem?_cons_zero]; rfl)
                      case f30q => exact fun _ _ _ h => h
                      case f30y => (refine Or.inl ⟨by first | kernel_rfl | rfl, ?_⟩; intro w hSw; obtain ⟨⟨x0, x1⟩, x2, x3, x4, ⟨x5, x6⟩, -, -⟩ := hSw; go_simp <;> (try with_reducible rfl))
                      try simp only [Act.put, List.setIfInBounds_toArray, List.set_cons_zero, List.set_cons_succ]
                      refine wpAnyH_take (i := 31) (oi := ?f31o) (v := ?f31v) ?f31h (by kernel_rfl) (by kernel_rfl) (by kernel_rfl) ?f31q ?f31y hHeld ?f31r
                      case f31h => (simp only [List.getElem?_toArray, List.getElem?_cons_succ, List.getElem?_cons_zero]; rfl)
                      case f31q => exact fun _ _ _ h => h
                      case f31y => (refine Or.inl ⟨by first | kernel_rfl | rfl, ?_⟩; intro w hSw; obtain ⟨⟨x0, x1⟩, x2, x3, x4, ⟨x5, x6⟩, -, -⟩ := hSw; go_simp <;> (try with_reducible rfl))
                      try simp only [Act.put, List.setIfInBounds_toArray, List.set_cons_zero, List.set_cons_succ]
                      refine wpAnyH_ready (rs := [30]) (by kernel_rfl) (by simp) ?_
                      refine (AllReadyH.cons rfl (fun K hK => ?_) AllReadyH.nil)
                      go_simp
                      ((with_reducible refine (kof _ hHeld.tab).mono ?_); rintro e W2 ⟨rfl, hb2⟩)
                      refine hK.out _ _ (hHeld.keep hb2) (fun hHeld => ?_)
                      clear hK K
                      try simp only [Act.put, List.setIfInBounds_toArray, List.set_cons_zero, List.set_cons_succ]
                      refine wpAnyH_take (i := 32) (oi := ?f32o) (v := ?f32v) ?f32h (by kernel_rfl) (by kernel_rfl) (by kernel_rfl) ?f32q ?f32y hHeld ?f32r
                      case f32h => (simp only [List.getElem?_toArray, List.getElem?_cons_succ, List.getElem?_cons_zero]; rfl)
                      case f32q => exact fun _ _ _ h => h
                      case f32y => (refine Or.inl ⟨by first | kernel_rfl | rfl, ?_⟩; intro w hSw; obtain ⟨⟨x0, x1⟩, x2, x3, x4, ⟨x5, x6⟩, -, -⟩ := hSw; go_simp <;> (try with_reducible rfl))
                      try simp only [Act.put, List.setIfInBounds_toArray, List.set_cons_zero, List.set_cons_succ]
                      refine wpAnyH_take (i := 33) (oi := ?f33o) (v := ?f33v) ?f33h (by kernel_rfl) (by kernel_rfl) (by kernel_rfl) ?f33q ?f33y hHeld ?f33r
                      case f33h => (simp only [List.getElem?_toArray, List.getElem?_cons_succ, List.getElem?_cons_zero]; rfl)
                      case f33q => exact fun _ _ _ h => h
                      case f33y => (refine Or.inl ⟨by first | kernel_rfl | rfl, ?_⟩; intro w hSw; obtain ⟨⟨x0, x1⟩, x2, x3, x4, ⟨x5, x6⟩, -, -⟩ := hSw; go_simp <;> (try with_reducible rfl))
                      try simp only [Act.put, List.setIfInBounds_toArray, List.set_cons_zero, List.set_cons_succ]
                      refine wpAnyH_done (by kernel_rfl) ?_ _
                      have HPH2 := Lib.hid hHeld
                      clear hHeld
                      refine calm_n ?_
                      have hgw := HGW.out.keep HPH2.out.bel
                      have hrr := hgw.r
                      have hzz := hgw.z
                      have HKO := Lib.hid (below_keeps HPH2.out.bel)
                      clear hgw
                      gi_wp2
                      exact ⟨(HKO.out.trans (KeepsOthers.setCell _ _ _)).from _, HX.out⟩
                  · have d3 : (x.f != T) = true := by simpa using c3
                    have HX := Lib.hid (show ¬ pre ++ [x] <+: L from fun h => by have k1 := (HSX.out h).next HMP.out; rw [HTT.out] at k1; exact c3 k1)
                    clear c3
                    as_aux_lemma =>
                    refine region_round (S := (PH w2.heap.size s x kk M T Bx W)) (by kernel_rfl) (by kernel_rfl) HPH.out.drew (fun hHeld => ?_)
                    refine wpAnyH_take (i := 0) (oi := ?g1o) (v := ?g1v) ?g1h (by kernel_rfl) (by kernel_rfl) (by kernel_rfl) ?g1q ?g1y hHeld ?g1r
                    case g1h => (simp only [List.getElem?_toArray, List.getElem?_cons_zero]; rfl)
                    case g1q => exact fun _ _ _ h => h
                    case g1y => (refine Or.inl ⟨by first | kernel_rfl | rfl, ?_⟩; intro w hSw; obtain ⟨⟨x0, x1⟩, x2, x3, x4, ⟨x5, x6⟩, -, -⟩ := hSw; go_simp <;> (try with_reducible rfl))
                    try simp only [Act.put, List.setIfInBounds_toArray, List.set_cons_zero, List.set_cons_succ]
                    refine wpAnyH_take (i := 1) (oi := ?g2o) (v := ?g2v) ?g2h (by kernel_rfl) (by kernel_rfl) (by kernel_rfl) ?g2q ?g2y hHeld ?g2r
                    case g2h => (simp only [List.getElem?_toArray, List.getElem?_cons_succ, List.getElem?_cons_zero]; rfl)
                    case g2q => exact fun _ _ _ h => h
                    case g2y => (refine Or.inl ⟨by first | kernel_rfl | rfl, ?_⟩; intro w hSw; obtain ⟨⟨x0, x1⟩, x2, x3, x4, ⟨x5, x6⟩, -, -⟩ := hSw; go_simp <;> (try with_reducible rfl))
                    try simp only [Act.put, List.setIfInBounds_toArray, List.set_cons_zero, List.set_cons_succ]
                    refine wpAnyH_take (i := 2) (oi := ?g3o) (v := ?g3v) ?g3h (by kernel_rfl) (by kernel_rfl) (by kernel_rfl) ?g3q ?g3y hHeld ?g3r
                    case g3h => (simp only [List.getElem?_toArray, List.getElem?_cons_succ, List.getElem?_cons_zero]; rfl)
                    case g3q => exact fun _ _ _ h => h
                    case g3y => (refine Or.inl ⟨by first | kernel_rfl | rfl, ?_⟩; intro w hSw; obtain ⟨⟨x0, x1⟩, x2, x3, x4, ⟨x5, x6⟩, -, -⟩ := hSw; go_simp <;> (try with_reducible rfl))
                    try simp only [Act.put, List.setIfInBounds_toArray, List.set_cons_zero, List.set_cons_succ]
                    refine wpAnyH_take (i := 3) (oi := ?g4o) (v := undef) ?g4h (by kernel_rfl) (by kernel_rfl) (by kernel_rfl) ?g4q ?g4y hHeld ?g4r
                    case g4h => (simp only [List.getElem?_toArray, List.getElem?_cons_succ, List.getElem?_cons_zero]; rfl)
                    case g4q => exact fun _ _ _ h => h
                    case g4y => exact Or.inr ⟨by first | kernel_rfl | rfl, rfl⟩
                    try simp only [Act.put, List.setIfInBounds_toArray, List.set_cons_zero, List.set_cons_succ]
                    refine wpAnyH_take (i := 4) (oi := ?g5o) (v := undef) ?g5h (by kernel_rfl) (by kernel_rfl) (by kernel_rfl) ?g5q ?g5y hHeld ?g5r
                    case g5h => (simp only [List.getElem?_toArray, List.getElem?_cons_succ, List.getElem?_cons_zero]; rfl)
                    case g5q => exact fun _ _ _ h => h
                    case g5y => exact Or.inr ⟨by first | kernel_rfl | rfl, rfl⟩
                    try simp only [Act.put, List.setIfInBounds_toArray, List.set_cons_zero, List.set_cons_succ]
                    refine wpAnyH_take (i := 5) (oi := ?g6o) (v := undef) ?g6h (by kernel_rfl) (by kernel_rfl) (by kernel_rfl) ?g6q ?g6y hHeld ?g6r
                    case g6h => (simp only [List.getElem?_toArray, List.getElem?_cons_succ, List.getElem?_cons_zero]; rfl)
                    case g6q => exact fun _ _ _ h => h
                    case g6y => exact Or.inr ⟨by first | kernel_rfl | rfl, rfl⟩
                    try simp only [Act.put, List.setIfInBounds_toArray, List.set_cons_zero, List.set_cons_succ]
                    refine wpAnyH_take (i := 6) (oi := ?g7o) (v := undef) ?g7h (by kernel_rfl) (by kernel_rfl) (by kernel_rfl) ?g7q ?g7y hHeld ?g7r
                    case g7h => (simp only [List.getElem?_toArray, List.getElem?_cons_succ, List.getElem?_cons_zero]; rfl)
                    case g7q => exact fun _ _ _ h => h
                    case g7y => exact Or.inr ⟨by first | kernel_rfl | rfl, rfl⟩
                    try simp only [Act.put, List.setIfInBounds_toArray, List.set_cons_zero, List.set_cons_succ]
                    refine wpAnyH_take (i := 7) (oi := ?g8o) (v := undef) ?g8h (by kernel_rfl) (by kernel_rfl) (by kernel_rfl) ?g8q ?g8y hHeld ?g8r
                    case g8h => (simp only [List.getElem?_toArray, List.getElem?_cons_succ, List.getElem?_cons_zero]; rfl)
                    case g8q => exact fun _ _ _ h => h
                    case g8y => exact Or.inr ⟨by first | kernel_rfl | rfl, rfl⟩
                    try simp only [Act.put, List.setIfInBounds_toArray, List.set_cons_zero, List.set_cons_succ]
                    refine wpAnyH_take (i := 8) (oi := ?g9o) (v := undef) ?g9h (by kernel_rfl) (by kernel_rfl) (by kernel_rfl) ?g9q ?g9y hHeld ?g9r
                    case g9h => (simp only [List.getElem?_toArray, List.getElem?_cons_succ, List.getElem?_cons_zero]; rfl)
                    case g9q => exact fun _ _ _ h => h
                    case g9y => exact Or.inr ⟨by first | kernel_rfl | rfl, rfl⟩
                    try simp only [Act.put, List.setIfInBounds_toArray, List.set_cons_zero, List.set_cons_succ]
                    refine wpAnyH_take (i := 9) (oi := ?g10o) (v := undef) ?g10h (by kernel_rfl) (by kernel_rfl) (by kernel_rfl) ?g10q ?g10y hHeld ?g10r
                    case g10h => (simp only [List.getElem?_toArray, List.getElem?_cons_succ, List.getElem?_cons_zero]; rfl)
                    case g10q => exact fun _ _ _ h => h
                    case g10y => exact Or.inr ⟨by first | kernel_rfl | rfl, rfl⟩
                    try simp only [Act.put, List.setIfInBounds_toArray, List.set_cons_zero, List.set_cons_succ]
                    refine wpAnyH_take (i := 10) (oi := ?g11o) (v := undef) ?g11h (by kernel_rfl) (by kernel_rfl) (by kernel_rfl) ?g11q ?g11y hHeld ?g11r
                    case g11h => (simp only [List.getElem?_toArray, List.getElem?_cons_succ, List.getElem?_cons_zero]; rfl)
                    case g11q => exact fun _ _ _ h => h
                    case g11y => exact Or.inr ⟨by first | kernel_rfl | rfl, rfl⟩
                    try simp only [Act.put, List.setIfInBounds_toArray, List.set_cons_zero, List.set_cons_succ]
                    refine wpAnyH_take (i := 11) (oi := ?g12o) (v := undef) ?g12h (by kernel_rfl) (by kernel_rfl) (by kernel_rfl) ?g12q ?g12y hHeld ?g12r
                    case g12h => (simp only [List.getElem?_toArray, List.getElem?_cons_succ, List.getElem?_cons_zero]; rfl)
                    case g12q => exact fun _ _ _ h => h
                    case g12y => exact Or.inr ⟨by first | kernel_rfl | rfl, rfl⟩
                    try simp only [Act.put, List.setIfInBounds_toArray, List.set_cons_zero, List.set_cons_succ]
                    refine wpAnyH_take (i := 12) (oi := ?g13o) (v := undef) ?g13h (by kernel_rfl) (by kernel_rfl) (by kernel_rfl) ?g13q ?g13y hHeld ?g13r
                    case g13h => (simp only [List.getElem?_toArray, List.getElem?_cons_succ, List.getElem?_cons_zero]; rfl)
                    case g13q => exact fun _ _ _ h => h
                    case g13y => exact Or.inr ⟨by first | kernel_rfl | rfl, rfl⟩
                    try simp only [Act.put, List.setIfInBounds_toArray, List.set_cons_zero, List.set_cons_succ]
                    refine wpAnyH_take (i := 13) (oi := ?g14o) (v := undef) ?g14h (by kernel_rfl) (by kernel_rfl) (by kernel_rfl) ?g14q ?g14y hHeld ?g14r
                    case g14h => (simp only [List.getElem?_toArray, List.getElem?_cons_succ, List.getElem?_cons_zero]; rfl)
                    case g14q => exact fun _ _ _ h => h
                    case g14y => exact Or.inr ⟨by first | kernel_rfl | rfl, rfl⟩
                    try simp only [Act.put, List.setIfInBounds_toArray, List.set_cons_zero, List.set_cons_succ]
                    refine wpAnyH_take (i := 14) (oi := ?g15o) (v := undef) ?g15h (by kernel_rfl) (by kernel_rfl) (by kernel_rfl) ?g15q ?g15y hHeld ?g15r
                    case g15h => (simp only [List.getElem?_toArray, List.getElem?_cons_succ, List.getElem?_cons_zero]; rfl)
                    case g15q => exact fun _ _ _ h => h
                    case g15y => exact Or.inr ⟨by first | kernel_rfl | rfl, rfl⟩
                    try simp only [Act.put, List.setIfInBounds_toArray, List.set_cons_zero, List.set_cons_succ]
                    refine wpAnyH_take (i := 15) (oi := ?g16o) (v := ?g16v) ?g16h (by kernel_rfl) (by kernel_rfl) (by kernel_rfl) ?g16q ?g16y hHeld ?g16r
                    case g16h => (simp only [List.getElem?_toArray, List.getElem?_cons_succ, List.getElem?_cons_zero]; rfl)
                    case g16q => exact fun _ _ _ h => h
                    case g16y => (refine Or.inl ⟨by first | kernel_rfl | rfl, ?_⟩; intro w hSw; obtain ⟨⟨x0, x1⟩, x2, x3, x4, ⟨x5, x6⟩, -, -⟩ := hSw; go_simp <;> (try with_reducible rfl))
                    try simp only [Act.put, List.setIfInBounds_toArray, List.set_cons_zero, List.set_cons_succ]
                    refine wpAnyH_take (i := 16) (oi := ?g17o) (v := ?g17v) ?g17h (by kernel_rfl) (by kernel_rfl) (by kernel_rfl) ?g17q ?g17y hHeld ?g17r
                    case g17h => (simp only [List.getElem?_toArray, List.getElem?_cons_succ, List.getElem?_cons_zero]; rfl)
                    case g17q => exact fun _ _ _ h => h
                    case g17y => (refine Or.inl ⟨by first | kernel_rfl | rfl, ?_⟩; intro w hSw; obtain ⟨⟨x0, x1⟩, x2, x3, x4, ⟨x5, x6⟩, -, -⟩ := hSw; go_simp <;> (try with_reducible rfl))
                    try simp only [Act.put, List.setIfInBounds_toArray, List.set_cons_zero, List.set_cons_succ]
                    refine wpAnyH_take (i := 17) (oi := ?g18o) (v := ?g18v) ?g18h (by kernel_rfl) (by kernel_rfl) (by kernel_rfl) ?g18q ?g18y hHeld ?g18r
                    case g18h => (simp only [List.getElem?_toArray, List.getElem?_cons_succ, List.getElem?_cons_zero]; rfl)
                    case g18q => exact fun _ _ _ h => h
                    case g18y => (refine Or.inl ⟨by first | kernel_rfl | rfl, ?_⟩; intro w hSw; obtain ⟨⟨x0, x1⟩, x2, x3, x4, ⟨x5, x6⟩, -, -⟩ := hSw; go_simp <;> (try with_reducible rfl))
                    try simp only [Act.put, List.setIfInBounds_toArray, List.set_cons_zero, List.set_cons_succ]
                    refine wpAnyH_take (i := 18) (oi := ?g19o) (v := ?g19v) ?g19h (by kernel_rfl) (by kernel_rfl) (by kernel_rfl) ?g19q ?g19y hHeld ?g19r
                    case g19h => (simp only [List.getElem?_toArray, List.getElem?_cons_succ, List.getElem?_cons_zero]; rfl)
                    case g19q => exact fun _ _ _ h => h
                    case g19y => (refine Or.inl ⟨by first | kernel_rfl | rfl, ?_⟩; intro w hSw; obtain ⟨⟨x0, x1⟩, x2, x3, x4, ⟨x5, x6⟩, -, -⟩ := hSw; go_simp <;> (try with_reducible rfl))
                    try simp only [Act.put, List.setIfInBounds_toArray, List.set_cons_zero, List.set_cons_succ]
                    refine wpAnyH_take (i := 19) (oi := ?g20o) (v := ?g20v) ?g20h (by kernel_rfl) (by kernel_rfl) (by kernel_rfl) ?g20q ?g20y hHeld ?g20r
                    case g20h => (simp only [List.getElem?_toArray, List.getElem?_cons_succ, List.getElem?_cons_zero]; rfl)
                    case g20q => exact fun _ _ _ h => h
                    case g20y => (refine Or.inl ⟨by first | kernel_rfl | rfl, ?_⟩; intro w hSw; obtain ⟨⟨x0, x1⟩, x2, x3, x4, ⟨x5, x6⟩, -, -⟩ := hSw; go_simp <;> (try with_reducible rfl))
                    try simp only [Act.put, List.setIfInBounds_toArray, List.set_cons_zero, List.set_cons_succ]
                    refine wpAnyH_take (i := 20) (oi := ?g21o) (v := ?g21v) ?g21h (by kernel_rfl) (by kernel_rfl) (by kernel_rfl) ?g21q ?g21y hHeld ?g21r
                    case g21h => (simp only [List.getElem?_toArray, List.getElem?_cons_succ, List.getElem?_cons_zero]; rfl)
                    case g21q => exact fun _ _ _ h => h
                    case g21y => (refine Or.inl ⟨by first | kernel_rfl | rfl, ?_⟩; intro w hSw; obtain ⟨⟨x0, x1⟩, x2, x3, x4, ⟨x5, x6⟩, -, -⟩ := hSw; go_simp <;> (try with_reducible rfl))
                    try simp only [Act.put, List.setIfInBounds_toArray, List.set_cons_zero, List.set_cons_succ]
                    refine wpAnyH_take (i := 21) (oi := ?g22o) (v := ?g22v) ?g22h (by kernel_rfl) (by kernel_rfl) (by kernel_rfl) ?g22q ?g22y hHeld ?g22r
                    case g22h => (simp only [List.getElem?_toArray, List.getElem?_cons_succ, List.getElem?_cons_zero]; rfl)
                    case g22q => exact fun _ _ _ h => h
                    case g22y => (refine Or.inl ⟨by first | kernel_rfl | rfl, ?_⟩; intro w hSw; obtain ⟨⟨x0, x1⟩, x2, x3, x4, ⟨x5, x6⟩, -, -⟩ := hSw; go_simp <;> (try with_reducible rfl))
                    try simp only [Act.put, List.setIfInBounds_toArray, List.set_cons_zero, List.set_cons_succ]
                    refine wpAnyH_take (i := 22) (oi := ?g23o) (v := ?g23v) ?g23h (by kernel_rfl) (by kernel_rfl) (by kernel_rfl) ?g23q ?g23y hHeld ?g23r
                    case g23h => (simp only [List.getElem?_toArray, List.getElem?_cons_succ, List.getElem?_cons_zero]; rfl)
                    case g23q => exact fun _ _ _ h => h
                    case g23y => (refine Or.inl ⟨by first | kernel_rfl | rfl, ?_⟩; intro w hSw; obtain ⟨⟨x0, x1⟩, x2, x3, x4, ⟨x5, x6⟩, -, -⟩ := hSw; go_simp <;> (try with_reducible rfl))
                    try simp only [Act.put, List.setIfInBounds_toArray, List.set_cons_zero, List.set_cons_succ]
                    refine wpAnyH_take (i := 23) (oi := ?g24o) (v := ?g24v) ?g24h (by kernel_rfl) (by kernel_rfl) (by kernel_rfl) ?g24q ?g24y hHeld ?g24r
                    case g24h => (simp only [List.getElem?_toArray, List.getElem?_cons_succ, List.getElem?_cons_zero]; rfl)
                    case g24q => exact fun _ _ _ h => h
                    case g24y => (refine Or.inl ⟨by first | kernel_rfl | rfl, ?_⟩; intro w hSw; obtain ⟨⟨x0, x1⟩, x2, x3, x4, ⟨x5, x6⟩, -, -⟩ := hSw; go_simp <;> (try with_reducible rfl))
                    try simp only [Act.put, List.setIfInBounds_toArray, List.set_cons_zero, List.set_cons_succ]
                    refine wpAnyH_take (i := 24) (oi := ?g25o) (v := ?g25v) ?g25h (by kernel_rfl) (by kernel_rfl) (by kernel_rfl) ?g25q ?g25y hHeld ?g25r
                    case g25h => (simp only [List.getElem?_toArray, List.getElem?_cons_succ, List.getElem?_cons_zero]; rfl)
                    case g25q => exact fun _ _ _ h => h
                    case g25y => (refine Or.inl ⟨by first | kernel_rfl | rfl, ?_⟩; intro w hSw; obtain ⟨⟨x0, x1⟩, x2, x3, x4, ⟨x5, x6⟩, -, -⟩ := hSw; go_simp <;> (try with_reducible rfl))
                    try simp only [Act.put, List.setIfInBounds_toArray, List.set_cons_zero, List.set_cons_succ]
                    refine wpAnyH_take (i := 25) (oi := ?g26o) (v := ?g26v) ?g26h (by kernel_rfl) (by kernel_rfl) (by kernel_rfl) ?g26q ?g26y hHeld ?g26r
                    case g26h => (simp only [List.getElem?_toArray, List.getElem?_cons_succ, List.getElem?_cons_zero]; rfl)
                    case g26q => exact fun _ _ _ h => h
                    case g26y => (refine Or.inl ⟨by first | kernel_rfl | rfl, ?_⟩; intro w hSw; obtain ⟨⟨x0, x1⟩, x2, x3, x4, ⟨x5, x6⟩, -, -⟩ := hSw; go_simp <;> (try with_reducible rfl))
                    try simp only [Act.put, List.setIfInBounds_toArray, List.set_cons_zero, List.set_cons_succ]
                    refine wpAnyH_take (i := 26) (oi := ?g27o) (v := ?g27v) ?g27h (by kernel_rfl) (by kernel_rfl) (by kernel_rfl) ?g27q ?g27y hHeld ?g27r
                    case g27h => (simp only [List.getElem?_toArray, List.getElem?_cons_succ, List.getElem?_cons_zero]; rfl)
                    case g27q => exact fun _ _ _ h => h
                    case g27y => (refine Or.inl ⟨by first | kernel_rfl | rfl, ?_⟩; intro w hSw; obtain ⟨⟨x0, x1⟩, x2, x3, x4, ⟨x5, x6⟩, -, -⟩ := hSw; go_simp <;> (try with_reducible rfl))
                    try simp only [Act.put, List.setIfInBounds_toArray, List.set_cons_zero, List.set_cons_succ]
                    refine wpAnyH_take (i := 27) (oi := ?g28o) (v := undef) ?g28h (by kernel_rfl) (by kernel_rfl) (by kernel_rfl) ?g28q ?g28y hHeld ?g28r
                    case g28h => (simp only [List.getElem?_toArray, List.getElem?_cons_succ, List.getElem?_cons_zero]; rfl)
                    case g28q => exact fun _ _ _ h => h
                    case g28y => exact Or.inr ⟨by first | kernel_rfl | rfl, rfl⟩
                    try simp only [Act.put, List.setIfInBounds_toArray, List.set_cons_zero, List.set_cons_succ]
                    refine wpAnyH_take (i := 28) (oi := ?g29o) (v := undef) ?g29h (by kernel_rfl) (by kernel_rfl) (by kernel_rfl) ?g29q ?g29y hHeld ?g29r
                    case g29h => (simp only [List.getElem?_toArray, List.getElem?_cons_succ, List.getElem?_cons_zero]; rfl)
                    case g29q => exact fun _ _ _ h => h
                    case g29y => exact Or.inr ⟨by first | kernel_rfl | rfl, rfl⟩
                    try simp only [Act.put, List.setIfInBounds_toArray, List.set_cons_zero, List.set_cons_succ]
                    refine wpAnyH_take (i := 29) (oi := ?g30o) (v := undef) ?g30h (by kernel_rfl) (by kernel_rfl) (by kernel_rfl) ?g30q ?g30y hHeld ?g30r
                    case g30h => (simp only [List.getElem?_toArray, List.getElem?_cons_succ, List.getElem?_cons_zero]; rfl)
                    case g30q => exact fun _ _ _ h => h
                    case g30y => exact Or.inr ⟨by first | kernel_rfl | rfl, rfl⟩
                    try simp only [Act.put, List.setIfInBounds_toArray, List.set_cons_zero, List.set_cons_succ]
                    refine wpAnyH_take (i := 30) (oi := ?g31o) (v := undef) ?g31h (by kernel_rfl) (by kernel_rfl) (by kernel_rfl) ?g31q ?g31y hHeld ?g31r
                    case g31h => (simp only [List.getElem?_toArray, List.getElem?_cons_succ, List.getElem?_cons_zero]; rfl)
                    case g31q => exact fun _ _ _ h => h
                    case g31y => exact Or.inr ⟨by first | kernel_rfl | rfl, rfl⟩
                    try simp only [Act.put, List.setIfInBounds_toArray, List.set_cons_zero, List.set_cons_succ]
                    refine wpAnyH_take (i := 31) (oi := ?g32o) (v := undef) ?g32h (by kernel_rfl) (by kernel_rfl) (by kernel_rfl) ?g32q ?g32y hHeld ?g32r
                    case g32h => (simp only [List.getElem?_toArray, List.getElem?_cons_succ, List.getElem?_cons_zero]; rfl)
                    case g32q => exact fun _ _ _ h => h
                    case g32y => exact Or.inr ⟨by first | kernel_rfl | rfl, rfl⟩
                    try simp only [Act.put, List.setIfInBounds_toArray, List.set_cons_zero, List.set_cons_succ]
                    refine wpAnyH_take (i := 32) (oi := ?g33o) (v := undef) ?g33h (by kernel_rfl) (by kernel_rfl) (by kernel_rfl) ?g33q ?g33y hHeld ?g33r
                    case g33h => (simp only [List.getElem?_toArray, List.getElem?_cons_succ, List.getElem?_cons_zero]; rfl)
                    case g33q => exact fun _ _ _ h => h
                    case g33y => exact Or.inr ⟨by first | kernel_rfl | rfl, rfl⟩
                    try simp only [Act.put, List.setIfInBounds_toArray, List.set_cons_zero, List.set_cons_succ]
                    refine wpAnyH_take (i := 33) (oi := ?g34o) (v := ?g34v) ?g34h (by kernel_rfl) (by kernel_rfl) (by kernel_rfl) ?g34q ?g34y hHeld ?g34r
                    case g34h => (simp only [List.getElem?_toArray, List.getElem?_cons_succ, List.getElem?_cons_zero]; rfl)
                    case g34q => exact fun _ _ _ h => h
                    case g34y => (refine Or.inl ⟨by first | kernel_rfl | rfl, ?_⟩; intro w hSw; obtain ⟨⟨x0, x1⟩, x2, x3, x4, ⟨x5, x6⟩, -, -⟩ := hSw; go_simp <;> (try with_reducible rfl))
                    try simp only [Act.put, List.setIfInBounds_toArray, List.set_cons_zero, List.set_cons_succ]
                    refine wpAnyH_done (by kernel_rfl) ?_ _
                    have HPH2 := Lib.hid hHeld
                    clear hHeld
                    refine calm_n ?_
                    have hgw := HGW.out.keep HPH2.out.bel
                    have hrr := hgw.r
                    have hzz := hgw.z
                    have HKO := Lib.hid (below_keeps HPH2.out.bel)
                    clear hgw
                    gi_wp2
                    exact ⟨(HKO.out.trans (KeepsOthers.setCell _ _ _)).from _, HX.out⟩
              case done =>
                rintro D ys W hD hys ⟨hm, hl, hB⟩ hK
                have e : ys = L := by rw [← HLL.out]; exact hys
                subst e
                exact hrest D W ⟨HG5.out.upto hB (by omega) (HE.out.tab.below hB (by have := hT.room; omega)), under HS5.out hB (by omega), (hB.cell (p := ⟨w2.heap.size + 1, 0, none⟩) (by show w2.heap.size + 1 < _; omega)).trans HK5.out, hm.cell, hl.cell, hK, by omega⟩
              case stop =>
                rintro D c pre W hD hpre hx hK
                exact absurd (by rw [← HLL.out]; exact hpre) hx
theorem walk (t fr q0 q1 : Int) (w : World) (ht : -9223372036854775808 ≤ t ∧ t ≤ 9223372036854775807) (hf : -9223372036854775808 ≤ fr ∧ fr ≤ 9223372036854775807) (hq0 : -9223372036854775808 ≤ q0 ∧ q0 ≤ 9223372036854775807) (hq1 : -9223372036854775808 ≤ q1 ∧ q1 ≤ 9223372036854775807) (hT : Tab w) :
    Calls Tryd.prog 6 #[.int .i64 t, .int .i64 fr, .agg #[.int .i64 q0, .int .i64 q1]] w fun e w' => e = .returned (.bool true) ∧ Below w.heap.size w w' := callsIn_wide.1 (inside t fr q0 q1 w ht hf hq0 hq1 hT)
end Go.Proofs.YtdkenokjdiamhaaDoor.windowParts
