/- The walk of law WindowMeets. -/
import Derived.Test.YtdkenokjdiamhaaDoorWindowAwake
import Derived.Test.YtdkenokjdiamhaaDoorWindowArgs
import Derived.Deep.RegionHeld
set_option maxRecDepth 20000
namespace Go.Proofs.YtdkenokjdiamhaaDoor
open Go.RowKit

/-- Held: the two spans, what is in both, each in its block. -/
structure M3 (w : World) (p q r : Nat) (x y c : Sp) (wr : World) : Prop where
  xs : SpAt wr p x
  ys : SpAt wr q y
  cs : SpAt wr r c
  bel : Below w.heap.size w wr
theorem M3.keep {w w1 w2 : World} {p q r : Nat} {x y c : Sp} (h : M3 w p q r x y c w1) (k : Below w1.heap.size w1 w2) : M3 w p q r x y c w2 := ⟨h.xs.below k, h.ys.below k, h.cs.below k, bel_next h.bel k⟩
theorem M3.drew {w w1 : World} {p q r : Nat} {x y c : Sp} (h : M3 w p q r x y c w1) : M3 w p q r x y c w1.drew := h.keep ((Below.refl _ _).drew)
/-- A call in its block. -/
theorem OpO.new (w : World) (a : OpI) : OpO (w.alloc (.cells #[.int .i64 a.k, .int .i64 a.f, .int .i64 a.n] 51)) w.heap.size 0 a := by constructor <;> simp [go_sem]
theorem errI_of {s : Sp} (w : World) : Calls Tryd.prog 22 #[s.v] w fun e w' => e = .returned (.int .i64 (errI s.is)) ∧ Below w.heap.size w w' := check_is s _ w (Lib.hid rfl)

set_option maxHeartbeats 8000000 in
theorem windowMeets.walk (a b : OpI) (w : World) (_ha : a.fits) (_hb : b.fits) (hT : Tab w) :
    Calls Tryd.prog 7 #[a.v, b.v] w fun e w' => e = .returned (.bool true) ∧ Below w.heap.size w w' := by
  have hA0 := OpO.new w a
  have hB0 := OpO.new (w.alloc (.cells #[.int .i64 a.k, .int .i64 a.f, .int .i64 a.n] 51)) b
  have hbel0 := bel_new ((Below.refl w.heap.size w).alloc (Nat.le_refl _) (.cells #[.int .i64 a.k, .int .i64 a.f, .int .i64 a.n] 51)) (.cells #[.int .i64 b.k, .int .i64 b.f, .int .i64 b.n] 51)
  have hA1 := hA0.below ((Below.refl (w.alloc (.cells #[.int .i64 a.k, .int .i64 a.f, .int .i64 a.n] 51)).heap.size (w.alloc (.cells #[.int .i64 a.k, .int .i64 a.f, .int .i64 a.n] 51))).alloc (Nat.le_refl _) (.cells #[.int .i64 b.k, .int .i64 b.f, .int .i64 b.n] 51)) hA0.room
  have hT0 := hT.next hbel0
  have hB1 : OpO ((w.alloc (.cells #[.int .i64 a.k, .int .i64 a.f, .int .i64 a.n] 51)).alloc (.cells #[.int .i64 b.k, .int .i64 b.f, .int .i64 b.n] 51)) (w.heap.size + 1) 0 b := by simpa using hB0
  have k0 := fun w h => awake_is w h
  obtain ⟨x, hx⟩ : ∃ x, a.sp = x := ⟨_, rfl⟩
  obtain ⟨y, hy⟩ : ∃ y, b.sp = y := ⟨_, rfl⟩
  have kx := fun w => span_is a.k a.f a.n x w (Lib.hid hx)
  have ky := fun w => span_is b.k b.f b.n y w (Lib.hid hy)
  have xb := opSp_bounds a.f a.n
  have yb := opSp_bounds b.f b.n
  rw [show opSp a.f a.n = x from hx] at xb
  rw [show opSp b.f b.n = y from hy] at yb
  obtain ⟨c, hc⟩ : ∃ c, bothI x y = c := ⟨_, rfl⟩
  have kb1 := fun w => both_is x y c w (Lib.hid hc)
  have kb2 := fun w => both_is y x c w (Lib.hid (by rw [both_turn]; exact hc))
  have km1 := fun w => meets_is x y _ w (Lib.hid (meets_both x y))
  have km2 := fun w => meets_is y x _ w (Lib.hid (meets_both y x))
  rw [both_turn y x] at km2
  rw [hc] at km1 km2
  have kcx := fun w => check_is x _ w (Lib.hid rfl)
  have kcy := fun w => check_is y _ w (Lib.hid rfl)
  have HH := Lib.hid (show OpO ((w.alloc (.cells #[.int .i64 a.k, .int .i64 a.f, .int .i64 a.n] 51)).alloc (.cells #[.int .i64 b.k, .int .i64 b.f, .int .i64 b.n] 51)) w.heap.size 0 a ∧ OpO ((w.alloc (.cells #[.int .i64 a.k, .int .i64 a.f, .int .i64 a.n] 51)).alloc (.cells #[.int .i64 b.k, .int .i64 b.f, .int .i64 b.n] 51)) (w.heap.size + 1) 0 b from ⟨hA1, hB1⟩)
  have HB0 := Lib.hid hbel0
  have HT0 := Lib.hid hT0
  have HIN := Lib.hid (fun (h1 : x.is = true) (h2 : y.is = true) (k : Int) => both_in h1 h2 k)
  rw [hc] at HIN
  have q : ∀ w, (binOp .eql 26 (.agg #[.int .i64 c.f, .int .i64 c.t]) (.agg #[.int .i64 c.f, .int .i64 c.t])).run Tryd.prog w = .ok (.bool true) w := fun w => by rw [sp_eql c c w, Sp.same_iff.2 rfl]
  unfold OpI.v
  unfold Sp.v at kx ky kb1 kb2 km1 km2 kcx kcy
  clear hA0 hB0 hbel0 hA1 hB1 hT0 hx hy hc
  cases hxi : x.is with
  | false =>
    rw [hxi] at kcx
    rw [show errI false = 1 from rfl] at kcx
    go_enter Tryd.func7, Tryd.ntmps7
    go_wp2_with (first
      | (go_at_call 10; (with_reducible refine (k0 _ HT0.out).mono ?_); rintro e w1 ⟨rfl, hb⟩; (have HB1 := Lib.hid (bel_next HB0.out hb)); (have HOA := Lib.hid (HH.out.1.below hb HH.out.1.room)); (have HOB := Lib.hid (HH.out.2.below hb HH.out.2.room)); (have hoa := HOA.out); (obtain ⟨a0, a1, a2⟩ := hoa); clear hb)
      | (go_at_call 34; first
        | ((with_reducible refine (kx _).mono ?_); rintro e w2 ⟨rfl, hb⟩; (have HB2 := Lib.hid (bel_new (bel_next HB1.out hb) (.cells #[.int .i64 x.f, .int .i64 x.t] 26))); (have HX2 := Lib.hid (SpAt.new w2 x 26)); (have hal := Below.alloc hb hb.size (.cells #[.int .i64 x.f, .int .i64 x.t] 26)); (have HOB2 := Lib.hid (HOB.out.below hal HOB.out.room)); (have hob := HOB2.out); (obtain ⟨b0, b1, b2⟩ := hob); (have hr1 := HOB.out.room); (have hs1 := hb.size); (have hne1 : ¬ w.heap.size + 1 = w2.heap.size := by omega); (have hne2 : ¬ w2.heap.size = w.heap.size + 1 := by omega); clear hb hal hr1 hs1)
        | ((with_reducible refine (ky _).mono ?_); rintro e w3 ⟨rfl, hb⟩; (have HB3 := Lib.hid (bel_new (bel_next HB2.out hb) (.cells #[.int .i64 y.f, .int .i64 y.t] 26))); (have hal := Below.alloc hb hb.size (.cells #[.int .i64 y.f, .int .i64 y.t] 26)); (have HX3 := Lib.hid (HX2.out.below hal)); (have HY3 := Lib.hid (SpAt.new w3 y 26)); (have hx3 := HX3.out); (obtain ⟨x0, x1⟩ := hx3); (have hs2 := hb.size); (have hs3 : w2.heap.size < w3.heap.size := by simp at hs2; omega); (have hne3 : ¬ w2.heap.size = w3.heap.size := by omega); (have hne4 : ¬ w3.heap.size = w2.heap.size := by omega); clear hb hal hs2))
      | (go_at_call 22; first
        | ((with_reducible refine (kcx _).mono ?_); rintro e w4 ⟨rfl, hb⟩; (have HB4 := Lib.hid (bel_next HB3.out hb)); (have HX4 := Lib.hid (HX3.out.below hb)); (have HY4 := Lib.hid (HY3.out.below hb)); (have hx4 := HX4.out); (obtain ⟨x0, x1⟩ := hx4); (have hy4 := HY4.out); (obtain ⟨y0, y1⟩ := hy4); clear hb)
        | ((with_reducible refine (kcy _).mono ?_); rintro e w5 ⟨rfl, hb⟩; (have HB5 := Lib.hid (bel_next HB4.out hb)); (have HX5 := Lib.hid (HX4.out.below hb)); (have HY5 := Lib.hid (HY4.out.below hb)); (have hx5 := HX5.out); (obtain ⟨x0, x1⟩ := hx5); (have hy5 := HY5.out); (obtain ⟨y0, y1⟩ := hy5); clear hb))
    )
    go_ret
    exact ⟨rfl, HB4.out⟩
  | true =>
    rw [hxi] at kcx
    rw [show errI true = 0 from rfl] at kcx
    cases hyi : y.is with
    | false =>
      rw [hyi] at kcy
      rw [show errI false = 1 from rfl] at kcy
      go_enter Tryd.func7, Tryd.ntmps7
      go_wp2_with (first
        | (go_at_call 10; (with_reducible refine (k0 _ HT0.out).mono ?_); rintro e w1 ⟨rfl, hb⟩; (have HB1 := Lib.hid (bel_next HB0.out hb)); (have HOA := Lib.hid (HH.out.1.below hb HH.out.1.room)); (have HOB := Lib.hid (HH.out.2.below hb HH.out.2.room)); (have hoa := HOA.out); (obtain ⟨a0, a1, a2⟩ := hoa); clear hb)
        | (go_at_call 34; first
          | ((with_reducible refine (kx _).mono ?_); rintro e w2 ⟨rfl, hb⟩; (have HB2 := Lib.hid (bel_new (bel_next HB1.out hb) (.cells #[.int .i64 x.f, .int .i64 x.t] 26))); (have HX2 := Lib.hid (SpAt.new w2 x 26)); (have hal := Below.alloc hb hb.size (.cells #[.int .i64 x.f, .int .i64 x.t] 26)); (have HOB2 := Lib.hid (HOB.out.below hal HOB.out.room)); (have hob := HOB2.out); (obtain ⟨b0, b1, b2⟩ := hob); (have hr1 := HOB.out.room); (have hs1 := hb.size); (have hne1 : ¬ w.heap.size + 1 = w2.heap.size := by omega); (have hne2 : ¬ w2.heap.size = w.heap.size + 1 := by omega); clear hb hal hr1 hs1)
          | ((with_reducible refine (ky _).mono ?_); rintro e w3 ⟨rfl, hb⟩; (have HB3 := Lib.hid (bel_new (bel_next HB2.out hb) (.cells #[.int .i64 y.f, .int .i64 y.t] 26))); (have hal := Below.alloc hb hb.size (.cells #[.int .i64 y.f, .int .i64 y.t] 26)); (have HX3 := Lib.hid (HX2.out.below hal)); (have HY3 := Lib.hid (SpAt.new w3 y 26)); (have hx3 := HX3.out); (obtain ⟨x0, x1⟩ := hx3); (have hs2 := hb.size); (have hs3 : w2.heap.size < w3.heap.size := by simp at hs2; omega); (have hne3 : ¬ w2.heap.size = w3.heap.size := by omega); (have hne4 : ¬ w3.heap.size = w2.heap.size := by omega); clear hb hal hs2))
        | (go_at_call 22; first
          | ((with_reducible refine (kcx _).mono ?_); rintro e w4 ⟨rfl, hb⟩; (have HB4 := Lib.hid (bel_next HB3.out hb)); (have HX4 := Lib.hid (HX3.out.below hb)); (have HY4 := Lib.hid (HY3.out.below hb)); (have hx4 := HX4.out); (obtain ⟨x0, x1⟩ := hx4); (have hy4 := HY4.out); (obtain ⟨y0, y1⟩ := hy4); clear hb)
          | ((with_reducible refine (kcy _).mono ?_); rintro e w5 ⟨rfl, hb⟩; (have HB5 := Lib.hid (bel_next HB4.out hb)); (have HX5 := Lib.hid (HX4.out.below hb)); (have HY5 := Lib.hid (HY4.out.below hb)); (have hx5 := HX5.out); (obtain ⟨x0, x1⟩ := hx5); (have hy5 := HY5.out); (obtain ⟨y0, y1⟩ := hy5); clear hb))
      )
      go_ret
      exact ⟨rfl, HB5.out⟩
    | true =>
      rw [hyi] at kcy
      rw [show errI true = 0 from rfl] at kcy
      have hin := HIN.out hxi hyi
      have HIN2 := Lib.hid hin
      clear hin HIN
      go_enter Tryd.func7, Tryd.ntmps7
      go_wp2_with (first
        | (go_at_call 10; (with_reducible refine (k0 _ HT0.out).mono ?_); rintro e w1 ⟨rfl, hb⟩; (have HB1 := Lib.hid (bel_next HB0.out hb)); (have HOA := Lib.hid (HH.out.1.below hb HH.out.1.room)); (have HOB := Lib.hid (HH.out.2.below hb HH.out.2.room)); (have hoa := HOA.out); (obtain ⟨a0, a1, a2⟩ := hoa); clear hb)
        | (go_at_call 34; first
          | ((with_reducible refine (kx _).mono ?_); rintro e w2 ⟨rfl, hb⟩; (have HB2 := Lib.hid (bel_new (bel_next HB1.out hb) (.cells #[.int .i64 x.f, .int .i64 x.t] 26))); (have HX2 := Lib.hid (SpAt.new w2 x 26)); (have hal := Below.alloc hb hb.size (.cells #[.int .i64 x.f, .int .i64 x.t] 26)); (have HOB2 := Lib.hid (HOB.out.below hal HOB.out.room)); (have hob := HOB2.out); (obtain ⟨b0, b1, b2⟩ := hob); (have hr1 := HOB.out.room); (have hs1 := hb.size); (have hne1 : ¬ w.heap.size + 1 = w2.heap.size := by omega); (have hne2 : ¬ w2.heap.size = w.heap.size + 1 := by omega); clear hb hal hr1 hs1)
          | ((with_reducible refine (ky _).mono ?_); rintro e w3 ⟨rfl, hb⟩; (have HB3 := Lib.hid (bel_new (bel_next HB2.out hb) (.cells #[.int .i64 y.f, .int .i64 y.t] 26))); (have hal := Below.alloc hb hb.size (.cells #[.int .i64 y.f, .int .i64 y.t] 26)); (have HX3 := Lib.hid (HX2.out.below hal)); (have HY3 := Lib.hid (SpAt.new w3 y 26)); (have hx3 := HX3.out); (obtain ⟨x0, x1⟩ := hx3); (have hs2 := hb.size); (have hs3 : w2.heap.size < w3.heap.size := by simp at hs2; omega); (have hne3 : ¬ w2.heap.size = w3.heap.size := by omega); (have hne4 : ¬ w3.heap.size = w2.heap.size := by omega); clear hb hal hs2))
        | (go_at_call 22; first
          | ((with_reducible refine (kcx _).mono ?_); rintro e w4 ⟨rfl, hb⟩; (have HB4 := Lib.hid (bel_next HB3.out hb)); (have HX4 := Lib.hid (HX3.out.below hb)); (have HY4 := Lib.hid (HY3.out.below hb)); (have hx4 := HX4.out); (obtain ⟨x0, x1⟩ := hx4); (have hy4 := HY4.out); (obtain ⟨y0, y1⟩ := hy4); clear hb)
          | ((with_reducible refine (kcy _).mono ?_); rintro e w5 ⟨rfl, hb⟩; (have HB5 := Lib.hid (bel_next HB4.out hb)); (have HX5 := Lib.hid (HX4.out.below hb)); (have HY5 := Lib.hid (HY4.out.below hb)); (have hx5 := HX5.out); (obtain ⟨x0, x1⟩ := hx5); (have hy5 := HY5.out); (obtain ⟨y0, y1⟩ := hy5); clear hb))
        | (go_at_call 31; (with_reducible refine (kb1 _).mono ?_); rintro e w6 ⟨rfl, hb⟩; (have hal := Below.alloc hb hb.size (.cells #[.int .i64 c.f, .int .i64 c.t] 26)); (have H6 : Hid (M3 w w2.heap.size w3.heap.size w6.heap.size x y c (w6.alloc (.cells #[.int .i64 c.f, .int .i64 c.t] 26))) := Lib.hid ⟨HX5.out.below hal, HY5.out.below hal, SpAt.new w6 c 26, bel_new (bel_next HB5.out hb) _⟩); clear hb hal))
      go_loopw [9] (fun i wr => ∃ k : Nat, i = .int .i64 (k : Int) ∧ k ≤ 520 ∧ wr = w6.alloc (.cells #[.int .i64 c.f, .int .i64 c.t] 26)) (fun i _ => 520 - (intOf i).toNat)
      case atStart => exact ⟨0, rfl, by omega, rfl⟩
      case round =>
        obtain ⟨k, rfl, hk, hw⟩ := hrel
        obtain ⟨w9, hw9⟩ : ∃ x, x = wr := ⟨_, rfl⟩
        subst hw9
        have H9 : Hid (M3 w w2.heap.size w3.heap.size w6.heap.size x y c w9) := by rw [hw]; exact H6
        have HW := Lib.hid hw
        clear hw
        by_cases hlt : k < 520
        · have hlti : (k : Int) < 520 := by omega
          have h9 := H9.out
          obtain ⟨⟨x0, x1⟩, ⟨y0, y1⟩, ⟨c0, c1⟩, -⟩ := h9
          have hkk := HIN2.out (k : Int)
          have hwk : IntKind.i64.wrap ((k : Int) + 1) = (k : Int) + 1 := by rw [IntKind.wrap_i64]; omega
          by_cases ht0 : x.f ≤ (k : Int)
          ·
            by_cases ht1 : (k : Int) < x.t
            ·
              by_cases ht2 : y.f ≤ (k : Int)
              ·
                by_cases ht3 : (k : Int) < y.t
                ·
                  have hc1 : c.f ≤ (k : Int) := by omega
                  have hc2 : (k : Int) < c.t := by omega
                  clear hkk
                  go_wp2
                  go_roundw
                  case rel => exact ⟨k + 1, by go_num, hlt, HW.out⟩
                  case measure => simp [intOf]; omega
                ·
                  by_cases hc1 : c.f ≤ (k : Int)
                  · have hc2 : ¬ (k : Int) < c.t := by omega
                    clear hkk
                    go_wp2
                    go_roundw
                    case rel => exact ⟨k + 1, by go_num, hlt, HW.out⟩
                    case measure => simp [intOf]; omega
                  · clear hkk
                    go_wp2
                    go_roundw
                    case rel => exact ⟨k + 1, by go_num, hlt, HW.out⟩
                    case measure => simp [intOf]; omega
              ·
                by_cases hc1 : c.f ≤ (k : Int)
                · have hc2 : ¬ (k : Int) < c.t := by omega
                  clear hkk
                  go_wp2
                  go_roundw
                  case rel => exact ⟨k + 1, by go_num, hlt, HW.out⟩
                  case measure => simp [intOf]; omega
                · clear hkk
                  go_wp2
                  go_roundw
                  case rel => exact ⟨k + 1, by go_num, hlt, HW.out⟩
                  case measure => simp [intOf]; omega
            ·
              by_cases hc1 : c.f ≤ (k : Int)
              · have hc2 : ¬ (k : Int) < c.t := by omega
                clear hkk
                go_wp2
                go_roundw
                case rel => exact ⟨k + 1, by go_num, hlt, HW.out⟩
                case measure => simp [intOf]; omega
              · clear hkk
                go_wp2
                go_roundw
                case rel => exact ⟨k + 1, by go_num, hlt, HW.out⟩
                case measure => simp [intOf]; omega
          ·
            by_cases hc1 : c.f ≤ (k : Int)
            · have hc2 : ¬ (k : Int) < c.t := by omega
              clear hkk
              go_wp2
              go_roundw
              case rel => exact ⟨k + 1, by go_num, hlt, HW.out⟩
              case measure => simp [intOf]; omega
            · clear hkk
              go_wp2
              go_roundw
              case rel => exact ⟨k + 1, by go_num, hlt, HW.out⟩
              case measure => simp [intOf]; omega
        · have hlti : ¬ (k : Int) < 520 := by omega
          cases hz : decide (c.f < c.t) with
          | true =>
            have hlt2 : c.f < c.t := of_decide_eq_true hz
            rw [hz] at km1 km2
            clear hz
            go_wp2_with fail
            refine wp_region_held_drew (S := (M3 w w2.heap.size w3.heap.size w6.heap.size x y c)) (by kernel_rfl) H9.out.drew (fun hHeld => ?_)
            refine wpAnyH_take (i := 0) (oi := ?om11o) (v := ?om11v) ?om11h (by kernel_rfl) (by kernel_rfl) (by kernel_rfl) ?om11q ?om11y hHeld ?om11r
            case om11h => (simp only [List.getElem?_toArray, List.getElem?_cons_zero]; rfl)
            case om11q => exact fun _ _ _ h => h
            case om11y => (refine Or.inl ⟨by first | kernel_rfl | rfl, ?_⟩; intro w hSw; (try dsimp only at hSw); obtain ⟨⟨x0, x1⟩, ⟨y0, y1⟩, ⟨c0, c1⟩, -⟩ := hSw; go_simp <;> (try with_reducible rfl))
            try simp only [Act.put, List.setIfInBounds_toArray, List.set_cons_zero, List.set_cons_succ]
            refine wpAnyH_take (i := 1) (oi := ?om12o) (v := ?om12v) ?om12h (by kernel_rfl) (by kernel_rfl) (by kernel_rfl) ?om12q ?om12y hHeld ?om12r
            case om12h => (simp only [List.getElem?_toArray, List.getElem?_cons_succ, List.getElem?_cons_zero]; rfl)
            case om12q => exact fun _ _ _ h => h
            case om12y => (refine Or.inl ⟨by first | kernel_rfl | rfl, ?_⟩; intro w hSw; (try dsimp only at hSw); obtain ⟨⟨x0, x1⟩, ⟨y0, y1⟩, ⟨c0, c1⟩, -⟩ := hSw; go_simp <;> (try with_reducible rfl))
            try simp only [Act.put, List.setIfInBounds_toArray, List.set_cons_zero, List.set_cons_succ]
            refine wpAnyH_take (i := 2) (oi := ?om13o) (v := ?om13v) ?om13h (by kernel_rfl) (by kernel_rfl) (by kernel_rfl) ?om13q ?om13y hHeld ?om13r
            case om13h => (simp only [List.getElem?_toArray, List.getElem?_cons_succ, List.getElem?_cons_zero]; rfl)
            case om13q => exact fun _ _ _ h => h
            case om13y => (refine Or.inl ⟨by first | kernel_rfl | rfl, ?_⟩; intro w hSw; (try dsimp only at hSw); obtain ⟨⟨x0, x1⟩, ⟨y0, y1⟩, ⟨c0, c1⟩, -⟩ := hSw; go_simp <;> (try with_reducible rfl))
            try simp only [Act.put, List.setIfInBounds_toArray, List.set_cons_zero, List.set_cons_succ]
            refine wpAnyH_take (i := 3) (oi := ?om14o) (v := ?om14v) ?om14h (by kernel_rfl) (by kernel_rfl) (by kernel_rfl) ?om14q ?om14y hHeld ?om14r
            case om14h => (simp only [List.getElem?_toArray, List.getElem?_cons_succ, List.getElem?_cons_zero]; rfl)
            case om14q => exact fun _ _ _ h => h
            case om14y => (refine Or.inl ⟨by first | kernel_rfl | rfl, ?_⟩; intro w hSw; (try dsimp only at hSw); obtain ⟨⟨x0, x1⟩, ⟨y0, y1⟩, ⟨c0, c1⟩, -⟩ := hSw; go_simp <;> (try with_reducible rfl))
            try simp only [Act.put, List.setIfInBounds_toArray, List.set_cons_zero, List.set_cons_succ]
            refine wpAnyH_take (i := 4) (oi := ?om15o) (v := ?om15v) ?om15h (by kernel_rfl) (by kernel_rfl) (by kernel_rfl) ?om15q ?om15y hHeld ?om15r
            case om15h => (simp only [List.getElem?_toArray, List.getElem?_cons_succ, List.getElem?_cons_zero]; rfl)
            case om15q => exact fun _ _ _ h => h
            case om15y => (refine Or.inl ⟨by first | kernel_rfl | rfl, ?_⟩; intro w hSw; (try dsimp only at hSw); obtain ⟨⟨x0, x1⟩, ⟨y0, y1⟩, ⟨c0, c1⟩, -⟩ := hSw; go_simp <;> (try with_reducible rfl))
            try simp only [Act.put, List.setIfInBounds_toArray, List.set_cons_zero, List.set_cons_succ]
            refine wpAnyH_ready (rs := [5]) (by kernel_rfl) (by simp) ?_
            refine (AllReadyH.cons rfl (fun K hK => ?_) AllReadyH.nil)
            go_simp
            ((with_reducible refine (kb2 _).mono ?_); rintro e w' ⟨rfl, hb'⟩)
            refine hK.out _ _ (hHeld.keep hb') (fun hHeld => ?_)
            clear hK K
            try simp only [Act.put, List.setIfInBounds_toArray, List.set_cons_zero, List.set_cons_succ]
            refine wpAnyH_take (i := 6) (oi := ?om16o) (v := ?om16v) ?om16h (by kernel_rfl) (by kernel_rfl) (by kernel_rfl) ?om16q ?om16y hHeld ?om16r
            case om16h => (simp only [List.getElem?_toArray, List.getElem?_cons_succ, List.getElem?_cons_zero]; rfl)
            case om16q => exact fun _ _ _ h => h
            case om16y => (refine Or.inl ⟨by first | kernel_rfl | rfl, ?_⟩; intro w hSw; (try dsimp only at hSw); obtain ⟨⟨x0, x1⟩, ⟨y0, y1⟩, ⟨c0, c1⟩, -⟩ := hSw; go_simp <;> (try with_reducible rfl))
            try simp only [Act.put, List.setIfInBounds_toArray, List.set_cons_zero, List.set_cons_succ]
            refine wpAnyH_take (i := 7) (oi := ?om17o) (v := ?om17v) ?om17h (by kernel_rfl) (by kernel_rfl) (by kernel_rfl) ?om17q ?om17y hHeld ?om17r
            case om17h => (simp only [List.getElem?_toArray, List.getElem?_cons_succ, List.getElem?_cons_zero]; rfl)
            case om17q => exact fun _ _ _ h => h
            case om17y => (refine Or.inl ⟨by first | kernel_rfl | rfl, ?_⟩; intro w hSw; (try dsimp only at hSw); obtain ⟨⟨x0, x1⟩, ⟨y0, y1⟩, ⟨c0, c1⟩, -⟩ := hSw; go_simp <;> (try with_reducible rfl))
            try simp only [Act.put, List.setIfInBounds_toArray, List.set_cons_zero, List.set_cons_succ]
            refine wpAnyH_take (i := 8) (oi := ?om18o) (v := ?om18v) ?om18h (by kernel_rfl) (by kernel_rfl) (by kernel_rfl) ?om18q ?om18y hHeld ?om18r
            case om18h => (simp only [List.getElem?_toArray, List.getElem?_cons_succ, List.getElem?_cons_zero]; rfl)
            case om18q => exact fun _ _ _ h => h
            case om18y => (refine Or.inl ⟨by first | kernel_rfl | rfl, ?_⟩; intro w hSw; (try dsimp only at hSw); obtain ⟨⟨x0, x1⟩, ⟨y0, y1⟩, ⟨c0, c1⟩, -⟩ := hSw; go_simp <;> (try with_reducible rfl))
            try simp only [Act.put, List.setIfInBounds_toArray, List.set_cons_zero, List.set_cons_succ]
            refine wpAnyH_take (i := 9) (oi := ?om19o) (v := ?om19v) ?om19h (by kernel_rfl) (by kernel_rfl) (by kernel_rfl) ?om19q ?om19y hHeld ?om19r
            case om19h => (simp only [List.getElem?_toArray, List.getElem?_cons_succ, List.getElem?_cons_zero]; rfl)
            case om19q => exact fun _ _ _ h => h
            case om19y => (refine Or.inl ⟨by first | kernel_rfl | rfl, ?_⟩; intro w hSw; (try dsimp only at hSw); obtain ⟨⟨x0, x1⟩, ⟨y0, y1⟩, ⟨c0, c1⟩, -⟩ := hSw; go_simp <;> (try with_reducible rfl))
            try simp only [Act.put, List.setIfInBounds_toArray, List.set_cons_zero, List.set_cons_succ]
            refine wpAnyH_take (i := 10) (oi := ?om110o) (v := ?om110v) ?om110h (by kernel_rfl) (by kernel_rfl) (by kernel_rfl) ?om110q ?om110y hHeld ?om110r
            case om110h => (simp only [List.getElem?_toArray, List.getElem?_cons_succ, List.getElem?_cons_zero]; rfl)
            case om110q => exact fun _ _ _ h => h
            case om110y => (refine Or.inl ⟨by first | kernel_rfl | rfl, ?_⟩; intro w hSw; (try dsimp only at hSw); obtain ⟨⟨x0, x1⟩, ⟨y0, y1⟩, ⟨c0, c1⟩, -⟩ := hSw; go_simp <;> (try with_reducible rfl))
            try simp only [Act.put, List.setIfInBounds_toArray, List.set_cons_zero, List.set_cons_succ]
            refine wpAnyH_take (i := 12) (oi := ?om111o) (v := ?om111v) ?om111h (by kernel_rfl) (by kernel_rfl) (by kernel_rfl) ?om111q ?om111y hHeld ?om111r
            case om111h => (simp only [List.getElem?_toArray, List.getElem?_cons_succ, List.getElem?_cons_zero]; rfl)
            case om111q => exact fun _ _ _ h => h
            case om111y => (refine Or.inl ⟨by first | kernel_rfl | rfl, ?_⟩; intro w hSw; (try dsimp only at hSw); obtain ⟨⟨x0, x1⟩, ⟨y0, y1⟩, ⟨c0, c1⟩, -⟩ := hSw; go_simp <;> (try with_reducible rfl))
            try simp only [Act.put, List.setIfInBounds_toArray, List.set_cons_zero, List.set_cons_succ]
            refine wpAnyH_take (i := 13) (oi := ?om112o) (v := ?om112v) ?om112h (by kernel_rfl) (by kernel_rfl) (by kernel_rfl) ?om112q ?om112y hHeld ?om112r
            case om112h => (simp only [List.getElem?_toArray, List.getElem?_cons_succ, List.getElem?_cons_zero]; rfl)
            case om112q => exact fun _ _ _ h => h
            case om112y => (refine Or.inl ⟨by first | kernel_rfl | rfl, ?_⟩; intro w hSw; (try dsimp only at hSw); obtain ⟨⟨x0, x1⟩, ⟨y0, y1⟩, ⟨c0, c1⟩, -⟩ := hSw; go_simp <;> (try with_reducible rfl))
            try simp only [Act.put, List.setIfInBounds_toArray, List.set_cons_zero, List.set_cons_succ]
            refine wpAnyH_ready (rs := [11]) (by kernel_rfl) (by simp) ?_
            refine (AllReadyH.cons rfl (fun K hK => ?_) AllReadyH.nil)
            go_simp
            ((with_reducible refine (km1 _).mono ?_); rintro e w' ⟨rfl, hb'⟩)
            refine hK.out _ _ (hHeld.keep hb') (fun hHeld => ?_)
            clear hK K
            try simp only [Act.put, List.setIfInBounds_toArray, List.set_cons_zero, List.set_cons_succ]
            refine wpAnyH_ready (rs := [14]) (by kernel_rfl) (by simp) ?_
            refine (AllReadyH.cons rfl (fun K hK => ?_) AllReadyH.nil)
            go_simp
            ((with_reducible refine (km2 _).mono ?_); rintro e w' ⟨rfl, hb'⟩)
            refine hK.out _ _ (hHeld.keep hb') (fun hHeld => ?_)
            clear hK K
            try simp only [Act.put, List.setIfInBounds_toArray, List.set_cons_zero, List.set_cons_succ]
            refine wpAnyH_take (i := 15) (oi := ?om113o) (v := ?om113v) ?om113h (by kernel_rfl) (by kernel_rfl) (by kernel_rfl) ?om113q ?om113y hHeld ?om113r
            case om113h => (simp only [List.getElem?_toArray, List.getElem?_cons_succ, List.getElem?_cons_zero]; rfl)
            case om113q => exact fun _ _ _ h => h
            case om113y => (refine Or.inl ⟨by first | kernel_rfl | rfl, ?_⟩; intro w hSw; (try dsimp only at hSw); obtain ⟨⟨x0, x1⟩, ⟨y0, y1⟩, ⟨c0, c1⟩, -⟩ := hSw; go_simp <;> (try with_reducible rfl))
            try simp only [Act.put, List.setIfInBounds_toArray, List.set_cons_zero, List.set_cons_succ]
            refine wpAnyH_take (i := 16) (oi := ?om114o) (v := ?om114v) ?om114h (by kernel_rfl) (by kernel_rfl) (by kernel_rfl) ?om114q ?om114y hHeld ?om114r
            case om114h => (simp only [List.getElem?_toArray, List.getElem?_cons_succ, List.getElem?_cons_zero]; rfl)
            case om114q => exact fun _ _ _ h => h
            case om114y => (refine Or.inl ⟨by first | kernel_rfl | rfl, ?_⟩; intro w hSw; (try dsimp only at hSw); obtain ⟨⟨x0, x1⟩, ⟨y0, y1⟩, ⟨c0, c1⟩, -⟩ := hSw; go_simp <;> (try with_reducible rfl))
            try simp only [Act.put, List.setIfInBounds_toArray, List.set_cons_zero, List.set_cons_succ]
            refine wpAnyH_take (i := 17) (oi := ?om115o) (v := ?om115v) ?om115h (by kernel_rfl) (by kernel_rfl) (by kernel_rfl) ?om115q ?om115y hHeld ?om115r
            case om115h => (simp only [List.getElem?_toArray, List.getElem?_cons_succ, List.getElem?_cons_zero]; rfl)
            case om115q => exact fun _ _ _ h => h
            case om115y => (refine Or.inl ⟨by first | kernel_rfl | rfl, ?_⟩; intro w hSw; (try dsimp only at hSw); obtain ⟨⟨x0, x1⟩, ⟨y0, y1⟩, ⟨c0, c1⟩, -⟩ := hSw; go_simp <;> (try with_reducible rfl))
            try simp only [Act.put, List.setIfInBounds_toArray, List.set_cons_zero, List.set_cons_succ]
            refine wpAnyH_take (i := 18) (oi := ?om116o) (v := ?om116v) ?om116h (by kernel_rfl) (by kernel_rfl) (by kernel_rfl) ?om116q ?om116y hHeld ?om116r
            case om116h => (simp only [List.getElem?_toArray, List.getElem?_cons_succ, List.getElem?_cons_zero]; rfl)
            case om116q => exact fun _ _ _ h => h
            case om116y => (refine Or.inl ⟨by first | kernel_rfl | rfl, ?_⟩; intro w hSw; (try dsimp only at hSw); obtain ⟨⟨x0, x1⟩, ⟨y0, y1⟩, ⟨c0, c1⟩, -⟩ := hSw; go_simp <;> (try with_reducible rfl))
            try simp only [Act.put, List.setIfInBounds_toArray, List.set_cons_zero, List.set_cons_succ]
            refine wpAnyH_take (i := 19) (oi := ?om117o) (v := ?om117v) ?om117h (by kernel_rfl) (by kernel_rfl) (by kernel_rfl) ?om117q ?om117y hHeld ?om117r
            case om117h => (simp only [List.getElem?_toArray, List.getElem?_cons_succ, List.getElem?_cons_zero]; rfl)
            case om117q => exact fun _ _ _ h => h
            case om117y => (refine Or.inl ⟨by first | kernel_rfl | rfl, ?_⟩; intro w hSw; (try dsimp only at hSw); obtain ⟨⟨x0, x1⟩, ⟨y0, y1⟩, ⟨c0, c1⟩, -⟩ := hSw; go_simp <;> (try with_reducible rfl))
            try simp only [Act.put, List.setIfInBounds_toArray, List.set_cons_zero, List.set_cons_succ]
            refine wpAnyH_take (i := 21) (oi := ?om118o) (v := ?om118v) ?om118h (by kernel_rfl) (by kernel_rfl) (by kernel_rfl) ?om118q ?om118y hHeld ?om118r
            case om118h => (simp only [List.getElem?_toArray, List.getElem?_cons_succ, List.getElem?_cons_zero]; rfl)
            case om118q => exact fun _ _ _ h => h
            case om118y => (refine Or.inl ⟨by first | kernel_rfl | rfl, ?_⟩; intro w hSw; (try dsimp only at hSw); obtain ⟨⟨x0, x1⟩, ⟨y0, y1⟩, ⟨c0, c1⟩, -⟩ := hSw; go_simp <;> (try with_reducible rfl))
            try simp only [Act.put, List.setIfInBounds_toArray, List.set_cons_zero, List.set_cons_succ]
            refine wpAnyH_take (i := 22) (oi := ?om119o) (v := ?om119v) ?om119h (by kernel_rfl) (by kernel_rfl) (by kernel_rfl) ?om119q ?om119y hHeld ?om119r
            case om119h => (simp only [List.getElem?_toArray, List.getElem?_cons_succ, List.getElem?_cons_zero]; rfl)
            case om119q => exact fun _ _ _ h => h
            case om119y => (refine Or.inl ⟨by first | kernel_rfl | rfl, ?_⟩; intro w hSw; (try dsimp only at hSw); obtain ⟨⟨x0, x1⟩, ⟨y0, y1⟩, ⟨c0, c1⟩, -⟩ := hSw; go_simp <;> (try with_reducible rfl))
            try simp only [Act.put, List.setIfInBounds_toArray, List.set_cons_zero, List.set_cons_succ]
            refine wpAnyH_take (i := 23) (oi := ?om120o) (v := ?om120v) ?om120h (by kernel_rfl) (by kernel_rfl) (by kernel_rfl) ?om120q ?om120y hHeld ?om120r
            case om120h => (simp only [List.getElem?_toArray, List.getElem?_cons_succ, List.getElem?_cons_zero]; rfl)
            case om120q => exact fun _ _ _ h => h
            case om120y => (refine Or.inl ⟨by first | kernel_rfl | rfl, ?_⟩; intro w hSw; (try dsimp only at hSw); obtain ⟨⟨x0, x1⟩, ⟨y0, y1⟩, ⟨c0, c1⟩, -⟩ := hSw; go_simp <;> (try with_reducible rfl))
            try simp only [Act.put, List.setIfInBounds_toArray, List.set_cons_zero, List.set_cons_succ]
            refine wpAnyH_take (i := 24) (oi := ?om121o) (v := ?om121v) ?om121h (by kernel_rfl) (by kernel_rfl) (by kernel_rfl) ?om121q ?om121y hHeld ?om121r
            case om121h => (simp only [List.getElem?_toArray, List.getElem?_cons_succ, List.getElem?_cons_zero]; rfl)
            case om121q => exact fun _ _ _ h => h
            case om121y => (refine Or.inl ⟨by first | kernel_rfl | rfl, ?_⟩; intro w hSw; (try dsimp only at hSw); obtain ⟨⟨x0, x1⟩, ⟨y0, y1⟩, ⟨c0, c1⟩, -⟩ := hSw; go_simp <;> (try with_reducible rfl))
            try simp only [Act.put, List.setIfInBounds_toArray, List.set_cons_zero, List.set_cons_succ]
            refine wpAnyH_take (i := 25) (oi := ?om122o) (v := ?om122v) ?om122h (by kernel_rfl) (by kernel_rfl) (by kernel_rfl) ?om122q ?om122y hHeld ?om122r
            case om122h => (simp only [List.getElem?_toArray, List.getElem?_cons_succ, List.getElem?_cons_zero]; rfl)
            case om122q => exact fun _ _ _ h => h
            case om122y => (refine Or.inl ⟨by first | kernel_rfl | rfl, ?_⟩; intro w hSw; (try dsimp only at hSw); obtain ⟨⟨x0, x1⟩, ⟨y0, y1⟩, ⟨c0, c1⟩, -⟩ := hSw; go_simp <;> (try with_reducible rfl))
            try simp only [Act.put, List.setIfInBounds_toArray, List.set_cons_zero, List.set_cons_succ]
            refine wpAnyH_ready (rs := [20]) (by kernel_rfl) (by simp) ?_
            refine (AllReadyH.cons rfl (fun K hK => ?_) AllReadyH.nil)
            go_simp
            ((with_reducible refine (km1 _).mono ?_); rintro e w' ⟨rfl, hb'⟩)
            refine hK.out _ _ (hHeld.keep hb') (fun hHeld => ?_)
            clear hK K
            try simp only [Act.put, List.setIfInBounds_toArray, List.set_cons_zero, List.set_cons_succ]
            refine wpAnyH_take (i := 26) (oi := ?om123o) (v := ?om123v) ?om123h (by kernel_rfl) (by kernel_rfl) (by kernel_rfl) ?om123q ?om123y hHeld ?om123r
            case om123h => (simp only [List.getElem?_toArray, List.getElem?_cons_succ, List.getElem?_cons_zero]; rfl)
            case om123q => exact fun _ _ _ h => h
            case om123y => (refine Or.inl ⟨by first | kernel_rfl | rfl, ?_⟩; intro w hSw; (try dsimp only at hSw); obtain ⟨⟨x0, x1⟩, ⟨y0, y1⟩, ⟨c0, c1⟩, -⟩ := hSw; go_simp <;> (try with_reducible rfl))
            try simp only [Act.put, List.setIfInBounds_toArray, List.set_cons_zero, List.set_cons_succ]
            refine wpAnyH_take (i := 27) (oi := ?om124o) (v := ?om124v) ?om124h (by kernel_rfl) (by kernel_rfl) (by kernel_rfl) ?om124q ?om124y hHeld ?om124r
            case om124h => (simp only [List.getElem?_toArray, List.getElem?_cons_succ, List.getElem?_cons_zero]; rfl)
            case om124q => exact fun _ _ _ h => h
            case om124y => (refine Or.inl ⟨by first | kernel_rfl | rfl, ?_⟩; intro w hSw; (try dsimp only at hSw); obtain ⟨⟨x0, x1⟩, ⟨y0, y1⟩, ⟨c0, c1⟩, -⟩ := hSw; go_simp <;> (try with_reducible rfl))
            try simp only [Act.put, List.setIfInBounds_toArray, List.set_cons_zero, List.set_cons_succ]
            refine wpAnyH_take (i := 28) (oi := ?om125o) (v := ?om125v) ?om125h (by kernel_rfl) (by kernel_rfl) (by kernel_rfl) ?om125q ?om125y hHeld ?om125r
            case om125h => (simp only [List.getElem?_toArray, List.getElem?_cons_succ, List.getElem?_cons_zero]; rfl)
            case om125q => exact fun _ _ _ h => h
            case om125y => (refine Or.inl ⟨by first | kernel_rfl | rfl, ?_⟩; intro w hSw; (try dsimp only at hSw); obtain ⟨⟨x0, x1⟩, ⟨y0, y1⟩, ⟨c0, c1⟩, -⟩ := hSw; go_simp <;> (try with_reducible rfl))
            try simp only [Act.put, List.setIfInBounds_toArray, List.set_cons_zero, List.set_cons_succ]
            refine wpAnyH_done (by kernel_rfl) ?_ _
            have hbel := hHeld.bel
            go_wp2
            go_ret
            first | exact ⟨rfl, hbel⟩ | exact ⟨by rw [show decide (c.f < c.t) = false from decide_eq_false hlt2]; rfl, hbel⟩ | exact ⟨by simp [hlt2], hbel⟩
          | false =>
            have hlt2 : ¬ c.f < c.t := of_decide_eq_false hz
            rw [hz] at km1 km2
            clear hz
            go_wp2_with fail
            refine wp_region_held_drew (S := (M3 w w2.heap.size w3.heap.size w6.heap.size x y c)) (by kernel_rfl) H9.out.drew (fun hHeld => ?_)
            refine wpAnyH_take (i := 0) (oi := ?om21o) (v := ?om21v) ?om21h (by kernel_rfl) (by kernel_rfl) (by kernel_rfl) ?om21q ?om21y hHeld ?om21r
            case om21h => (simp only [List.getElem?_toArray, List.getElem?_cons_zero]; rfl)
            case om21q => exact fun _ _ _ h => h
            case om21y => (refine Or.inl ⟨by first | kernel_rfl | rfl, ?_⟩; intro w hSw; (try dsimp only at hSw); obtain ⟨⟨x0, x1⟩, ⟨y0, y1⟩, ⟨c0, c1⟩, -⟩ := hSw; go_simp <;> (try with_reducible rfl))
            try simp only [Act.put, List.setIfInBounds_toArray, List.set_cons_zero, List.set_cons_succ]
            refine wpAnyH_take (i := 1) (oi := ?om22o) (v := ?om22v) ?om22h (by kernel_rfl) (by kernel_rfl) (by kernel_rfl) ?om22q ?om22y hHeld ?om22r
            case om22h => (simp only [List.getElem?_toArray, List.getElem?_cons_succ, List.getElem?_cons_zero]; rfl)
            case om22q => exact fun _ _ _ h => h
            case om22y => (refine Or.inl ⟨by first | kernel_rfl | rfl, ?_⟩; intro w hSw; (try dsimp only at hSw); obtain ⟨⟨x0, x1⟩, ⟨y0, y1⟩, ⟨c0, c1⟩, -⟩ := hSw; go_simp <;> (try with_reducible rfl))
            try simp only [Act.put, List.setIfInBounds_toArray, List.set_cons_zero, List.set_cons_succ]
            refine wpAnyH_take (i := 2) (oi := ?om23o) (v := ?om23v) ?om23h (by kernel_rfl) (by kernel_rfl) (by kernel_rfl) ?om23q ?om23y hHeld ?om23r
            case om23h => (simp only [List.getElem?_toArray, List.getElem?_cons_succ, List.getElem?_cons_zero]; rfl)
            case om23q => exact fun _ _ _ h => h
            case om23y => (refine Or.inl ⟨by first | kernel_rfl | rfl, ?_⟩; intro w hSw; (try dsimp only at hSw); obtain ⟨⟨x0, x1⟩, ⟨y0, y1⟩, ⟨c0, c1⟩, -⟩ := hSw; go_simp <;> (try with_reducible rfl))
            try simp only [Act.put, List.setIfInBounds_toArray, List.set_cons_zero, List.set_cons_succ]
            refine wpAnyH_take (i := 3) (oi := ?om24o) (v := ?om24v) ?om24h (by kernel_rfl) (by kernel_rfl) (by kernel_rfl) ?om24q ?om24y hHeld ?om24r
            case om24h => (simp only [List.getElem?_toArray, List.getElem?_cons_succ, List.getElem?_cons_zero]; rfl)
            case om24q => exact fun _ _ _ h => h
            case om24y => (refine Or.inl ⟨by first | kernel_rfl | rfl, ?_⟩; intro w hSw; (try dsimp only at hSw); obtain ⟨⟨x0, x1⟩, ⟨y0, y1⟩, ⟨c0, c1⟩, -⟩ := hSw; go_simp <;> (try with_reducible rfl))
            try simp only [Act.put, List.setIfInBounds_toArray, List.set_cons_zero, List.set_cons_succ]
            refine wpAnyH_take (i := 4) (oi := ?om25o) (v := ?om25v) ?om25h (by kernel_rfl) (by kernel_rfl) (by kernel_rfl) ?om25q ?om25y hHeld ?om25r
            case om25h => (simp only [List.getElem?_toArray, List.getElem?_cons_succ, List.getElem?_cons_zero]; rfl)
            case om25q => exact fun _ _ _ h => h
            case om25y => (refine Or.inl ⟨by first | kernel_rfl | rfl, ?_⟩; intro w hSw; (try dsimp only at hSw); obtain ⟨⟨x0, x1⟩, ⟨y0, y1⟩, ⟨c0, c1⟩, -⟩ := hSw; go_simp <;> (try with_reducible rfl))
            try simp only [Act.put, List.setIfInBounds_toArray, List.set_cons_zero, List.set_cons_succ]
            refine wpAnyH_ready (rs := [5]) (by kernel_rfl) (by simp) ?_
            refine (AllReadyH.cons rfl (fun K hK => ?_) AllReadyH.nil)
            go_simp
            ((with_reducible refine (kb2 _).mono ?_); rintro e w' ⟨rfl, hb'⟩)
            refine hK.out _ _ (hHeld.keep hb') (fun hHeld => ?_)
            clear hK K
            try simp only [Act.put, List.setIfInBounds_toArray, List.set_cons_zero, List.set_cons_succ]
            refine wpAnyH_take (i := 6) (oi := ?om26o) (v := ?om26v) ?om26h (by kernel_rfl) (by kernel_rfl) (by kernel_rfl) ?om26q ?om26y hHeld ?om26r
            case om26h => (simp only [List.getElem?_toArray, List.getElem?_cons_succ, List.getElem?_cons_zero]; rfl)
            case om26q => exact fun _ _ _ h => h
            case om26y => (refine Or.inl ⟨by first | kernel_rfl | rfl, ?_⟩; intro w hSw; (try dsimp only at hSw); obtain ⟨⟨x0, x1⟩, ⟨y0, y1⟩, ⟨c0, c1⟩, -⟩ := hSw; go_simp <;> (try with_reducible rfl))
            try simp only [Act.put, List.setIfInBounds_toArray, List.set_cons_zero, List.set_cons_succ]
            refine wpAnyH_take (i := 7) (oi := ?om27o) (v := ?om27v) ?om27h (by kernel_rfl) (by kernel_rfl) (by kernel_rfl) ?om27q ?om27y hHeld ?om27r
            case om27h => (simp only [List.getElem?_toArray, List.getElem?_cons_succ, List.getElem?_cons_zero]; rfl)
            case om27q => exact fun _ _ _ h => h
            case om27y => (refine Or.inl ⟨by first | kernel_rfl | rfl, ?_⟩; intro w hSw; (try dsimp only at hSw); obtain ⟨⟨x0, x1⟩, ⟨y0, y1⟩, ⟨c0, c1⟩, -⟩ := hSw; go_simp <;> (try with_reducible rfl))
            try simp only [Act.put, List.setIfInBounds_toArray, List.set_cons_zero, List.set_cons_succ]
            refine wpAnyH_take (i := 8) (oi := ?om28o) (v := ?om28v) ?om28h (by kernel_rfl) (by kernel_rfl) (by kernel_rfl) ?om28q ?om28y hHeld ?om28r
            case om28h => (simp only [List.getElem?_toArray, List.getElem?_cons_succ, List.getElem?_cons_zero]; rfl)
            case om28q => exact fun _ _ _ h => h
            case om28y => (refine Or.inl ⟨by first | kernel_rfl | rfl, ?_⟩; intro w hSw; (try dsimp only at hSw); obtain ⟨⟨x0, x1⟩, ⟨y0, y1⟩, ⟨c0, c1⟩, -⟩ := hSw; go_simp <;> (try with_reducible rfl))
            try simp only [Act.put, List.setIfInBounds_toArray, List.set_cons_zero, List.set_cons_succ]
            refine wpAnyH_take (i := 9) (oi := ?om29o) (v := ?om29v) ?om29h (by kernel_rfl) (by kernel_rfl) (by kernel_rfl) ?om29q ?om29y hHeld ?om29r
            case om29h => (simp only [List.getElem?_toArray, List.getElem?_cons_succ, List.getElem?_cons_zero]; rfl)
            case om29q => exact fun _ _ _ h => h
            case om29y => (refine Or.inl ⟨by first | kernel_rfl | rfl, ?_⟩; intro w hSw; (try dsimp only at hSw); obtain ⟨⟨x0, x1⟩, ⟨y0, y1⟩, ⟨c0, c1⟩, -⟩ := hSw; go_simp <;> (try with_reducible rfl))
            try simp only [Act.put, List.setIfInBounds_toArray, List.set_cons_zero, List.set_cons_succ]
            refine wpAnyH_take (i := 10) (oi := ?om210o) (v := ?om210v) ?om210h (by kernel_rfl) (by kernel_rfl) (by kernel_rfl) ?om210q ?om210y hHeld ?om210r
            case om210h => (simp only [List.getElem?_toArray, List.getElem?_cons_succ, List.getElem?_cons_zero]; rfl)
            case om210q => exact fun _ _ _ h => h
            case om210y => (refine Or.inl ⟨by first | kernel_rfl | rfl, ?_⟩; intro w hSw; (try dsimp only at hSw); obtain ⟨⟨x0, x1⟩, ⟨y0, y1⟩, ⟨c0, c1⟩, -⟩ := hSw; go_simp <;> (try with_reducible rfl))
            try simp only [Act.put, List.setIfInBounds_toArray, List.set_cons_zero, List.set_cons_succ]
            refine wpAnyH_take (i := 12) (oi := ?om211o) (v := ?om211v) ?om211h (by kernel_rfl) (by kernel_rfl) (by kernel_rfl) ?om211q ?om211y hHeld ?om211r
            case om211h => (simp only [List.getElem?_toArray, List.getElem?_cons_succ, List.getElem?_cons_zero]; rfl)
            case om211q => exact fun _ _ _ h => h
            case om211y => (refine Or.inl ⟨by first | kernel_rfl | rfl, ?_⟩; intro w hSw; (try dsimp only at hSw); obtain ⟨⟨x0, x1⟩, ⟨y0, y1⟩, ⟨c0, c1⟩, -⟩ := hSw; go_simp <;> (try with_reducible rfl))
            try simp only [Act.put, List.setIfInBounds_toArray, List.set_cons_zero, List.set_cons_succ]
            refine wpAnyH_take (i := 13) (oi := ?om212o) (v := ?om212v) ?om212h (by kernel_rfl) (by kernel_rfl) (by kernel_rfl) ?om212q ?om212y hHeld ?om212r
            case om212h => (simp only [List.getElem?_toArray, List.getElem?_cons_succ, List.getElem?_cons_zero]; rfl)
            case om212q => exact fun _ _ _ h => h
            case om212y => (refine Or.inl ⟨by first | kernel_rfl | rfl, ?_⟩; intro w hSw; (try dsimp only at hSw); obtain ⟨⟨x0, x1⟩, ⟨y0, y1⟩, ⟨c0, c1⟩, -⟩ := hSw; go_simp <;> (try with_reducible rfl))
            try simp only [Act.put, List.setIfInBounds_toArray, List.set_cons_zero, List.set_cons_succ]
            refine wpAnyH_ready (rs := [11]) (by kernel_rfl) (by simp) ?_
            refine (AllReadyH.cons rfl (fun K hK => ?_) AllReadyH.nil)
            go_simp
            ((with_reducible refine (km1 _).mono ?_); rintro e w' ⟨rfl, hb'⟩)
            refine hK.out _ _ (hHeld.keep hb') (fun hHeld => ?_)
            clear hK K
            try simp only [Act.put, List.setIfInBounds_toArray, List.set_cons_zero, List.set_cons_succ]
            refine wpAnyH_ready (rs := [14]) (by kernel_rfl) (by simp) ?_
            refine (AllReadyH.cons rfl (fun K hK => ?_) AllReadyH.nil)
            go_simp
            ((with_reducible refine (km2 _).mono ?_); rintro e w' ⟨rfl, hb'⟩)
            refine hK.out _ _ (hHeld.keep hb') (fun hHeld => ?_)
            clear hK K
            try simp only [Act.put, List.setIfInBounds_toArray, List.set_cons_zero, List.set_cons_succ]
            refine wpAnyH_take (i := 15) (oi := ?om213o) (v := ?om213v) ?om213h (by kernel_rfl) (by kernel_rfl) (by kernel_rfl) ?om213q ?om213y hHeld ?om213r
            case om213h => (simp only [List.getElem?_toArray, List.getElem?_cons_succ, List.getElem?_cons_zero]; rfl)
            case om213q => exact fun _ _ _ h => h
            case om213y => (refine Or.inl ⟨by first | kernel_rfl | rfl, ?_⟩; intro w hSw; (try dsimp only at hSw); obtain ⟨⟨x0, x1⟩, ⟨y0, y1⟩, ⟨c0, c1⟩, -⟩ := hSw; go_simp <;> (try with_reducible rfl))
            try simp only [Act.put, List.setIfInBounds_toArray, List.set_cons_zero, List.set_cons_succ]
            refine wpAnyH_take (i := 16) (oi := ?om214o) (v := ?om214v) ?om214h (by kernel_rfl) (by kernel_rfl) (by kernel_rfl) ?om214q ?om214y hHeld ?om214r
            case om214h => (simp only [List.getElem?_toArray, List.getElem?_cons_succ, List.getElem?_cons_zero]; rfl)
            case om214q => exact fun _ _ _ h => h
            case om214y => (refine Or.inl ⟨by first | kernel_rfl | rfl, ?_⟩; intro w hSw; (try dsimp only at hSw); obtain ⟨⟨x0, x1⟩, ⟨y0, y1⟩, ⟨c0, c1⟩, -⟩ := hSw; go_simp <;> (try with_reducible rfl))
            try simp only [Act.put, List.setIfInBounds_toArray, List.set_cons_zero, List.set_cons_succ]
            refine wpAnyH_take (i := 17) (oi := ?om215o) (v := ?om215v) ?om215h (by kernel_rfl) (by kernel_rfl) (by kernel_rfl) ?om215q ?om215y hHeld ?om215r
            case om215h => (simp only [List.getElem?_toArray, List.getElem?_cons_succ, List.getElem?_cons_zero]; rfl)
            case om215q => exact fun _ _ _ h => h
            case om215y => (refine Or.inl ⟨by first | kernel_rfl | rfl, ?_⟩; intro w hSw; (try dsimp only at hSw); obtain ⟨⟨x0, x1⟩, ⟨y0, y1⟩, ⟨c0, c1⟩, -⟩ := hSw; go_simp <;> (try with_reducible rfl))
            try simp only [Act.put, List.setIfInBounds_toArray, List.set_cons_zero, List.set_cons_succ]
            refine wpAnyH_take (i := 18) (oi := ?om216o) (v := ?om216v) ?om216h (by kernel_rfl) (by kernel_rfl) (by kernel_rfl) ?om216q ?om216y hHeld ?om216r
            case om216h => (simp only [List.getElem?_toArray, List.getElem?_cons_succ, List.getElem?_cons_zero]; rfl)
            case om216q => exact fun _ _ _ h => h
            case om216y => (refine Or.inl ⟨by first | kernel_rfl | rfl, ?_⟩; intro w hSw; (try dsimp only at hSw); obtain ⟨⟨x0, x1⟩, ⟨y0, y1⟩, ⟨c0, c1⟩, -⟩ := hSw; go_simp <;> (try with_reducible rfl))
            try simp only [Act.put, List.setIfInBounds_toArray, List.set_cons_zero, List.set_cons_succ]
            refine wpAnyH_take (i := 19) (oi := ?om217o) (v := ?om217v) ?om217h (by kernel_rfl) (by kernel_rfl) (by kernel_rfl) ?om217q ?om217y hHeld ?om217r
            case om217h => (simp only [List.getElem?_toArray, List.getElem?_cons_succ, List.getElem?_cons_zero]; rfl)
            case om217q => exact fun _ _ _ h => h
            case om217y => (refine Or.inl ⟨by first | kernel_rfl | rfl, ?_⟩; intro w hSw; (try dsimp only at hSw); obtain ⟨⟨x0, x1⟩, ⟨y0, y1⟩, ⟨c0, c1⟩, -⟩ := hSw; go_simp <;> (try with_reducible rfl))
            try simp only [Act.put, List.setIfInBounds_toArray, List.set_cons_zero, List.set_cons_succ]
            refine wpAnyH_take (i := 21) (oi := ?om218o) (v := ?om218v) ?om218h (by kernel_rfl) (by kernel_rfl) (by kernel_rfl) ?om218q ?om218y hHeld ?om218r
            case om218h => (simp only [List.getElem?_toArray, List.getElem?_cons_succ, List.getElem?_cons_zero]; rfl)
            case om218q => exact fun _ _ _ h => h
            case om218y => (refine Or.inl ⟨by first | kernel_rfl | rfl, ?_⟩; intro w hSw; (try dsimp only at hSw); obtain ⟨⟨x0, x1⟩, ⟨y0, y1⟩, ⟨c0, c1⟩, -⟩ := hSw; go_simp <;> (try with_reducible rfl))
            try simp only [Act.put, List.setIfInBounds_toArray, List.set_cons_zero, List.set_cons_succ]
            refine wpAnyH_take (i := 22) (oi := ?om219o) (v := ?om219v) ?om219h (by kernel_rfl) (by kernel_rfl) (by kernel_rfl) ?om219q ?om219y hHeld ?om219r
            case om219h => (simp only [List.getElem?_toArray, List.getElem?_cons_succ, List.getElem?_cons_zero]; rfl)
            case om219q => exact fun _ _ _ h => h
            case om219y => (refine Or.inl ⟨by first | kernel_rfl | rfl, ?_⟩; intro w hSw; (try dsimp only at hSw); obtain ⟨⟨x0, x1⟩, ⟨y0, y1⟩, ⟨c0, c1⟩, -⟩ := hSw; go_simp <;> (try with_reducible rfl))
            try simp only [Act.put, List.setIfInBounds_toArray, List.set_cons_zero, List.set_cons_succ]
            refine wpAnyH_take (i := 23) (oi := ?om220o) (v := ?om220v) ?om220h (by kernel_rfl) (by kernel_rfl) (by kernel_rfl) ?om220q ?om220y hHeld ?om220r
            case om220h => (simp only [List.getElem?_toArray, List.getElem?_cons_succ, List.getElem?_cons_zero]; rfl)
            case om220q => exact fun _ _ _ h => h
            case om220y => (refine Or.inl ⟨by first | kernel_rfl | rfl, ?_⟩; intro w hSw; (try dsimp only at hSw); obtain ⟨⟨x0, x1⟩, ⟨y0, y1⟩, ⟨c0, c1⟩, -⟩ := hSw; go_simp <;> (try with_reducible rfl))
            try simp only [Act.put, List.setIfInBounds_toArray, List.set_cons_zero, List.set_cons_succ]
            refine wpAnyH_take (i := 24) (oi := ?om221o) (v := ?om221v) ?om221h (by kernel_rfl) (by kernel_rfl) (by kernel_rfl) ?om221q ?om221y hHeld ?om221r
            case om221h => (simp only [List.getElem?_toArray, List.getElem?_cons_succ, List.getElem?_cons_zero]; rfl)
            case om221q => exact fun _ _ _ h => h
            case om221y => (refine Or.inl ⟨by first | kernel_rfl | rfl, ?_⟩; intro w hSw; (try dsimp only at hSw); obtain ⟨⟨x0, x1⟩, ⟨y0, y1⟩, ⟨c0, c1⟩, -⟩ := hSw; go_simp <;> (try with_reducible rfl))
            try simp only [Act.put, List.setIfInBounds_toArray, List.set_cons_zero, List.set_cons_succ]
            refine wpAnyH_take (i := 25) (oi := ?om222o) (v := ?om222v) ?om222h (by kernel_rfl) (by kernel_rfl) (by kernel_rfl) ?om222q ?om222y hHeld ?om222r
            case om222h => (simp only [List.getElem?_toArray, List.getElem?_cons_succ, List.getElem?_cons_zero]; rfl)
            case om222q => exact fun _ _ _ h => h
            case om222y => (refine Or.inl ⟨by first | kernel_rfl | rfl, ?_⟩; intro w hSw; (try dsimp only at hSw); obtain ⟨⟨x0, x1⟩, ⟨y0, y1⟩, ⟨c0, c1⟩, -⟩ := hSw; go_simp <;> (try with_reducible rfl))
            try simp only [Act.put, List.setIfInBounds_toArray, List.set_cons_zero, List.set_cons_succ]
            refine wpAnyH_ready (rs := [20]) (by kernel_rfl) (by simp) ?_
            refine (AllReadyH.cons rfl (fun K hK => ?_) AllReadyH.nil)
            go_simp
            ((with_reducible refine (km1 _).mono ?_); rintro e w' ⟨rfl, hb'⟩)
            refine hK.out _ _ (hHeld.keep hb') (fun hHeld => ?_)
            clear hK K
            try simp only [Act.put, List.setIfInBounds_toArray, List.set_cons_zero, List.set_cons_succ]
            refine wpAnyH_take (i := 26) (oi := ?om223o) (v := ?om223v) ?om223h (by kernel_rfl) (by kernel_rfl) (by kernel_rfl) ?om223q ?om223y hHeld ?om223r
            case om223h => (simp only [List.getElem?_toArray, List.getElem?_cons_succ, List.getElem?_cons_zero]; rfl)
            case om223q => exact fun _ _ _ h => h
            case om223y => (refine Or.inl ⟨by first | kernel_rfl | rfl, ?_⟩; intro w hSw; (try dsimp only at hSw); obtain ⟨⟨x0, x1⟩, ⟨y0, y1⟩, ⟨c0, c1⟩, -⟩ := hSw; go_simp <;> (try with_reducible rfl))
            try simp only [Act.put, List.setIfInBounds_toArray, List.set_cons_zero, List.set_cons_succ]
            refine wpAnyH_take (i := 27) (oi := ?om224o) (v := ?om224v) ?om224h (by kernel_rfl) (by kernel_rfl) (by kernel_rfl) ?om224q ?om224y hHeld ?om224r
            case om224h => (simp only [List.getElem?_toArray, List.getElem?_cons_succ, List.getElem?_cons_zero]; rfl)
            case om224q => exact fun _ _ _ h => h
            case om224y => (refine Or.inl ⟨by first | kernel_rfl | rfl, ?_⟩; intro w hSw; (try dsimp only at hSw); obtain ⟨⟨x0, x1⟩, ⟨y0, y1⟩, ⟨c0, c1⟩, -⟩ := hSw; go_simp <;> (try with_reducible rfl))
            try simp only [Act.put, List.setIfInBounds_toArray, List.set_cons_zero, List.set_cons_succ]
            refine wpAnyH_take (i := 28) (oi := ?om225o) (v := ?om225v) ?om225h (by kernel_rfl) (by kernel_rfl) (by kernel_rfl) ?om225q ?om225y hHeld ?om225r
            case om225h => (simp only [List.getElem?_toArray, List.getElem?_cons_succ, List.getElem?_cons_zero]; rfl)
            case om225q => exact fun _ _ _ h => h
            case om225y => (refine Or.inl ⟨by first | kernel_rfl | rfl, ?_⟩; intro w hSw; (try dsimp only at hSw); obtain ⟨⟨x0, x1⟩, ⟨y0, y1⟩, ⟨c0, c1⟩, -⟩ := hSw; go_simp <;> (try with_reducible rfl))
            try simp only [Act.put, List.setIfInBounds_toArray, List.set_cons_zero, List.set_cons_succ]
            refine wpAnyH_done (by kernel_rfl) ?_ _
            have hbel := hHeld.bel
            go_wp2
            go_ret
            first | exact ⟨rfl, hbel⟩ | exact ⟨by rw [show decide (c.f < c.t) = false from decide_eq_false hlt2]; rfl, hbel⟩ | exact ⟨by simp [hlt2], hbel⟩
end Go.Proofs.YtdkenokjdiamhaaDoor
