/- The order in which points are told: the program's Before, Newer and order, in worlds that have grown alone; slices.SortFunc at points, slices.Sort at numbers. -/
import Derived.Test.YtolmhlfegllfoaaHiMath
import Derived.Test.YtolmhlfegllfoaaBlockRow
import Derived.Sort.Grow
import Derived.Shelf.SlSortCmp.Insertion
set_option maxRecDepth 20000
set_option linter.unusedSimpArgs false
set_option linter.unusedVariables false
namespace Go.Proofs.Ytolmhlfegllfoaa.Qu.Hi
open Go.RowKit Go.Proofs.Ytolmhlfegllfoaa.Vi Go.Proofs.Ytolmhlfegllfoaa.Mk Go.Shelf Go.Lib Go.Sort

/-- Nothing that was there has turned, and more may have been drawn. -/
def Gr (w w' : World) : Prop := Below w.heap.size w w' ∧ w.drawn ≤ w'.drawn
theorem Gr.trans {a b c : World} (h : Gr a b) (k : Gr b c) : Gr a c := ⟨bel_next h.1 k.1, Nat.le_trans h.2 k.2⟩
theorem Gr.grow {w w' : World} (h : Gr w w') : ∃ q os', w' = Sort.grow (w.drewN q) os' := by
  obtain ⟨⟨h1, h2, h3, h4, h5⟩, h6⟩ := h
  refine ⟨w'.drawn - w.drawn, w'.heap.extract w.heap.size w'.heap.size, ?_⟩
  obtain ⟨hp, tp, dr, os, out⟩ := w
  obtain ⟨hp', tp', dr', os', out'⟩ := w'
  dsimp only at *
  subst h1 h2 h3
  unfold Sort.grow World.drewN
  dsimp only
  congr 1
  · apply Array.ext_getElem?
    intro i
    by_cases hi : i < hp.size
    · rw [Array.getElem?_append_left hi, h5 i hi]
    · rw [Array.getElem?_append_right (by omega)]
      by_cases hj : i < hp'.size
      · rw [Array.getElem?_extract]
        rw [if_pos (by omega)]
        congr 1
        omega
      · rw [Array.getElem?_eq_none (by omega), Array.getElem?_eq_none (by simp; omega)]
  · omega
set_option maxHeartbeats 1000000 in
theorem less_g (a b : St) (w : World) : Calls Try.prog 72 #[a.v, b.v] w fun e w' => e = .returned (.bool (a.lt b)) ∧ Gr w w' := by
  obtain ⟨c1, s1, q1⟩ := a
  obtain ⟨c2, s2, q2⟩ := b
  unfold St.v
  by_cases hc : c1 = c2
  · subst hc
    by_cases hs : s1 = s2
    · subst hs
      go_enter Try.func72, Try.ntmps72
      go_wp2
      go_ret
      exact ⟨by rw [St.lt3]; rfl, two_new _ _ _, Nat.le_refl _⟩
    · have HS := Lib.hid hs
      have h2 : (s1 == s2) = false := by simpa using hs
      clear hs
      go_enter Try.func72, Try.ntmps72
      go_wp2
      go_ret
      exact ⟨by rw [St.lt2 HS.out]; rfl, two_new _ _ _, Nat.le_refl _⟩
  · have HS := Lib.hid hc
    have h2 : (c1 == c2) = false := by simpa using hc
    clear hc
    go_enter Try.func72, Try.ntmps72
    go_wp2
    go_ret
    exact ⟨by rw [St.lt1 HS.out]; rfl, two_new _ _ _, Nat.le_refl _⟩

theorem less_gV (a b : St) (x : Bool) (hx : Hid (a.lt b = x)) (w : World) : Calls Try.prog 72 #[.agg #[.int .i64 a.c, .int .i64 a.s, .int .i64 a.q], .agg #[.int .i64 b.c, .int .i64 b.s, .int .i64 b.q]] w fun e w' => e = .returned (.bool x) ∧ Gr w w' := by
  have := less_g a b w
  rw [hx.out] at this
  exact this
theorem before_g (a b : Pt) (z : Bool) (w : World) (H : Hid (a.before b = z)) : Calls Try.prog 51 #[ptV a, ptV b] w fun e w' => e = .returned (.bool z) ∧ Gr w w' := by
  have HB : Below w.heap.size w ((w.alloc (.cells #[.string a.s, .int .i64 a.t, .int .i64 a.v, .int .i64 a.st.c, .int .i64 a.st.s, .int .i64 a.st.q] 31)).alloc (.cells #[.string b.s, .int .i64 b.t, .int .i64 b.v, .int .i64 b.st.c, .int .i64 b.st.s, .int .i64 b.st.q] 31)) := bel_new ((Below.refl _ _).alloc (Nat.le_refl _) _) _
  unfold Pt.before at H
  unfold ptV
  have H := H.out
  by_cases h2 : a.s = b.s
  · have hq := seq_eq h2
    have hqn : (a.s.toList != b.s.toList) = false := by simp [bne, hq]
    rw [decide_eq_true h2, h2, lessB_self] at H
    by_cases h3 : a.t < b.t
    · rw [decide_eq_true h3] at H
      have HZ := Lib.hid (show true = z from H)
      clear H h2
      go_enter Try.func51, Try.ntmps51
      go_wp2
      go_ret
      exact ⟨by rw [← HZ.out]; rfl, HB, Nat.le_refl _⟩
    · rw [decide_eq_false h3] at H
      have HZ := Lib.hid (show false = z from H)
      clear H h2
      go_enter Try.func51, Try.ntmps51
      go_wp2
      go_ret
      exact ⟨by rw [← HZ.out]; rfl, HB, Nat.le_refl _⟩
  · have hq := seq_ne h2
    have hqn : (a.s.toList != b.s.toList) = true := by simp [bne, hq]
    rw [decide_eq_false h2] at H
    obtain ⟨x, hx⟩ : ∃ x, Op.bytesLess a.s.toList b.s.toList = x := ⟨_, rfl⟩
    have HZ := Lib.hid (show x = z by rw [← H, ← hx]; unfold lessB; simp)
    clear H h2
    go_enter Try.func51, Try.ntmps51
    go_wp2
    go_ret
    exact ⟨by rw [← HZ.out]; rfl, HB, Nat.le_refl _⟩

theorem newer_g (a b : Pt) (z : Bool) (w : World) (H : Hid (a.newer b = z)) : Calls Try.prog 52 #[ptV a, ptV b] w fun e w' => e = .returned (.bool z) ∧ Gr w w' := by
  have HB : Below w.heap.size w ((w.alloc (.cells #[.string a.s, .int .i64 a.t, .int .i64 a.v, .int .i64 a.st.c, .int .i64 a.st.s, .int .i64 a.st.q] 31)).alloc (.cells #[.string b.s, .int .i64 b.t, .int .i64 b.v, .int .i64 b.st.c, .int .i64 b.st.s, .int .i64 b.st.q] 31)) := bel_new ((Below.refl _ _).alloc (Nat.le_refl _) _) _
  have kl := fun w => less_gV b.st a.st _ (Lib.hid rfl) w
  have HA := (PtAt.new w a).alloc (.cells #[.string b.s, .int .i64 b.t, .int .i64 b.v, .int .i64 b.st.c, .int .i64 b.st.s, .int .i64 b.st.q] 31)
  have HBB : PtAt ((w.alloc (.cells #[.string a.s, .int .i64 a.t, .int .i64 a.v, .int .i64 a.st.c, .int .i64 a.st.s, .int .i64 a.st.q] 31)).alloc (.cells #[.string b.s, .int .i64 b.t, .int .i64 b.v, .int .i64 b.st.c, .int .i64 b.st.s, .int .i64 b.st.q] 31)) (w.heap.size + 1) b := by have := PtAt.new (w.alloc (.cells #[.string a.s, .int .i64 a.t, .int .i64 a.v, .int .i64 a.st.c, .int .i64 a.st.s, .int .i64 a.st.q] 31)) b; simpa using this
  unfold Pt.newer at H
  unfold ptV
  have H := H.out
  generalize b.st.lt a.st = x at *
  by_cases h2 : a.s = b.s
  · have hq := seq_eq h2
    rw [decide_eq_true h2] at H
    by_cases h3 : a.t = b.t
    · have ht : (a.t == b.t) = true := by simpa using h3
      rw [decide_eq_true h3] at H
      have HZ := Lib.hid (show x = z from H)
      clear H h2 h3
      go_enter Try.func52, Try.ntmps52
      go_wp2_with (go_at_call 72; (with_reducible refine (kl _).mono ?_); rintro e w1 ⟨rfl, hgg1⟩; have hb1 := hgg1.1; have HA1 := HA.below hb1 HA.room; have HB1 := HBB.below hb1 HBB.room; obtain ⟨x0, x1, x2, x3, x4, x5⟩ := HA1; obtain ⟨y0, y1, y2, y3, y4, y5⟩ := HB1)
      go_ret
      exact ⟨by rw [← HZ.out]; rfl, (show Gr w _ from Gr.trans ⟨HB, Nat.le_refl _⟩ hgg1)⟩
    · have ht : (a.t == b.t) = false := by simpa using h3
      rw [decide_eq_false h3] at H
      have HZ := Lib.hid (show false = z from H)
      clear H h2 h3
      go_enter Try.func52, Try.ntmps52
      go_wp2_with (go_at_call 72; (with_reducible refine (kl _).mono ?_); rintro e w1 ⟨rfl, hgg1⟩; have hb1 := hgg1.1; have HA1 := HA.below hb1 HA.room; have HB1 := HBB.below hb1 HBB.room; obtain ⟨x0, x1, x2, x3, x4, x5⟩ := HA1; obtain ⟨y0, y1, y2, y3, y4, y5⟩ := HB1)
      go_ret
      exact ⟨by rw [← HZ.out]; rfl, HB, Nat.le_refl _⟩
  · have hq := seq_ne h2
    rw [decide_eq_false h2] at H
    have HZ := Lib.hid (show false = z from H)
    clear H h2
    go_enter Try.func52, Try.ntmps52
    go_wp2_with (go_at_call 72; (with_reducible refine (kl _).mono ?_); rintro e w1 ⟨rfl, hgg1⟩; have hb1 := hgg1.1; have HA1 := HA.below hb1 HA.room; have HB1 := HBB.below hb1 HBB.room; obtain ⟨x0, x1, x2, x3, x4, x5⟩ := HA1; obtain ⟨y0, y1, y2, y3, y4, y5⟩ := HB1)
    go_ret
    exact ⟨by rw [← HZ.out]; rfl, HB, Nat.le_refl _⟩

def cmpI (x y : Int) : Int := if x < y then -1 else if y < x then 1 else 0
theorem isnanI (x : Int) (w : World) : Calls Try.prog 73 #[.int .i64 x] w fun e w' => e = .returned (.bool false) ∧ w = w' := by
  have h : (x != x) = false := by simp
  go_enter Try.func73, Try.ntmps73
  go_wp2
  go_ret
  exact ⟨rfl, rfl⟩
theorem compareI (x y : Int) (w : World) : Calls Try.prog 53 #[.int .i64 x, .int .i64 y] w fun e w' => e = .returned (.int .i64 (cmpI x y)) ∧ w = w' := by
  have k := isnanI
  by_cases h1 : x < y
  · have HZ := Lib.hid (show -1 = cmpI x y by unfold cmpI; rw [if_pos h1])
    generalize cmpI x y = z at *
    go_enter Try.func53, Try.ntmps53
    go_wp2_with (go_at_call 73; (with_reducible refine (k _ _).mono ?_); rintro e w1 ⟨rfl, rfl⟩)
    go_ret
    exact ⟨by rw [← HZ.out]; rfl, rfl⟩
  · by_cases h2 : y < x
    · have HZ := Lib.hid (show 1 = cmpI x y by unfold cmpI; rw [if_neg h1, if_pos h2])
      generalize cmpI x y = z at *
      go_enter Try.func53, Try.ntmps53
      go_wp2_with (go_at_call 73; (with_reducible refine (k _ _).mono ?_); rintro e w1 ⟨rfl, rfl⟩)
      go_ret
      exact ⟨by rw [← HZ.out]; rfl, rfl⟩
    · have HZ := Lib.hid (show 0 = cmpI x y by unfold cmpI; rw [if_neg h1, if_neg h2])
      generalize cmpI x y = z at *
      go_enter Try.func53, Try.ntmps53
      go_wp2_with (go_at_call 73; (with_reducible refine (k _ _).mono ?_); rintro e w1 ⟨rfl, rfl⟩)
      go_ret
      exact ⟨by rw [← HZ.out]; rfl, rfl⟩

def ordI (a b : Pt) : Int := if (a.before b || b.newer a) = true then -1 else if (b.before a || a.newer b) = true then 1 else cmpI a.v b.v
theorem newer_is' (a b : Pt) : b.newer a = (a.eqp b && a.st.lt b.st) := by
  cases h : a.eqp b with
  | true => rw [newer_at (Pt.eqp_symm h)]; rfl
  | false =>
    cases h2 : b.newer a with
    | false => rfl
    | true => have := Pt.eqp_symm (newer_eqp h2); rw [h] at this; cases this
theorem lt_is (x y : Pt) : ltOf ordI x y = ahB x y := by
  unfold ltOf ordI ahB
  rw [newer_is' x y, newer_is' y x]
  cases h1 : x.before y with
  | true => simp
  | false =>
    cases h2 : x.eqp y with
    | false =>
      have h3 : y.eqp x = false := by cases h3 : y.eqp x with | false => rfl | true => rw [Pt.eqp_symm h3] at h2; cases h2
      have h4 : y.before x = true := by
        cases h4 : y.before x with
        | true => rfl
        | false => rw [bef_tri h1 h4] at h2; cases h2
      simp [h3, h4]
    | true =>
      have h3 := Pt.eqp_symm h2
      have h4 : y.before x = false := by
        cases h4 : y.before x with
        | false => rfl
        | true => rw [bef_eqp h4] at h3; cases h3
      rw [h3, h4]
      cases h5 : x.st.lt y.st with
      | true => simp
      | false =>
        cases h6 : y.st.lt x.st with
        | true =>
          have : ¬ x.st = y.st := fun e => by rw [e] at h5 h6; rw [h5] at h6; cases h6
          simp [this]
        | false =>
          have e := St.lt_eq h5 h6
          have e' : x.st = y.st := e
          simp only [Bool.false_or, Bool.true_and, Bool.false_eq_true, if_false, e', decide_true]
          unfold cmpI
          by_cases h7 : x.v < y.v
          · simp [h7]
          · by_cases h8 : y.v < x.v <;> simp [h7, h8]
theorem swoO : SWO (ltOf ordI) where
  irrefl x := by rw [lt_is, ah_self]
  trans x y z h1 h2 := by rw [lt_is] at *; exact ah_trans h1 h2
  ntrans x y z h1 h2 := by
    rw [lt_is] at *
    cases h : ahB x z with
    | false => rfl
    | true =>
      cases h3 : ahB y x with
      | true => have := ah_trans h3 h; rw [h2] at this; cases this
      | false =>
        have e := ah_tri h1 h3
        subst e
        rw [h2] at h; cases h
theorem antiO (x y : Pt) (h1 : ltOf ordI x y = false) (h2 : ltOf ordI y x = false) : x = y := by
  rw [lt_is] at *
  exact ah_tri h1 h2

theorem srtO_eq (l : List Pt) : (l.mergeSort fun x y => !(ltOf ordI) y x) = srtO l := by
  unfold srtO
  congr 1
  funext x y
  rw [lt_is]
set_option maxHeartbeats 4000000 in
theorem order_g (a b : Pt) (w : World) : Calls Try.prog 36 #[ptV a, ptV b] w fun e w' => e = .returned (.int .i64 (ordI a b)) ∧ Gr w w' := by
  have HA := (PtAt.new w a).alloc (.cells #[.string b.s, .int .i64 b.t, .int .i64 b.v, .int .i64 b.st.c, .int .i64 b.st.s, .int .i64 b.st.q] 31)
  have HB : PtAt ((w.alloc (.cells #[.string a.s, .int .i64 a.t, .int .i64 a.v, .int .i64 a.st.c, .int .i64 a.st.s, .int .i64 a.st.q] 31)).alloc (.cells #[.string b.s, .int .i64 b.t, .int .i64 b.v, .int .i64 b.st.c, .int .i64 b.st.s, .int .i64 b.st.q] 31)) (w.heap.size + 1) b := by have := PtAt.new (w.alloc (.cells #[.string a.s, .int .i64 a.t, .int .i64 a.v, .int .i64 a.st.c, .int .i64 a.st.s, .int .i64 a.st.q] 31)) b; simpa using this
  have HG := Lib.hid (show Gr w ((w.alloc (.cells #[.string a.s, .int .i64 a.t, .int .i64 a.v, .int .i64 a.st.c, .int .i64 a.st.s, .int .i64 a.st.q] 31)).alloc (.cells #[.string b.s, .int .i64 b.t, .int .i64 b.v, .int .i64 b.st.c, .int .i64 b.st.s, .int .i64 b.st.q] 31)) from ⟨bel_new ((Below.refl _ _).alloc (Nat.le_refl _) _) _, Nat.le_refl _⟩)
  obtain ⟨x1, e1⟩ : ∃ x, a.before b = x := ⟨_, rfl⟩
  obtain ⟨x2, e2⟩ : ∃ x, b.newer a = x := ⟨_, rfl⟩
  obtain ⟨x3, e3⟩ : ∃ x, b.before a = x := ⟨_, rfl⟩
  obtain ⟨x4, e4⟩ : ∃ x, a.newer b = x := ⟨_, rfl⟩
  obtain ⟨x5, e5⟩ : ∃ x, cmpI a.v b.v = x := ⟨_, rfl⟩
  have k1 := fun w => before_g a b x1 w (Lib.hid e1)
  have k2 := fun w => newer_g b a x2 w (Lib.hid e2)
  have k3 := fun w => before_g b a x3 w (Lib.hid e3)
  have k4 := fun w => newer_g a b x4 w (Lib.hid e4)
  have k5 := fun w => compareI a.v b.v w
  rw [e5] at k5
  obtain ⟨z, hz⟩ : ∃ z, ordI a b = z := ⟨_, rfl⟩
  rw [hz]
  unfold ordI at hz
  rw [e1, e2, e3, e4, e5] at hz
  have HZ0 := Lib.hid hz
  clear hz e1 e2 e3 e4 e5
  unfold ptV at *
  cases x1 with
  | true =>
    have HZ := Lib.hid (show -1 = z from HZ0.out)
    clear HZ0
    go_enter Try.func36, Try.ntmps36
    go_wp2_with (first
    | (go_at_call 51; (with_reducible refine (k1 _).mono ?_); rintro e w1 ⟨rfl, hg1⟩; have HA1 := HA.below hg1.1 HA.room; have HB1 := HB.below hg1.1 HB.room; have HG1 := Lib.hid (Gr.trans HG.out hg1); (have cA := HA1.c0; have cA1 := HA1.c1; have cA2 := HA1.c2; have cA3 := HA1.c3; have cA4 := HA1.c4; have cA5 := HA1.c5; have cB := HB1.c0; have cB1 := HB1.c1; have cB2 := HB1.c2; have cB3 := HB1.c3; have cB4 := HB1.c4; have cB5 := HB1.c5); clear hg1) 
    | (go_at_call 52; (with_reducible refine (k2 _).mono ?_); rintro e w2 ⟨rfl, hg2⟩; have HA2 := HA1.below hg2.1 HA1.room; have HB2 := HB1.below hg2.1 HB1.room; have HG2 := Lib.hid (Gr.trans HG1.out hg2); (have cA := HA2.c0; have cA1 := HA2.c1; have cA2 := HA2.c2; have cA3 := HA2.c3; have cA4 := HA2.c4; have cA5 := HA2.c5; have cB := HB2.c0; have cB1 := HB2.c1; have cB2 := HB2.c2; have cB3 := HB2.c3; have cB4 := HB2.c4; have cB5 := HB2.c5); clear hg2) 
    | (go_at_call 51; (with_reducible refine (k3 _).mono ?_); rintro e w3 ⟨rfl, hg3⟩; have HA3 := HA2.below hg3.1 HA2.room; have HB3 := HB2.below hg3.1 HB2.room; have HG3 := Lib.hid (Gr.trans HG2.out hg3); (have cA := HA3.c0; have cA1 := HA3.c1; have cA2 := HA3.c2; have cA3 := HA3.c3; have cA4 := HA3.c4; have cA5 := HA3.c5; have cB := HB3.c0; have cB1 := HB3.c1; have cB2 := HB3.c2; have cB3 := HB3.c3; have cB4 := HB3.c4; have cB5 := HB3.c5); clear hg3) 
    | (go_at_call 52; (with_reducible refine (k4 _).mono ?_); rintro e w4 ⟨rfl, hg4⟩; have HA4 := HA3.below hg4.1 HA3.room; have HB4 := HB3.below hg4.1 HB3.room; have HG4 := Lib.hid (Gr.trans HG3.out hg4); (have cA := HA4.c0; have cA1 := HA4.c1; have cA2 := HA4.c2; have cA3 := HA4.c3; have cA4 := HA4.c4; have cA5 := HA4.c5; have cB := HB4.c0; have cB1 := HB4.c1; have cB2 := HB4.c2; have cB3 := HB4.c3; have cB4 := HB4.c4; have cB5 := HB4.c5); clear hg4) 
    | (go_at_call 53; (with_reducible refine (k5 _).mono ?_); rintro e w5 ⟨rfl, rfl⟩))
    go_ret
    exact ⟨by rw [← HZ.out]; rfl, HG1.out⟩
  | false =>
   cases x2 with
   | true =>
    have HZ := Lib.hid (show -1 = z from HZ0.out)
    clear HZ0
    go_enter Try.func36, Try.ntmps36
    go_wp2_with (first
    | (go_at_call 51; (with_reducible refine (k1 _).mono ?_); rintro e w1 ⟨rfl, hg1⟩; have HA1 := HA.below hg1.1 HA.room; have HB1 := HB.below hg1.1 HB.room; have HG1 := Lib.hid (Gr.trans HG.out hg1); (have cA := HA1.c0; have cA1 := HA1.c1; have cA2 := HA1.c2; have cA3 := HA1.c3; have cA4 := HA1.c4; have cA5 := HA1.c5; have cB := HB1.c0; have cB1 := HB1.c1; have cB2 := HB1.c2; have cB3 := HB1.c3; have cB4 := HB1.c4; have cB5 := HB1.c5); clear hg1) 
    | (go_at_call 52; (with_reducible refine (k2 _).mono ?_); rintro e w2 ⟨rfl, hg2⟩; have HA2 := HA1.below hg2.1 HA1.room; have HB2 := HB1.below hg2.1 HB1.room; have HG2 := Lib.hid (Gr.trans HG1.out hg2); (have cA := HA2.c0; have cA1 := HA2.c1; have cA2 := HA2.c2; have cA3 := HA2.c3; have cA4 := HA2.c4; have cA5 := HA2.c5; have cB := HB2.c0; have cB1 := HB2.c1; have cB2 := HB2.c2; have cB3 := HB2.c3; have cB4 := HB2.c4; have cB5 := HB2.c5); clear hg2) 
    | (go_at_call 51; (with_reducible refine (k3 _).mono ?_); rintro e w3 ⟨rfl, hg3⟩; have HA3 := HA2.below hg3.1 HA2.room; have HB3 := HB2.below hg3.1 HB2.room; have HG3 := Lib.hid (Gr.trans HG2.out hg3); (have cA := HA3.c0; have cA1 := HA3.c1; have cA2 := HA3.c2; have cA3 := HA3.c3; have cA4 := HA3.c4; have cA5 := HA3.c5; have cB := HB3.c0; have cB1 := HB3.c1; have cB2 := HB3.c2; have cB3 := HB3.c3; have cB4 := HB3.c4; have cB5 := HB3.c5); clear hg3) 
    | (go_at_call 52; (with_reducible refine (k4 _).mono ?_); rintro e w4 ⟨rfl, hg4⟩; have HA4 := HA3.below hg4.1 HA3.room; have HB4 := HB3.below hg4.1 HB3.room; have HG4 := Lib.hid (Gr.trans HG3.out hg4); (have cA := HA4.c0; have cA1 := HA4.c1; have cA2 := HA4.c2; have cA3 := HA4.c3; have cA4 := HA4.c4; have cA5 := HA4.c5; have cB := HB4.c0; have cB1 := HB4.c1; have cB2 := HB4.c2; have cB3 := HB4.c3; have cB4 := HB4.c4; have cB5 := HB4.c5); clear hg4) 
    | (go_at_call 53; (with_reducible refine (k5 _).mono ?_); rintro e w5 ⟨rfl, rfl⟩))
    go_ret
    exact ⟨by rw [← HZ.out]; rfl, HG2.out⟩
   | false =>
    cases x3 with
    | true =>
    have HZ := Lib.hid (show 1 = z from HZ0.out)
    clear HZ0
    go_enter Try.func36, Try.ntmps36
    go_wp2_with (first
    | (go_at_call 51; (with_reducible refine (k1 _).mono ?_); rintro e w1 ⟨rfl, hg1⟩; have HA1 := HA.below hg1.1 HA.room; have HB1 := HB.below hg1.1 HB.room; have HG1 := Lib.hid (Gr.trans HG.out hg1); (have cA := HA1.c0; have cA1 := HA1.c1; have cA2 := HA1.c2; have cA3 := HA1.c3; have cA4 := HA1.c4; have cA5 := HA1.c5; have cB := HB1.c0; have cB1 := HB1.c1; have cB2 := HB1.c2; have cB3 := HB1.c3; have cB4 := HB1.c4; have cB5 := HB1.c5); clear hg1) 
    | (go_at_call 52; (with_reducible refine (k2 _).mono ?_); rintro e w2 ⟨rfl, hg2⟩; have HA2 := HA1.below hg2.1 HA1.room; have HB2 := HB1.below hg2.1 HB1.room; have HG2 := Lib.hid (Gr.trans HG1.out hg2); (have cA := HA2.c0; have cA1 := HA2.c1; have cA2 := HA2.c2; have cA3 := HA2.c3; have cA4 := HA2.c4; have cA5 := HA2.c5; have cB := HB2.c0; have cB1 := HB2.c1; have cB2 := HB2.c2; have cB3 := HB2.c3; have cB4 := HB2.c4; have cB5 := HB2.c5); clear hg2) 
    | (go_at_call 51; (with_reducible refine (k3 _).mono ?_); rintro e w3 ⟨rfl, hg3⟩; have HA3 := HA2.below hg3.1 HA2.room; have HB3 := HB2.below hg3.1 HB2.room; have HG3 := Lib.hid (Gr.trans HG2.out hg3); (have cA := HA3.c0; have cA1 := HA3.c1; have cA2 := HA3.c2; have cA3 := HA3.c3; have cA4 := HA3.c4; have cA5 := HA3.c5; have cB := HB3.c0; have cB1 := HB3.c1; have cB2 := HB3.c2; have cB3 := HB3.c3; have cB4 := HB3.c4; have cB5 := HB3.c5); clear hg3) 
    | (go_at_call 52; (with_reducible refine (k4 _).mono ?_); rintro e w4 ⟨rfl, hg4⟩; have HA4 := HA3.below hg4.1 HA3.room; have HB4 := HB3.below hg4.1 HB3.room; have HG4 := Lib.hid (Gr.trans HG3.out hg4); (have cA := HA4.c0; have cA1 := HA4.c1; have cA2 := HA4.c2; have cA3 := HA4.c3; have cA4 := HA4.c4; have cA5 := HA4.c5; have cB := HB4.c0; have cB1 := HB4.c1; have cB2 := HB4.c2; have cB3 := HB4.c3; have cB4 := HB4.c4; have cB5 := HB4.c5); clear hg4) 
    | (go_at_call 53; (with_reducible refine (k5 _).mono ?_); rintro e w5 ⟨rfl, rfl⟩))
    go_ret
    exact ⟨by rw [← HZ.out]; rfl, HG3.out⟩
    | false =>
     cases x4 with
     | true =>
    have HZ := Lib.hid (show 1 = z from HZ0.out)
    clear HZ0
    go_enter Try.func36, Try.ntmps36
    go_wp2_with (first
    | (go_at_call 51; (with_reducible refine (k1 _).mono ?_); rintro e w1 ⟨rfl, hg1⟩; have HA1 := HA.below hg1.1 HA.room; have HB1 := HB.below hg1.1 HB.room; have HG1 := Lib.hid (Gr.trans HG.out hg1); (have cA := HA1.c0; have cA1 := HA1.c1; have cA2 := HA1.c2; have cA3 := HA1.c3; have cA4 := HA1.c4; have cA5 := HA1.c5; have cB := HB1.c0; have cB1 := HB1.c1; have cB2 := HB1.c2; have cB3 := HB1.c3; have cB4 := HB1.c4; have cB5 := HB1.c5); clear hg1) 
    | (go_at_call 52; (with_reducible refine (k2 _).mono ?_); rintro e w2 ⟨rfl, hg2⟩; have HA2 := HA1.below hg2.1 HA1.room; have HB2 := HB1.below hg2.1 HB1.room; have HG2 := Lib.hid (Gr.trans HG1.out hg2); (have cA := HA2.c0; have cA1 := HA2.c1; have cA2 := HA2.c2; have cA3 := HA2.c3; have cA4 := HA2.c4; have cA5 := HA2.c5; have cB := HB2.c0; have cB1 := HB2.c1; have cB2 := HB2.c2; have cB3 := HB2.c3; have cB4 := HB2.c4; have cB5 := HB2.c5); clear hg2) 
    | (go_at_call 51; (with_reducible refine (k3 _).mono ?_); rintro e w3 ⟨rfl, hg3⟩; have HA3 := HA2.below hg3.1 HA2.room; have HB3 := HB2.below hg3.1 HB2.room; have HG3 := Lib.hid (Gr.trans HG2.out hg3); (have cA := HA3.c0; have cA1 := HA3.c1; have cA2 := HA3.c2; have cA3 := HA3.c3; have cA4 := HA3.c4; have cA5 := HA3.c5; have cB := HB3.c0; have cB1 := HB3.c1; have cB2 := HB3.c2; have cB3 := HB3.c3; have cB4 := HB3.c4; have cB5 := HB3.c5); clear hg3) 
    | (go_at_call 52; (with_reducible refine (k4 _).mono ?_); rintro e w4 ⟨rfl, hg4⟩; have HA4 := HA3.below hg4.1 HA3.room; have HB4 := HB3.below hg4.1 HB3.room; have HG4 := Lib.hid (Gr.trans HG3.out hg4); (have cA := HA4.c0; have cA1 := HA4.c1; have cA2 := HA4.c2; have cA3 := HA4.c3; have cA4 := HA4.c4; have cA5 := HA4.c5; have cB := HB4.c0; have cB1 := HB4.c1; have cB2 := HB4.c2; have cB3 := HB4.c3; have cB4 := HB4.c4; have cB5 := HB4.c5); clear hg4) 
    | (go_at_call 53; (with_reducible refine (k5 _).mono ?_); rintro e w5 ⟨rfl, rfl⟩))
    go_ret
    exact ⟨by rw [← HZ.out]; rfl, HG4.out⟩
     | false =>
    have HZ := Lib.hid (show x5 = z from HZ0.out)
    clear HZ0
    go_enter Try.func36, Try.ntmps36
    go_wp2_with (first
    | (go_at_call 51; (with_reducible refine (k1 _).mono ?_); rintro e w1 ⟨rfl, hg1⟩; have HA1 := HA.below hg1.1 HA.room; have HB1 := HB.below hg1.1 HB.room; have HG1 := Lib.hid (Gr.trans HG.out hg1); (have cA := HA1.c0; have cA1 := HA1.c1; have cA2 := HA1.c2; have cA3 := HA1.c3; have cA4 := HA1.c4; have cA5 := HA1.c5; have cB := HB1.c0; have cB1 := HB1.c1; have cB2 := HB1.c2; have cB3 := HB1.c3; have cB4 := HB1.c4; have cB5 := HB1.c5); clear hg1) 
    | (go_at_call 52; (with_reducible refine (k2 _).mono ?_); rintro e w2 ⟨rfl, hg2⟩; have HA2 := HA1.below hg2.1 HA1.room; have HB2 := HB1.below hg2.1 HB1.room; have HG2 := Lib.hid (Gr.trans HG1.out hg2); (have cA := HA2.c0; have cA1 := HA2.c1; have cA2 := HA2.c2; have cA3 := HA2.c3; have cA4 := HA2.c4; have cA5 := HA2.c5; have cB := HB2.c0; have cB1 := HB2.c1; have cB2 := HB2.c2; have cB3 := HB2.c3; have cB4 := HB2.c4; have cB5 := HB2.c5); clear hg2) 
    | (go_at_call 51; (with_reducible refine (k3 _).mono ?_); rintro e w3 ⟨rfl, hg3⟩; have HA3 := HA2.below hg3.1 HA2.room; have HB3 := HB2.below hg3.1 HB2.room; have HG3 := Lib.hid (Gr.trans HG2.out hg3); (have cA := HA3.c0; have cA1 := HA3.c1; have cA2 := HA3.c2; have cA3 := HA3.c3; have cA4 := HA3.c4; have cA5 := HA3.c5; have cB := HB3.c0; have cB1 := HB3.c1; have cB2 := HB3.c2; have cB3 := HB3.c3; have cB4 := HB3.c4; have cB5 := HB3.c5); clear hg3) 
    | (go_at_call 52; (with_reducible refine (k4 _).mono ?_); rintro e w4 ⟨rfl, hg4⟩; have HA4 := HA3.below hg4.1 HA3.room; have HB4 := HB3.below hg4.1 HB3.room; have HG4 := Lib.hid (Gr.trans HG3.out hg4); (have cA := HA4.c0; have cA1 := HA4.c1; have cA2 := HA4.c2; have cA3 := HA4.c3; have cA4 := HA4.c4; have cA5 := HA4.c5; have cB := HB4.c0; have cB1 := HB4.c1; have cB2 := HB4.c2; have cB3 := HB4.c3; have cB4 := HB4.c4; have cB5 := HB4.c5); clear hg4) 
    | (go_at_call 53; (with_reducible refine (k5 _).mono ?_); rintro e w5 ⟨rfl, rfl⟩))
    go_ret
    exact ⟨by rw [← HZ.out]; rfl, HG4.out⟩
end Go.Proofs.Ytolmhlfegllfoaa.Qu.Hi
