/- Contracts of package mark's Check, Less, Later, Bytes, and of the document's answers for them. -/
import Derived.Test.YtjckphmkhikpaaaVintRefMeth
import Derived.Test.YtjckphmkhikpaaaMarkMath
import Derived.WalkSmall
import Derived.Test.YtjckphmkhikpaaaMarkBel
import Derived.Deep.RegionHeld3
namespace Go.Proofs.Ytjckphmkhikpaaa
open Go.RowKit Go.Proofs.Ytjckphmkhikpaaa.Vi Go.Proofs.Ytjckphmkhikpaaa.Mk

/-- A stamp: clock, site, number. -/
structure St where
  c : Int
  s : Int
  q : Int
def St.v (a : St) : Value := .agg #[.int .i64 a.c, .int .i64 a.s, .int .i64 a.q]
def St.ok (a : St) : Bool := decide (1 ≤ a.c ∧ a.c ≤ 1099511627776 ∧ 0 ≤ a.s ∧ a.s ≤ 7 ∧ 1 ≤ a.q ∧ a.q ≤ 1099511627776)
def St.lt (a b : St) : Bool := decide (a.c < b.c ∨ a.c = b.c ∧ (a.s < b.s ∨ a.s = b.s ∧ a.q < b.q))
def St.err (a : St) : Int := if a.ok then 0 else 1
theorem St.ext' {a b : St} (h1 : a.c = b.c) (h2 : a.s = b.s) (h3 : a.q = b.q) : a = b := by cases a; cases b; simp_all
instance : DecidableEq St := fun a b => decidable_of_iff (a.c = b.c ∧ a.s = b.s ∧ a.q = b.q) ⟨fun h => St.ext' h.1 h.2.1 h.2.2, fun h => by subst h; exact ⟨rfl, rfl, rfl⟩⟩
theorem St.err_no {a : St} (h : ¬ (1 ≤ a.c ∧ a.c ≤ 1099511627776 ∧ 0 ≤ a.s ∧ a.s ≤ 7 ∧ 1 ≤ a.q ∧ a.q ≤ 1099511627776)) : a.err = 1 := by
  unfold St.err St.ok; rw [if_neg]; simpa using h
theorem St.err_yes {a : St} (h : 1 ≤ a.c ∧ a.c ≤ 1099511627776 ∧ 0 ≤ a.s ∧ a.s ≤ 7 ∧ 1 ≤ a.q ∧ a.q ≤ 1099511627776) : a.err = 0 := by
  unfold St.err St.ok; rw [if_pos]; simpa using h
theorem St.lt1 {c1 s1 q1 c2 s2 q2 : Int} (h : c1 ≠ c2) : (St.mk c1 s1 q1).lt (St.mk c2 s2 q2) = decide (c1 < c2) := by
  unfold St.lt; rw [decide_eq_decide]; simp only; omega
theorem St.lt2 {c s1 q1 s2 q2 : Int} (h : s1 ≠ s2) : (St.mk c s1 q1).lt (St.mk c s2 q2) = decide (s1 < s2) := by
  unfold St.lt; rw [decide_eq_decide]; simp [h]
theorem St.lt3 {c s q1 q2 : Int} : (St.mk c s q1).lt (St.mk c s q2) = decide (q1 < q2) := by
  unfold St.lt; rw [decide_eq_decide]; simp
/-- Two new blocks. -/
theorem two_new (w : World) (o1 o2 : Obj) : Below w.heap.size w ((w.alloc o1).alloc o2) := ((Below.refl _ _).alloc (Nat.le_refl _) _).alloc (by simp) _

theorem counts_any (n : Int) (w : World) : Calls Try.prog 80 #[.int .i64 n] w fun e w' => e = .returned (.bool (decide (1 ≤ n ∧ n ≤ 1099511627776))) ∧ w = w' := by
  by_cases h1 : 1 ≤ n
  · by_cases h2 : n ≤ 1099511627776
    · rw [show decide (1 ≤ n ∧ n ≤ 1099511627776) = true by simp; omega]
      go_enter Try.func80, Try.ntmps80
      go_wp2
      go_ret
      exact ⟨rfl, rfl⟩
    · rw [show decide (1 ≤ n ∧ n ≤ 1099511627776) = false by simp; omega]
      go_enter Try.func80, Try.ntmps80
      go_wp2
      go_ret
      exact ⟨rfl, rfl⟩
  · rw [show decide (1 ≤ n ∧ n ≤ 1099511627776) = false by simp; omega]
    go_enter Try.func80, Try.ntmps80
    go_wp2
    go_ret
    exact ⟨rfl, rfl⟩

set_option maxHeartbeats 1000000 in
theorem less_is (a b : St) (w : World) : Calls Try.prog 72 #[a.v, b.v] w fun e w' => e = .returned (.bool (a.lt b)) ∧ Below w.heap.size w w' := by
  obtain ⟨c1, s1, q1⟩ := a
  obtain ⟨c2, s2, q2⟩ := b
  unfold St.v
  by_cases hc : c1 = c2
  · subst hc
    by_cases hs : s1 = s2
    · subst hs
      go_enter Try.func72, Try.ntmps72
      go_wp2
      go_ret
      exact ⟨by rw [St.lt3]; rfl, two_new _ _ _⟩
    · have HS := Lib.hid hs
      have h2 : (s1 == s2) = false := by simpa using hs
      clear hs
      go_enter Try.func72, Try.ntmps72
      go_wp2
      go_ret
      exact ⟨by rw [St.lt2 HS.out]; rfl, two_new _ _ _⟩
  · have HS := Lib.hid hc
    have h2 : (c1 == c2) = false := by simpa using hc
    clear hc
    go_enter Try.func72, Try.ntmps72
    go_wp2
    go_ret
    exact ⟨by rw [St.lt1 HS.out]; rfl, two_new _ _ _⟩

set_option maxHeartbeats 1000000 in
theorem rless_is (a b : St) (w : World) : Calls Try.prog 73 #[a.v, b.v] w fun e w' => e = .returned (.bool (a.lt b)) ∧ Below w.heap.size w w' := by
  obtain ⟨c1, s1, q1⟩ := a
  obtain ⟨c2, s2, q2⟩ := b
  unfold St.v
  by_cases hc : c1 = c2
  · subst hc
    by_cases hs : s1 = s2
    · subst hs
      go_enter Try.func73, Try.ntmps73
      go_wp2
      go_ret
      exact ⟨by rw [St.lt3]; rfl, two_new _ _ _⟩
    · have HS := Lib.hid hs
      have h2 : (s1 == s2) = false := by simpa using hs
      clear hs
      go_enter Try.func73, Try.ntmps73
      go_wp2
      go_ret
      exact ⟨by rw [St.lt2 HS.out]; rfl, two_new _ _ _⟩
  · have HS := Lib.hid hc
    have h2 : (c1 == c2) = false := by simpa using hc
    clear hc
    go_enter Try.func73, Try.ntmps73
    go_wp2
    go_ret
    exact ⟨by rw [St.lt1 HS.out]; rfl, two_new _ _ _⟩

set_option maxHeartbeats 1000000 in
theorem check_is (a : St) (w : World) : Calls Try.prog 47 #[a.v] w fun e w' => e = .returned (.int .i64 a.err) ∧ Below w.heap.size w w' := by
  obtain ⟨c, s, q⟩ := a
  unfold St.v
  have kc := fun w => counts_any c w
  have kq := fun w => counts_any q w
  by_cases h0 : ¬ (1 ≤ c ∧ c ≤ 1099511627776)
  · rw [St.err_no (by simp only; omega)]
    rw [show decide (1 ≤ c ∧ c ≤ 1099511627776) = false by simp; omega] at kc
    go_enter Try.func47, Try.ntmps47
    go_wp2_with (first | (go_at_call 80; (with_reducible refine (kc _).mono ?_); rintro e w1 ⟨rfl, rfl⟩) | (go_at_call 80; (with_reducible refine (kq _).mono ?_); rintro e w1 ⟨rfl, rfl⟩))
    go_ret
    exact ⟨rfl, (Below.refl _ _).alloc (Nat.le_refl _) _⟩
  · have g0 := h0
    by_cases h1 : s < 0
    · rw [St.err_no (by simp only; omega)]
      rw [show decide (1 ≤ c ∧ c ≤ 1099511627776) = true by simp; omega] at kc
      go_enter Try.func47, Try.ntmps47
      go_wp2_with (first | (go_at_call 80; (with_reducible refine (kc _).mono ?_); rintro e w1 ⟨rfl, rfl⟩) | (go_at_call 80; (with_reducible refine (kq _).mono ?_); rintro e w1 ⟨rfl, rfl⟩))
      go_ret
      exact ⟨rfl, (Below.refl _ _).alloc (Nat.le_refl _) _⟩
    · have g1 := h1
      by_cases h2 : 7 < s
      · rw [St.err_no (by simp only; omega)]
        rw [show decide (1 ≤ c ∧ c ≤ 1099511627776) = true by simp; omega] at kc
        skip
        go_enter Try.func47, Try.ntmps47
        go_wp2_with (first | (go_at_call 80; (with_reducible refine (kc _).mono ?_); rintro e w1 ⟨rfl, rfl⟩) | (go_at_call 80; (with_reducible refine (kq _).mono ?_); rintro e w1 ⟨rfl, rfl⟩))
        go_ret
        exact ⟨rfl, (Below.refl _ _).alloc (Nat.le_refl _) _⟩
      · have g2 := h2
        by_cases h3 : ¬ (1 ≤ q ∧ q ≤ 1099511627776)
        · rw [St.err_no (by simp only; omega)]
          rw [show decide (1 ≤ c ∧ c ≤ 1099511627776) = true by simp; omega] at kc
          skip
          skip
          rw [show decide (1 ≤ q ∧ q ≤ 1099511627776) = false by simp; omega] at kq
          go_enter Try.func47, Try.ntmps47
          go_wp2_with (first | (go_at_call 80; (with_reducible refine (kc _).mono ?_); rintro e w1 ⟨rfl, rfl⟩) | (go_at_call 80; (with_reducible refine (kq _).mono ?_); rintro e w1 ⟨rfl, rfl⟩))
          go_ret
          exact ⟨rfl, (Below.refl _ _).alloc (Nat.le_refl _) _⟩
        · have g3 := h3
          rw [St.err_yes (by simp only; omega)]
          rw [show decide (1 ≤ c ∧ c ≤ 1099511627776) = true by simp; omega] at kc
          skip
          skip
          rw [show decide (1 ≤ q ∧ q ≤ 1099511627776) = true by simp; omega] at kq
          go_enter Try.func47, Try.ntmps47
          go_wp2_with (first | (go_at_call 80; (with_reducible refine (kc _).mono ?_); rintro e w1 ⟨rfl, rfl⟩) | (go_at_call 80; (with_reducible refine (kq _).mono ?_); rintro e w1 ⟨rfl, rfl⟩))
          go_ret
          exact ⟨rfl, (Below.refl _ _).alloc (Nat.le_refl _) _⟩

set_option maxHeartbeats 1000000 in
theorem rcheck_is (a : St) (w : World) : Calls Try.prog 52 #[a.v] w fun e w' => e = .returned (.int .i64 a.err) ∧ Below w.heap.size w w' := by
  obtain ⟨c, s, q⟩ := a
  unfold St.v
  by_cases h0 : c < 1
  · rw [St.err_no (by simp only; omega)]
    go_enter Try.func52, Try.ntmps52
    go_wp2
    go_ret
    exact ⟨rfl, (Below.refl _ _).alloc (Nat.le_refl _) _⟩
  · have g0 := h0
    by_cases h1 : 1099511627776 < c
    · rw [St.err_no (by simp only; omega)]
      skip
      go_enter Try.func52, Try.ntmps52
      go_wp2
      go_ret
      exact ⟨rfl, (Below.refl _ _).alloc (Nat.le_refl _) _⟩
    · have g1 := h1
      by_cases h2 : q < 1
      · rw [St.err_no (by simp only; omega)]
        skip
        skip
        go_enter Try.func52, Try.ntmps52
        go_wp2
        go_ret
        exact ⟨rfl, (Below.refl _ _).alloc (Nat.le_refl _) _⟩
      · have g2 := h2
        by_cases h3 : 1099511627776 < q
        · rw [St.err_no (by simp only; omega)]
          skip
          skip
          skip
          go_enter Try.func52, Try.ntmps52
          go_wp2
          go_ret
          exact ⟨rfl, (Below.refl _ _).alloc (Nat.le_refl _) _⟩
        · have g3 := h3
          by_cases h4 : s < 0
          · rw [St.err_no (by simp only; omega)]
            skip
            skip
            skip
            skip
            go_enter Try.func52, Try.ntmps52
            go_wp2
            go_ret
            exact ⟨rfl, (Below.refl _ _).alloc (Nat.le_refl _) _⟩
          · have g4 := h4
            by_cases h5 : 7 < s
            · rw [St.err_no (by simp only; omega)]
              skip
              skip
              skip
              skip
              skip
              go_enter Try.func52, Try.ntmps52
              go_wp2
              go_ret
              exact ⟨rfl, (Below.refl _ _).alloc (Nat.le_refl _) _⟩
            · have g5 := h5
              rw [St.err_yes (by simp only; omega)]
              skip
              skip
              skip
              skip
              skip
              skip
              go_enter Try.func52, Try.ntmps52
              go_wp2
              go_ret
              exact ⟨rfl, (Below.refl _ _).alloc (Nat.le_refl _) _⟩

/-- A stamp's three cells in block b. -/
structure StAt (w : World) (b : Nat) (a : St) : Prop where
  c0 : w.cell? ⟨b, 0, none⟩ = some (.int .i64 a.c)
  c1 : w.cell? ⟨b, 1, none⟩ = some (.int .i64 a.s)
  c2 : w.cell? ⟨b, 2, none⟩ = some (.int .i64 a.q)
theorem StAt.room {w : World} {b : Nat} {a : St} (h : StAt w b a) : b < w.heap.size := World.block_lt_of_cell? w _ h.c0
theorem StAt.below {w w' : World} {b : Nat} {a : St} (h : StAt w b a) (k : Below w.heap.size w w') : StAt w' b a :=
  ⟨(k.cell (p := ⟨b, 0, none⟩) h.room).trans h.c0, (k.cell (p := ⟨b, 1, none⟩) h.room).trans h.c1, (k.cell (p := ⟨b, 2, none⟩) h.room).trans h.c2⟩

/-- A new stamp's block that may be written: all zeros. -/
structure Out (w : World) (b : Nat) : Prop where
  z0 : w.cell? ⟨b, 0, none⟩ = some (.int .i64 0)
  z1 : w.cell? ⟨b, 1, none⟩ = some (.int .i64 0)
  z2 : w.cell? ⟨b, 2, none⟩ = some (.int .i64 0)
  y0 : w.frozen? ⟨b, 0, none⟩ = false
  y1 : w.frozen? ⟨b, 1, none⟩ = false
  y2 : w.frozen? ⟨b, 2, none⟩ = false
theorem Out.room {w : World} {b : Nat} (h : Out w b) : b < w.heap.size := World.block_lt_of_cell? w _ h.z0
theorem Out.below {w w' : World} {b : Nat} (h : Out w b) (k : Below w.heap.size w w') : Out w' b :=
  ⟨(k.cell (p := ⟨b, 0, none⟩) h.room).trans h.z0, (k.cell (p := ⟨b, 1, none⟩) h.room).trans h.z1, (k.cell (p := ⟨b, 2, none⟩) h.room).trans h.z2, (k.frozen (p := ⟨b, 0, none⟩) h.room).trans h.y0, (k.frozen (p := ⟨b, 1, none⟩) h.room).trans h.y1, (k.frozen (p := ⟨b, 2, none⟩) h.room).trans h.y2⟩
theorem StAt.new (w : World) (a : St) : StAt (w.alloc (.cells #[.int .i64 a.c, .int .i64 a.s, .int .i64 a.q] 23)) w.heap.size a := ⟨by simp [go_sem], by simp [go_sem], by simp [go_sem]⟩
theorem StAt.alloc {w : World} {b : Nat} {a : St} (h : StAt w b a) (o : Obj) : StAt (w.alloc o) b a := h.below ((Below.refl _ _).alloc (Nat.le_refl _) _)
theorem Out.new (w : World) : Out (w.alloc (.cells #[.int .i64 0, .int .i64 0, .int .i64 0] 23)) w.heap.size := ⟨by simp [go_sem], by simp [go_sem], by simp [go_sem], by simp [go_sem], by simp [go_sem], by simp [go_sem]⟩
theorem Out.alloc {w : World} {b : Nat} (h : Out w b) (o : Obj) : Out (w.alloc o) b := h.below ((Below.refl _ _).alloc (Nat.le_refl _) _)

/-- Three stamps in their blocks. -/
structure Held3 (w : World) (b1 b2 b3 : Nat) (x y z : St) (w' : World) : Prop where
  h1 : StAt w' b1 x
  h2 : StAt w' b2 y
  h3 : StAt w' b3 z
  bel : Below w.heap.size w w'
theorem Held3.keep {w w1 w2 : World} {b1 b2 b3 : Nat} {x y z : St} (h : Held3 w b1 b2 b3 x y z w1) (k : Below w1.heap.size w1 w2) : Held3 w b1 b2 b3 x y z w2 := ⟨h.h1.below k, h.h2.below k, h.h3.below k, h.bel.trans (k.mono h.bel.size)⟩
theorem Held3.drew {w w1 : World} {b1 b2 b3 : Nat} {x y z : St} (h : Held3 w b1 b2 b3 x y z w1) : Held3 w b1 b2 b3 x y z w1.drew := h.keep ((Below.refl _ _).drew)
theorem eql_run (a b : St) (w : World) : (binOp .eql 23 (.agg #[.int .i64 a.c, .int .i64 a.s, .int .i64 a.q]) (.agg #[.int .i64 b.c, .int .i64 b.s, .int .i64 b.q])).run Try.prog w = .ok (.bool (decide (a = b))) w := by
  obtain ⟨c1, s1, q1⟩ := a
  obtain ⟨c2, s2, q2⟩ := b
  have e : decide (St.mk c1 s1 q1 = St.mk c2 s2 q2) = (decide (c1 = c2) && (decide (s1 = s2) && decide (q1 = q2))) := by
    rw [Bool.eq_iff_iff]; simp
  rw [e]
  by_cases e1 : c1 = c2
  · by_cases e2 : s1 = s2
    · by_cases e3 : q1 = q2
      · subst e1; subst e2; subst e3; simp [go_sem]
      · have e4 : (q1 == q2) = false := by simpa using e3
        subst e1; subst e2; simp [go_sem, e3, e4]
    · have e4 : (s1 == s2) = false := by simpa using e2
      subst e1; simp [go_sem, e2, e4]
  · have e4 : (c1 == c2) = false := by simpa using e1
    simp [go_sem, e1, e4]
theorem lessV (a b : St) (x : Bool) (hx : Hid (a.lt b = x)) (w : World) : Calls Try.prog 72 #[.agg #[.int .i64 a.c, .int .i64 a.s, .int .i64 a.q], .agg #[.int .i64 b.c, .int .i64 b.s, .int .i64 b.q]] w fun e w' => e = .returned (.bool x) ∧ Below w.heap.size w w' := by
  have := less_is a b w
  rw [hx.out] at this
  exact this
theorem rlessV (a b : St) (x : Bool) (hx : Hid (a.lt b = x)) (w : World) : Calls Try.prog 73 #[.agg #[.int .i64 a.c, .int .i64 a.s, .int .i64 a.q], .agg #[.int .i64 b.c, .int .i64 b.s, .int .i64 b.q]] w fun e w' => e = .returned (.bool x) ∧ Below w.heap.size w w' := by
  have := rless_is a b w
  rw [hx.out] at this
  exact this
theorem St.lt_self (a : St) : a.lt a = false := by unfold St.lt; simp
theorem St.lt_not {a b : St} (h : a.lt b = true) : b.lt a = false := by unfold St.lt at *; simp at *; omega
theorem St.lt_trans {a b c : St} (h : a.lt b = true) (k : b.lt c = true) : a.lt c = true := by unfold St.lt at *; simp at *; omega
theorem St.lt_eq {a b : St} (h : a.lt b = false) (k : b.lt a = false) : a = b := by
  unfold St.lt at *
  simp at *
  exact St.ext' (by omega) (by omega) (by omega)
end Go.Proofs.Ytjckphmkhikpaaa
