/- Points: which may be, their order, whether two are the same; the contracts of the document's answers for these. -/
import Derived.Test.YtcjcbbpolhpphaaSampleRec
set_option maxRecDepth 20000
namespace Go.Proofs.Ytcjcbbpolhpphaa
open Go.RowKit Go.Proofs.Ytcjcbbpolhpphaa.Vi Go.Proofs.Ytcjcbbpolhpphaa.Mk

structure Pt where
  s : ByteArray
  t : Int
  v : Int
  st : St
def Pt.ok (p : Pt) : Bool := nameB p.s && decide (0 ≤ p.t ∧ p.t ≤ 1099511627776) && p.st.ok
def Pt.err (p : Pt) : Int := if p.ok then 0 else 1
def ptV (p : Pt) : Value := .agg #[.string p.s, .int .i64 p.t, .int .i64 p.v, .int .i64 p.st.c, .int .i64 p.st.s, .int .i64 p.st.q]
structure PtAt (w : World) (b : Nat) (p : Pt) : Prop where
  c0 : w.cell? ⟨b, 0, none⟩ = some (.string p.s)
  c1 : w.cell? ⟨b, 1, none⟩ = some (.int .i64 p.t)
  c2 : w.cell? ⟨b, 2, none⟩ = some (.int .i64 p.v)
  c3 : w.cell? ⟨b, 3, none⟩ = some (.int .i64 p.st.c)
  c4 : w.cell? ⟨b, 4, none⟩ = some (.int .i64 p.st.s)
  c5 : w.cell? ⟨b, 5, none⟩ = some (.int .i64 p.st.q)
theorem PtAt.below {w w' : World} {b B : Nat} {p : Pt} (h : PtAt w b p) (k : Below B w w') (hb : b < B) : PtAt w' b p :=
  ⟨(k.cell (p := ⟨b, 0, none⟩) hb).trans h.c0, (k.cell (p := ⟨b, 1, none⟩) hb).trans h.c1, (k.cell (p := ⟨b, 2, none⟩) hb).trans h.c2, (k.cell (p := ⟨b, 3, none⟩) hb).trans h.c3, (k.cell (p := ⟨b, 4, none⟩) hb).trans h.c4, (k.cell (p := ⟨b, 5, none⟩) hb).trans h.c5⟩
theorem PtAt.room {w : World} {b : Nat} {p : Pt} (h : PtAt w b p) : b < w.heap.size := World.block_lt_of_cell? w _ h.c0
theorem PtAt.new (w : World) (p : Pt) : PtAt (w.alloc (.cells #[.string p.s, .int .i64 p.t, .int .i64 p.v, .int .i64 p.st.c, .int .i64 p.st.s, .int .i64 p.st.q] 55)) w.heap.size p := by
  constructor <;> simp [go_sem]
theorem PtAt.alloc {w : World} {b : Nat} {p : Pt} (h : PtAt w b p) (o : Obj) : PtAt (w.alloc o) b p := h.below ((Below.refl _ _).alloc (Nat.le_refl _) o) h.room
theorem seq_ne {a b : ByteArray} (h : ¬ a = b) : (a.toList == b.toList) = false := by
  rw [ByteArray.toList_eq, ByteArray.toList_eq]
  apply Bool.eq_false_iff.2
  intro e
  exact h (ByteArray.ext (Array.toList_inj.1 (eq_of_beq e)))
theorem seq_eq {a b : ByteArray} (h : a = b) : (a.toList == b.toList) = true := by subst h; simp
/-- One text is bytewise less than another one. -/
def lessB (a b : ByteArray) : Bool := Op.bytesLess a.toList b.toList
def Pt.before (a b : Pt) : Bool := lessB a.s b.s || (decide (a.s = b.s) && decide (a.t < b.t))
def Pt.newer (a b : Pt) : Bool := decide (a.s = b.s) && decide (a.t = b.t) && b.st.lt a.st

theorem rcheckp_is (p : Pt) (w : World) (hs : p.s.size ≤ 1000000000) : Calls Try.prog 31 #[ptV p] w fun e w' => e = .returned (.int .i64 p.err) ∧ Below w.heap.size w w' := by
  have kn := fun w => rname_is p.s _ w hs (Lib.hid rfl)
  have kt := fun w => rtime_is p.t _ w (Lib.hid rfl)
  have kc := fun w => rcheckV p.st _ (Lib.hid (St.err_eq p.st)) w
  have he : p.err = if (nameB p.s && decide (0 ≤ p.t ∧ p.t ≤ 1099511627776) && p.st.ok) then 0 else 1 := rfl
  have HN := PtAt.new w p
  obtain ⟨x0, x1, x2, x3, x4, x5⟩ := HN
  unfold ptV
  cases h1 : nameB p.s with
  | false =>
    rw [h1] at kn he
    have HE := Lib.hid (show p.err = 1 by rw [he]; rfl)
    clear he h1
    go_enter Try.func31, Try.ntmps31
    go_wp2_with (first
      | (go_at_call 48; (with_reducible refine (kn _).mono ?_); rintro e w1 ⟨rfl, rfl⟩)
      | (go_at_call 49; (with_reducible refine (kt _).mono ?_); rintro e w1 ⟨rfl, rfl⟩))
    go_ret
    exact ⟨by rw [HE.out]; rfl, (Below.refl _ _).alloc (Nat.le_refl _) _⟩
  | true =>
    cases h2 : decide (0 ≤ p.t ∧ p.t ≤ 1099511627776) with
    | false =>
      rw [h1, h2] at he
      rw [h1] at kn
      rw [h2] at kt
      have HE := Lib.hid (show p.err = 1 by rw [he]; rfl)
      clear he h1 h2
      go_enter Try.func31, Try.ntmps31
      go_wp2_with (first
        | (go_at_call 48; (with_reducible refine (kn _).mono ?_); rintro e w1 ⟨rfl, rfl⟩)
        | (go_at_call 49; (with_reducible refine (kt _).mono ?_); rintro e w1 ⟨rfl, rfl⟩))
      go_ret
      exact ⟨by rw [HE.out]; rfl, (Below.refl _ _).alloc (Nat.le_refl _) _⟩
    | true =>
      cases h3 : p.st.ok
      all_goals
        rw [h1, h2, h3] at he
        rw [h1] at kn
        rw [h2] at kt
        rw [h3] at kc
        have HE := Lib.hid he
        clear he h1 h2 h3
        go_enter Try.func31, Try.ntmps31
        go_wp2_with (first
          | (go_at_call 48; (with_reducible refine (kn _).mono ?_); rintro e w1 ⟨rfl, rfl⟩)
          | (go_at_call 49; (with_reducible refine (kt _).mono ?_); rintro e w1 ⟨rfl, rfl⟩)
          | (go_at_call 50; (with_reducible refine (kc _).mono ?_); rintro e w2 ⟨rfl, hb2⟩))
        go_ret
        exact ⟨by rw [HE.out]; rfl, bel_next ((Below.refl _ _).alloc (Nat.le_refl _) _) hb2⟩

theorem rbefore_is (a b : Pt) (z : Bool) (w : World) (H : Hid (a.before b = z)) : Calls Try.prog 51 #[ptV a, ptV b] w fun e w' => e = .returned (.bool z) ∧ Below w.heap.size w w' := by
  have HB : Below w.heap.size w ((w.alloc (.cells #[.string a.s, .int .i64 a.t, .int .i64 a.v, .int .i64 a.st.c, .int .i64 a.st.s, .int .i64 a.st.q] 55)).alloc (.cells #[.string b.s, .int .i64 b.t, .int .i64 b.v, .int .i64 b.st.c, .int .i64 b.st.s, .int .i64 b.st.q] 55)) := bel_new ((Below.refl _ _).alloc (Nat.le_refl _) _) _
  unfold Pt.before lessB at H
  unfold ptV
  have H := H.out
  cases h1 : Op.bytesLess a.s.toList b.s.toList with
  | true =>
    rw [h1] at H
    have HZ := Lib.hid (show true = z from H)
    clear H
    go_enter Try.func51, Try.ntmps51
    go_wp2
    go_ret
    exact ⟨by rw [← HZ.out]; rfl, HB⟩
  | false =>
    by_cases h2 : a.s = b.s
    · have hq := seq_eq h2
      by_cases h3 : a.t < b.t
      · rw [h1, decide_eq_true h2, decide_eq_true h3] at H
        have HZ := Lib.hid (show true = z from H)
        clear H h2
        go_enter Try.func51, Try.ntmps51
        go_wp2
        go_ret
        exact ⟨by rw [← HZ.out]; rfl, HB⟩
      · rw [h1, decide_eq_true h2, decide_eq_false h3] at H
        have HZ := Lib.hid (show false = z from H)
        clear H h2
        go_enter Try.func51, Try.ntmps51
        go_wp2
        go_ret
        exact ⟨by rw [← HZ.out]; rfl, HB⟩
    · have hq := seq_ne h2
      rw [h1, decide_eq_false h2] at H
      have HZ := Lib.hid (show false = z from H)
      clear H h2
      go_enter Try.func51, Try.ntmps51
      go_wp2
      go_ret
      exact ⟨by rw [← HZ.out]; rfl, HB⟩

theorem rnewer_is (a b : Pt) (z : Bool) (w : World) (H : Hid (a.newer b = z)) : Calls Try.prog 52 #[ptV a, ptV b] w fun e w' => e = .returned (.bool z) ∧ Below w.heap.size w w' := by
  have HB : Below w.heap.size w ((w.alloc (.cells #[.string a.s, .int .i64 a.t, .int .i64 a.v, .int .i64 a.st.c, .int .i64 a.st.s, .int .i64 a.st.q] 55)).alloc (.cells #[.string b.s, .int .i64 b.t, .int .i64 b.v, .int .i64 b.st.c, .int .i64 b.st.s, .int .i64 b.st.q] 55)) := bel_new ((Below.refl _ _).alloc (Nat.le_refl _) _) _
  have kl := fun w => rlessV b.st a.st _ (Lib.hid rfl) w
  have HA := (PtAt.new w a).alloc (.cells #[.string b.s, .int .i64 b.t, .int .i64 b.v, .int .i64 b.st.c, .int .i64 b.st.s, .int .i64 b.st.q] 55)
  have HBB : PtAt ((w.alloc (.cells #[.string a.s, .int .i64 a.t, .int .i64 a.v, .int .i64 a.st.c, .int .i64 a.st.s, .int .i64 a.st.q] 55)).alloc (.cells #[.string b.s, .int .i64 b.t, .int .i64 b.v, .int .i64 b.st.c, .int .i64 b.st.s, .int .i64 b.st.q] 55)) (w.heap.size + 1) b := by have := PtAt.new (w.alloc (.cells #[.string a.s, .int .i64 a.t, .int .i64 a.v, .int .i64 a.st.c, .int .i64 a.st.s, .int .i64 a.st.q] 55)) b; simpa using this
  unfold Pt.newer at H
  unfold ptV
  have H := H.out
  generalize b.st.lt a.st = x at *
  by_cases h2 : a.s = b.s
  · have hq := seq_eq h2
    rw [decide_eq_true h2] at H
    by_cases h3 : a.t = b.t
    · have ht : (a.t == b.t) = true := by simpa using h3
      rw [decide_eq_true h3] at H
      have HZ := Lib.hid (show x = z from H)
      clear H h2 h3
      go_enter Try.func52, Try.ntmps52
      go_wp2_with (go_at_call 61; (with_reducible refine (kl _).mono ?_); rintro e w1 ⟨rfl, hb1⟩; have HA1 := HA.below hb1 HA.room; have HB1 := HBB.below hb1 HBB.room; obtain ⟨x0, x1, x2, x3, x4, x5⟩ := HA1; obtain ⟨y0, y1, y2, y3, y4, y5⟩ := HB1)
      go_ret
      exact ⟨by rw [← HZ.out]; rfl, bel_next HB hb1⟩
    · have ht : (a.t == b.t) = false := by simpa using h3
      rw [decide_eq_false h3] at H
      have HZ := Lib.hid (show false = z from H)
      clear H h2 h3
      go_enter Try.func52, Try.ntmps52
      go_wp2_with (go_at_call 61; (with_reducible refine (kl _).mono ?_); rintro e w1 ⟨rfl, hb1⟩; have HA1 := HA.below hb1 HA.room; have HB1 := HBB.below hb1 HBB.room; obtain ⟨x0, x1, x2, x3, x4, x5⟩ := HA1; obtain ⟨y0, y1, y2, y3, y4, y5⟩ := HB1)
      go_ret
      exact ⟨by rw [← HZ.out]; rfl, bel_next HB hb1⟩
  · have hq := seq_ne h2
    rw [decide_eq_false h2] at H
    have HZ := Lib.hid (show false = z from H)
    clear H h2
    go_enter Try.func52, Try.ntmps52
    go_wp2_with (go_at_call 61; (with_reducible refine (kl _).mono ?_); rintro e w1 ⟨rfl, hb1⟩; have HA1 := HA.below hb1 HA.room; have HB1 := HBB.below hb1 HBB.room; obtain ⟨x0, x1, x2, x3, x4, x5⟩ := HA1; obtain ⟨y0, y1, y2, y3, y4, y5⟩ := HB1)
    go_ret
    exact ⟨by rw [← HZ.out]; rfl, bel_next HB hb1⟩

def Rec.same (a b : Rec) : Bool := sameL a.d b.d && decide (a.k = b.k) && decide (a.s = b.s) && decide (a.t = b.t) && decide (a.v = b.v) && decide (a.tier = b.tier) && decide (a.st = b.st)

end Go.Proofs.Ytcjcbbpolhpphaa
