/- The contracts of the program's CheckPoint, Before and Newer; orders of texts. -/
import Derived.Test.YtcjcbbpolhpphaaSampleNm
import Derived.Test.YtcjcbbpolhpphaaSamplePt
set_option maxRecDepth 20000
namespace Go.Proofs.Ytcjcbbpolhpphaa
open Go.RowKit Go.Proofs.Ytcjcbbpolhpphaa.Vi Go.Proofs.Ytcjcbbpolhpphaa.Mk

theorem bl_self : ∀ x : List UInt8, Op.bytesLess x x = false
  | [] => rfl
  | a :: x => by
    unfold Op.bytesLess
    rw [bl_self x]
    simp
theorem bl_not : ∀ x y : List UInt8, Op.bytesLess x y = true → Op.bytesLess y x = false
  | [], [], h => by cases h
  | [], _ :: _, _ => rfl
  | _ :: _, [], h => by cases h
  | a :: x, b :: y, h => by
    unfold Op.bytesLess at h ⊢
    rw [Bool.or_eq_true, Bool.and_eq_true] at h
    rw [Bool.or_eq_false_iff]
    rcases h with h | ⟨h1, h2⟩
    · have h : a < b := of_decide_eq_true h
      have h' : a.toNat < b.toNat := h
      refine ⟨decide_eq_false fun k : b < a => ?_, ?_⟩
      · have k' : b.toNat < a.toNat := k
        omega
      · have : (b == a) = false := by
          rw [beq_eq_false_iff_ne]; rintro rfl; omega
        rw [this]; rfl
    · obtain rfl := eq_of_beq h1
      refine ⟨decide_eq_false fun k : a < a => ?_, ?_⟩
      · have k' : a.toNat < a.toNat := k
        omega
      · rw [bl_not x y h2]; simp
theorem bl_or : ∀ x y : List UInt8, x ≠ y → Op.bytesLess x y = false → Op.bytesLess y x = true
  | [], [], h, _ => absurd rfl h
  | [], _ :: _, _, h => by cases h
  | _ :: _, [], _, _ => rfl
  | a :: x, b :: y, hne, h => by
    unfold Op.bytesLess at h ⊢
    rw [Bool.or_eq_false_iff] at h
    obtain ⟨h1, h2⟩ := h
    have h1 : ¬ a < b := of_decide_eq_false h1
    have h1' : ¬ a.toNat < b.toNat := h1
    by_cases e : a = b
    · subst e
      have hxy : x ≠ y := fun e => hne (by rw [e])
      have h2 : Op.bytesLess x y = false := by simpa using h2
      rw [bl_or x y hxy h2]; simp
    · have : decide (b < a) = true := decide_eq_true (show b.toNat < a.toNat by
        have : a.toNat ≠ b.toNat := fun k => e (UInt8.toNat_inj.1 k)
        omega)
      rw [this]; rfl
theorem bl_trans : ∀ x y z : List UInt8, Op.bytesLess x y = true → Op.bytesLess y z = true → Op.bytesLess x z = true
  | [], [], _, h, _ => by cases h
  | [], _ :: _, [], _, h => by cases h
  | [], _ :: _, _ :: _, _, _ => rfl
  | _ :: _, [], _, h, _ => by cases h
  | _ :: _, _ :: _, [], _, h => by cases h
  | a :: x, b :: y, c :: z, h, k => by
    unfold Op.bytesLess at h k ⊢
    rw [Bool.or_eq_true, Bool.and_eq_true] at h k ⊢
    rcases h with h | ⟨h1, h2⟩
    · have h' : a.toNat < b.toNat := of_decide_eq_true h
      left
      refine decide_eq_true (show a.toNat < c.toNat from ?_)
      rcases k with k | ⟨k1, k2⟩
      · have k' : b.toNat < c.toNat := of_decide_eq_true k
        omega
      · obtain rfl := eq_of_beq k1
        exact h'
    · obtain rfl := eq_of_beq h1
      rcases k with k | ⟨k1, k2⟩
      · exact Or.inl k
      · exact Or.inr ⟨k1, bl_trans x y z h2 k2⟩
theorem lessB_self (a : ByteArray) : lessB a a = false := bl_self _
theorem lessB_not {a b : ByteArray} (h : lessB a b = true) : lessB b a = false := bl_not _ _ h
theorem lessB_or {a b : ByteArray} (h : a ≠ b) (k : lessB a b = false) : lessB b a = true := bl_or _ _ (fun e => h (by rw [ByteArray.toList_eq, ByteArray.toList_eq] at e; exact ByteArray.ext (Array.toList_inj.1 e))) k
theorem lessB_trans {a b c : ByteArray} (h : lessB a b = true) (k : lessB b c = true) : lessB a c = true := bl_trans _ _ _ h k
theorem lessB_ne {a b : ByteArray} (h : lessB a b = true) : a ≠ b := fun e => by rw [e, lessB_self] at h; cases h

theorem before_is (a b : Pt) (z : Bool) (w : World) (H : Hid (a.before b = z)) : Calls Try.prog 70 #[ptV a, ptV b] w fun e w' => e = .returned (.bool z) ∧ Below w.heap.size w w' := by
  have HB : Below w.heap.size w ((w.alloc (.cells #[.string a.s, .int .i64 a.t, .int .i64 a.v, .int .i64 a.st.c, .int .i64 a.st.s, .int .i64 a.st.q] 55)).alloc (.cells #[.string b.s, .int .i64 b.t, .int .i64 b.v, .int .i64 b.st.c, .int .i64 b.st.s, .int .i64 b.st.q] 55)) := bel_new ((Below.refl _ _).alloc (Nat.le_refl _) _) _
  unfold Pt.before at H
  unfold ptV
  have H := H.out
  by_cases h2 : a.s = b.s
  · have hq := seq_eq h2
    have hqn : (a.s.toList != b.s.toList) = false := by simp [bne, hq]
    rw [decide_eq_true h2, h2, lessB_self] at H
    by_cases h3 : a.t < b.t
    · rw [decide_eq_true h3] at H
      have HZ := Lib.hid (show true = z from H)
      clear H h2
      go_enter Try.func70, Try.ntmps70
      go_wp2
      go_ret
      exact ⟨by rw [← HZ.out]; rfl, HB⟩
    · rw [decide_eq_false h3] at H
      have HZ := Lib.hid (show false = z from H)
      clear H h2
      go_enter Try.func70, Try.ntmps70
      go_wp2
      go_ret
      exact ⟨by rw [← HZ.out]; rfl, HB⟩
  · have hq := seq_ne h2
    have hqn : (a.s.toList != b.s.toList) = true := by simp [bne, hq]
    rw [decide_eq_false h2] at H
    obtain ⟨x, hx⟩ : ∃ x, Op.bytesLess a.s.toList b.s.toList = x := ⟨_, rfl⟩
    have HZ := Lib.hid (show x = z by rw [← H, ← hx]; unfold lessB; simp)
    clear H h2
    go_enter Try.func70, Try.ntmps70
    go_wp2
    go_ret
    exact ⟨by rw [← HZ.out]; rfl, HB⟩

theorem newer_is (a b : Pt) (z : Bool) (w : World) (H : Hid (a.newer b = z)) : Calls Try.prog 71 #[ptV a, ptV b] w fun e w' => e = .returned (.bool z) ∧ Below w.heap.size w w' := by
  have HB : Below w.heap.size w ((w.alloc (.cells #[.string a.s, .int .i64 a.t, .int .i64 a.v, .int .i64 a.st.c, .int .i64 a.st.s, .int .i64 a.st.q] 55)).alloc (.cells #[.string b.s, .int .i64 b.t, .int .i64 b.v, .int .i64 b.st.c, .int .i64 b.st.s, .int .i64 b.st.q] 55)) := bel_new ((Below.refl _ _).alloc (Nat.le_refl _) _) _
  have kl := fun w => lessV b.st a.st _ (Lib.hid rfl) w
  have HA := (PtAt.new w a).alloc (.cells #[.string b.s, .int .i64 b.t, .int .i64 b.v, .int .i64 b.st.c, .int .i64 b.st.s, .int .i64 b.st.q] 55)
  have HBB : PtAt ((w.alloc (.cells #[.string a.s, .int .i64 a.t, .int .i64 a.v, .int .i64 a.st.c, .int .i64 a.st.s, .int .i64 a.st.q] 55)).alloc (.cells #[.string b.s, .int .i64 b.t, .int .i64 b.v, .int .i64 b.st.c, .int .i64 b.st.s, .int .i64 b.st.q] 55)) (w.heap.size + 1) b := by have := PtAt.new (w.alloc (.cells #[.string a.s, .int .i64 a.t, .int .i64 a.v, .int .i64 a.st.c, .int .i64 a.st.s, .int .i64 a.st.q] 55)) b; simpa using this
  unfold Pt.newer at H
  unfold ptV
  have H := H.out
  generalize b.st.lt a.st = x at *
  by_cases h2 : a.s = b.s
  · have hq := seq_eq h2
    rw [decide_eq_true h2] at H
    by_cases h3 : a.t = b.t
    · have ht : (a.t == b.t) = true := by simpa using h3
      rw [decide_eq_true h3] at H
      have HZ := Lib.hid (show x = z from H)
      clear H h2 h3
      go_enter Try.func71, Try.ntmps71
      go_wp2_with (go_at_call 72; (with_reducible refine (kl _).mono ?_); rintro e w1 ⟨rfl, hb1⟩; have HA1 := HA.below hb1 HA.room; have HB1 := HBB.below hb1 HBB.room; obtain ⟨x0, x1, x2, x3, x4, x5⟩ := HA1; obtain ⟨y0, y1, y2, y3, y4, y5⟩ := HB1)
      go_ret
      exact ⟨by rw [← HZ.out]; rfl, bel_next HB hb1⟩
    · have ht : (a.t == b.t) = false := by simpa using h3
      rw [decide_eq_false h3] at H
      have HZ := Lib.hid (show false = z from H)
      clear H h2 h3
      go_enter Try.func71, Try.ntmps71
      go_wp2_with (go_at_call 72; (with_reducible refine (kl _).mono ?_); rintro e w1 ⟨rfl, hb1⟩; have HA1 := HA.below hb1 HA.room; have HB1 := HBB.below hb1 HBB.room; obtain ⟨x0, x1, x2, x3, x4, x5⟩ := HA1; obtain ⟨y0, y1, y2, y3, y4, y5⟩ := HB1)
      go_ret
      exact ⟨by rw [← HZ.out]; rfl, HB⟩
  · have hq := seq_ne h2
    rw [decide_eq_false h2] at H
    have HZ := Lib.hid (show false = z from H)
    clear H h2
    go_enter Try.func71, Try.ntmps71
    go_wp2_with (go_at_call 72; (with_reducible refine (kl _).mono ?_); rintro e w1 ⟨rfl, hb1⟩; have HA1 := HA.below hb1 HA.room; have HB1 := HBB.below hb1 HBB.room; obtain ⟨x0, x1, x2, x3, x4, x5⟩ := HA1; obtain ⟨y0, y1, y2, y3, y4, y5⟩ := HB1)
    go_ret
    exact ⟨by rw [← HZ.out]; rfl, HB⟩

/-- What a point has of a record. -/
def Rec.stored (r : Rec) : Pt := ⟨r.s, r.t, r.v, r.st⟩
end Go.Proofs.Ytcjcbbpolhpphaa
