/- The document's network: Double, Part, Join. -/
import Derived.Test.YtnjabhjcnkbgpaaNetRefDr
set_option maxRecDepth 20000
set_option linter.unusedSimpArgs false
set_option linter.unusedVariables false
namespace Go.Proofs.Ytnjabhjcnkbgpaa
open Go.RowKit

section
variable {w : World} {B r : Nat} {VL VP : Value} {R : RN}
def rdoubleB (R : RN) : Bool := !(R.mail.length == 0) && !(decide (2000 ≤ R.mail.length))
theorem rdouble_no (x : Int) (h : RAt w B r VL VP R) (h0 : rdoubleB R = false) : Calls Try.prog 16 #[.pointer (some ⟨r, 0, none⟩), .int .i64 x] w (RDone B r VL VP R (.bool false) w) := by
  obtain ⟨la, lc, rfl⟩ := h.rowL.slice
  obtain ⟨c0, -⟩ := h.c0
  have HW := Lib.hid (RW.refl h)
  obtain ⟨n, hn⟩ : ∃ n, R.mail.length = n := ⟨_, rfl⟩
  unfold rdoubleB at h0
  rw [hn] at h0 c0 HW ⊢
  have hc : ((n : Int) == 0) = true ∨ (((n : Int) == 0) = false ∧ (2000 : Int) ≤ (n : Int)) := by
    by_cases hz : n = 0
    · left; simp [hz]
    · right
      refine ⟨by rw [beq_eq_false_iff_ne]; omega, ?_⟩
      have e1 : (n == 0) = false := by simpa using hz
      rw [e1] at h0
      have : 2000 ≤ n := by simpa using h0
      omega
  clear h hn h0
  rcases hc with h1 | ⟨h1, h2⟩
  all_goals
    go_enter Try.func16, Try.ntmps16
    go_wp2
    go_ret
    exact ⟨_, _, rfl, HW.out⟩
set_option maxHeartbeats 4000000 in
theorem rdouble_yes (x : Int) (m : Ml) (hx : -9223372036854775808 ≤ x ∧ x ≤ 9223372036854775807) (h : RAt w B r VL VP R) (hlt : R.mail.length < 2000) (hm : R.mail[pickN x R.mail.length]? = some m) : Calls Try.prog 16 #[.pointer (some ⟨r, 0, none⟩), .int .i64 x] w (RDone B r VL VP { R with mail := R.mail ++ [⟨inc R.last, m.f, m.t, m.s, 0⟩], last := inc R.last } (.bool true) w) := by
  obtain ⟨p, hp⟩ : ∃ p, pickN x R.mail.length = p := ⟨_, rfl⟩
  rw [hp] at hm
  obtain ⟨hpl, hpe⟩ := List.getElem?_eq_some_iff.1 hm
  obtain ⟨la, lc, rfl⟩ := h.rowL.slice
  obtain ⟨n, hn⟩ : ∃ n, R.mail.length = n := ⟨_, rfl⟩
  have kw := fun w => which_is x R.mail.length w hx (by omega) (by omega)
  rw [hp, hn] at kw
  rw [hn] at h ⊢
  have hd := h.later (Below.refl _ w).drew
  obtain ⟨c0, c1, -, hfz⟩ := h.c0
  have f1 := hfz 1
  have f0 := hfz 0
  obtain ⟨g, rfl, -, -, hgl, -, hat⟩ := h.rowL.block (by omega)
  obtain ⟨m0, m1, m2, m3, m4⟩ := hat p hpl
  rw [hpe] at m0 m1 m2 m3 m4
  have hrl := h.lt
  have hg1 : ¬ g = w.heap.size := by omega
  have hg2 : ¬ w.heap.size = g := by omega
  have hr1 : ¬ r = w.heap.size := by omega
  have hr2 : ¬ w.heap.size = r := by omega
  obtain ⟨z, hz⟩ : ∃ z, IntKind.i64.wrap (R.last + 1) = z := ⟨_, rfl⟩
  have hpi : (p : Int) < (n : Int) := by omega
  have hne : ((n : Int) == 0) = false := by rw [beq_eq_false_iff_ne]; omega
  have hn2 : ¬ (2000 : Int) ≤ (n : Int) := by omega
  have H := Lib.hid h
  have HI := Lib.hid (show inc R.last = z from hz)
  obtain ⟨n2, hn2'⟩ : ∃ n2, (R.mail ++ [(⟨z, m.f, m.t, m.s, 0⟩ : Ml)]).length = n2 := ⟨_, rfl⟩
  have HN2 := Lib.hid hn2'
  have HML := Lib.hid (show R.mail.length ≤ 2000 by omega)
  have HBS := Lib.hid (show B ≤ w.heap.size from Nat.le_trans h.base (Nat.le_of_lt hrl))
  have hl2 : (R.mail ++ [(⟨z, m.f, m.t, m.s, 0⟩ : Ml)]).length ≤ 2000 := by rw [List.length_append]; simp; omega
  have H1 := RW.last_ h z
  have HWW := Lib.hid (fun (W : World) (hW : W = ((w.setCell ⟨r, 1, none⟩ (.int .i64 z)).alloc (.cells #[.int .i64 z, .int .i64 m.f, .int .i64 m.t, .string m.s, .int .i64 0] 34)).drew) =>
    show W.cell? ⟨r, 0, none⟩ = some (.slice (some ⟨g, 0, none⟩) n lc) ∧ W.frozen? ⟨r, 0, none⟩ = false ∧ r < W.heap.size ∧ Hid (w.heap.size ≤ W.heap.size) ∧ MAt W w.heap.size 0 ⟨z, m.f, m.t, m.s, 0⟩ ∧ Hid (RAt W.drew B r (.slice (some ⟨g, 0, none⟩) n lc) VP { R with last := z } ∧ w.heap.size < W.heap.size ∧ ∀ (w2 : World) (a2 : Option Addr) (c2 : Nat), MRow w2 B (.slice a2 n2 c2) (R.mail ++ [⟨z, m.f, m.t, m.s, 0⟩]) → (W.drew.alloc (.cells #[.int .i64 z, .int .i64 m.f, .int .i64 m.t, .string m.s, .int .i64 0] 34)).grownBy w2 (Value.slice (some ⟨g, 0, none⟩) n lc).ownBlock → (∀ k, (Value.slice a2 n2 c2).ownBlock = some k → (Value.slice (some ⟨g, 0, none⟩) n lc).ownBlock = some k ∨ (W.drew.alloc (.cells #[.int .i64 z, .int .i64 m.f, .int .i64 m.t, .string m.s, .int .i64 0] 34)).heap.size ≤ k) → w2.cell? ⟨r, 0, none⟩ = some (.slice (some ⟨g, 0, none⟩) n lc) ∧ w2.cell? ⟨r, 1, none⟩ = some (.int .i64 z) ∧ w2.frozen? ⟨r, 0, none⟩ = false ∧ RW w (w2.setCell ⟨r, 0, none⟩ (.slice a2 n2 c2)) B r (.slice (some ⟨g, 0, none⟩) n lc) VP (.slice a2 n2 c2) VP { R with mail := R.mail ++ [⟨z, m.f, m.t, m.s, 0⟩], last := z }) by
      have hB : Below (w.setCell ⟨r, 1, none⟩ (.int .i64 z)).heap.size (w.setCell ⟨r, 1, none⟩ (.int .i64 z)) W := by rw [hW]; exact (bel_al _ _).trans (((Below.refl (w.setCell ⟨r, 1, none⟩ (.int .i64 z)).heap.size _).drew))
      have hat := H1.at_.later hB
      obtain ⟨d0, -, -, d3⟩ := hat.c0
      have hsz : (w.setCell ⟨r, 1, none⟩ (.int .i64 z)).heap.size = w.heap.size := by simp
      have hmm := mat_new (w.setCell ⟨r, 1, none⟩ (.int .i64 z)) ⟨z, m.f, m.t, m.s, 0⟩
      rw [hsz] at hmm
      refine ⟨d0, d3 0, hat.lt, Lib.hid (by rw [hW]; simp), ?_, Lib.hid ⟨hat.later (Below.refl _ _).drew, by rw [hW]; simp, fun w2 a2 c2 h1 h2 h3 => ?_⟩⟩
      · rw [hW]; exact ⟨hmm.c0, hmm.c1, hmm.c2, hmm.c3, hmm.c4⟩
      · have bb : Below (w.setCell ⟨r, 1, none⟩ (.int .i64 z)).heap.size (w.setCell ⟨r, 1, none⟩ (.int .i64 z)) (W.drew.alloc (.cells #[.int .i64 z, .int .i64 m.f, .int .i64 m.t, .string m.s, .int .i64 0] 34)) := hB.trans ((((Below.refl _ W).drew).trans (bel_al W.drew _)).mono hB.size)
        obtain ⟨t0, t1, t2, t3⟩ := H1.at_.appended bb h1 hl2 h2 h3
        exact ⟨t0, t1, t2, H1.trans t3⟩)
  clear h hd hat hp hpl hpe hm hfz H1 hl2 hn2'
  go_enter Try.func16, Try.ntmps16
  go_upto_region 3 with fail
  go_region_with (go_at_call 39; (refine (kw _).mono ?_); rintro e w2 ⟨rfl, rfl⟩)
  all_goals go_upto_region 7 with fail
  all_goals (obtain ⟨W, hW⟩ : ∃ x, x = ((w.setCell ⟨r, 1, none⟩ (.int .i64 z)).alloc (.cells #[.int .i64 z, .int .i64 m.f, .int .i64 m.t, .string m.s, .int .i64 0] 34)).drew := ⟨_, rfl⟩)
  all_goals rw [← hW]
  all_goals (obtain ⟨q0, q1, q2, q3, q4, q5⟩ := HWW.out W hW)
  all_goals (have hbq := q5.out.2.1)
  all_goals (have hrd := Lib.hid q5.out.1)
  all_goals clear hW c0 c1 f0 f1 m0 m1 m2 m3 m4
  all_goals (obtain ⟨b0, b1, b2, b3, b4⟩ := q4)
  all_goals go_region_law (refine step_mail rfl _ _ rfl B _ R.mail ⟨z, m.f, m.t, m.s, 0⟩ W.drew.heap.size rfl rfl (hrd.out.rowL.later (bel_al W.drew _)) (mat_new W.drew ⟨z, m.f, m.t, m.s, 0⟩) HML.out (Nat.le_trans HBS.out (Nat.le_trans q3.out (by simp))) ?_; intro v2 w2 hR2 hg2 hs2; obtain ⟨a2, c2, rfl⟩ := hR2.slice; rw [HN2.out] at hR2 hs2 ⊢; obtain ⟨t0, t1, t2, t3⟩ := q5.out.2.2 w2 a2 c2 hR2 hg2 hs2; have HQ := Lib.hid t3; clear t3 hR2 hg2 hs2)
  all_goals go_wp2
  all_goals (go_ret; exact ⟨_, _, rfl, by rw [HI.out]; exact HQ.out⟩)
end
end Go.Proofs.Ytnjabhjcnkbgpaa
