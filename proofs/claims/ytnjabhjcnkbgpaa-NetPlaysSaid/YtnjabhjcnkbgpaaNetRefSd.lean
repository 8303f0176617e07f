/- The document's network: Send, Take, Drop, Double. -/
import Derived.Test.YtnjabhjcnkbgpaaNetRefTk
import Derived.Deep.RegionLaw
set_option maxRecDepth 20000
set_option linter.unusedSimpArgs false
set_option linter.unusedVariables false
namespace Go.Proofs.Ytnjabhjcnkbgpaa
open Go.RowKit

section
variable {w : World} {B r : Nat} {VL VP : Value} {R : RN}
set_option maxHeartbeats 4000000 in
theorem rsend_is (f t : Int) (s : ByteArray) (h : RAt w B r VL VP R) : Calls Try.prog 28 #[.pointer (some ⟨r, 0, none⟩), .int .i64 f, .int .i64 t, .string s] w (RDone B r VL VP (rsendR R f t s) (.tuple #[.int .i64 (rsendN R f t s), .bool (!rrefuse R f t s)]) w) := by
  have ka := rend_is f w
  have kb := rend_is t w
  have H := Lib.hid h
  obtain ⟨la, lc, rfl⟩ := h.rowL.slice
  obtain ⟨c0, c1, -, hfz⟩ := h.c0
  obtain ⟨n, hn⟩ : ∃ n, R.mail.length = n := ⟨_, rfl⟩
  have HN := Lib.hid hn
  rw [hn] at c0 ⊢
  obtain ⟨x, hx⟩ : ∃ x, endB f = x := ⟨_, rfl⟩
  obtain ⟨y, hy⟩ : ∃ y, endB t = y := ⟨_, rfl⟩
  rw [hx] at ka
  rw [hy] at kb
  have HRF := Lib.hid (show rrefuse R f t s = (!(x && y && !(f == t)) || decide (80000 < s.size) || decide (2000 ≤ n)) by unfold rrefuse twoB; rw [hx, hy, hn])
  have f1 := hfz 1
  clear h hfz hx hy hn
  by_cases hok : x = true ∧ y = true ∧ f ≠ t ∧ ¬ 80000 < s.size ∧ ¬ 2000 ≤ n
  · obtain ⟨rfl, rfl, hft, hsz, hn2⟩ := hok
    have HZ := Lib.hid (show rrefuse R f t s = false by rw [HRF.out, decide_eq_false hsz, decide_eq_false hn2]; have : (f == t) = false := by simpa using hft
                                                        rw [this]; rfl)
    have he1 : (f == t) = false := by simpa using hft
    have hs1 : ¬ (80000 : Int) < (s.size : Int) := by omega
    have hs2 : ¬ (2000 : Int) ≤ (n : Int) := by omega
    obtain ⟨z, hz⟩ : ∃ z, IntKind.i64.wrap (R.last + 1) = z := ⟨_, rfl⟩
    have HI := Lib.hid (show inc R.last = z from hz)
    have H1 := Lib.hid (show RW w (w.setCell ⟨r, 1, none⟩ (.int .i64 z)) B r (.slice la n lc) VP (.slice la n lc) VP { R with last := z } by have := RW.last_ H.out z; rw [HN.out] at this; exact this)
    have hlen : R.mail.length < 2000 := by rw [HN.out]; omega
    have HLEN := Lib.hid hlen
    clear hft hsz hn2 hlen
    go_enter Try.func28, Try.ntmps28
    go_upto_region 6 with (first
      | (go_at_call 44; (with_reducible refine ka.mono ?_); rintro e w1 ⟨rfl, rfl⟩; clear ka)
      | (go_at_call 44; (with_reducible refine kb.mono ?_); rintro e w1 ⟨rfl, rfl⟩))
    obtain ⟨w1, hw1⟩ : ∃ x, x = w.setCell ⟨r, 1, none⟩ (.int .i64 z) := ⟨_, rfl⟩
    rw [← hw1] at H1 ⊢
    have h1 := H1.out.at_
    obtain ⟨d0, d1, -, g⟩ := h1.c0
    have g0 := g 0
    have hb1 := h1.lt
    dsimp only at d1
    clear hw1 c0 c1 f1 g
    obtain ⟨n2, hn2⟩ : ∃ n2, (R.mail ++ [(⟨z, f, t, s, 0⟩ : Ml)]).length = n2 := ⟨_, rfl⟩
    have HN2 := Lib.hid hn2
    have hrd := Lib.hid (h1.later (Below.refl _ w1).drew)
    have hl2 : (R.mail ++ [(⟨z, f, t, s, 0⟩ : Ml)]).length ≤ 2000 := by rw [List.length_append]; have := HLEN.out; simp; omega
    have bb := ((Below.refl w1.heap.size w1).drew).trans (bel_al w1.drew (.cells #[.int .i64 z, .int .i64 f, .int .i64 t, .string s, .int .i64 0] 34))
    have HAP := Lib.hid (fun (w2 : World) (a2 : Option Addr) (c2 : Nat) (hR2 : MRow w2 B (.slice a2 n2 c2) (R.mail ++ [⟨z, f, t, s, 0⟩])) hg2 hs2 => h1.appended (w2 := w2) (v2 := .slice a2 n2 c2) bb hR2 hl2 hg2 hs2)
    have HBS := Lib.hid (show B ≤ w1.drew.heap.size from Nat.le_trans h1.base (Nat.le_of_lt hb1))
    have HML := Lib.hid (show R.mail.length ≤ 2000 by have := HLEN.out; omega)
    clear h1 hn2 hl2 bb
    go_region_law (refine step_mail rfl _ _ rfl B _ R.mail ⟨z, f, t, s, 0⟩ w1.drew.heap.size rfl rfl (hrd.out.rowL.later (bel_al w1.drew _)) (mat_new w1.drew ⟨z, f, t, s, 0⟩) HML.out (Nat.le_trans HBS.out (by simp)) ?_; intro v2 w2 hR2 hg2 hs2; obtain ⟨a2, c2, rfl⟩ := hR2.slice; rw [HN2.out] at hR2 hs2 ⊢; obtain ⟨q0, q1, q2, q3⟩ := HAP.out w2 a2 c2 hR2 hg2 hs2; have HQ := Lib.hid q3; clear q3 hR2 hg2 hs2)
    all_goals go_wp2
    all_goals (go_ret2; exact ⟨_, _, by unfold rsendN; rw [HZ.out, HI.out]; rfl, by unfold rsendR; rw [HZ.out, HI.out]; exact H1.out.trans HQ.out⟩)
  · have HZ := Lib.hid (show rrefuse R f t s = true by
      rw [HRF.out]
      cases x with
      | false => simp
      | true =>
        cases y with
        | false => simp
        | true =>
          by_cases h1 : f = t
          · subst h1; simp
          · by_cases h2 : 80000 < s.size
            · rw [decide_eq_true h2]; simp
            · by_cases h3 : 2000 ≤ n
              · rw [decide_eq_true h3]; simp
              · exact absurd ⟨rfl, rfl, h1, h2, h3⟩ hok)
    have HW := Lib.hid (show RW w w B r (.slice la n lc) VP (.slice la n lc) VP R by have := RW.refl H.out; rw [HN.out] at this; exact this)
    have hwhy : x = false ∨ (x = true ∧ y = false) ∨ (x = true ∧ y = true ∧ (f == t) = true) ∨ (x = true ∧ y = true ∧ (f == t) = false ∧ (80000 : Int) < (s.size : Int)) ∨ (x = true ∧ y = true ∧ (f == t) = false ∧ ¬ (80000 : Int) < (s.size : Int) ∧ (2000 : Int) ≤ (n : Int)) := by
      cases x with
      | false => exact Or.inl rfl
      | true =>
        cases y with
        | false => exact Or.inr (Or.inl ⟨rfl, rfl⟩)
        | true =>
          by_cases h1 : f = t
          · exact Or.inr (Or.inr (Or.inl ⟨rfl, rfl, by simpa using h1⟩))
          · have h1' : (f == t) = false := by simpa using h1
            by_cases h2 : 80000 < s.size
            · exact Or.inr (Or.inr (Or.inr (Or.inl ⟨rfl, rfl, h1', by omega⟩)))
            · by_cases h3 : 2000 ≤ n
              · exact Or.inr (Or.inr (Or.inr (Or.inr ⟨rfl, rfl, h1', by omega, by omega⟩)))
              · exact absurd ⟨rfl, rfl, h1, h2, h3⟩ hok
    clear hok
    rcases hwhy with rfl | ⟨rfl, rfl⟩ | ⟨rfl, rfl, h1⟩ | ⟨rfl, rfl, h1, h2⟩ | ⟨rfl, rfl, h1, h2, h3⟩
    all_goals
      go_enter Try.func28, Try.ntmps28
      go_wp2_with (first
        | (go_at_call 44; (with_reducible refine ka.mono ?_); rintro e w1 ⟨rfl, rfl⟩; clear ka)
        | (go_at_call 44; (with_reducible refine kb.mono ?_); rintro e w1 ⟨rfl, rfl⟩))
      go_ret2
      exact ⟨_, _, by unfold rsendN; rw [HZ.out]; rfl, by unfold rsendR; rw [HZ.out]; exact HW.out⟩
def rtakeR (R : RN) (m : Ml) : RN := { R with mail := R.mail.filter fun y => !(y.n == m.n) }
def rreadyL (R : RN) : List Ml := R.mail.filter fun m => !isP R.ps m.f m.t
theorem RW.put {w3 w4 : World} {VL' VP' : Value} {R' : RN} (hb : r < w.heap.size) (h : RW w w3 B r VL VP VL' VP' R') (q : Nat) (hq : w.heap.size ≤ q) (hn : ¬ rmods r VL' VP' q) (ho : ∀ k, k ≠ q → w4.heap[k]? = w3.heap[k]?) (e1 : w4.os = w3.os) (e2 : w4.tape = w3.tape) (e3 : w4.output = w3.output) (e4 : w4.heap.size = w3.heap.size) : RW w w4 B r VL VP VL' VP' R' :=
  ⟨h.at_.keep fun i hi => ho i fun e => hn (by rw [← e]; exact hi),
    ⟨e1.trans h.frm.os, e2.trans h.frm.tape, e3.trans h.frm.output, by rw [e4]; exact h.frm.size, fun k hk hm => (ho k (by omega)).trans (h.frm.block k hk hm)⟩, h.sub⟩
set_option maxHeartbeats 2000000 in
theorem rtake_none (x : Int) (h : RAt w B r VL VP R) (h0 : rreadyL R = []) : Calls Try.prog 12 #[.pointer (some ⟨r, 0, none⟩), .int .i64 x] w (RDone B r VL VP R (.tuple #[noM, .bool false]) w) := by
  have ba := bel_al w (.cells #[.int .i64 0, .int .i64 0, .int .i64 0, .string ⟨#[]⟩, .int .i64 0] 34)
  have ko := rready_is (h.later ba)
  rw [show (R.mail.filter fun m => !isP R.ps m.f m.t) = [] from h0] at ko
  have hcell := heap_alloc_new w (.cells #[.int .i64 0, .int .i64 0, .int .i64 0, .string ⟨#[]⟩, .int .i64 0] 34)
  have hlt : w.heap.size < (w.alloc (.cells #[.int .i64 0, .int .i64 0, .int .i64 0, .string ⟨#[]⟩, .int .i64 0] 34)).heap.size := by simp
  have HE := Lib.hid (fun (w1 : World) (hB : Below (w.alloc (.cells #[.int .i64 0, .int .i64 0, .int .i64 0, .string ⟨#[]⟩, .int .i64 0] 34)).heap.size (w.alloc (.cells #[.int .i64 0, .int .i64 0, .int .i64 0, .string ⟨#[]⟩, .int .i64 0] 34)) w1) =>
    show w1.heap[w.heap.size]? = some (.cells #[.int .i64 0, .int .i64 0, .int .i64 0, .string ⟨#[]⟩, .int .i64 0] 34) ∧ RW w w1 B r VL VP VL VP R from
      ⟨(hB.block _ hlt).trans hcell, RW.of_below h (ba.trans (hB.mono (by simp)))⟩)
  have hown : ¬ rmods r VL VP w.heap.size := fun e => by have := (h.mods e).2; omega
  have HPUT := Lib.hid (fun (w1 w4 : World) (hw : RW w w1 B r VL VP VL VP R) => RW.put (w4 := w4) h.lt hw w.heap.size (Nat.le_refl _) hown)
  clear h h0 ba hcell hlt hown
  go_enter Try.func12, Try.ntmps12
  go_wp2_with (go_at_call 30; (with_reducible refine ko.mono ?_); rintro e w1 ⟨v1, rfl, hP, hB⟩; (obtain ⟨q1, q2⟩ := HE.out w1 hB); (obtain ⟨a1, c1, rfl⟩ := hP.slice); (have d0 := cell_of (j := 0) q1); (have d1 := cell_of (j := 1) q1); (have d2 := cell_of (j := 2) q1); (have d3 := cell_of (j := 3) q1); (have d4 := cell_of (j := 4) q1); (have f0 := frozen_of (j := 0) q1); (have f1 := frozen_of (j := 1) q1); (have f2 := frozen_of (j := 2) q1); (have f3 := frozen_of (j := 3) q1); (have f4 := frozen_of (j := 4) q1); (have HQ1 := Lib.hid q1); (have HQ2 := Lib.hid q2); clear hP hB ko q1 q2)
  have hm5 := store5_mat HQ1.out rfl ml0
  obtain ⟨zx0, zx1, zx2, zx3, zx4⟩ := hm5
  unfold store5 ml0 at zx0 zx1 zx2 zx3 zx4
  refine bodyPost_ret (v := .tuple #[noM, .bool false]) (by unfold noM; simp [results, Try.results12, go_sem, zx0, zx1, zx2, zx3, zx4]; try rfl) rfl ⟨VL, VP, rfl, ?_⟩
  exact HPUT.out w1 _ HQ2.out (fun k hk => store5_other w1 w.heap.size 0 ml0 k hk) rfl rfl rfl (store5_same w1 w.heap.size 0 ml0)
end
end Go.Proofs.Ytnjabhjcnkbgpaa
