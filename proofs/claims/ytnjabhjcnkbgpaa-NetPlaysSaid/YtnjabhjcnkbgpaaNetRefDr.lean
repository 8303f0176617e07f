/- The document's network: what takes, drops and doubles. -/
import Derived.Test.YtnjabhjcnkbgpaaNetRefSd
set_option maxRecDepth 20000
set_option linter.unusedSimpArgs false
set_option linter.unusedVariables false
namespace Go.Proofs.Ytnjabhjcnkbgpaa
open Go.RowKit

section
variable {w : World} {B r : Nat} {VL VP : Value} {R : RN}
set_option maxHeartbeats 4000000 in
theorem rtake_some (x : Int) (m : Ml) (hx : -9223372036854775808 ≤ x ∧ x ≤ 9223372036854775807) (h : RAt w B r VL VP R) (hm : (rreadyL R)[pickN x (rreadyL R).length]? = some m) : Calls Try.prog 12 #[.pointer (some ⟨r, 0, none⟩), .int .i64 x] w (RDone B r VL VP (rtakeR R m) (.tuple #[m.v, .bool true]) w) := by
  obtain ⟨p, hp⟩ : ∃ p, pickN x (rreadyL R).length = p := ⟨_, rfl⟩
  rw [hp] at hm
  obtain ⟨hpl, hpe⟩ := List.getElem?_eq_some_iff.1 hm
  have hol2 : (rreadyL R).length ≤ 2000 := Nat.le_trans (List.length_filter_le _ _) h.len
  have ba := bel_al w (.cells #[.int .i64 0, .int .i64 0, .int .i64 0, .string ⟨#[]⟩, .int .i64 0] 34)
  have ko := rready_is (h.later ba)
  obtain ⟨L, hL⟩ : ∃ L, rreadyL R = L := ⟨_, rfl⟩
  rw [show (R.mail.filter fun m => !isP R.ps m.f m.t) = L from hL] at ko
  have hpl' : p < L.length := by rw [← hL]; exact hpl
  have hpe' : L[p] = m := by subst hL; exact hpe
  rw [hL] at hp hol2
  obtain ⟨n, hn⟩ : ∃ n, L.length = n := ⟨_, rfl⟩
  have kw := fun w => which_is x L.length w hx (by omega) (by omega)
  rw [hp, hn] at kw
  have HN := Lib.hid hn
  have hcell := heap_alloc_new w (.cells #[.int .i64 0, .int .i64 0, .int .i64 0, .string ⟨#[]⟩, .int .i64 0] 34)
  have hlt : w.heap.size < (w.alloc (.cells #[.int .i64 0, .int .i64 0, .int .i64 0, .string ⟨#[]⟩, .int .i64 0] 34)).heap.size := by simp
  have HE := Lib.hid (fun (w1 : World) (a1 : Option Addr) (c1 : Nat) (hB : Below (w.alloc (.cells #[.int .i64 0, .int .i64 0, .int .i64 0, .string ⟨#[]⟩, .int .i64 0] 34)).heap.size (w.alloc (.cells #[.int .i64 0, .int .i64 0, .int .i64 0, .string ⟨#[]⟩, .int .i64 0] 34)) w1) (hP : MRow w1 (w.alloc (.cells #[.int .i64 0, .int .i64 0, .int .i64 0, .string ⟨#[]⟩, .int .i64 0] 34)).heap.size (.slice a1 n c1) L) =>
    show w1.heap[w.heap.size]? = some (.cells #[.int .i64 0, .int .i64 0, .int .i64 0, .string ⟨#[]⟩, .int .i64 0] 34) ∧ RAt w1 B r VL VP R ∧ w.heap.size < w1.heap.size ∧ ∃ g, a1 = some ⟨g, 0, none⟩ ∧ g < w1.heap.size ∧ MAt w1 g (p * 5) m by
      refine ⟨(hB.block _ hlt).trans hcell, (h.later ba).later hB, by have := hB.size; omega, ?_⟩
      obtain ⟨g, rfl, -, -, h3, -, h4⟩ := hP.block (by omega)
      have h5 := h4 p hpl'
      rw [hpe'] at h5
      exact ⟨g, rfl, h3, h5⟩)
  have HRM := Lib.hid (fun (w2 : World) (h2 : RAt w2 B r VL VP R) => rwithout_is m.n h2)
  have HPUT := Lib.hid (fun (w1 w3 w4 : World) (VL3 VP3 : Value) (hB : Below w.heap.size w w1) (hs : w.heap.size < w1.heap.size) (hw : RW w1 w3 B r VL VP VL3 VP3 (rtakeR R m)) => RW.put (w4 := w4) h.lt (RW.ahead hB hw) w.heap.size (Nat.le_refl _) (fun e => by
    rcases hw.sub _ e with e | e
    · have := (h.mods e).2; omega
    · omega))
  have HRW := Lib.hid (fun (w1 : World) (w3 : World) (VL3 VP3 : Value) (q1 : w1.heap[w.heap.size]? = some (.cells #[.int .i64 0, .int .i64 0, .int .i64 0, .string ⟨#[]⟩, .int .i64 0] 34)) (hs : w.heap.size < w1.heap.size) (hN : RAt w1 B r VL VP R) (hw : RW (w1.alloc (.cells #[.int .i64 m.n, .int .i64 m.f, .int .i64 m.t, .string m.s, .int .i64 m.a] 34)) w3 B r VL VP VL3 VP3 (rtakeR R m)) =>
    show w3.heap[w.heap.size]? = some (.cells #[.int .i64 0, .int .i64 0, .int .i64 0, .string ⟨#[]⟩, .int .i64 0] 34) ∧ MAt w3 w1.heap.size 0 m by
      have hm := mat_new w1 m
      have hsz : (w1.alloc (.cells #[.int .i64 m.n, .int .i64 m.f, .int .i64 m.t, .string m.s, .int .i64 m.a] 34)).heap.size = w1.heap.size + 1 := by simp
      have e1 := hw.frm.block w1.heap.size (by rw [hsz]; omega) (fun e => by have := (hN.mods e).2; omega)
      have e2 := hw.frm.block w.heap.size (by rw [hsz]; omega) (fun e => by have := (h.mods e).2; omega)
      refine ⟨e2.trans (((bel_al w1 _).block w.heap.size hs).trans q1), ?_⟩
      exact ⟨(World.cell?_of_block e1).trans hm.c0, (World.cell?_of_block e1).trans hm.c1, (World.cell?_of_block e1).trans hm.c2, (World.cell?_of_block e1).trans hm.c3, (World.cell?_of_block e1).trans hm.c4⟩)
  have HBA := Lib.hid ba
  have hpi : (p : Int) < (n : Int) := by omega
  have hne : ((n : Int) == 0) = false := by rw [beq_eq_false_iff_ne]; omega
  clear h hol2 ba hcell hlt hpe hpl hn hL hm hp hpl' hpe'
  go_enter Try.func12, Try.ntmps12
  go_wp2_with (first
    | (go_at_call 30; (with_reducible refine ko.mono ?_); rintro e w1 ⟨v1, rfl, hP, hB⟩; (obtain ⟨a1, c1, rfl⟩ := hP.slice); rw [HN.out] at hP ⊢; (obtain ⟨q1, hN1, hs1, ⟨g, rfl, hgl, m0, m1, m2, m3, m4⟩⟩ := HE.out w1 a1 c1 hB hP); (have bb := bel_al w1 (.cells #[.int .i64 m.n, .int .i64 m.f, .int .i64 m.t, .string m.s, .int .i64 m.a] 34)); (have kr := HRM.out _ (hN1.later bb)); (have HB1 := Lib.hid ((HBA.out.trans (hB.mono HBA.out.size)).trans (bb.mono (Nat.le_of_lt hs1)))); (have HSB := Lib.hid (show w.heap.size < (w1.alloc (.cells #[.int .i64 m.n, .int .i64 m.f, .int .i64 m.t, .string m.s, .int .i64 m.a] 34)).heap.size by simp; omega)); (have HQ1 := Lib.hid q1); (have HN1 := Lib.hid hN1); (have HS1 := Lib.hid hs1); (have hg1 : ¬ g = w1.heap.size := by omega); (have hg2 : ¬ w1.heap.size = g := by omega); clear hP hB ko q1 hN1 hs1 bb)
    | (go_at_call 39; (with_reducible refine (kw _).mono ?_); rintro e w2 ⟨rfl, rfl⟩)
    | (go_at_call 40; (with_reducible refine kr.mono ?_); rintro e w3 ⟨VL3, VP3, rfl, hw3⟩; (obtain ⟨q3, n0, n1, n2, n3, n4⟩ := HRW.out w1 w3 VL3 VP3 HQ1.out HS1.out HN1.out hw3); (have d0 := cell_of (j := 0) q3); (have d1 := cell_of (j := 1) q3); (have d2 := cell_of (j := 2) q3); (have d3 := cell_of (j := 3) q3); (have d4 := cell_of (j := 4) q3); (have f0 := frozen_of (j := 0) q3); (have f1 := frozen_of (j := 1) q3); (have f2 := frozen_of (j := 2) q3); (have f3 := frozen_of (j := 3) q3); (have f4 := frozen_of (j := 4) q3); (have HQ3 := Lib.hid q3); (have HW3 := Lib.hid hw3); clear q3 hw3 kr m0 m1 m2 m3 m4))
  have hm5 := store5_mat HQ3.out rfl m
  obtain ⟨zx0, zx1, zx2, zx3, zx4⟩ := hm5
  unfold store5 at zx0 zx1 zx2 zx3 zx4
  refine bodyPost_ret (v := .tuple #[m.v, .bool true]) (by unfold Ml.v; simp [results, Try.results12, go_sem, zx0, zx1, zx2, zx3, zx4]; try rfl) rfl ⟨VL3, VP3, rfl, ?_⟩
  exact HPUT.out _ w3 _ VL3 VP3 HB1.out HSB.out HW3.out (fun k hk => store5_other w3 w.heap.size 0 m k hk) rfl rfl rfl (store5_same w3 w.heap.size 0 m)
theorem rdrop_none (x : Int) (h : RAt w B r VL VP R) (h0 : R.mail = []) : Calls Try.prog 14 #[.pointer (some ⟨r, 0, none⟩), .int .i64 x] w (RDone B r VL VP R (.bool false) w) := by
  obtain ⟨la, lc, rfl⟩ := h.rowL.slice
  obtain ⟨c0, -⟩ := h.c0
  have HW := Lib.hid (RW.refl h)
  rw [h0] at c0
  clear h
  go_enter Try.func14, Try.ntmps14
  go_wp2
  go_ret
  exact ⟨_, _, rfl, HW.out⟩
set_option maxHeartbeats 2000000 in
theorem rdrop_some (x : Int) (m : Ml) (hx : -9223372036854775808 ≤ x ∧ x ≤ 9223372036854775807) (h : RAt w B r VL VP R) (hm : R.mail[pickN x R.mail.length]? = some m) : Calls Try.prog 14 #[.pointer (some ⟨r, 0, none⟩), .int .i64 x] w (RDone B r VL VP (rtakeR R m) (.bool true) w) := by
  obtain ⟨p, hp⟩ : ∃ p, pickN x R.mail.length = p := ⟨_, rfl⟩
  rw [hp] at hm
  obtain ⟨hpl, hpe⟩ := List.getElem?_eq_some_iff.1 hm
  obtain ⟨la, lc, rfl⟩ := h.rowL.slice
  obtain ⟨n, hn⟩ : ∃ n, R.mail.length = n := ⟨_, rfl⟩
  have hl := h.len
  have kw := fun w => which_is x R.mail.length w hx (by omega) (by omega)
  rw [hp, hn] at kw
  rw [hn] at h ⊢
  have hd := h.later (Below.refl _ w).drew
  obtain ⟨c0, -⟩ := h.c0
  obtain ⟨g, rfl, -, -, hgl, -, hat⟩ := h.rowL.block (by omega)
  have m0 := (hat p hpl).c0
  rw [hpe] at m0
  have kr := rwithout_is m.n hd
  have HRA := Lib.hid (fun w3 VL3 VP3 (hw : RW w.drew w3 B r (.slice (some ⟨g, 0, none⟩) n lc) VP VL3 VP3 (rtakeR R m)) => RW.ahead (Below.refl w.heap.size w).drew hw)
  have hpi : (p : Int) < (n : Int) := by omega
  have hne : ((n : Int) == 0) = false := by rw [beq_eq_false_iff_ne]; omega
  clear h hd hat hn hp hpl hpe hm hl
  go_enter Try.func14, Try.ntmps14
  go_upto_region 3 with fail
  go_region_with (first
    | (go_at_call 39; (refine (kw _).mono ?_); rintro e w2 ⟨rfl, rfl⟩)
    | (go_at_call 40; (refine kr.mono ?_); rintro e w3 ⟨VL3, VP3, rfl, hw3⟩; (have HW3 := Lib.hid (HRA.out w3 VL3 VP3 hw3)); clear hw3 kr))
  all_goals go_wp2
  all_goals (go_ret; exact ⟨_, _, rfl, HW3.out⟩)
end
end Go.Proofs.Ytnjabhjcnkbgpaa
