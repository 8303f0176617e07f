/- Taking, dropping, doubling, losing. -/
import Derived.Test.YtnjabhjcnkbgpaaNetAtp
import Derived.Test.YtnjabhjcnkbgpaaNetLoseW
import Derived.Test.YtnjabhjcnkbgpaaNetDel
set_option maxRecDepth 20000
set_option linter.unusedSimpArgs false
set_option linter.unusedVariables false
namespace Go.Proofs.Ytnjabhjcnkbgpaa
open Go.RowKit

section
variable {w : World} {B b : Nat} {V : Value} {S : NS}
theorem NAt.frm_mail {w' : World} {V' : Value} {l : List Ml} (h : NAt w B b V S) (hf : Frm (nmods b V) w w') (hb : w'.heap[b]? = w.heap[b]?) (hr : MRow w' B V' l) (hl : l.length ≤ 2000) (he : ∀ m ∈ l, endB m.f = true ∧ endB m.t = true ∧ m.s.size ≤ 80000) (hs : ∀ k, V'.ownBlock = some k → V.ownBlock = some k ∨ w.heap.size ≤ k) : NW w (w'.setCell ⟨b, 0, none⟩ V') B b V V' { S with mail := l } :=
  ⟨h.mail hb hr hl he, Frm.trans (Mo := nmods b V) (Mo' := nmods b V) hf (Frm.set _ _ _ _ (Or.inl rfl)) fun i hi => Or.inl hi, hs⟩
theorem remove_is (i : Nat) (h : NAt w B b V S) (hi : i < S.mail.length) : Calls Try.prog 38 #[.pointer (some ⟨b, 0, none⟩), .int .i64 (i : Int)] w (NDone B b V (removeS S i) (.tuple #[]) w) := by
  obtain ⟨a, c, rfl⟩ := h.row.slice
  obtain ⟨g, rfl, -, -, -, -, -⟩ := h.row.block (by omega)
  obtain ⟨n, hn⟩ : ∃ n, S.mail.length = n := ⟨_, rfl⟩
  have hR := h.row
  have c0 := h.c0
  have hl2 := h.len
  rw [hn] at hR c0 hi hl2
  have kd := delete_is B g n c i S.mail w hn hR hi hl2
  have hw1 : IntKind.i64.wrap ((i : Int) + 1) = (i : Int) + 1 := by rw [IntKind.wrap_i64]; omega
  have HE := Lib.hid (fun (w2 : World) (r : Nat) (hr : r + 1 = n) (hM : MRow w2 B (.slice (some ⟨g, 0, none⟩) r c) (S.mail.take i ++ S.mail.drop (i + 1))) (hg : w.grownBy w2 (some g)) =>
    show w2.cell? ⟨b, 0, none⟩ = some (.slice (some ⟨g, 0, none⟩) n c) ∧ w2.frozen? ⟨b, 0, none⟩ = false ∧ NW w (w2.setCell ⟨b, 0, none⟩ (.slice (some ⟨g, 0, none⟩) r c)) B b (.slice (some ⟨g, 0, none⟩) n c) (.slice (some ⟨g, 0, none⟩) r c) (removeS S i) by
      have hne : b ≠ g := fun e => h.own (by rw [hn, e]; rfl)
      have hb2 : w2.heap[b]? = w.heap[b]? := hg.block b h.lt (fun e => hne (by injection e))
      have hb3 := hb2.trans h.hb
      rw [hn] at hb3
      refine ⟨cell_of hb3, frozen_of hb3, ?_⟩
      have hf : Frm (nmods b (.slice (some ⟨g, 0, none⟩) n c)) w w2 := Frm.of_grown hg fun k e => Or.inr e
      have h' := h
      rw [hn] at h'
      exact h'.frm_mail hf hb2 hM (by rw [List.length_append, List.length_take, List.length_drop]; omega) (fun m hm => h.ends m (by
        rcases List.mem_append.1 hm with hm | hm
        · exact List.mem_of_mem_take hm
        · exact List.mem_of_mem_drop hm)) (fun k hk => Or.inl hk))
  rw [hn]
  clear h hn hR hl2
  go_enter Try.func38, Try.ntmps38
  go_wp2_with (go_at_call 53; (with_reducible refine kd.mono ?_); rintro e w2 ⟨r, hr, rfl, hM, hg⟩; (obtain ⟨q0, q1, q2⟩ := HE.out w2 r hr hM hg); (have HQ := Lib.hid q2); clear q2 hM hg kd hr)
  go_end0
  exact ⟨_, rfl, HQ.out⟩
set_option maxHeartbeats 1000000 in
theorem lose_is (x : Int) (h : NAt w B b V S) : Calls Try.prog 24 #[.pointer (some ⟨b, 0, none⟩), .int .i64 x] w (NDone B b V (loseS S x) (.int .i64 (loseN S x)) w) := by
  obtain ⟨l, hl⟩ : ∃ l, S.mail.filter (loseB x) = l := ⟨_, rfl⟩
  obtain ⟨n, hn⟩ : ∃ n, S.mail.length = n := ⟨_, rfl⟩
  obtain ⟨ps, hps⟩ : ∃ ps, whr (loseB x) S.mail S.mail.length = ps := ⟨_, rfl⟩
  have hat : atL S.mail ps = l := by rw [← hps, atL_whr _ _ _ (Nat.le_refl _), List.take_of_length_le (Nat.le_refl _), hl]
  have hlt : ∀ i ∈ ps, i < S.mail.length := fun i hi => by rw [← hps] at hi; exact (whr_lt _ hi).2
  have hpl : ps.length = l.length := by rw [← hat, atL_len hlt]
  have hll : l.length ≤ n := by rw [← hl, ← hn]; exact List.length_filter_le _ _
  have HZ := Lib.hid (show loseS S x = { S with mail := l } by unfold loseS; rw [hl])
  have HL := Lib.hid (show loseN S x = (n : Int) - (l.length : Int) by unfold loseN; rw [hl, hn])
  obtain ⟨a, c, rfl⟩ := h.row.slice
  have hn2 := h.len
  have h' := h
  rw [hn] at hn2 h'
  have hB1 := bel_next (bel_al w (.cells #[.int .i64 x] 3)) (bel_al _ (.cells #[vlose1 w.heap.size, vlose2 w.heap.size] 65))
  have k := where_lose w.heap.size (w.alloc (.cells #[.int .i64 x] 3)).heap.size x (h'.later hB1) (by simp [go_sem]) (by simp [go_sem]) (by simp [go_sem])
  rw [hps] at k
  unfold vlose1 vlose2 at k hB1
  have hs : (w.alloc (.cells #[.int .i64 x] 3)).heap.size = w.heap.size + 1 := by simp
  rw [hs] at k
  obtain ⟨q, hq⟩ : ∃ q, l.length = q := ⟨_, rfl⟩
  have HQ := Lib.hid (hpl.trans hq)
  have HLL := Lib.hid (show q ≤ n by omega)
  have hsub : IntKind.i64.wrap ((n : Int) - (q : Int)) = (n : Int) - (q : Int) := by rw [IntKind.wrap_i64]; omega
  rw [hn]
  rw [hq] at HL
  have HH := Lib.hid (fun (w1 : World) (hB : Below w.heap.size w w1) => h'.later hB)
  have HA := Lib.hid (fun (w1 : World) (v : Value) (C : Nat) (hB : Below w.heap.size w w1) (hP : PRow w1 C v ps) => at_is v ps C (h'.later hB) hP hlt (by omega))
  have HAT := Lib.hid hat
  have HE := Lib.hid (fun (w1 w2 : World) (v : Value) (hB : Below w.heap.size w w2) (hR : MRow w2 w1.heap.size v l) (hs : w.heap.size ≤ w1.heap.size) =>
    show NW w (w2.setCell ⟨b, 0, none⟩ v) B b (.slice a n c) v { S with mail := l } from
      h'.frm_mail (Frm.of_below hB) (hB.block b h.lt) (hR.mono (by have := h.lt; have := h.base; omega)) (by omega) (fun m hm => h.ends m (by rw [← hl] at hm; exact (List.mem_filter.1 hm).1)) (fun k hk => Or.inr (by have := (World.ownsRow.lt hR k hk).1; omega)))
  have HB1 := Lib.hid hB1
  clear h h' hl hn hps hat hlt hpl hll hs hq hB1
  go_enter Try.func24, Try.ntmps24
  go_wp2_with (first
    | (go_at_call 46; (with_reducible refine k.mono ?_); rintro e w1 ⟨v1, rfl, hP, hB⟩; (have hB2 := bel_next HB1.out hB); (obtain ⟨a1, c1, rfl⟩ := hP.slice); (have ka := HA.out w1 _ _ hB2 hP); (have HA1 := HH.out w1 hB2); (have c0 := HA1.c0); (have HB2 := Lib.hid hB2); rw [HQ.out] at ka ⊢; clear hP hB k hB2 HA1)
    | (go_at_call 49; (with_reducible refine ka.mono ?_); rintro e w2 ⟨v2, rfl, hR, hB3⟩; (have hB4 := bel_next HB2.out hB3); (have HA2 := HH.out w2 hB4); (have d0 := HA2.c0); (have f0 := HA2.fz 0); rw [HAT.out] at hR; (have HW := Lib.hid (HE.out w1 w2 v2 hB4 hR HB2.out.size)); (obtain ⟨a2, c2, rfl⟩ := hR.slice); clear hR hB3 hB4 ka HA2))
  go_ret
  exact ⟨_, by rw [HL.out]; rfl, by rw [HZ.out]; exact HW.out⟩
theorem drop_is (x : Int) (hx : -9223372036854775808 ≤ x ∧ x ≤ 9223372036854775807) (h : NAt w B b V S) : Calls Try.prog 13 #[.pointer (some ⟨b, 0, none⟩), .int .i64 x] w (NDone B b V (dropS S x) (.bool (!(S.mail.length == 0))) w) := by
  have kw := waits_is h
  by_cases h0 : S.mail.length = 0
  · rw [h0] at kw
    have ki := index_no x w
    have HZ := Lib.hid (show dropS S x = S by unfold dropS; rw [if_pos h0])
    have H0 := Lib.hid (show (!(S.mail.length == 0)) = false by simp [h0])
    have HW := Lib.hid (NW.refl h)
    clear h h0
    go_enter Try.func13, Try.ntmps13
    go_wp2_with (first
      | (go_at_call 31; (with_reducible refine kw.mono ?_); rintro e w1 ⟨rfl, rfl⟩)
      | (go_at_call 37; (with_reducible refine ki.mono ?_); rintro e w1 ⟨rfl, rfl⟩))
    go_ret
    exact ⟨_, by rw [H0.out]; rfl, by rw [HZ.out]; exact HW.out⟩
  · have hl := h.len
    have hpk := pick_lt x (show 0 < S.mail.length by omega)
    have ki := index_is x S.mail.length w hx (by omega) (by omega)
    have HZ := Lib.hid (show dropS S x = removeS S (pickN x S.mail.length) by unfold dropS; rw [if_neg h0])
    have H0 := Lib.hid (show (!(S.mail.length == 0)) = true by simp [h0])
    have kr := remove_is (pickN x S.mail.length) h hpk.2.2.2
    obtain ⟨p, hp⟩ : ∃ p, pickN x S.mail.length = p := ⟨_, rfl⟩
    rw [hp] at kr ki HZ
    clear h h0 hp hpk
    go_enter Try.func13, Try.ntmps13
    go_wp2_with (first
      | (go_at_call 31; (with_reducible refine kw.mono ?_); rintro e w1 ⟨rfl, rfl⟩)
      | (go_at_call 37; (with_reducible refine ki.mono ?_); rintro e w1 ⟨rfl, rfl⟩)
      | (go_at_call 38; (with_reducible refine kr.mono ?_); rintro e w2 ⟨V2, rfl, hw2⟩; (have HW := Lib.hid hw2); clear hw2 kr))
    go_ret
    exact ⟨_, by rw [H0.out]; rfl, by rw [HZ.out]; exact HW.out⟩
set_option maxHeartbeats 1000000 in
theorem double_is (x : Int) (hx : -9223372036854775808 ≤ x ∧ x ≤ 9223372036854775807) (h : NAt w B b V S) : Calls Try.prog 15 #[.pointer (some ⟨b, 0, none⟩), .int .i64 x] w (NDone B b V (doubleS S x) (.bool (doubleB S)) w) := by
  have kw := waits_is h
  have kf := full_is h
  have hw := NW.refl h
  by_cases h0 : S.mail.length = 0
  · rw [h0] at kw
    have ki := index_no x w
    have H0 := Lib.hid (show doubleB S = false by unfold doubleB; simp [h0])
    have HZ := Lib.hid (show doubleS S x = S by unfold doubleS; rw [H0.out]; rfl)
    have HW := Lib.hid hw
    clear h h0 hw kf
    go_enter Try.func15, Try.ntmps15
    go_wp2_with (first
      | (go_at_call 31; (with_reducible refine kw.mono ?_); rintro e w1 ⟨rfl, rfl⟩)
      | (go_at_call 37; (with_reducible refine ki.mono ?_); rintro e w1 ⟨rfl, rfl⟩))
    go_ret
    exact ⟨_, by rw [H0.out]; rfl, by rw [HZ.out]; exact HW.out⟩
  · have hl := h.len
    have hpk := (pick_lt x (show 0 < S.mail.length by omega)).2.2.2
    have ki := index_is x S.mail.length w hx (by omega) (by omega)
    cases hfu : fullB S with
    | true =>
      rw [hfu] at kf
      have H0 := Lib.hid (show doubleB S = false by unfold doubleB; rw [hfu]; simp)
      have HZ := Lib.hid (show doubleS S x = S by unfold doubleS; rw [H0.out]; rfl)
      have HW := Lib.hid hw
      obtain ⟨p, hp⟩ : ∃ p, pickN x S.mail.length = p := ⟨_, rfl⟩
      rw [hp] at ki
      clear h h0 hw hp hpk hfu
      go_enter Try.func15, Try.ntmps15
      go_wp2_with (first
        | (go_at_call 31; (with_reducible refine kw.mono ?_); rintro e w1 ⟨rfl, rfl⟩)
        | (go_at_call 41; (with_reducible refine kf.mono ?_); rintro e w1 ⟨rfl, rfl⟩)
        | (go_at_call 37; (with_reducible refine ki.mono ?_); rintro e w1 ⟨rfl, rfl⟩))
      go_ret
      exact ⟨_, by rw [H0.out]; rfl, by rw [HZ.out]; exact HW.out⟩
    | false =>
      rw [hfu] at kf
      have H0 := Lib.hid (show doubleB S = true by unfold doubleB; rw [hfu]; simp [h0])
      obtain ⟨p, hp⟩ : ∃ p, pickN x S.mail.length = p := ⟨_, rfl⟩
      rw [hp] at ki hpk
      obtain ⟨m, hm⟩ : ∃ m, S.mail[p] = m := ⟨_, rfl⟩
      have HZ := Lib.hid (show doubleS S x = addS S m.f m.t m.s by unfold doubleS; rw [H0.out, if_pos rfl, hp, List.getElem?_eq_getElem hpk, hm])
      have hn : S.mail.length < 2000 := by unfold fullB at hfu; simp at hfu; exact hfu
      have hen := h.ends m (by rw [← hm]; exact List.getElem_mem hpk)
      obtain ⟨n, hnn⟩ : ∃ n, S.mail.length = n := ⟨_, rfl⟩
      obtain ⟨a, c, rfl⟩ := h.row.slice
      obtain ⟨g, rfl, -, -, hgl, -, hat⟩ := h.row.block (by omega)
      obtain ⟨m0, m1, m2, m3, m4⟩ := hat p hpk
      rw [hm] at m0 m1 m2 m3 m4
      have c0 := h.c0
      have hpi : (p : Int) < (S.mail.length : Int) := by omega
      have hb := h.lt
      have hb1 : ¬ b = w.heap.size := by omega
      have hb2 : ¬ w.heap.size = b := by omega
      have hg1 : ¬ g = w.heap.size := by omega
      have hg2 : ¬ w.heap.size = g := by omega
      have ba := bel_al w (.cells #[.int .i64 m.n, .int .i64 m.f, .int .i64 m.t, .string m.s, .int .i64 m.a] 34)
      have ka := add_is m.f m.t m.s (h.later ba) hen.1 hen.2.1 hen.2.2 hn
      rw [hnn] at ka kw ki c0 hpi ⊢
      have HBA := Lib.hid ba
      clear h h0 hw hp hpk hfu hm hat hn hen ba hnn
      go_enter Try.func15, Try.ntmps15
      go_wp2_with (first
        | (go_at_call 31; (with_reducible refine kw.mono ?_); rintro e w1 ⟨rfl, rfl⟩)
        | (go_at_call 41; (with_reducible refine kf.mono ?_); rintro e w1 ⟨rfl, rfl⟩)
        | (go_at_call 37; (with_reducible refine ki.mono ?_); rintro e w1 ⟨rfl, rfl⟩)
        | (go_at_call 42; (with_reducible refine ka.mono ?_); rintro e w2 ⟨V2, rfl, hw2⟩; (have HW := Lib.hid hw2); clear hw2 ka))
      go_ret
      exact ⟨_, by rw [H0.out]; rfl, by rw [HZ.out]; exact NW.ahead HBA.out HW.out⟩
/-- A block of the call's own has turned besides. -/
theorem NW.put {w3 w4 : World} {V' : Value} {S' : NS} (hb : b < w.heap.size) (h : NW w w3 B b V V' S') (r : Nat) (hr : w.heap.size ≤ r) (hn : V'.ownBlock ≠ some r) (ho : ∀ k, k ≠ r → w4.heap[k]? = w3.heap[k]?) (e1 : w4.os = w3.os) (e2 : w4.tape = w3.tape) (e3 : w4.output = w3.output) (e4 : w4.heap.size = w3.heap.size) : NW w w4 B b V V' S' :=
  ⟨⟨(ho b (by omega)).trans h.at_.hb, row_of h.at_.row fun k hk => ho k fun e => hn (by rw [hk, e]), h.at_.base, h.at_.len, h.at_.ends⟩,
    ⟨e1.trans h.frm.os, e2.trans h.frm.tape, e3.trans h.frm.output, by rw [e4]; exact h.frm.size, fun k hk hm => (ho k (by omega)).trans (h.frm.block k hk hm)⟩, h.sub⟩
def noM : Value := .agg #[.int .i64 0, .int .i64 0, .int .i64 0, .string ⟨#[]⟩, .int .i64 0]
def mailV : Option Ml → Value
  | none => noM
  | some m => m.v
def ml0 : Ml := ⟨0, 0, 0, ⟨#[]⟩, 0⟩
theorem store5_other (w : World) (q o : Nat) (m : Ml) (k : Nat) (hne : k ≠ q) : (store5 w q o m).heap[k]? = w.heap[k]? := by
  unfold store5
  rw [heap_setCell_other _ _ _ _ hne, heap_setCell_other _ _ _ _ hne, heap_setCell_other _ _ _ _ hne, heap_setCell_other _ _ _ _ hne, heap_setCell_other _ _ _ _ hne]
theorem store5_mat {w : World} {q : Nat} {cur : Array Value} {T : TypeId} (h : w.heap[q]? = some (.cells cur T)) (hs : cur.size = 5) (m : Ml) : MAt (store5 w q 0 m) q 0 m := by
  have e := store5_heap h 0 m
  have ht := set5_take cur 0 m (by omega)
  have hc : ∀ r, r < 5 → (store5 w q 0 m).cell? ⟨q, 0 + r, none⟩ = (mcells m)[r]? := fun r hr => by
    rw [cell_of e, Nat.zero_add, ← Array.getElem?_toList]
    have h2 : ((set5 cur 0 m).toList.take (0 + 5))[r]? = (cur.toList.take 0 ++ mcells m)[r]? := by rw [ht]
    rw [List.getElem?_take_of_lt (by omega), List.take_zero, List.nil_append] at h2
    exact h2
  exact ⟨hc 0 (by decide), hc 1 (by decide), hc 2 (by decide), hc 3 (by decide), hc 4 (by decide)⟩
theorem store5_same (w : World) (q o : Nat) (m : Ml) : (store5 w q o m).heap.size = w.heap.size := by unfold store5; simp
set_option maxHeartbeats 2000000 in
theorem take_none (x : Int) (h : NAt w B b V S) (h0 : (readyL S).length = 0) : Calls Try.prog 11 #[.pointer (some ⟨b, 0, none⟩), .int .i64 x] w (NDone B b V S (.tuple #[noM, .bool false]) w) := by
  have ba := bel_al w (.cells #[.int .i64 0, .int .i64 0, .int .i64 0, .string ⟨#[]⟩, .int .i64 0] 34)
  have ko := open_is (h.later ba)
  have hol := ready_len S
  rw [h0] at hol
  have ki := fun w => index_no x w
  have HOL := Lib.hid hol
  have hcell := heap_alloc_new w (.cells #[.int .i64 0, .int .i64 0, .int .i64 0, .string ⟨#[]⟩, .int .i64 0] 34)
  have hlt : w.heap.size < (w.alloc (.cells #[.int .i64 0, .int .i64 0, .int .i64 0, .string ⟨#[]⟩, .int .i64 0] 34)).heap.size := by simp
  have HE := Lib.hid (fun (w1 : World) (hB : Below (w.alloc (.cells #[.int .i64 0, .int .i64 0, .int .i64 0, .string ⟨#[]⟩, .int .i64 0] 34)).heap.size (w.alloc (.cells #[.int .i64 0, .int .i64 0, .int .i64 0, .string ⟨#[]⟩, .int .i64 0] 34)) w1) =>
    show w1.heap[w.heap.size]? = some (.cells #[.int .i64 0, .int .i64 0, .int .i64 0, .string ⟨#[]⟩, .int .i64 0] 34) ∧ NW w w1 B b V V S from
      ⟨(hB.block _ hlt).trans hcell, NW.of_below h (ba.trans (hB.mono (by simp)))⟩)
  have hown : V.ownBlock ≠ some w.heap.size := fun e => by have := (World.ownsRow.lt h.row _ e).2; omega
  have HPUT := Lib.hid (fun (w1 w4 : World) (hw : NW w w1 B b V V S) => NW.put (w4 := w4) h.lt hw w.heap.size (Nat.le_refl _) hown)
  clear h h0 hol ba hcell hlt hown
  go_enter Try.func11, Try.ntmps11
  go_wp2_with (first
    | (go_at_call 36; (with_reducible refine ko.mono ?_); rintro e w1 ⟨v1, rfl, hP, hB⟩; (obtain ⟨q1, q2⟩ := HE.out w1 hB); (obtain ⟨a1, c1, rfl⟩ := hP.slice); rw [HOL.out]; (have d0 := cell_of (j := 0) q1); (have d1 := cell_of (j := 1) q1); (have d2 := cell_of (j := 2) q1); (have d3 := cell_of (j := 3) q1); (have d4 := cell_of (j := 4) q1); (have f0 := frozen_of (j := 0) q1); (have f1 := frozen_of (j := 1) q1); (have f2 := frozen_of (j := 2) q1); (have f3 := frozen_of (j := 3) q1); (have f4 := frozen_of (j := 4) q1); (have HQ1 := Lib.hid q1); (have HQ2 := Lib.hid q2); clear hP hB ko q1 q2)
    | (go_at_call 37; (with_reducible refine (ki _).mono ?_); rintro e w2 ⟨rfl, rfl⟩))
  have hm5 := store5_mat HQ1.out rfl ml0
  obtain ⟨zx0, zx1, zx2, zx3, zx4⟩ := hm5
  unfold store5 ml0 at zx0 zx1 zx2 zx3 zx4
  refine bodyPost_ret (v := .tuple #[noM, .bool false]) (by unfold noM; simp [results, Try.results11, go_sem, zx0, zx1, zx2, zx3, zx4]; try rfl) rfl ⟨V, rfl, ?_⟩
  exact HPUT.out w1 _ HQ2.out (fun k hk => store5_other w1 w.heap.size 0 ml0 k hk) rfl rfl rfl (store5_same w1 w.heap.size 0 ml0)
set_option maxHeartbeats 2000000 in
theorem take_some (x : Int) (i : Nat) (m : Ml) (hx : -9223372036854775808 ≤ x ∧ x ≤ 9223372036854775807) (h : NAt w B b V S) (hi : takeI S x = some i) (hm : S.mail[i]? = some m) : Calls Try.prog 11 #[.pointer (some ⟨b, 0, none⟩), .int .i64 x] w (NDone B b V (removeS S i) (.tuple #[m.v, .bool true]) w) := by
  have h0 : ¬ (readyL S).length = 0 := fun e => by unfold takeI at hi; rw [if_pos e] at hi; cases hi
  unfold takeI at hi
  rw [if_neg h0] at hi
  have hol := ready_len S
  obtain ⟨p, hp⟩ : ∃ p, pickN x (openP S).length = p := ⟨_, rfl⟩
  rw [hp] at hi
  obtain ⟨hpl, hpe⟩ := List.getElem?_eq_some_iff.1 hi
  obtain ⟨hil, hie⟩ := List.getElem?_eq_some_iff.1 hm
  have hol2 : (openP S).length ≤ 2000 := Nat.le_trans (whr_len _ _ _) h.len
  have ba := bel_al w (.cells #[.int .i64 0, .int .i64 0, .int .i64 0, .string ⟨#[]⟩, .int .i64 0] 34)
  have ko := open_is (h.later ba)
  obtain ⟨n, hn⟩ : ∃ n, (openP S).length = n := ⟨_, rfl⟩
  have ki := fun w => index_is x (openP S).length w hx (by omega) (by omega)
  rw [hp] at ki
  rw [hn] at hpl hol2 ki
  have HN := Lib.hid hn
  have hcell := heap_alloc_new w (.cells #[.int .i64 0, .int .i64 0, .int .i64 0, .string ⟨#[]⟩, .int .i64 0] 34)
  have hlt : w.heap.size < (w.alloc (.cells #[.int .i64 0, .int .i64 0, .int .i64 0, .string ⟨#[]⟩, .int .i64 0] 34)).heap.size := by simp
  obtain ⟨ml, hml⟩ : ∃ n, S.mail.length = n := ⟨_, rfl⟩
  obtain ⟨va, vc, rfl⟩ := h.row.slice
  rw [hml] at h hil ⊢
  have HE := Lib.hid (fun (w1 : World) (a1 : Option Addr) (c1 : Nat) (hB : Below (w.alloc (.cells #[.int .i64 0, .int .i64 0, .int .i64 0, .string ⟨#[]⟩, .int .i64 0] 34)).heap.size (w.alloc (.cells #[.int .i64 0, .int .i64 0, .int .i64 0, .string ⟨#[]⟩, .int .i64 0] 34)) w1) (hP : PRow w1 (w.alloc (.cells #[.int .i64 0, .int .i64 0, .int .i64 0, .string ⟨#[]⟩, .int .i64 0] 34)).heap.size (.slice a1 n c1) (openP S)) =>
    show w1.heap[w.heap.size]? = some (.cells #[.int .i64 0, .int .i64 0, .int .i64 0, .string ⟨#[]⟩, .int .i64 0] 34) ∧ NAt w1 B b (.slice va ml vc) S ∧ w.heap.size < w1.heap.size ∧ (∃ pg, a1 = some ⟨pg, 0, none⟩ ∧ pg < w1.heap.size ∧ w1.cell? ⟨pg, p, none⟩ = some (.int .i64 (i : Int))) ∧ ∃ g, va = some ⟨g, 0, none⟩ ∧ g < w1.heap.size ∧ MAt w1 g (i * 5) m by
      have hN1 := (h.later ba).later hB
      refine ⟨(hB.block _ hlt).trans hcell, hN1, by have := hB.size; omega, ?_, ?_⟩
      · obtain ⟨pg, rfl, -, -, h3, h4⟩ := hP.block (by rw [HN.out]; omega)
        have h5 := h4 p (by rw [HN.out]; exact hpl)
        rw [hpe] at h5
        exact ⟨pg, rfl, h3, h5⟩
      · have hr := hN1.row
        obtain ⟨g, rfl, -, -, h3, -, h4⟩ := hr.block (by omega)
        have h5 := h4 i (by omega)
        rw [hie] at h5
        exact ⟨g, rfl, h3, h5⟩)
  have HRM := Lib.hid (fun (w2 : World) (h2 : NAt w2 B b (.slice va ml vc) S) => remove_is i h2 (by omega))
  have HPUT := Lib.hid (fun (w1 w3 w4 : World) (V3 : Value) (hB : Below w.heap.size w w1) (hs : w.heap.size < w1.heap.size) (hw : NW w1 w3 B b (.slice va ml vc) V3 (removeS S i)) => NW.put (w4 := w4) h.lt (NW.ahead hB hw) w.heap.size (Nat.le_refl _) (fun e => by
    rcases hw.sub _ e with e | e
    · have := (World.ownsRow.lt h.row _ e).2; omega
    · omega))
  have HBA := Lib.hid ba
  have hpi : (p : Int) < (n : Int) := by omega
  have hii : (i : Int) < (ml : Int) := by omega
  have hbw := h.lt
  have HRW := Lib.hid (fun (w1 : World) (w3 : World) (V3 : Value) (q1 : w1.heap[w.heap.size]? = some (.cells #[.int .i64 0, .int .i64 0, .int .i64 0, .string ⟨#[]⟩, .int .i64 0] 34)) (hs : w.heap.size < w1.heap.size) (hN : NAt w1 B b (.slice va ml vc) S) (hw : NW (w1.drew.alloc (.cells #[.int .i64 m.n, .int .i64 m.f, .int .i64 m.t, .string m.s, .int .i64 m.a] 34)) w3 B b (.slice va ml vc) V3 (removeS S i)) =>
    show w3.heap[w.heap.size]? = some (.cells #[.int .i64 0, .int .i64 0, .int .i64 0, .string ⟨#[]⟩, .int .i64 0] 34) ∧ MAt w3 w1.heap.size 0 m by
      have hb1 := hN.lt
      have hg1 : ∀ k, (Value.slice va ml vc).ownBlock = some k → k < w1.heap.size := fun k e => (World.ownsRow.lt hN.row k e).2
      have hg2 : ∀ k, (Value.slice va ml vc).ownBlock = some k → k < w.heap.size := fun k e => (World.ownsRow.lt h.row k e).2
      have hm := mat_new w1.drew m
      have hk : ¬ nmods b (.slice va ml vc) w1.heap.size := by
        rintro (e | e)
        · omega
        · have := hg1 _ e; omega
      have hk2 : ¬ nmods b (.slice va ml vc) w.heap.size := by
        rintro (e | e)
        · omega
        · have := hg2 _ e; omega
      have hsz : (w1.drew.alloc (.cells #[.int .i64 m.n, .int .i64 m.f, .int .i64 m.t, .string m.s, .int .i64 m.a] 34)).heap.size = w1.heap.size + 1 := by simp
      have e1 := hw.frm.block w1.heap.size (by rw [hsz]; omega) hk
      have e2 := hw.frm.block w.heap.size (by rw [hsz]; omega) hk2
      refine ⟨e2.trans (((bel_al w1.drew _).block w.heap.size hs).trans q1), ?_⟩
      exact ⟨(World.cell?_of_block e1).trans hm.c0, (World.cell?_of_block e1).trans hm.c1, (World.cell?_of_block e1).trans hm.c2, (World.cell?_of_block e1).trans hm.c3, (World.cell?_of_block e1).trans hm.c4⟩)
  clear h h0 hol ba hcell hlt hi hpe hie hpl hil hn hml hm hp
  go_enter Try.func11, Try.ntmps11
  go_wp2_with (first
    | (go_at_call 36; (with_reducible refine ko.mono ?_); rintro e w1 ⟨v1, rfl, hP, hB⟩; (obtain ⟨a1, c1, rfl⟩ := hP.slice); rw [HN.out] at hP ⊢; (obtain ⟨q1, hN1, hs1, ⟨pg, rfl, hpg, pc⟩, ⟨g, rfl, hgl, m0, m1, m2, m3, m4⟩⟩ := HE.out w1 a1 c1 hB hP); (have c0 := hN1.c0); (have hbl := hN1.lt); (have HB1 := Lib.hid (HBA.out.trans (hB.mono HBA.out.size))); (have HQ1 := Lib.hid q1); (have HN1 := Lib.hid hN1); (have HS1 := Lib.hid hs1); clear hP hB ko q1 hN1 hs1)
    | (go_at_call 37; (with_reducible refine (ki _).mono ?_); rintro e w2 ⟨rfl, rfl⟩))
  have hb1 : ¬ b = w1.heap.size := by omega
  have hb2 : ¬ w1.heap.size = b := by omega
  have hg1 : ¬ g = w1.heap.size := by omega
  have hg2 : ¬ w1.heap.size = g := by omega
  have hp1 : ¬ pg = w1.heap.size := by omega
  have hp2 : ¬ w1.heap.size = pg := by omega
  go_region
  have bb := ((Below.refl w1.heap.size w1).drew).trans (bel_al w1.drew (.cells #[.int .i64 m.n, .int .i64 m.f, .int .i64 m.t, .string m.s, .int .i64 m.a] 34))
  have kr := HRM.out _ (HN1.out.later bb)
  have HBB := Lib.hid (HB1.out.trans (bb.mono (Nat.le_of_lt HS1.out)))
  have HSB := Lib.hid (show w.heap.size < (w1.drew.alloc (.cells #[.int .i64 m.n, .int .i64 m.f, .int .i64 m.t, .string m.s, .int .i64 m.a] 34)).heap.size by have := HS1.out; simp; omega)
  have pc4 := (bb.cell (p := ⟨pg, p, none⟩) hpg).trans pc
  clear bb m0 m1 m2 m3 m4 c0
  go_wp2_with (go_at_call 38; go_loud (refine kr.mono ?_); rintro e w3 ⟨V3, rfl, hw3⟩; (obtain ⟨q3, n0, n1, n2, n3, n4⟩ := HRW.out w1 w3 V3 HQ1.out HS1.out HN1.out hw3); (have d0 := cell_of (j := 0) q3); (have d1 := cell_of (j := 1) q3); (have d2 := cell_of (j := 2) q3); (have d3 := cell_of (j := 3) q3); (have d4 := cell_of (j := 4) q3); (have f0 := frozen_of (j := 0) q3); (have f1 := frozen_of (j := 1) q3); (have f2 := frozen_of (j := 2) q3); (have f3 := frozen_of (j := 3) q3); (have f4 := frozen_of (j := 4) q3); (have HQ3 := Lib.hid q3); (have HW3 := Lib.hid hw3); clear q3 hw3 kr)
  have hm5 := store5_mat HQ3.out rfl m
  obtain ⟨zx0, zx1, zx2, zx3, zx4⟩ := hm5
  unfold store5 at zx0 zx1 zx2 zx3 zx4
  refine bodyPost_ret (v := .tuple #[m.v, .bool true]) (by unfold Ml.v; simp [results, Try.results11, go_sem, zx0, zx1, zx2, zx3, zx4]; try rfl) rfl ⟨V3, rfl, ?_⟩
  exact HPUT.out _ w3 _ V3 HBB.out HSB.out HW3.out (fun k hk => store5_other w3 w.heap.size 0 m k hk) rfl rfl rfl (store5_same w3 w.heap.size 0 m)
end
end Go.Proofs.Ytnjabhjcnkbgpaa
