/- What stands at some places; what is ready. -/
import Derived.Test.YtnjabhjcnkbgpaaNetWhere
set_option maxRecDepth 20000
set_option linter.unusedSimpArgs false
set_option linter.unusedVariables false
namespace Go.Proofs.Ytnjabhjcnkbgpaa
open Go.RowKit

def set5 (cur : Array Value) (o : Nat) (m : Ml) : Array Value := ((((cur.setIfInBounds o (.int .i64 m.n)).setIfInBounds (o + 1) (.int .i64 m.f)).setIfInBounds (o + 2) (.int .i64 m.t)).setIfInBounds (o + 3) (.string m.s)).setIfInBounds (o + 4) (.int .i64 m.a)
theorem set5_size (cur : Array Value) (o : Nat) (m : Ml) : (set5 cur o m).size = cur.size := by unfold set5; simp
theorem set5_take (cur : Array Value) (o : Nat) (m : Ml) (h : o + 5 ≤ cur.size) : (set5 cur o m).toList.take (o + 5) = cur.toList.take o ++ mcells m := by
  have hl : (cur.toList.take o).length = o := by rw [List.length_take, Array.length_toList]; omega
  refine List.ext_getElem? fun i => ?_
  have hlen : cur.toList.length = cur.size := Array.length_toList
  by_cases hi : i < o + 5
  · rw [List.getElem?_take_of_lt hi]
    unfold set5
    simp only [Array.toList_setIfInBounds, List.getElem?_set, List.length_set, hlen]
    by_cases h0 : i < o
    · rw [List.getElem?_append_left (by rw [hl]; exact h0), List.getElem?_take_of_lt h0, if_neg (by omega), if_neg (by omega), if_neg (by omega), if_neg (by omega), if_neg (by omega)]
    · rw [List.getElem?_append_right (by rw [hl]; omega), hl]
      obtain ⟨r, rfl⟩ : ∃ r, i = o + r := ⟨i - o, by omega⟩
      have hr : r < 5 := by omega
      rw [Nat.add_sub_cancel_left]
      match r, hr with
      | 0, _ => simp [mcells]; omega
      | 1, _ => simp [mcells]; omega
      | 2, _ => simp [mcells]; omega
      | 3, _ => simp [mcells]; omega
      | 4, _ => simp [mcells]; omega
  · rw [List.getElem?_eq_none (by rw [List.length_take]; omega), List.getElem?_eq_none (by rw [List.length_append, hl]; simp [mcells]; omega)]
def store5 (w : World) (q o : Nat) (m : Ml) : World := ((((w.setCell ⟨q, o, none⟩ (.int .i64 m.n)).setCell ⟨q, o + 1, none⟩ (.int .i64 m.f)).setCell ⟨q, o + 2, none⟩ (.int .i64 m.t)).setCell ⟨q, o + 3, none⟩ (.string m.s)).setCell ⟨q, o + 4, none⟩ (.int .i64 m.a)
theorem store5_heap {w : World} {q : Nat} {cur : Array Value} {T : TypeId} (h : w.heap[q]? = some (.cells cur T)) (o : Nat) (m : Ml) : (store5 w q o m).heap[q]? = some (.cells (set5 cur o m) T) :=
  heap_setCell_same _ q (o + 4) _ T _ (heap_setCell_same _ q (o + 3) _ T _ (heap_setCell_same _ q (o + 2) _ T _ (heap_setCell_same _ q (o + 1) _ T _ (heap_setCell_same w q o cur T _ h))))
theorem below_set (w : World) (q o : Nat) (v : Value) {B : Nat} (h : B ≤ q) : Below B w (w.setCell ⟨q, o, none⟩ v) :=
  ⟨rfl, rfl, rfl, by simp, fun k hk => heap_setCell_other _ _ _ _ (by show k ≠ q; omega)⟩
theorem store5_below (w : World) (q o : Nat) (m : Ml) {B : Nat} (h : B ≤ q) : Below B w (store5 w q o m) :=
  ((((below_set w q o _ h).trans (below_set _ q _ _ h)).trans (below_set _ q _ _ h)).trans (below_set _ q _ _ h)).trans (below_set _ q _ _ h)
section
variable {w : World} {B b : Nat} {V : Value} {S : NS}
set_option maxHeartbeats 4000000 in
theorem at_is (v : Value) (ps : List Nat) (C : Nat) (h : NAt w B b V S) (hp : PRow w C v ps) (hlt : ∀ i ∈ ps, i < S.mail.length) (hpl : ps.length ≤ 2000) :
    Calls Try.prog 49 #[.pointer (some ⟨b, 0, none⟩), v] w fun e w' => ∃ v', e = .returned v' ∧ MRow w' w.heap.size v' (atL S.mail ps) ∧ Below w.heap.size w w' := by
  obtain ⟨pa, pc, rfl⟩ := hp.slice
  obtain ⟨a, cp, rfl⟩ := h.row.slice
  have H := Lib.hid h
  obtain ⟨n, hn⟩ : ∃ n, ps.length = n := ⟨_, rfl⟩
  have HN := Lib.hid hn
  obtain ⟨ml, hml⟩ : ∃ n, S.mail.length = n := ⟨_, rfl⟩
  have HML := Lib.hid hml
  have hml2 := h.len
  rw [hml] at hml2
  rw [hn] at hp hpl ⊢
  have HP := Lib.hid hp
  have HLT := Lib.hid hlt
  have hal := atL_len hlt
  rw [hn] at hal
  have HAL := Lib.hid hal
  clear h hp hlt hn hml hal
  obtain ⟨i0, hi, hz0, hz1, hz2⟩ := info_parts infoM
  obtain ⟨row, hrow⟩ : ∃ row, madeCells (Value.agg #[.int .i64 0, .int .i64 0, .int .i64 0, .string ⟨#[]⟩, .int .i64 0]).cells (((n : Nat) : Int).toNat * i0.size) = row := ⟨_, rfl⟩
  have hrs : row.size = n * 5 := by rw [← hrow, size_madeCells, hz1]; simp
  have hmake : ∀ W : World, (Instr.makeSlice 27 (.int .i64 (n : Int)) (.int .i64 (n : Int))).run Try.prog W = .ok (.slice (some ⟨W.heap.size, 0, none⟩) n n) (W.alloc (.cells row 34)) := fun W => by
    have h := run_make (P := Try.prog) W 27 34 i0 _ Try.underlying27 hi hz0 .i64 .i64 (n : Int) (n : Int) (by omega) (by omega) (by rw [hz2]; omega) (by omega)
    rw [hrow] at h
    simpa using h
  have HRS := Lib.hid hrs
  clear hrow hi hz0 hz1 hz2 hrs
  go_enter Try.func49, Try.ntmps49
  go_wp2
  go_loopw [13] (fun i wr => ∃ k : Nat, k ≤ n ∧ i = .int .i64 (k : Int) ∧ (∃ cur, wr.heap[w.heap.size]? = some (.cells cur 34) ∧ cur.size = n * 5 ∧ cur.toList.take (k * 5) = (atL S.mail (ps.take k)).flatMap mcells) ∧ Below w.heap.size w wr) (fun i _ => n - (intOf i).toNat)
  case atStart => exact ⟨0, by omega, rfl, ⟨row, heap_alloc_new w _, HRS.out, by simp [atL]⟩, bel_al _ _⟩
  case round =>
    obtain ⟨k, hk, rfl, ⟨cur, hcur, hcs, hct⟩, hbel⟩ := hrel
    obtain ⟨w3, hw3⟩ : ∃ x, x = wr := ⟨_, rfl⟩
    subst hw3
    have HCUR := Lib.hid hcur
    have HCS := Lib.hid hcs
    have HCT := Lib.hid hct
    have HB := Lib.hid hbel
    have hsz := hbel.size
    clear hbel hct
    by_cases hkn : k < n
    · have hki : (k : Int) < (n : Int) := by omega
      have hkp : k < ps.length := by rw [HN.out]; exact hkn
      have hw1 : IntKind.i64.wrap ((k : Int) + 1) = (k : Int) + 1 := by rw [IntKind.wrap_i64]; omega
      obtain ⟨y, hy⟩ : ∃ y, ps[k] = y := ⟨_, rfl⟩
      have hyl : y < S.mail.length := by rw [← hy]; exact HLT.out _ (List.getElem_mem hkp)
      obtain ⟨m, hm⟩ : ∃ m, S.mail[y] = m := ⟨_, rfl⟩
      have H3 := H.out.later HB.out
      have HP3 := HP.out
      rw [← HN.out] at HP3
      obtain ⟨pg, rfl, -, -, hpg, hpat⟩ := (PRow.later HP3 HB.out).block (by omega)
      have pk := hpat k hkp
      rw [hy] at pk
      obtain ⟨g, rfl, -, -, hgl, -, hat⟩ := H3.row.block (by omega)
      obtain ⟨m0, m1, m2, m3, m4⟩ := hat y hyl
      rw [hm] at m0 m1 m2 m3 m4
      have c0 := H3.c0
      rw [HML.out] at c0 hyl
      have hyi : (y : Int) < (ml : Int) := by omega
      have d : ∀ r, r < 5 → (∃ u, w3.cell? ⟨w.heap.size, k * 5 + r, none⟩ = some u) ∧ w3.frozen? ⟨w.heap.size, k * 5 + r, none⟩ = false := fun r hr =>
        ⟨⟨cur[k * 5 + r]'(by omega), by rw [cell_of hcur]; simp [show k * 5 + r < cur.size by omega]⟩, frozen_of hcur⟩
      obtain ⟨⟨u0, e0⟩, f0⟩ := d 0 (by decide)
      obtain ⟨⟨u1, e1⟩, f1⟩ := d 1 (by decide)
      obtain ⟨⟨u2, e2⟩, f2⟩ := d 2 (by decide)
      obtain ⟨⟨u3, e3⟩, f3⟩ := d 3 (by decide)
      obtain ⟨⟨u4, e4⟩, f4⟩ := d 4 (by decide)
      rw [Nat.add_zero] at e0 f0
      have HNX := Lib.hid (store5_heap hcur (k * 5) m)
      have HTK : Hid ((set5 cur (k * 5) m).toList.take ((k + 1) * 5) = (atL S.mail (ps.take (k + 1))).flatMap mcells) := Lib.hid (by
        rw [show (k + 1) * 5 = k * 5 + 5 by omega, set5_take cur (k * 5) m (by omega), HCT.out, List.take_succ_eq_append_getElem hkp, hy]
        unfold atL
        rw [List.filterMap_append, List.flatMap_append, List.filterMap_cons, List.getElem?_eq_getElem (show y < S.mail.length by rw [HML.out]; exact hyl), hm]
        simp)
      have HBN := Lib.hid (HB.out.trans (store5_below w3 w.heap.size (k * 5) m (Nat.le_refl _)))
      have hwl : w.heap.size < w3.heap.size := (Array.getElem?_eq_some_iff.1 hcur).1
      clear hat hm hy hpat d hcur hcs hkn HP3 H3
      go_wp2
      go_roundw
      case rel => exact ⟨k + 1, by omega, by go_num, ⟨_, HNX.out, by rw [set5_size]; exact HCS.out, HTK.out⟩, HBN.out⟩
      case measure => simp [intOf]; omega
    · have hki : ¬ (k : Int) < (n : Int) := by omega
      obtain rfl : k = n := by omega
      have hR : MRow w3 w.heap.size (.slice (some ⟨w.heap.size, 0, none⟩) k k) (atL S.mail ps) := by
        have ht := HCT.out
        rw [List.take_of_length_le (l := ps) (by rw [HN.out]; exact Nat.le_refl _)] at ht
        refine ⟨by rw [flat_len], Or.inr ⟨w.heap.size, k, cur, by rw [HAL.out], Nat.le_refl _, hcur, by rw [HAL.out]; exact Nat.le_refl _, by unfold maxLen; omega, hcs, by rw [HAL.out]; exact ht⟩⟩
      have HR := Lib.hid hR
      clear hkn hcur hcs hR
      go_wp2
      go_ret
      exact ⟨_, rfl, HR.out, HB.out⟩
theorem open_is (h : NAt w B b V S) : Calls Try.prog 36 #[.pointer (some ⟨b, 0, none⟩)] w fun e w' => ∃ v, e = .returned v ∧ PRow w' w.heap.size v (openP S) ∧ Below w.heap.size w w' := by
  have hB1 := bel_next (bel_al w (.cells #[.pointer (some ⟨b, 0, none⟩)] 24)) (bel_al _ (.cells #[vopen w.heap.size] 65))
  have k := where_open w.heap.size (w.alloc (.cells #[.pointer (some ⟨b, 0, none⟩)] 24)).heap.size (h.later hB1) (by simp [go_sem]) (by simp [go_sem])
  unfold vopen at k hB1
  have hs : (w.alloc (.cells #[.pointer (some ⟨b, 0, none⟩)] 24)).heap.size = w.heap.size + 1 := by simp
  rw [hs] at k
  have HB1 := Lib.hid hB1
  clear h hs hB1
  go_enter Try.func36, Try.ntmps36
  go_wp2_with (go_at_call 46; (with_reducible refine k.mono ?_); rintro e w1 ⟨v1, rfl, hP, hB⟩; (have HP := Lib.hid hP); (have HB := Lib.hid hB); clear hP hB)
  go_ret
  exact ⟨_, rfl, HP.out.mono (by simp; omega), bel_next HB1.out HB.out⟩
theorem ready_is (h : NAt w B b V S) : Calls Try.prog 29 #[.pointer (some ⟨b, 0, none⟩)] w fun e w' => ∃ v, e = .returned v ∧ MRow w' w.heap.size v (readyL S) ∧ Below w.heap.size w w' := by
  have k := open_is h
  have hra := ready_at S
  have hA := fun (w1 : World) (v : Value) (hB : Below w.heap.size w w1) (hP : PRow w1 w.heap.size v (openP S)) => at_is v (openP S) w.heap.size (h.later hB) hP (fun i hi => (whr_lt _ hi).2) (Nat.le_trans (whr_len _ _ _) h.len)
  rw [hra] at hA
  have HA := Lib.hid hA
  clear h hra hA
  go_enter Try.func29, Try.ntmps29
  go_wp2_with (first
    | (go_at_call 36; (with_reducible refine k.mono ?_); rintro e w1 ⟨v1, rfl, hP, hB⟩; (have HB := Lib.hid hB); (obtain ⟨a1, c1, rfl⟩ := hP.slice); (have ka := HA.out w1 _ hB hP); clear hP hB k)
    | (go_at_call 49; (with_reducible refine ka.mono ?_); rintro e w2 ⟨v2, rfl, hR, hB2⟩; (have HB2 := Lib.hid hB2); (have HR := Lib.hid hR); clear hR hB2 ka))
  go_ret
  exact ⟨_, rfl, HR.out.mono HB.out.size, bel_next HB.out HB2.out⟩
end
end Go.Proofs.Ytnjabhjcnkbgpaa
