/- The set's Spans and Size. -/
import Derived.Test.YtdkenokjdiamhaaDoorWindowTouched
import Derived.Maps.AppendAt
import Derived.Lib.SliceRun
set_option maxRecDepth 20000
namespace Go.Proofs.YtdkenokjdiamhaaDoor
open Go.RowKit Go.Lib

/-- What Spans leaves. -/
def SpansDone (L : List Sp) (w : World) (e : Ending) (w' : World) : Prop := ∃ v, e = .returned v ∧ SpRow w' w.heap.size v L ∧ Below w.heap.size w w'
theorem flat_one7 (l : List Sp) : ∀ v ∈ l.flatMap cells2, v.oneCell' = true := by
  intro v hv
  obtain ⟨s, _, h⟩ := List.mem_flatMap.1 hv
  unfold cells2 at h
  rcases List.mem_cons.1 h with rfl | h
  · rfl
  · rw [List.mem_singleton] at h; subst h; rfl
theorem clone_nil (w : World) : Calls Tryd.prog 53 #[.slice none 0 0] w (SpansDone [] w) := by
  have he := fun w => run_eql_slice_nil (P := Tryd.prog) w 29 26 none 0 0 0 0 Tryd.underlying29
  go_enter Tryd.func53, Tryd.ntmps53
  go_wp2
  go_ret
  exact ⟨_, rfl, SpRow.nil _ _, Below.refl _ _⟩
set_option maxHeartbeats 1000000 in
theorem clone_some (g n c : Nat) (L : List Sp) (w : World) (hn : Hid (L.length = n)) (hR : SpRow w 0 (.slice (some ⟨g, 0, none⟩) n c) L) (hlen : n ≤ 1000000) : Calls Tryd.prog 53 #[.slice (some ⟨g, 0, none⟩) n c] w (SpansDone L w) := by
  obtain ⟨i0, hi, hz0, hz1, hz2⟩ := info_parts infoSp
  have he := fun w => run_eql_slice_nil (P := Tryd.prog) w 29 26 (some ⟨g, 0, none⟩) n c 0 0 Tryd.underlying29
  have hgw : g < w.heap.size := (World.ownsRow.lt hR g rfl).2
  have hfl : (L.flatMap cells2).length = n * 2 := by rw [flat2_len, hn.out]
  have hsrc : ∀ j u, (L.flatMap cells2)[j]? = some u → (w.alloc (.cells #[] 26)).cell? ((⟨g, 0, none⟩ : Addr).add j) = some u := fun j u hu => by
    have h1 := World.ownsRow.cells hR (g := g) rfl j u hu
    rw [Addr.add_lit] at h1 ⊢
    rw [World.cell?_alloc_past (w := w) _ g _ hgw]
    exact h1
  have hown := World.ownsRow_made (base := w.heap.size) (e := 26) (size := 2) w #[] 0 (Nat.le_refl _) (Nat.zero_le _) rfl
  clear hR
  go_enter Tryd.func53, Tryd.ntmps53
  go_wp2_with (at_builtin; refine wpList_append_own_at _ rfl _ _ 29 rfl w.heap.size 26 i0 (.agg #[.int .i64 0, .int .i64 0]) 2 16 Tryd.underlying29 hi hz0 hz1 hz2 rfl (by decide) _ _ _ rfl hown ⟨g, 0, none⟩ n c (L.flatMap cells2) rfl hfl hsrc (flat_one7 L) ?c3 ?c4 ?c5 ?_)
  case c3 => unfold maxLen; omega
  case c4 => omega
  case c5 => simp
  intro v' w' hown' hgrow _ hfoot
  obtain ⟨a', c', rfl⟩ : ∃ a' c', v' = .slice a' n c' := by
    rcases hown'.2 with ⟨h, h0⟩ | ⟨g', cap', cur', h, _⟩
    · exact ⟨none, 0, by rw [h, show n = 0 by omega]⟩
    · exact ⟨_, _, h⟩
  have HR := Lib.hid (show SpRow w' w.heap.size (.slice a' n c') L by
    unfold SpRow
    rw [hn.out]
    simpa using hown')
  have HB := Lib.hid (show Below w.heap.size w w' from ((Below.refl _ w).alloc (Nat.le_refl _) (.cells #[] 26)).grown hgrow (by simp) (fun q hq => (World.ownsRow.lt hown q hq).1))
  clear hown' hgrow hfoot hown hsrc
  go_wp2
  go_ret
  exact ⟨_, rfl, HR.out, HB.out⟩
theorem clone_is (v : Value) (B : Nat) (L : List Sp) (w : World) (hR : SpRow w B v L) (hlen : L.length ≤ 1000000) : Calls Tryd.prog 53 #[v] w (SpansDone L w) := by
  rcases hR.2 with ⟨rfl, h0⟩ | ⟨g, cap, cur, rfl, hB, hrest⟩
  · obtain rfl := List.eq_nil_of_length_eq_zero h0
    exact clone_nil w
  · exact clone_some g L.length cap L w (Lib.hid rfl) ⟨hR.1, Or.inr ⟨g, cap, cur, rfl, Nat.zero_le _, hrest⟩⟩ hlen
theorem pspans_nil (w : World) : Calls Tryd.prog 39 #[.pointer none] w (SpansDone [] w) := by
  go_enter Tryd.func39, Tryd.ntmps39
  go_wp2
  go_ret
  exact ⟨_, rfl, SpRow.nil _ _, Below.refl _ _⟩
theorem pspans_is (b : Nat) (v : Value) (L : List Sp) (w : World) (hS : SetAt w b v L) (hlen : L.length ≤ 1000000) : Calls Tryd.prog 39 #[.pointer (some ⟨b, 0, none⟩)] w (SpansDone L w) := by
  obtain ⟨a, c, rfl⟩ := hS.row.slice
  have kc := clone_is _ _ _ w hS.row hlen
  have c0 := hS.cell
  clear hS
  generalize L.length = n at *
  go_enter Tryd.func39, Tryd.ntmps39
  go_wp2_with (go_at_call 53; (with_reducible refine kc.mono ?_); rintro e w1 ⟨v', rfl, hR, hB⟩)
  obtain ⟨a', c', rfl⟩ := hR.slice
  have HR := Lib.hid hR
  clear hR
  generalize L.length = m at *
  go_wp2
  go_ret
  exact ⟨_, rfl, HR.out, hB⟩
/-- How many times spans have. -/
def sumS (l : List Sp) : Int := (l.map fun s => s.t - s.f).sum
theorem sumS_snoc (l : List Sp) (s : Sp) : sumS (l ++ [s]) = sumS l + (s.t - s.f) := by unfold sumS; rw [List.map_append, List.sum_append]; simp
structure FewOk (l : List Sp) : Prop where
  len : l.length ≤ 100000
  each : ∀ s ∈ l, 0 ≤ s.f ∧ s.f ≤ s.t ∧ s.t ≤ 1099511627777
theorem FewOk.bound {l : List Sp} (h : FewOk l) (k : Nat) : 0 ≤ sumS (l.take k) ∧ sumS (l.take k) ≤ 1099511627777 * (k : Int) := by
  induction k with
  | zero => simp [sumS]
  | succ k ih =>
    by_cases hk : k < l.length
    · rw [List.take_succ_eq_append_getElem hk, sumS_snoc]
      have := h.each l[k] (List.getElem_mem hk)
      omega
    · rw [List.take_of_length_le (by omega)]
      rw [List.take_of_length_le (by omega)] at ih
      omega
set_option maxHeartbeats 2000000 in
theorem psize_of (p : Option Addr) (L : List Sp) (w : World) (hF : FewOk L) (ks : Calls Tryd.prog 39 #[.pointer p] w (SpansDone L w)) : Calls Tryd.prog 40 #[.pointer p] w fun e w' => e = .returned (.int .i64 (sumS L)) ∧ Below w.heap.size w w' := by
  obtain ⟨n, hn⟩ : ∃ n, L.length = n := ⟨_, rfl⟩
  have hnl := hF.len
  rw [hn] at hnl
  have HN := Lib.hid hn
  have HF := Lib.hid hF
  clear hF hn
  go_enter Tryd.func40, Tryd.ntmps40
  go_wp2_with (go_at_call 39; (with_reducible refine ks.mono ?_); rintro e w1 ⟨v', rfl, hR, hB⟩; (obtain ⟨a', c', rfl⟩ := hR.slice); (have HSP := Lib.hid hR.sps); (have HB1 := Lib.hid hB); (rw [HN.out]); clear hR hB)
  go_loopw [3, 9] (fun z x wr => ∃ k : Nat, x = .int .i64 (k : Int) ∧ k ≤ n ∧ z = .int .i64 (sumS (L.take k)) ∧ Below w1.heap.size w1 wr) (fun _ x _ => n - (intOf x).toNat)
  case atStart => exact ⟨0, rfl, Nat.zero_le _, rfl, Below.refl _ _⟩
  case round =>
    obtain ⟨k, rfl, hk, rfl, hB⟩ := hrel
    obtain ⟨w3, hw3⟩ : ∃ x, x = wr := ⟨_, rfl⟩
    subst hw3
    have hbd := HF.out.bound k
    obtain ⟨z, hz⟩ : ∃ z, sumS (L.take k) = z := ⟨_, rfl⟩
    rw [hz] at hbd ⊢
    by_cases hkn : k < n
    · have hkni : (k : Int) < (n : Int) := by omega
      have hkL : k < L.length := by rw [HN.out]; exact hkn
      rcases HSP.out.at_ with h0 | ⟨g, off, rfl, hgw, hc⟩
      · rw [h0] at hkL; simp at hkL
      · obtain ⟨q, hq⟩ : ∃ q, L[k] = q := ⟨_, rfl⟩
        have cq := (hc k hkL).below hB hgw
        rw [hq] at cq
        obtain ⟨q0, q1⟩ := cq
        have hqe : 0 ≤ q.f ∧ q.f ≤ q.t ∧ q.t ≤ 1099511627777 := HF.out.each q (by rw [← hq]; exact List.getElem_mem hkL)
        have HNX := Lib.hid (show sumS (L.take (k + 1)) = z + (q.t - q.f) by rw [List.take_succ_eq_append_getElem hkL, sumS_snoc, hz, hq])
        have hwk : IntKind.i64.wrap ((k : Int) + 1) = (k : Int) + 1 := by rw [IntKind.wrap_i64]; omega
        have hw1 : IntKind.i64.wrap (q.t - q.f) = q.t - q.f := by rw [IntKind.wrap_i64]; omega
        have hw2 : IntKind.i64.wrap (z + (q.t - q.f)) = z + (q.t - q.f) := by rw [IntKind.wrap_i64]; omega
        have HB3 := Lib.hid (bel_new hB (.cells #[.int .i64 q.f, .int .i64 q.t] 26))
        clear hc hq hz hB hbd hqe
        go_wp2
        go_roundw
        case rel => exact ⟨k + 1, by go_num, hkn, by rw [HNX.out], HB3.out⟩
        case measure => simp [intOf]; omega
    · have hkni : ¬ (k : Int) < (n : Int) := by omega
      have HZ := Lib.hid (show z = sumS L by rw [← hz, List.take_of_length_le (by rw [HN.out]; omega)])
      clear hz hbd
      go_wp2
      go_ret
      exact ⟨by rw [← HZ.out]; rfl, bel_next HB1.out hB⟩
theorem psize_is (b : Nat) (v : Value) (L : List Sp) (w : World) (hS : SetAt w b v L) (hF : FewOk L) : Calls Tryd.prog 40 #[.pointer (some ⟨b, 0, none⟩)] w fun e w' => e = .returned (.int .i64 (sumS L)) ∧ Below w.heap.size w w' := psize_of _ L w hF (pspans_is b v L w hS (by have := hF.len; omega))
theorem psize_nil (w : World) : Calls Tryd.prog 40 #[.pointer none] w fun e w' => e = .returned (.int .i64 0) ∧ Below w.heap.size w w' := psize_of none [] w ⟨by simp, by simp⟩ (pspans_nil w)
end Go.Proofs.YtdkenokjdiamhaaDoor
