/- awake, and what came in. -/
import Derived.Test.YtmmkbedheeeecaaRingOrderMath
set_option maxRecDepth 20000
set_option linter.unusedSimpArgs false
namespace Go.Proofs.Ytmmkbedheeeecaa
open Go.RowKit

theorem foldF_const (c : Int) (R : List Pt) (h : ∀ p ∈ R, p.n = c) (h0 : R ≠ []) : foldF 3 [] R = [c] := by
  rw [fold_any]
  have hd : ddN [] R = [c] := by
    cases R with
    | nil => exact absurd rfl h0
    | cons p t =>
      have e := h p List.mem_cons_self
      rw [ddN_cons, if_neg (by simp [inL]), e]
      show ddN [c] t = [c]
      have ht : ∀ q ∈ t, q.n = c := fun q hq => h q (List.mem_cons_of_mem _ hq)
      clear h h0
      induction t with
      | nil => rfl
      | cons q t ih =>
        rw [ddN_cons, if_pos (by rw [ht q List.mem_cons_self]; simp [inL])]
        exact ih fun r hr => ht r (List.mem_cons_of_mem _ hr)
  rw [hd]; rfl
theorem nodes_a : nodesL [3, 1, 3, 99] = [1, 3] := by decide
theorem nodes_b : nodesL [5] = [5] := by decide
theorem nodes_c : nodesL [] = [] := by decide
theorem prefer_b (h : Int) : preferL (srt (ptsL [5])) h 3 = [5] := by
  refine foldF_const 5 _ (fun p hp => ?_) ?_
  · have := (ptsL_mem ((srt_perm _).mem_iff.1 (fromL_mem.1 hp))).1
    simpa using this
  · intro e
    have := congrArg List.length e
    rw [fromL_len, srt_len, ptsL_len] at this
    simp at this
theorem prefer_c (h : Int) : preferL (srt (ptsL [])) h 3 = [] := by rw [show srt (ptsL []) = [] by simp [srt, ptsL]]; rfl
theorem lit_ns (w : World) (b : Nat) (l : List Int) (hb : b < w.heap.size) (hc : ∀ j (h : j < l.length), w.cell? ⟨b, j, none⟩ = some (.int .i64 l[j])) (hw : ∀ n ∈ l, -100 ≤ n ∧ n ≤ 100) (hl : l.length ≤ 100) : Ns w (.slice (some ⟨b, 0, none⟩) l.length l.length) l :=
  ⟨⟨_, _, rfl, Or.inr ⟨b, 0, rfl, hb, fun j hj => by rw [Nat.zero_add]; exact hc j hj⟩⟩, fun n hn => by have := hw n hn; omega, by omega, Nat.le_refl _⟩
theorem ns_a (w : World) : Ns (w.alloc (.cells #[.int .i64 3, .int .i64 1, .int .i64 3, .int .i64 99] 3)) (.slice (some ⟨w.heap.size, 0, none⟩) 4 4) [3, 1, 3, 99] :=
  lit_ns _ _ [3, 1, 3, 99] (by simp) (fun j hj => by match j, hj with | 0, _ => simp | 1, _ => simp | 2, _ => simp | 3, _ => simp) (by decide) (by decide)
theorem ns_b (w : World) : Ns (w.alloc (.cells #[.int .i64 1, .int .i64 3] 3)) (.slice (some ⟨w.heap.size, 0, none⟩) 2 2) [1, 3] :=
  lit_ns _ _ [1, 3] (by simp) (fun j hj => by match j, hj with | 0, _ => simp | 1, _ => simp) (by decide) (by decide)
theorem ns_c (w : World) : Ns (w.alloc (.cells #[.int .i64 5] 3)) (.slice (some ⟨w.heap.size, 0, none⟩) 1 1) [5] :=
  lit_ns _ _ [5] (by simp) (fun j hj => by match j, hj with | 0, _ => simp) (by decide) (by decide)
abbrev KEY : ByteArray := ⟨#[97, 110, 121, 116, 104, 105, 110, 103]⟩
theorem key_len : KEY.size ≤ maxLen := by unfold maxLen; decide
theorem IRow.small {w : World} {B : Nat} {v : Value} {l : List Int} (h : IRow w B v l) (hw : ∀ n ∈ l, 0 ≤ n ∧ n ≤ 15) (hl : l.length ≤ 16) : Ns w v l := h.ns (fun n hn => by have := hw n hn; omega) (by omega)
theorem nil_ns (w : World) : Ns w (.slice none 0 0) [] := ⟨⟨none, 0, rfl, Or.inl rfl⟩, fun n h => by simp at h, by simp, Nat.le_refl _⟩
theorem sameN (v1 v2 : Value) (l1 l2 : List Int) (z : Bool) (w : World) (h1 : Ns w v1 l1) (h2 : Ns w v2 l2) (hz : sameL l1 l2 = z) : Calls Try.prog 18 #[v1, v2] w fun e w' => e = .returned (.bool z) ∧ Below w.heap.size w w' := by subst hz; exact rsame_is v1 v2 l1 l2 _ _ w h1 h2
set_option maxHeartbeats 4000000 in
theorem awake_is (w : World) : Calls Try.prog 8 #[] w fun e w' => e = .returned (.bool true) ∧ Below w.heap.size w w' := by
  have kn := fun ep v l w h => new_is ep v l w h
  have kd := fun b v1 v2 ep N P w h => nodes_is b v1 v2 ep N P w h
  have kf := fun b v1 v2 ep N P key most w h hs hk => prefer_is b v1 v2 ep N P key most w h hs hk
  have ke := fun b v1 v2 ep N P w h => epoch_is b v1 v2 ep N P w h
  have k1 := kn 1 _ _ _ (ns_a w)
  have hB0 := (Below.refl w.heap.size w).alloc (Nat.le_refl _) (.cells #[.int .i64 3, .int .i64 1, .int .i64 3, .int .i64 99] 3)
  have HB0 := Lib.hid hB0
  clear hB0
  go_enter Try.func8, Try.ntmps8
  go_wp2_with (first
    | (go_at_call 13; (with_reducible refine k1.mono ?_); rintro e w1 ⟨b, v1, v2, rfl, hR, hB⟩; (rw [nodes_a] at hR); (have k2 := kd b v1 v2 1 _ _ w1 hR); (have HR1 := Lib.hid hR); (have HB1 := Lib.hid (bel_next HB0.out hB)); clear hR hB k1 HB0)
    | (go_at_call 19; (with_reducible refine k2.mono ?_); rintro e w2 ⟨x2, rfl, hr, hB⟩; (have hn := (hr.small (by decide) (by decide)).later ((Below.refl w2.heap.size w2).alloc (Nat.le_refl _) (.cells #[.int .i64 1, .int .i64 3] 3))); (have k3 := sameN _ _ _ _ true _ hn (ns_b w2) (by decide)); (have HB2 := Lib.hid (bel_new (bel_next HB1.out hB) (.cells #[.int .i64 1, .int .i64 3] 3))); (have HR2 := Lib.hid (HR1.out.later (bel_new hB (.cells #[.int .i64 1, .int .i64 3] 3)))); clear hr hB hn k2 HR1 HB1)
    | (go_at_call 18; (with_reducible refine k3.mono ?_); rintro e w3 ⟨rfl, hB⟩; (have k4 := kn 1 _ _ _ (ns_c w3)); (have HB3 := Lib.hid (bel_new (bel_next HB2.out hB) (.cells #[.int .i64 5] 3))); (have HR3 := Lib.hid (HR2.out.later (bel_new hB (.cells #[.int .i64 5] 3)))); clear hB k3 HR2 HB2)
    | (go_at_call 13; ((with_reducible refine k4.mono ?_); rintro e w4 ⟨b4, v3, v4, rfl, hR, hB⟩; (rw [nodes_b] at hR); (have k5 := kf b4 v3 v4 1 _ _ KEY 3 w4 hR (srt_rises _) key_len); (rw [prefer_b] at k5); (have HR4 := Lib.hid (HR3.out.later hB)); (have HB4 := Lib.hid (bel_next HB3.out hB)); clear hR hB k4 HB3 HR3))
    | (go_at_call 21; (with_reducible refine k5.mono ?_); rintro e w5 ⟨x5, rfl, hr, hB⟩; (have hn := (hr.small (by decide) (by decide)).later ((Below.refl w5.heap.size w5).alloc (Nat.le_refl _) (.cells #[.int .i64 5] 3))); (have k6 := sameN _ _ _ _ true _ hn (ns_c w5) (by decide)); (have HB5 := Lib.hid (bel_new (bel_next HB4.out hB) (.cells #[.int .i64 5] 3))); (have HR5 := Lib.hid (HR4.out.later (bel_new hB (.cells #[.int .i64 5] 3)))); clear hr hB hn k5 HR4 HB4)
    | (go_at_call 18; (with_reducible refine k6.mono ?_); rintro e w6 ⟨rfl, hB⟩; (have k7 := ke b v1 v2 1 _ _ w6 (HR5.out.later hB)); (have HB6 := Lib.hid (bel_next HB5.out hB)); (have k8 := kn 1 (.slice none 0 0) [] w6 (nil_ns w6)); clear hB k6 HR5 HB5)
    | (go_at_call 23; (with_reducible refine k7.mono ?_); rintro e w7 ⟨rfl, rfl⟩)
    | (go_at_call 13; (with_reducible refine k8.mono ?_); rintro e w8 ⟨b8, v5, v6, rfl, hR, hB⟩; (rw [nodes_c] at hR); (have k9 := kf b8 v5 v6 1 _ _ KEY 3 w8 hR (srt_rises _) key_len); (rw [prefer_c] at k9); (have HB8 := Lib.hid (bel_next HB6.out hB)); clear hR hB k8 HB6)
    | (go_at_call 21; (with_reducible refine k9.mono ?_); rintro e w9 ⟨x9, rfl, hr, hB⟩; (have HB9 := Lib.hid (bel_next HB8.out hB)); (obtain ⟨a9, c9, rfl⟩ := hr.slice); clear hr hB k9 HB8))
  go_ret
  exact ⟨rfl, HB9.out⟩
end Go.Proofs.Ytmmkbedheeeecaa
