/- The document's Nodes. -/
import Derived.Test.YtolmhlfegllfoaaHdMod
set_option maxRecDepth 20000
set_option linter.unusedSimpArgs false
set_option linter.unusedVariables false
namespace Go.Proofs.Ytolmhlfegllfoaa.Qu.Hi
open Go.RowKit Go.Maps Go.Proofs.Ytolmhlfegllfoaa.Vi Go.Proofs.Ytolmhlfegllfoaa.Mk

def nsK (L : List Hk) (q : Hk → Bool) (k : Nat) : List Int := ((L.take k).filter q).map Hk.n
theorem nsK_yes {L : List Hk} {q : Hk → Bool} {k : Nat} (hk : k < L.length) (hq : q L[k] = true) : nsK L q (k + 1) = nsK L q k ++ [L[k].n] := by
  unfold nsK; rw [fl_yes hk hq, List.map_append]; rfl
theorem nsK_no {L : List Hk} {q : Hk → Bool} {k : Nat} (hk : k < L.length) (hq : q L[k] = false) : nsK L q (k + 1) = nsK L q k := by
  unfold nsK; rw [List.take_succ_eq_append_getElem hk, List.filter_append]; simp [hq]
structure NdJ (w wr : World) (L : List Hk) (p : Pt) (q : Hk → Bool) (k r : Nat) (v : Value) : Prop where
  row : IRow wr (w.heap.size + 1) v (nsK L q k)
  len : (nsK L q k).length = r
  bel1 : Below (w.heap.size + 1) (w.alloc (.cells #[.string p.s, .int .i64 p.t, .int .i64 p.v, .int .i64 p.st.c, .int .i64 p.st.s, .int .i64 p.st.q] 31)) wr
theorem NdJ.bel {w wr : World} {L : List Hk} {p : Pt} {q : Hk → Bool} {k r : Nat} {v : Value} (h : NdJ w wr L p q k r v) : Below w.heap.size w wr := ((Below.refl w.heap.size w).alloc (Nat.le_refl _) _).trans (h.bel1.mono (by omega))
theorem NdJ.pt {w wr : World} {L : List Hk} {p : Pt} {q : Hk → Bool} {k r : Nat} {v : Value} (h : NdJ w wr L p q k r v) : PtAt wr w.heap.size p := (PtAt.new w p).below h.bel1 (by omega)
theorem NdJ.drewN {w wr : World} {L : List Hk} {p : Pt} {q : Hk → Bool} {k r : Nat} {v : Value} (h : NdJ w wr L p q k r v) (n : Nat) : NdJ w (wr.drewN n) L p q k r v := ⟨h.row.later (below_drewN (Below.refl _ _) n), h.len, below_drewN h.bel1 n⟩
theorem ns_end {L : List Hk} (hG : Good L) (any : Bool) (p : Pt) : nodesL (nsK L (fun x => any || decide (x.p = p)) L.length) = if any = true then nodesH L else owedL L p := by
  unfold nsK
  rw [List.take_length]
  unfold nodesL nodesK
  cases any with
  | true =>
    rw [if_pos rfl]
    unfold nodesH
    refine pick_congr (p := inL _) fun n _ _ => ?_
    unfold inL anyB
    rw [Bool.eq_iff_iff]
    simp
  | false =>
    rw [if_neg (by simp)]
    unfold owedL
    refine pick_congr (p := inL _) fun n _ _ => ?_
    unfold inL hasB
    rw [Bool.eq_iff_iff]
    simp only [decide_eq_true_eq, List.mem_map, List.mem_filter, Bool.false_or]
    constructor
    · rintro ⟨x, ⟨h1, h2⟩, rfl⟩
      rw [← h2]; exact h1
    · intro h1
      exact ⟨_, ⟨h1, rfl⟩, rfl⟩
set_option maxHeartbeats 8000000 in
theorem rnodesD_is {w : World} {B d : Nat} {room : Int} {L : List Hk} {a : Option Addr} {c : Nat} (h : DoAt w B d room L a c) (hG : Good L) (p : Pt) (any : Bool) : Calls Try.prog 23 #[.pointer (some ⟨d, 0, none⟩), ptV p, .bool any] w (IDone (if any = true then nodesH L else owedL L p) w) := by
  have H := Lib.hid h
  obtain ⟨q, hq⟩ : ∃ q : Hk → Bool, q = fun x => any || decide (x.p = p) := ⟨_, rfl⟩
  have HE := Lib.hid (ns_end hG any p)
  rw [← hq] at HE
  have HQ := Lib.hid (show ∀ x, q x = (any || decide (x.p = p)) from fun x => by rw [hq])
  have hbd : ∀ k, (∀ n ∈ nsK L q k, -9223372036854775808 ≤ n ∧ n ≤ 9223372036854775807) ∧ (nsK L q k).length ≤ 600 := fun k => ⟨fun n hn => by
    unfold nsK at hn
    obtain ⟨x, hx, rfl⟩ := List.mem_map.1 hn
    have := (hG.fine x (List.mem_of_mem_take (List.mem_filter.1 hx).1)).node
    omega, by
    unfold nsK
    rw [List.length_map]
    have h1 := List.length_filter_le q (L.take k)
    have h2 : (L.take k).length ≤ L.length := by rw [List.length_take]; omega
    have := h.len
    omega⟩
  have HBD := Lib.hid hbd
  obtain ⟨n, hn⟩ : ∃ n, L.length = n := ⟨_, rfl⟩
  have hn6 : n ≤ 600 := by rw [← hn]; exact h.len
  have HN := Lib.hid hn
  rw [hn] at HE
  obtain ⟨RS, hRS⟩ : ∃ RS, (if any = true then nodesH L else owedL L p) = RS := ⟨_, rfl⟩
  rw [hRS] at HE ⊢
  clear hRS
  have kn := fun (v : Value) (l : List Int) (W : World) (h : Ns W v l) => rnodes_is v l W h
  clear h hq hn hbd hG
  unfold ptV
  go_enter Try.func23, Try.ntmps23
  go_wp2
  go_loopw [7, 8] (fun s7 i wr => ∃ (k r : Nat) (a5 : Option Addr) (c5 : Nat), k ≤ n ∧ r ≤ 600 ∧ i = .int .i64 (k : Int) ∧ s7 = .slice a5 r c5 ∧ Hid (NdJ w wr L p q k r (.slice a5 r c5))) (fun _ i _ => n - (intOf i).toNat)
  case atStart => exact ⟨0, 0, none, 0, by omega, by omega, rfl, rfl, Lib.hid ⟨IRow.nil _ _, rfl, Below.refl _ _⟩⟩
  case round =>
    obtain ⟨k, r, a5, c5, hk, hr, rfl, rfl, HJ⟩ := hrel
    obtain ⟨w8, hw8⟩ : ∃ x, x = wr := ⟨_, rfl⟩
    subst hw8
    have h8 := H.out.later HJ.out.bel
    have d1 := h8.c1
    rw [HN.out] at d1
    by_cases hlt : k < n
    · have hlt2 : (k : Int) < (n : Int) := by omega
      have hkL : k < L.length := by rw [HN.out]; exact hlt
      obtain ⟨g, hga, -, -, -, -, hc⟩ := h8.row.cell (by omega)
      subst hga
      obtain ⟨y, hy⟩ : ∃ y, L[k] = y := ⟨_, rfl⟩
      have hy7 := hc k hkL
      rw [hy] at hy7
      obtain ⟨y0, y1, y2, y3, y4, y5, y6⟩ := hy7
      obtain ⟨x0, x1, x2, x3, x4, x5⟩ := HJ.out.pt
      have HY := Lib.hid hy
      have hqq := fun W => eql_run6 y.p p W
      unfold ptV at hqq
      clear hc hy h8
      cases hz : q y with
      | true =>
        have hst := nsK_yes (q := q) hkL (by rw [HY.out]; exact hz)
        rw [HY.out] at hst
        have HST := Lib.hid hst
        have h6 := (HBD.out (k + 1)).2
        rw [hst, List.length_append, HJ.out.len] at h6
        have h6 : r + 1 ≤ 600 := h6
        have HSZ := Lib.hid (show ∀ n, w.heap.size + 1 ≤ (w8.drewN n).heap.size from fun n => by have := HJ.out.bel1.size; simpa using this)
        cases any with
        | true =>
          clear hst hz
          go_wp2_with fail
          go_quiet (fail)
          go_wp2_with (at_builtin; refine wpList_irowN (w := w8.drewN nq) rfl _ _ rfl (w.heap.size + 1) (.slice a5 r c5) (nsK L q k) rfl y.n w8.heap.size rfl rfl (HJ.out.drewN nq).row (HSZ.out nq) ?hl ?_; (case hl => (rw [HJ.out.len]; omega)); intro v4 w4 hr4 hb4 G4; (have HR4 := Lib.hid hr4); (have HB4 := Lib.hid ((HJ.out.drewN nq).bel1.trans hb4)); (obtain ⟨a4, d4, e4⟩ := hr4.slice); (rw [List.length_append, HJ.out.len] at e4); (have e4 : v4 = .slice a4 (r + 1) d4 := e4); subst e4; clear hr4 hb4 G4)
          go_roundw
          case rel => exact ⟨k + 1, r + 1, a4, d4, by omega, by omega, by go_num, rfl, Lib.hid ⟨by rw [HST.out]; exact HR4.out, by rw [HST.out, List.length_append, HJ.out.len]; rfl, HB4.out⟩⟩
          case measure => simp [intOf]; omega
        | false =>
          have hyp : y.p = p := by rw [HQ.out] at hz; simpa using hz
          rw [Pt.same_iff.2 hyp] at hqq
          clear hst hz hyp
          go_wp2_with fail
          go_quiet (fail)
          go_wp2_with (at_builtin; refine wpList_irowN (w := w8.drewN nq) rfl _ _ rfl (w.heap.size + 1) (.slice a5 r c5) (nsK L q k) rfl y.n w8.heap.size rfl rfl (HJ.out.drewN nq).row (HSZ.out nq) ?hl ?_; (case hl => (rw [HJ.out.len]; omega)); intro v4 w4 hr4 hb4 G4; (have HR4 := Lib.hid hr4); (have HB4 := Lib.hid ((HJ.out.drewN nq).bel1.trans hb4)); (obtain ⟨a4, d4, e4⟩ := hr4.slice); (rw [List.length_append, HJ.out.len] at e4); (have e4 : v4 = .slice a4 (r + 1) d4 := e4); subst e4; clear hr4 hb4 G4)
          go_roundw
          case rel => exact ⟨k + 1, r + 1, a4, d4, by omega, by omega, by go_num, rfl, Lib.hid ⟨by rw [HST.out]; exact HR4.out, by rw [HST.out, List.length_append, HJ.out.len]; rfl, HB4.out⟩⟩
          case measure => simp [intOf]; omega
      | false =>
        have HJ9 := Lib.hid (show ∀ m, NdJ w (w8.drewN m) L p q (k + 1) r (.slice a5 r c5) from fun m => by
          have e := nsK_no (q := q) hkL (by rw [HY.out]; exact hz)
          have h9 := HJ.out.drewN m
          exact ⟨by rw [e]; exact h9.row, by rw [e]; exact h9.len, h9.bel1⟩)
        rw [HQ.out] at hz
        obtain ⟨hz1, hz2⟩ := Bool.or_eq_false_iff.1 hz
        subst hz1
        have hsf : y.p.same p = false := by
          cases e : y.p.same p with
          | false => rfl
          | true => exact absurd (Pt.same_iff.1 e) (of_decide_eq_false hz2)
        rw [hsf] at hqq
        clear hz hz2 hsf
        go_wp2_with fail
        go_quiet (fail)
        go_wp2
        go_roundw
        case rel => exact ⟨k + 1, r, a5, c5, by omega, by omega, by go_num, rfl, Lib.hid (HJ9.out _)⟩
        case measure => simp [intOf]; omega
    · obtain rfl : k = n := by omega
      have hlt2 : ¬ (k : Int) < (k : Int) := by omega
      have hb := HBD.out k
      have hns := irow_ns HJ.out.row hb.1 (by omega)
      have kk := kn _ _ w8 hns
      rw [HE.out] at kk
      have HB8 := Lib.hid HJ.out.bel
      clear hlt h8 hb hns kn HJ
      go_wp2_with (go_at_call 27; (with_reducible refine kk.mono ?_); rintro e w9 ⟨v9, rfl, hR9, hb9⟩; (have HR9 := Lib.hid (own_base hR9 HB8.out.size)); (have HB9 := Lib.hid (bel_next HB8.out hb9)); clear hR9 hb9)
      go_ret
      exact ⟨_, rfl, HR9.out, HB9.out⟩
end Go.Proofs.Ytolmhlfegllfoaa.Qu.Hi
