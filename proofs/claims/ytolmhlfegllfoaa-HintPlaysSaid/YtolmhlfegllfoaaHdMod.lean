/- The document's Ack and Drop. -/
import Derived.Test.YtolmhlfegllfoaaHdAdd
set_option maxRecDepth 20000
set_option linter.unusedSimpArgs false
set_option linter.unusedVariables false
namespace Go.Proofs.Ytolmhlfegllfoaa.Qu.Hi
open Go.RowKit Go.Maps Go.Proofs.Ytolmhlfegllfoaa.Vi Go.Proofs.Ytolmhlfegllfoaa.Mk

/-- A list that is gone through, what stays of it laid one behind the other. -/
structure FlJ (w wr : World) (L : List Hk) (q : Hk → Bool) (k r : Nat) (v : Value) : Prop where
  row : HRow 68 wr w.heap.size v ((L.take k).filter q)
  len : ((L.take k).filter q).length = r
  bel : Below w.heap.size w wr
theorem FlJ.later {w wr w' : World} {L : List Hk} {q : Hk → Bool} {k r : Nat} {v : Value} (h : FlJ w wr L q k r v) (hb : Below wr.heap.size wr w') : FlJ w w' L q k r v := ⟨h.row.later hb, h.len, bel_next h.bel hb⟩
theorem FlJ.skip {w wr : World} {L : List Hk} {q : Hk → Bool} {k r : Nat} {v : Value} (h : FlJ w wr L q k r v) (hk : k < L.length) (hq : q L[k] = false) : FlJ w wr L q (k + 1) r v := by
  have e : (L.take (k + 1)).filter q = (L.take k).filter q := by
    rw [List.take_succ_eq_append_getElem hk, List.filter_append]; simp [hq]
  exact ⟨by rw [e]; exact h.row, by rw [e]; exact h.len, h.bel⟩
theorem fl_yes {L : List Hk} {q : Hk → Bool} {k : Nat} (hk : k < L.length) (hq : q L[k] = true) : (L.take (k + 1)).filter q = (L.take k).filter q ++ [L[k]] := by
  rw [List.take_succ_eq_append_getElem hk, List.filter_append]; simp [hq]
def RModDone (w : World) (B d : Nat) (room : Int) (L L' : List Hk) (e : Ending) (w' : World) : Prop := e = .returned (.int .i64 ((L.length : Int) - (L'.length : Int))) ∧ (∃ a' c', DoAt w' B d room L' a' c') ∧ FrD w w' B d
theorem wrap_sub {m k : Nat} (h1 : m ≤ 600) (h2 : k ≤ m) : IntKind.i64.wrap ((m : Int) - (k : Int)) = (m : Int) - (k : Int) := by rw [IntKind.wrap_i64]; omega
set_option maxHeartbeats 8000000 in
theorem rdrop_is {w : World} {B d : Nat} {room : Int} {L : List Hk} {a : Option Addr} {c : Nat} (h : DoAt w B d room L a c) (hB : B ≤ w.heap.size) (t : Int) : Calls Try.prog 15 #[.pointer (some ⟨d, 0, none⟩), .int .i64 t] w (RModDone w B d room L (dropL L t)) := by
  have H := Lib.hid h
  obtain ⟨q, hq⟩ : ∃ q : Hk → Bool, q = fun x => decide (t ≤ x.p.t) := ⟨_, rfl⟩
  have HE := Lib.hid (show dropL L t = L.filter q by rw [hq]; rfl)
  have HQ := Lib.hid (show ∀ x, q x = decide (t ≤ x.p.t) from fun x => by rw [hq])
  obtain ⟨n, hn⟩ : ∃ n, L.length = n := ⟨_, rfl⟩
  have hn6 : n ≤ 600 := by rw [← hn]; exact h.len
  have HN := Lib.hid hn
  have HBB := Lib.hid hB
  clear h hq hn hB
  go_enter Try.func15, Try.ntmps15
  go_wp2
  go_loopw [5, 6] (fun s5 i wr => ∃ (k r : Nat) (a5 : Option Addr) (c5 : Nat), k ≤ n ∧ r ≤ k ∧ i = .int .i64 (k : Int) ∧ s5 = .slice a5 r c5 ∧ Hid (FlJ w wr L q k r (.slice a5 r c5))) (fun _ i _ => n - (intOf i).toNat)
  case atStart => exact ⟨0, 0, none, 0, by omega, by omega, rfl, rfl, Lib.hid ⟨by rw [List.take_zero]; exact HRow.nil _ _ _, rfl, Below.refl _ _⟩⟩
  case round =>
    obtain ⟨k, r, a5, c5, hk, hr, rfl, rfl, HJ⟩ := hrel
    obtain ⟨w8, hw8⟩ : ∃ x, x = wr := ⟨_, rfl⟩
    subst hw8
    have h8 := H.out.later HJ.out.bel
    have d1 := h8.c1
    rw [HN.out] at d1
    by_cases hlt : k < n
    · have hlt2 : (k : Int) < (n : Int) := by omega
      have hkL : k < L.length := by rw [HN.out]; exact hlt
      obtain ⟨g, rfl, -, -, -, -, hc⟩ := h8.row.cell (by omega)
      obtain ⟨y, hy⟩ : ∃ y, L[k] = y := ⟨_, rfl⟩
      have hy7 := hc k hkL
      rw [hy] at hy7
      obtain ⟨y0, y1, y2, y3, y4, y5, y6⟩ := hy7
      have HY := Lib.hid hy
      clear hc hy h8
      by_cases ht : t ≤ y.p.t
      · have hst := fl_yes (q := q) hkL (by rw [HY.out, HQ.out]; exact decide_eq_true ht)
        rw [HY.out] at hst
        have HST := Lib.hid hst
        have hsz := HJ.out.bel.size
        clear hst
        go_wp2_with (at_builtin; refine wpList_appH htyD (w := w8) rfl _ _ rfl w.heap.size r (.slice a5 r c5) ((L.take k).filter q) y w8.heap.size rfl rfl rfl (Lib.hid HJ.out.len) HJ.out.row ?hlen hsz ?_; (case hlen => omega); intro a6 c6 w6 hr6 _ hb6 _; (have HB6 := Lib.hid (HJ.out.bel.trans hb6)); clear hb6)
        go_roundw
        case rel => exact ⟨k + 1, r + 1, a6, c6, by omega, by omega, by go_num, rfl, Lib.hid ⟨by rw [HST.out]; exact hr6.out, by rw [HST.out, List.length_append, HJ.out.len]; rfl, HB6.out⟩⟩
        case measure => simp [intOf]; omega
      · have ht2 : ¬ y.p.t ≥ t := by omega
        have HJ9 := Lib.hid (HJ.out.skip hkL (by rw [HY.out, HQ.out]; exact decide_eq_false ht))
        go_wp2
        go_roundw
        case rel => exact ⟨k + 1, r, a5, c5, by omega, by omega, by go_num, rfl, HJ9⟩
        case measure => simp [intOf]; omega
    · obtain rfl : k = n := by omega
      have hlt2 : ¬ (k : Int) < (k : Int) := by omega
      have hT : L.take k = L := List.take_of_length_le (by rw [HN.out]; exact Nat.le_refl _)
      have hlen := HJ.out.len
      have hrow := HJ.out.row
      rw [hT] at hlen hrow
      have hset := set_do h8 (a' := a5) (c' := c5) (L' := L.filter q) (by rw [hlen]; exact hrow.base HBB.out) (by rw [hlen]; omega)
      rw [hlen] at hset
      have HS := Lib.hid hset
      have hfz := h8.frozen 1
      have hwr := wrap_sub (m := k) (k := r) hn6 hr
      have HLE := Lib.hid hlen
      clear hlt hT hlen hrow hset h8
      go_wp2
      go_ret
      exact ⟨by rw [HE.out, HN.out, HLE.out]; rfl, ⟨a5, c5, by rw [HE.out]; exact HS.out.1⟩, (FrD.of HJ.out.bel B d).trans HS.out.2⟩
/-- Whether an entry is acknowledged by the first k points. -/
def gB (y : Hk) (n : Int) (ps : List Pt) (k : Nat) : Bool := decide (y.n = n) && decide (y.p ∈ ps.take k)
theorem gB_no {y : Hk} {n : Int} {ps : List Pt} {k : Nat} (h : y.n ≠ n) : gB y n ps k = false := by unfold gB; simp [h]
theorem gB_same {y : Hk} {n : Int} {ps : List Pt} {k : Nat} (hk : k < ps.length) (h : y.p ≠ ps[k]) : gB y n ps (k + 1) = gB y n ps k := by
  have e : (y.p ∈ ps.take (k + 1)) ↔ y.p ∈ ps.take k := by
    rw [List.take_succ_eq_append_getElem hk, List.mem_append, List.mem_singleton]
    exact ⟨fun h' => h'.elim id fun e => absurd e h, Or.inl⟩
  unfold gB
  simp only [e]
theorem gB_yes {y : Hk} {n : Int} {ps : List Pt} {k : Nat} (hk : k < ps.length) (h : y.p = ps[k]) (hn : y.n = n) : gB y n ps (k + 1) = true := by
  unfold gB
  refine Bool.and_eq_true_iff.2 ⟨decide_eq_true hn, decide_eq_true ?_⟩
  rw [List.take_succ_eq_append_getElem hk, h]
  exact List.mem_append_right _ (List.mem_singleton.2 rfl)
theorem gB_keep {y : Hk} {n : Int} {ps : List Pt} {k : Nat} (hk : k < ps.length) (h : gB y n ps k = true) : gB y n ps (k + 1) = true := by
  unfold gB at *
  rw [List.take_succ_eq_append_getElem hk]
  simp only [Bool.and_eq_true, decide_eq_true_eq] at *
  exact ⟨h.1, List.mem_append_left _ h.2⟩
set_option maxHeartbeats 16000000 in
theorem rack_is {w : World} {B d : Nat} {room : Int} {L : List Hk} {a : Option Addr} {c : Nat} (h : DoAt w B d room L a c) (hB : B ≤ w.heap.size) (nd : Int) (a0 : Option Addr) (c0 : Nat) (ps : List Pt) (hS : Pts w w.heap.size a0 ps) (hpl : ps.length ≤ 1000000) : Calls Try.prog 13 #[.pointer (some ⟨d, 0, none⟩), .int .i64 nd, .slice a0 ps.length c0] w (RModDone w B d room L (ackL L nd ps)) := by
  have H := Lib.hid h
  obtain ⟨q, hq⟩ : ∃ q : Hk → Bool, q = fun x => !gB x nd ps ps.length := ⟨_, rfl⟩
  have HE := Lib.hid (show ackL L nd ps = L.filter q by
    rw [hq]
    unfold ackL gB
    refine List.filter_congr fun x _ => ?_
    rw [List.take_length])
  obtain ⟨pn, hpn⟩ : ∃ pn, ps.length = pn := ⟨_, rfl⟩
  rw [hpn] at hpl ⊢
  have HQ := Lib.hid (show ∀ x, q x = !gB x nd ps pn from fun x => by rw [hq, hpn])
  obtain ⟨n, hn⟩ : ∃ n, L.length = n := ⟨_, rfl⟩
  have hn6 : n ≤ 600 := by rw [← hn]; exact h.len
  have HN := Lib.hid hn
  have HPN := Lib.hid hpn
  have HBB := Lib.hid hB
  have HS := Lib.hid hS
  clear h hq hn hB hS hpn
  go_enter Try.func13, Try.ntmps13
  go_wp2
  go_loopw [7, 8, 9, 10] (fun s7 i s9 s10 wr => ∃ (k r : Nat) (a5 : Option Addr) (c5 : Nat), k ≤ n ∧ r ≤ k ∧ i = .int .i64 (k : Int) ∧ s7 = .slice a5 r c5 ∧ Hid (FlJ w wr L q k r (.slice a5 r c5))) (fun _ i _ _ _ => n - (intOf i).toNat)
  case atStart => exact ⟨0, 0, none, 0, by omega, by omega, rfl, rfl, Lib.hid ⟨by rw [List.take_zero]; exact HRow.nil _ _ _, rfl, Below.refl _ _⟩⟩
  case round =>
    obtain ⟨k, r, a5, c5, hk, hr, rfl, rfl, HJ⟩ := hrel
    obtain ⟨w8, hw8⟩ : ∃ x, x = wr := ⟨_, rfl⟩
    subst hw8
    have h8 := H.out.later HJ.out.bel
    have d1 := h8.c1
    rw [HN.out] at d1
    by_cases hlt : k < n
    · have hlt2 : (k : Int) < (n : Int) := by omega
      have hkL : k < L.length := by rw [HN.out]; exact hlt
      obtain ⟨y, hy⟩ : ∃ y, L[k] = y := ⟨_, rfl⟩
      have HY := Lib.hid hy
      have H8 := Lib.hid h8
      have HK := Lib.hid hkL
      clear hy h8
      go_wp2
      go_loopg [9, 10] pn (fun g2 s9 j wy => ∃ (m : Nat), m + g2 = pn ∧ j = .int .i64 (m : Int) ∧ s9 = .bool (gB y nd ps m) ∧ Hid (Below w8.heap.size w8 wy))
      case atStart => exact ⟨0, by omega, rfl, by unfold gB; simp, Lib.hid (Below.refl _ _)⟩
      case round =>
        obtain ⟨m, hm, rfl, rfl, HBy⟩ := hrel
        obtain ⟨w9, hw9⟩ : ∃ x, x = wr := ⟨_, rfl⟩
        subst hw9
        have h9 := H8.out.later HBy.out
        have d2 := h9.c1
        rw [HN.out] at d2
        obtain ⟨g, rfl, -, -, -, -, hc⟩ := h9.row.cell (by have := HK.out; omega)
        have hy7 := hc k HK.out
        rw [HY.out] at hy7
        obtain ⟨y0, y1, y2, y3, y4, y5, y6⟩ := hy7
        clear hc h9
        cases gk with
        | zero =>
          obtain rfl : m = pn := by omega
          have hm2 : ¬ (m : Int) < (m : Int) := by omega
          cases hz : gB y nd ps m with
          | true =>
            have HJ9 := Lib.hid ((HJ.out.skip HK.out (by rw [HY.out, HQ.out, hz]; rfl)).later HBy.out)
            clear hz hm
            go_wp2
            go_roundw
            case rel => exact ⟨k + 1, r, a5, c5, by omega, by omega, by go_num, rfl, HJ9⟩
            case measure => simp [intOf]; omega
          | false =>
            have hst := fl_yes (q := q) HK.out (by rw [HY.out, HQ.out, hz]; rfl)
            rw [HY.out] at hst
            have HST := Lib.hid hst
            have HJ9 := Lib.hid (HJ.out.later HBy.out)
            have hsz := HJ9.out.bel.size
            clear hst hz hm
            go_wp2_with (at_builtin; refine wpList_appH htyD (w := w9) rfl _ _ rfl w.heap.size r (.slice a5 r c5) ((L.take k).filter q) y w9.heap.size rfl rfl rfl (Lib.hid HJ9.out.len) HJ9.out.row ?hlen hsz ?_; (case hlen => omega); intro a6 c6 w6 hr6 _ hb6 _; (have HB6 := Lib.hid (HJ9.out.bel.trans hb6)); clear hb6)
            go_roundw
            case rel => exact ⟨k + 1, r + 1, a6, c6, by omega, by omega, by go_num, rfl, Lib.hid ⟨by rw [HST.out]; exact hr6.out, by rw [HST.out, List.length_append, HJ9.out.len]; rfl, HB6.out⟩⟩
            case measure => simp [intOf]; omega
        | succ g2 =>
          have hm2 : (m : Int) < (pn : Int) := by omega
          have hmp : m < ps.length := by rw [HPN.out]; omega
          have hP9 := (HS.out.below (HJ.out.bel)).below (HBy.out.mono HJ.out.bel.size)
          rcases hP9.at_ with he | ⟨gp, off, rfl, hg, hcp⟩
          · rw [he] at hmp; simp at hmp
          · have hx := hcp m hmp
            obtain ⟨p, hp⟩ : ∃ p, ps[m] = p := ⟨_, rfl⟩
            rw [hp] at hx
            obtain ⟨x0, x1, x2, x3, x4, x5⟩ := hx
            have HP := Lib.hid hp
            have HBz := Lib.hid (fun nq => below_drewN HBy.out nq)
            have hqq := fun W => eql_run6 y.p p W
            unfold ptV at hqq
            clear hcp hp hP9
            cases hz : gB y nd ps m with
            | true =>
              have HG := Lib.hid (gB_keep hmp hz)
              clear hz
              go_wp2_with fail
              go_quiet (fail)
              go_wp2
              go_roundg g2
              case measure => omega
              case rel => exact ⟨m + 1, by omega, by go_num, by rw [HG.out], Lib.hid (HBz.out _)⟩
            | false =>
              by_cases hyn : y.n = nd
              · have hnq : (y.n == nd) = true := by simpa using hyn
                by_cases hyp : y.p = p
                · rw [Pt.same_iff.2 hyp] at hqq
                  have HG := Lib.hid (gB_yes (n := nd) hmp (hyp.trans HP.out.symm) hyn)
                  clear hz hyn hyp
                  go_wp2_with fail
                  go_quiet (fail)
                  go_wp2
                  go_roundg g2
                  case measure => omega
                  case rel => exact ⟨m + 1, by omega, by go_num, by rw [HG.out], Lib.hid (HBz.out _)⟩
                · have hsf : y.p.same p = false := by
                    cases e : y.p.same p with
                    | false => rfl
                    | true => exact absurd (Pt.same_iff.1 e) hyp
                  rw [hsf] at hqq
                  have HG := Lib.hid ((gB_same (n := nd) hmp (fun e => hyp (e.trans HP.out))).trans hz)
                  clear hz hyn hyp hsf
                  go_wp2_with fail
                  go_quiet (fail)
                  go_wp2
                  go_roundg g2
                  case measure => omega
                  case rel => exact ⟨m + 1, by omega, by go_num, by rw [HG.out], Lib.hid (HBz.out _)⟩
              · have hnq : (y.n == nd) = false := by simpa using hyn
                have HG := Lib.hid (gB_no (ps := ps) (k := m + 1) hyn)
                clear hz hyn
                go_wp2_with fail
                go_quiet (fail)
                go_wp2
                go_roundg g2
                case measure => omega
                case rel => exact ⟨m + 1, by omega, by go_num, by rw [HG.out], Lib.hid (HBz.out _)⟩
    · obtain rfl : k = n := by omega
      have hlt2 : ¬ (k : Int) < (k : Int) := by omega
      have hT : L.take k = L := List.take_of_length_le (by rw [HN.out]; exact Nat.le_refl _)
      have hlen := HJ.out.len
      have hrow := HJ.out.row
      rw [hT] at hlen hrow
      have hset := set_do h8 (a' := a5) (c' := c5) (L' := L.filter q) (by rw [hlen]; exact hrow.base HBB.out) (by rw [hlen]; omega)
      rw [hlen] at hset
      have HST := Lib.hid hset
      have hfz := h8.frozen 1
      have hwr := wrap_sub (m := k) (k := r) hn6 hr
      have HLE := Lib.hid hlen
      clear hlt hT hlen hrow hset h8
      go_wp2
      go_ret
      exact ⟨by rw [HE.out, HN.out, HLE.out]; rfl, ⟨a5, c5, by rw [HE.out]; exact HST.out.1⟩, (FrD.of HJ.out.bel B d).trans HST.out.2⟩
end Go.Proofs.Ytolmhlfegllfoaa.Qu.Hi
