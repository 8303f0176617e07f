/- The contracts of slices.IndexFunc and DeleteFunc at points, and of From. -/
import Derived.Test.YtkomfenjeoaelaaDoorBlockLooks
set_option maxRecDepth 20000
set_option linter.unusedSimpArgs false
namespace Go.Proofs.YtkomfenjeoaelaaDoor
open Go.RowKit Go.Proofs.YtkomfenjeoaelaaDoor.Vi Go.Proofs.YtkomfenjeoaelaaDoor.Mk

abbrev DEL (T : Nat) : Value := .func (.func 43) #[] #[.pointer (some ⟨T, 0, none⟩)]
theorem from1_is (p : Pt) (T : Nat) (tm : Int) (z : Bool) (w : World) (hT : w.cell? ⟨T, 0, none⟩ = some (.int .i64 tm)) (hz : Hid (decide (p.t < tm) = z)) :
    Calls Tryd.prog 43 #[ptV p, .pointer (some ⟨T, 0, none⟩)] w fun e w' => e = .returned (.bool z) ∧ Below w.heap.size w w' := by
  have hb := World.block_lt_of_cell? w _ hT
  have hne : ¬ T = w.heap.size := by simp at hb; omega
  have hne2 : ¬ w.heap.size = T := by omega
  have HB := (Below.refl w.heap.size w).alloc (Nat.le_refl _) (.cells #[.string p.s, .int .i64 p.t, .int .i64 p.v, .int .i64 p.st.c, .int .i64 p.st.s, .int .i64 p.st.q] 32)
  have HT := (HB.cell (p := ⟨T, 0, none⟩) hb).trans hT
  unfold ptV
  have hz := hz.out
  cases z with
  | true =>
    have h1 := of_decide_eq_true hz
    clear hz
    go_enter Tryd.func43, Tryd.ntmps43
    go_wp2
    go_ret
    exact ⟨rfl, HB⟩
  | false =>
    have h1 := of_decide_eq_false hz
    clear hz
    go_enter Tryd.func43, Tryd.ntmps43
    go_wp2
    go_ret
    exact ⟨rfl, HB⟩
/-- The first point below a time. -/
def lateN (l : List Pt) (tm : Int) : Nat := (l.takeWhile fun x => decide (tm ≤ x.t)).length
def idxI (l : List Pt) (tm : Int) : Int := if lateN l tm < l.length then (lateN l tm : Int) else -1
theorem lateN_le (l : List Pt) (tm : Int) : lateN l tm ≤ l.length := List.IsPrefix.length_le (List.takeWhile_prefix _)
theorem lateN_ge {l : List Pt} {tm : Int} {k : Nat} (hk : k ≤ l.length) (h : ∀ q (hq : q < l.length), q < k → tm ≤ (l[q]).t) : k ≤ lateN l tm := by
  unfold lateN
  induction l generalizing k with
  | nil => simpa using hk
  | cons a t ih =>
    cases k with
    | zero => omega
    | succ k =>
      have h0 := h 0 (by simp) (by omega)
      simp only [List.getElem_cons_zero] at h0
      rw [List.takeWhile_cons, if_pos (by simpa using h0), List.length_cons]
      have := ih (k := k) (by simpa using hk) fun q hq hqk => by have := h (q + 1) (by simpa using hq) (by omega); simpa using this
      omega
theorem lateN_at {l : List Pt} {tm : Int} {k : Nat} (hk : k < l.length) (h : ∀ q (hq : q < l.length), q < k → tm ≤ (l[q]).t) (h2 : (l[k]).t < tm) : lateN l tm = k := by
  have h1 := lateN_ge (by omega) h
  by_cases e : lateN l tm = k
  · exact e
  · exfalso
    have hm : l[k] ∈ l.takeWhile fun x => decide (tm ≤ x.t) := by
      have hp := List.takeWhile_prefix (fun x : Pt => decide (tm ≤ x.t)) (l := l)
      have hlt : k < (l.takeWhile fun x => decide (tm ≤ x.t)).length := by unfold lateN at h1 e; omega
      have := hp.getElem hlt
      rw [← this]; exact List.getElem_mem hlt
    have := List.all_takeWhile (l := l) (p := fun x : Pt => decide (tm ≤ x.t))
    rw [List.all_eq_true] at this
    have := this _ hm
    simp only [decide_eq_true_eq] at this
    omega
set_option maxHeartbeats 4000000 in
theorem index6_is (a0 : Option Addr) (c0 : Nat) (l : List Pt) (T : Nat) (tm : Int) (w : World) (hS : Lst w w.heap.size a0 c0 l) (hl : l.length ≤ 900000) (hT : w.cell? ⟨T, 0, none⟩ = some (.int .i64 tm)) :
    Calls Tryd.prog 70 #[.slice a0 l.length c0, DEL T] w fun e w' => e = .returned (.int .i64 (idxI l tm)) ∧ Below w.heap.size w w' := by
  have HS := Lib.hid hS
  have HT := Lib.hid hT
  have hb := World.block_lt_of_cell? w _ hT
  clear hS hT
  go_enter Tryd.func70, Tryd.ntmps70
  go_wp2
  go_loopw [8] (fun i wr => ∃ (k : Nat), k ≤ l.length ∧ i = .int .i64 (k : Int) ∧ Below w.heap.size w wr ∧ Hid (∀ q (hq : q < l.length), q < k → tm ≤ (l[q]).t)) (fun i _ => l.length - (intOf i).toNat)
  case atStart => exact ⟨0, by omega, rfl, Below.refl _ _, Lib.hid fun q _ h => by omega⟩
  case round =>
    obtain ⟨k, hk, rfl, hB, hall⟩ := hrel
    obtain ⟨w3, hw3⟩ : ∃ x, x = wr := ⟨_, rfl⟩
    subst hw3
    by_cases hlt : k < l.length
    · have hlti : (k : Int) < (l.length : Int) := by omega
      rcases HS.out.pts.at_ with rfl | ⟨b, off, rfl, hbw, hc⟩
      · simp at hlt
      · have hA := (hc k hlt).below hB hbw
        have hT3 := (hB.cell (p := ⟨T, 0, none⟩) hb).trans HT.out
        have HNO := Lib.hid (fun (h : (l[k]).t < tm) => show idxI l tm = (k : Int) by
          have e := lateN_at hlt hall.out h
          unfold idxI; rw [e, if_pos hlt])
        have HGO := Lib.hid (fun (h : ¬ (l[k]).t < tm) => show ∀ q (hq : q < l.length), q < k + 1 → tm ≤ (l[q]).t from fun q hq hqk => by
          by_cases e : q = k
          · subst e; omega
          · exact hall.out q hq (by omega))
        obtain ⟨x, hx⟩ : ∃ x, l[k] = x := ⟨_, rfl⟩
        rw [hx] at hA HNO HGO
        obtain ⟨c0', c1, c2, c3, c4, c5⟩ := hA
        obtain ⟨z, hz⟩ : ∃ z, decide (x.t < tm) = z := ⟨_, rfl⟩
        have kd := from1_is x T tm z w3 hT3 (Lib.hid hz)
        have HB := Lib.hid hB
        unfold ptV at kd
        clear hc hx hall hB hT3
        cases z with
        | true =>
          have HH := Lib.hid (HNO.out (of_decide_eq_true hz))
          clear HGO HNO hz
          go_wp2_with (go_at_call 43; (with_reducible refine kd.mono ?_); rintro e w4 ⟨rfl, hb4⟩)
          go_ret
          exact ⟨by rw [HH.out]; rfl, bel_next HB.out hb4⟩
        | false =>
          have HH := Lib.hid (HGO.out (of_decide_eq_false hz))
          clear HGO HNO hz
          go_wp2_with (go_at_call 43; (with_reducible refine kd.mono ?_); rintro e w4 ⟨rfl, hb4⟩)
          go_roundw
          case rel => exact ⟨k + 1, by omega, by go_num, bel_next HB.out hb4, HH⟩
          case measure => simp [intOf]; omega
    · have hlti : ¬ (k : Int) < (l.length : Int) := by omega
      have HH := Lib.hid (show idxI l tm = -1 by
        have := lateN_ge hk hall.out
        unfold idxI; exact if_neg (by omega))
      have HB := Lib.hid hB
      clear hall hB
      go_wp2
      go_ret
      exact ⟨by rw [HH.out]; rfl, HB.out⟩

/-- A point written over another one. -/
def setP (w : World) (g o : Nat) (p : Pt) : World := ((((((w.setCell ⟨g, o, none⟩ (.string p.s)).setCell ⟨g, o + 1, none⟩ (.int .i64 p.t)).setCell ⟨g, o + 2, none⟩ (.int .i64 p.v)).setCell ⟨g, o + 3, none⟩ (.int .i64 p.st.c)).setCell ⟨g, o + 4, none⟩ (.int .i64 p.st.s)).setCell ⟨g, o + 5, none⟩ (.int .i64 p.st.q))
theorem cell_off {w : World} {g o k : Nat} {v : Value} (h : o ≠ k) : (w.setCell ⟨g, o, none⟩ v).cell? ⟨g, k, none⟩ = w.cell? ⟨g, k, none⟩ :=
  World.cell?_setCell_other _ _ _ _ fun e => h (by injection e)
theorem cell_blk {w : World} {g o b k : Nat} {v : Value} (h : g ≠ b) : (w.setCell ⟨g, o, none⟩ v).cell? ⟨b, k, none⟩ = w.cell? ⟨b, k, none⟩ :=
  World.cell?_setCell_other _ _ _ _ fun e => h (by injection e)
theorem setP_off {w : World} {g o k : Nat} {p : Pt} (h : k < o ∨ o + 6 ≤ k) : (setP w g o p).cell? ⟨g, k, none⟩ = w.cell? ⟨g, k, none⟩ := by
  unfold setP
  rw [cell_off (by omega), cell_off (by omega), cell_off (by omega), cell_off (by omega), cell_off (by omega), cell_off (by omega)]
theorem setP_blk {w : World} {g o b k : Nat} {p : Pt} (h : g ≠ b) : (setP w g o p).cell? ⟨b, k, none⟩ = w.cell? ⟨b, k, none⟩ := by
  unfold setP
  rw [cell_blk h, cell_blk h, cell_blk h, cell_blk h, cell_blk h, cell_blk h]
theorem setP_pt {w : World} {g o : Nat} {p q : Pt} (h : PtO w g o q) : PtO (setP w g o p) g o p := by
  obtain ⟨h0, h1, h2, h3, h4, h5⟩ := h
  unfold setP
  constructor
  · rw [cell_off (by omega), cell_off (by omega), cell_off (by omega), cell_off (by omega), cell_off (by omega)]; exact World.cell?_setCell_same _ _ _ h0
  · rw [cell_off (by omega), cell_off (by omega), cell_off (by omega), cell_off (by omega)]; exact World.cell?_setCell_same _ _ _ (by rw [cell_off (by omega)]; exact h1)
  · rw [cell_off (by omega), cell_off (by omega), cell_off (by omega)]; exact World.cell?_setCell_same _ _ _ (by rw [cell_off (by omega), cell_off (by omega)]; exact h2)
  · rw [cell_off (by omega), cell_off (by omega)]; exact World.cell?_setCell_same _ _ _ (by rw [cell_off (by omega), cell_off (by omega), cell_off (by omega)]; exact h3)
  · rw [cell_off (by omega)]; exact World.cell?_setCell_same _ _ _ (by rw [cell_off (by omega), cell_off (by omega), cell_off (by omega), cell_off (by omega)]; exact h4)
  · exact World.cell?_setCell_same _ _ _ (by rw [cell_off (by omega), cell_off (by omega), cell_off (by omega), cell_off (by omega), cell_off (by omega)]; exact h5)
theorem setP_far {w : World} {g o k : Nat} {p q : Pt} (h : PtO w g k q) (hk : k + 6 ≤ o ∨ o + 6 ≤ k) : PtO (setP w g o p) g k q :=
  ⟨by rw [setP_off (by omega)]; exact h.c0, by rw [setP_off (by omega)]; exact h.c1, by rw [setP_off (by omega)]; exact h.c2, by rw [setP_off (by omega)]; exact h.c3, by rw [setP_off (by omega)]; exact h.c4, by rw [setP_off (by omega)]; exact h.c5⟩
theorem setP_below {w : World} {B g o : Nat} {p : Pt} (h : B ≤ g) : Below B w (setP w g o p) := by
  unfold setP
  exact (((((((Below.refl B w).setCell (p := ⟨g, o, none⟩) h _).setCell (p := ⟨g, o + 1, none⟩) h _).setCell (p := ⟨g, o + 2, none⟩) h _).setCell (p := ⟨g, o + 3, none⟩) h _).setCell (p := ⟨g, o + 4, none⟩) h _).setCell (p := ⟨g, o + 5, none⟩) h _)
theorem setP_heap {w : World} {g o : Nat} {p : Pt} {cur : Array Value} {t : TypeId} (h : w.heap[g]? = some (.cells cur t (0, 0))) : ∃ cur' : Array Value, (setP w g o p).heap[g]? = some (.cells cur' t (0, 0)) ∧ cur'.size = cur.size := by
  unfold setP
  have a := Lib.heap_setCell_same (i := o + 5) (Lib.heap_setCell_same (i := o + 4) (Lib.heap_setCell_same (i := o + 3) (Lib.heap_setCell_same (i := o + 2) (Lib.heap_setCell_same (i := o + 1) (Lib.heap_setCell_same (i := o) h (.string p.s)) (.int .i64 p.t)) (.int .i64 p.v)) (.int .i64 p.st.c)) (.int .i64 p.st.s)) (.int .i64 p.st.q)
  exact ⟨_, a, by simp⟩
/-- How far DeleteFunc is: the row's head is what is kept of the first j, its tail stands. -/
structure DJ (B : Nat) (w wr : World) (g n : Nat) (l : List Pt) (tm : Int) (i j : Nat) : Prop where
  blk : ∃ cur : Array Value, wr.heap[g]? = some (.cells cur 32 (0, 0)) ∧ n * 6 ≤ cur.size
  len : (frmL (l.take j) tm).length = i
  some_ : ∀ q, q < n → ∃ x, PtO wr g (q * 6) x
  kept : ∀ q (h : q < (frmL (l.take j) tm).length), PtO wr g (q * 6) (frmL (l.take j) tm)[q]
  rest : ∀ q (h : q < l.length), j ≤ q → PtO wr g (q * 6) l[q]
  bel : Below B w wr
theorem frmL_take_le (l : List Pt) (tm : Int) (j : Nat) : (frmL (l.take j) tm).length ≤ j := by
  unfold frmL
  have h1 := List.length_filter_le (fun x : Pt => decide (tm ≤ x.t)) (l.take j)
  rw [List.length_take] at h1
  omega
theorem DJ.later {B : Nat} {w wr w2 : World} {g n : Nat} {l : List Pt} {tm : Int} {i j : Nat} (h : DJ B w wr g n l tm i j) (hg : g < wr.heap.size) (hB : B ≤ wr.heap.size) (k : Below wr.heap.size wr w2) : DJ B w w2 g n l tm i j := by
  obtain ⟨cur, h1, h2⟩ := h.blk
  exact ⟨⟨cur, (k.block g hg).trans h1, h2⟩, h.len, fun q hq => (h.some_ q hq).imp fun x hx => hx.below k hg, fun q hq => (h.kept q hq).below k hg, fun q hq hj => (h.rest q hq hj).below k hg, h.bel.trans (k.mono hB)⟩
theorem DJ.skip {B : Nat} {w wr : World} {g n : Nat} {l : List Pt} {tm : Int} {i j : Nat} (h : DJ B w wr g n l tm i j) (hj : j < l.length) (hd : (l[j]).t < tm) : DJ B w wr g n l tm i (j + 1) := by
  have e : frmL (l.take (j + 1)) tm = frmL (l.take j) tm := by rw [frmL_snoc l j hj, if_neg (by omega), List.append_nil]
  exact ⟨h.blk, by rw [e]; exact h.len, h.some_, fun q hq => by simp only [e] at hq ⊢; exact h.kept q hq, fun q hq hjq => h.rest q hq (by omega), h.bel⟩
theorem DJ.keep_ {B : Nat} {w wr : World} {g n : Nat} {l : List Pt} {tm : Int} {i j : Nat} (h : DJ B w wr g n l tm i j) (hg : B ≤ g) (hij : i < j) (hj : j < l.length) (hd : ¬ (l[j]).t < tm) (hn : l.length = n) : DJ B w (setP wr g (i * 6) l[j]) g n l tm (i + 1) (j + 1) := by
  have e : frmL (l.take (j + 1)) tm = frmL (l.take j) tm ++ [l[j]] := by rw [frmL_snoc l j hj, if_pos (by omega)]
  have hle := frmL_take_le l tm j
  have hlen := h.len
  refine ⟨?_, by rw [e, List.length_append, h.len]; rfl, fun q hq => ?_, fun q hq => ?_, fun q hq hjq => setP_far (h.rest q hq (by omega)) (Or.inr (by omega)), h.bel.trans (setP_below hg)⟩
  · obtain ⟨cur, h1, h2⟩ := h.blk
    obtain ⟨cur', h3, h4⟩ := setP_heap (o := i * 6) (p := l[j]) h1
    exact ⟨cur', h3, by omega⟩
  · obtain ⟨x, hx⟩ := h.some_ q hq
    by_cases hqi : q = i
    · subst hqi; exact ⟨_, setP_pt hx⟩
    · exact ⟨x, setP_far hx (by omega)⟩
  · simp only [e] at hq ⊢
    rw [List.length_append, List.length_singleton] at hq
    by_cases hqi : q < i
    · rw [List.getElem_append_left (by omega)]
      exact setP_far (h.kept q (by omega)) (Or.inl (by omega))
    · obtain rfl : q = i := by omega
      rw [List.getElem_append_right (by omega)]
      simp only [hlen, Nat.sub_self, List.getElem_cons_zero]
      -- what stands there is a point: of the head, or of the tail
      have hcell := h.some_ q (by omega)
      obtain ⟨x, hx⟩ := hcell
      exact setP_pt hx
theorem run_clear6 {P : Program} (w : World) (t e ty : TypeId) (z : Value) (ht : P.underlying t = some (.slice e)) (hv : ∀ w, (zeroValue e).run P w = .ok z w) (g o n c : Nat) (cur : Array Value) (T : TypeId)
    (hg : w.heap[g]? = some (.cells cur T (0, 0))) (hn : 0 < n) (hfit : o + n * z.cells.size ≤ cur.size) (h1 : ∀ v ∈ (Builtin.zeroCells z.cells n).toList, v.oneCell' = true) :
    (Builtin.clear_ #[t] ty #[.slice (some ⟨g, o, none⟩) n c]).run P w =
      .ok (.tuple #[]) (w.setRow g (cur.toList.take o ++ (Builtin.zeroCells z.cells n).toList ++ cur.toList.drop (o + (Builtin.zeroCells z.cells n).toList.length)).toArray) := by
  have hst := run_storeCells_at P g o T (Builtin.zeroCells z.cells n).toList 0 cur w hg (by simpa [Builtin.zeroCells] using hfit) h1
  simp only [Nat.add_zero] at hst
  obtain ⟨m, rfl⟩ : ∃ m, n = m + 1 := ⟨n - 1, by omega⟩
  simp [Builtin.clear_, run_underlying ht, hv, hst]
theorem zeroPt (w : World) : (zeroValue 32).run Tryd.prog w = .ok (.agg #[.string ⟨#[]⟩, .int .i64 0, .int .i64 0, .int .i64 0, .int .i64 0, .int .i64 0]) w := by kernel_rfl
/-- A tail of a row is cleared: what stands ahead of it stays. -/
theorem clear6 (w : World) (sp : Option Addr) (n c g off : Nat) (cur : Array Value) (t : TypeId) (hg : w.heap[g]? = some (.cells cur t (0, 0))) (hpos : 0 < n → sp = some ⟨g, off, none⟩) (hfit : off + n * 6 ≤ cur.size) :
    ∃ W, (∀ ty, (Builtin.clear_ #[PTT] ty #[.slice sp n c]).run Tryd.prog w = .ok (.tuple #[]) W) ∧ (∀ k, k < off → W.cell? ⟨g, k, none⟩ = w.cell? ⟨g, k, none⟩) ∧ ∀ B, B ≤ g → Below B w W := by
  by_cases h0 : n = 0
  · subst h0
    exact ⟨w, fun ty => by cases sp <;> simp [Builtin.clear_, run_underlying undPT], fun _ _ => rfl, fun _ _ => Below.refl _ _⟩
  · obtain rfl := hpos (by omega)
    have hrun := fun ty => run_clear6 (P := Tryd.prog) w PTT 32 ty (.agg #[.string ⟨#[]⟩, .int .i64 0, .int .i64 0, .int .i64 0, .int .i64 0, .int .i64 0]) undPT zeroPt g off n c cur t hg (by omega) (by simpa [Value.cells] using hfit) (by
      intro v hv
      simp only [Builtin.zeroCells, Array.toList_map, List.mem_map] at hv
      obtain ⟨i, _, rfl⟩ := hv
      have : ∀ r, r < 6 → (#[Value.string ⟨#[]⟩, Value.int .i64 0, Value.int .i64 0, Value.int .i64 0, Value.int .i64 0, Value.int .i64 0][r]!).oneCell' = true := by intro r hr; match r, hr with | 0, _ => rfl | 1, _ => rfl | 2, _ => rfl | 3, _ => rfl | 4, _ => rfl | 5, _ => rfl
      exact this _ (Nat.mod_lt _ (by decide)))
    generalize (Builtin.zeroCells (Value.agg #[.string ⟨#[]⟩, .int .i64 0, .int .i64 0, .int .i64 0, .int .i64 0, .int .i64 0]).cells n).toList = zs at hrun
    simp only [List.append_assoc] at hrun
    have hb := setRow_heap w g cur (cur.toList.take off ++ (zs ++ cur.toList.drop (off + zs.length))).toArray t (0, 0) hg
    refine ⟨w.setRow g (cur.toList.take off ++ (zs ++ cur.toList.drop (off + zs.length))).toArray, hrun, fun k hk => ?_, fun B hB => ⟨rfl, rfl, rfl, by simp [World.setRow], fun k hk => setRow_other w g k _ (by omega)⟩⟩
    unfold World.cell?
    dsimp only
    rw [hb, hg]
    simp only [Option.isSome_none, Bool.false_eq_true, if_false]
    rw [List.getElem?_toArray, List.getElem?_append_left (by simp; omega), List.getElem?_take, if_pos hk, Array.getElem?_toList]
def DelDone (B : Nat) (l : List Pt) (w : World) (e : Ending) (w' : World) : Prop := ∃ a c, e = .returned (.slice a l.length c) ∧ Lst w' w'.heap.size a c l ∧ Below B w w'
theorem frmL_all {l : List Pt} {tm : Int} (h : ∀ q (hq : q < l.length), tm ≤ (l[q]).t) : frmL l tm = l := by
  unfold frmL
  refine List.filter_eq_self.2 fun x hx => ?_
  obtain ⟨i, hi, rfl⟩ := List.getElem_of_mem hx
  simpa using h i hi
theorem lateN_lt {l : List Pt} {tm : Int} : ∀ q (hq : q < l.length), q < lateN l tm → tm ≤ (l[q]).t := by
  intro q hq hlt
  have hm : l[q] ∈ l.takeWhile fun x => decide (tm ≤ x.t) := by
    have hp := List.takeWhile_prefix (fun x : Pt => decide (tm ≤ x.t)) (l := l)
    have := hp.getElem hlt
    rw [← this]; exact List.getElem_mem hlt
  have := List.all_takeWhile (l := l) (p := fun x : Pt => decide (tm ≤ x.t))
  rw [List.all_eq_true] at this
  have := this _ hm
  simpa using this
set_option maxHeartbeats 16000000 in
theorem delete6_is (B : Nat) (a0 : Option Addr) (c0 n : Nat) (l : List Pt) (T : Nat) (tm : Int) (w : World) (hn : l.length = n) (hR : PRow w B (.slice a0 n c0) l) (hl : n ≤ 900000) (hT : w.cell? ⟨T, 0, none⟩ = some (.int .i64 tm)) (hTB : T < B) (hBw : B ≤ w.heap.size) :
    Calls Tryd.prog 42 #[.slice a0 n c0, DEL T] w (DelDone B (frmL l tm) w) := by
  have ki := fun w h ht => index6_is a0 c0 l T tm w h (by omega) ht
  rw [hn] at ki
  have HS0 := hR.lst
  have HS := Lib.hid HS0
  have HT := Lib.hid hT
  have hb : T < w.heap.size := World.block_lt_of_cell? w _ hT
  by_cases hlate : lateN l tm < l.length
  · have hI : idxI l tm = (lateN l tm : Int) := if_pos hlate
    obtain ⟨i0, hi0⟩ : ∃ i0, lateN l tm = i0 := ⟨_, rfl⟩
    have hlo := lateN_lt (l := l) (tm := tm)
    have hat : (l[i0]'(by omega)).t < tm := by
      have h1 := lateN_le l tm
      by_cases h : (l[i0]'(by omega)).t < tm
      · exact h
      · exfalso
        have := lateN_ge (l := l) (tm := tm) (k := i0 + 1) (by omega) fun q hq hqk => by
          by_cases e : q = i0
          · subst e; omega
          · exact hlo q hq (by omega)
        omega
    rw [hi0] at hI hlate
    rw [hI] at ki
    rcases hR.2 with ⟨e0, hz⟩ | ⟨g, cap, cur, e0, hBg, hblk, hcap, hmax, hsz, htk⟩
    · omega
    · injection e0 with e1 e2 e3
      subst e1 e3
      clear e2
      have hcells : ∀ q (h : q < l.length), PtO w g (q * 6) l[q] := fun q hq => by
        rcases HS0.pts.at_ with e | ⟨b, o, e, _, hc⟩
        · rw [e] at hq; simp at hq
        · injection e with e
          injection e with e1 e2
          subst e1 e2
          have := hc q hq
          rwa [Nat.zero_add] at this
      have hgw : g < w.heap.size := (Array.getElem?_eq_some_iff.1 hblk).1
      have hfrz : ∀ W : World, (∃ cur : Array Value, W.heap[g]? = some (.cells cur 32 (0, 0)) ∧ n * 6 ≤ cur.size) → ∀ k, W.frozen? ⟨g, k, none⟩ = false := fun W ⟨cur, h1, _⟩ k => by
        unfold World.frozen?; dsimp only; rw [h1]; simp
      have e0 : frmL (l.take i0) tm = l.take i0 := frmL_all fun q hq => by
        rw [List.getElem_take]
        rw [List.length_take] at hq
        exact hlo q (by omega) (by omega)
      have D0 : DJ B w w g n l tm i0 i0 := by
        refine ⟨⟨cur, hblk, by rw [hsz]; omega⟩, by rw [e0, List.length_take]; omega, fun q hq => ⟨_, hcells q (by omega)⟩, fun q hq => ?_, fun q hq _ => hcells q hq, Below.refl _ _⟩
        simp only [e0] at hq ⊢
        rw [List.getElem_take]
        exact hcells q (by rw [List.length_take] at hq; omega)
      have D1 := Lib.hid (D0.skip (by omega) hat)
      have HN := Lib.hid hn
      have hneg : ¬ ((i0 : Int) = -1) := by omega
      have hneg2 : ((i0 : Int) == -1) = false := by rw [beq_eq_false_iff_ne]; omega
      have hw1 : IntKind.i64.wrap ((i0 : Int) + 1) = (i0 : Int) + 1 := by rw [IntKind.wrap_i64]; omega
      rw [hn] at hlate
      clear HS0 hT hR D0 hcells e0 hblk hsz htk hI hi0 hlo hat hn
      go_enter Tryd.func42, Tryd.ntmps42
      go_wp2_with (go_at_call 70; (with_reducible refine (ki _ HS.out HT.out).mono ?_); rintro e w1 ⟨rfl, hb1⟩; (have D2 := Lib.hid (D1.out.later hgw hBw hb1)); (have HB1 := Lib.hid hb1); clear hb1)
      go_loopw [5, 6] (fun si sj wr => ∃ i j : Nat, i < j ∧ j ≤ n ∧ si = .int .i64 (i : Int) ∧ sj = .int .i64 (j : Int) ∧ Hid (DJ B w wr g n l tm i j) ∧ w.heap.size ≤ wr.heap.size) (fun _ sj _ => n - (intOf sj).toNat)
      case atStart => exact ⟨i0, i0 + 1, by omega, by omega, rfl, by go_num, D2, HB1.out.size⟩
      case round =>
        obtain ⟨i, j, hij, hjn, rfl, rfl, D, hsz3⟩ := hrel
        clear D1 D2 HB1
        obtain ⟨w3, hw3⟩ : ∃ x, x = wr := ⟨_, rfl⟩
        subst hw3
        have hw2 : IntKind.i64.wrap ((j : Int) + 1) = (j : Int) + 1 := by rw [IntKind.wrap_i64]; omega
        have hw4 : IntKind.i64.wrap ((i : Int) + 1) = (i : Int) + 1 := by rw [IntKind.wrap_i64]; omega
        have hin : i < n := by omega
        have hini : (i : Int) < (n : Int) := by omega
        by_cases hlt : j < n
        · have hlti : (j : Int) < (n : Int) := by omega
          have hjl : j < l.length := by rw [HN.out]; exact hlt
          have hA := D.out.rest j hjl (Nat.le_refl _)
          have HSK := Lib.hid (fun (h : (l[j]).t < tm) => D.out.skip hjl h)
          obtain ⟨x, hx⟩ : ∃ x, l[j] = x := ⟨_, rfl⟩
          have HX := Lib.hid hx
          rw [hx] at hA HSK
          have hT3 := (D.out.bel.cell (p := ⟨T, 0, none⟩) hTB).trans HT.out
          have hA4 := PtAt.new w3 x
          have hal := (Below.refl w3.heap.size w3).alloc (Nat.le_refl _) (.cells #[.string x.s, .int .i64 x.t, .int .i64 x.v, .int .i64 x.st.c, .int .i64 x.st.s, .int .i64 x.st.q] 32)
          have hT4 := (hal.cell (p := ⟨T, 0, none⟩) (show T < w3.heap.size by omega)).trans hT3
          have HP4 := Lib.hid hA4
          have HAL := Lib.hid hal
          obtain ⟨z, hz⟩ : ∃ z, decide (x.t < tm) = z := ⟨_, rfl⟩
          have kd := from1_is x T tm z _ hT4 (Lib.hid hz)
          obtain ⟨c0', c1, c2, c3, c4, c5⟩ := hA
          obtain ⟨jo, hjo⟩ : ∃ jo, j * 6 = jo := ⟨_, rfl⟩
          rw [hjo] at c0' c1 c2 c3 c4 c5
          unfold ptV at kd
          clear hx hT3 hA4 hal hT4
          cases z with
          | true =>
            have HH := Lib.hid (HSK.out (of_decide_eq_true hz))
            clear HSK hz
            go_wp2_with (go_at_call 43; (with_reducible refine kd.mono ?_); rintro e w4 ⟨rfl, hb4⟩)
            have hb5 := Below.trans HAL.out (hb4.mono (by simp))
            clear c0' c1 c2 c3 c4 c5 hb4
            go_roundw
            case rel => exact ⟨i, j + 1, by omega, by omega, rfl, by go_num, Lib.hid (HH.out.later (by omega) (by omega) hb5), Nat.le_trans hsz3 hb5.size⟩
            case measure => simp [intOf]; omega
          | false =>
            have hnd := of_decide_eq_false hz
            clear HSK hz
            obtain ⟨io, hio⟩ : ∃ io, i * 6 = io := ⟨_, rfl⟩
            go_wp2_with (go_at_call 43; (with_reducible refine kd.mono ?_); rintro e w4 ⟨rfl, hb4⟩; (have hb5 := Below.trans HAL.out (hb4.mono (by simp))); (have DD := Lib.hid (D.out.later (by omega) (by omega) hb5)); (have hs := hb5.size); (have HP5 := HP4.out.later hb4); (obtain ⟨y0, y1, y2, y3, y4, y5⟩ := HP5); (have hs5 := hb4.size); (obtain ⟨u, hu⟩ := DD.out.some_ i hin); (rw [hio] at hu); (obtain ⟨v0, v1, v2, v3, v4, v5⟩ := hu); (have f0 := hfrz w4 DD.out.blk io); (have f1 := hfrz w4 DD.out.blk (io + 1)); (have f2 := hfrz w4 DD.out.blk (io + 2)); (have f3 := hfrz w4 DD.out.blk (io + 3)); (have f4 := hfrz w4 DD.out.blk (io + 4)); (have f5 := hfrz w4 DD.out.blk (io + 5)); (have hne : ¬ g = w3.heap.size := by omega); (have hne2 : ¬ w3.heap.size = g := by omega); clear c0' c1 c2 c3 c4 c5 hb4)
            go_roundw
            case rel =>
              refine ⟨i + 1, j + 1, by omega, by omega, by go_num, by go_num, Lib.hid ?_, ?_⟩
              · have := DD.out.keep_ hBg hij hjl (by rw [HX.out]; omega) HN.out
                rw [HX.out, hio] at this
                exact this
              · exact Nat.le_trans hsz3 (Nat.le_trans hs (setP_below (p := x) (o := io) (Nat.zero_le g)).size)
            case measure => simp [intOf]; omega
        · have hlti : ¬ (j : Int) < (n : Int) := by omega
          obtain rfl : j = n := by omega
          have hcap2 : j ≤ c0 := by have := HN.out; omega
          have hfl := D.out.len
          have hft : l.take j = l := List.take_of_length_le (by rw [HN.out]; exact Nat.le_refl _)
          rw [hft] at hfl
          have kf := fun w => at_from (some ⟨g, 0, none⟩) j c0 i (i : Int) rfl (by omega) w
          have kf2 := fun w => cut_from (some ⟨g, 0, none⟩) j c0 i (i : Int) rfl (by omega) w
          have kt := fun w => at_to0 (some ⟨g, 0, none⟩) j c0 i (i : Int) rfl (by omega) w
          have kt2 := fun w => cut_to0 (some ⟨g, 0, none⟩) j c0 i (i : Int) rfl (by omega) w
          have hpx : cutP (some ⟨g, 0, none⟩) i c0 = some ⟨g, i * 6, none⟩ := by
            unfold cutP; rw [if_neg (by omega)]; simp [pt_add]
          rw [hpx] at kf kf2
          obtain ⟨m, hm⟩ : ∃ m, j - i = m := ⟨_, rfl⟩
          obtain ⟨c2, hc2⟩ : ∃ c2, c0 - i = c2 := ⟨_, rfl⟩
          obtain ⟨io, hio⟩ : ∃ io, i * 6 = io := ⟨_, rfl⟩
          rw [hm, hc2, hio] at kf kf2
          obtain ⟨cur3, hc3, hc4⟩ := D.out.blk
          have HFT := Lib.hid hft
          have HFL := Lib.hid hfl
          have HC3 := Lib.hid hc3
          clear hft hfl hpx hc2 hc3
          obtain ⟨w5, hclr, hcl5, hb5⟩ := clear6 w3 (some ⟨g, io, none⟩) m c2 g io cur3 _ HC3.out (fun _ => rfl) (by omega)
          have HCL := Lib.hid hcl5
          have HB5 := Lib.hid hb5
          clear hcl5 hb5
          go_wp2
          go_ret
          refine ⟨some ⟨g, 0, none⟩, c0, by rw [HFL.out]; rfl, ⟨⟨Or.inr ⟨g, 0, rfl, ?_, fun q hq => ?_⟩⟩, by rw [HFL.out]; omega, fun k => by cases k⟩, D.out.bel.trans (HB5.out B hBg)⟩
          · have := (HB5.out B hBg).size; omega
          · have hk := D.out.kept q (by rw [HFT.out]; exact hq)
            simp only [HFT.out] at hk
            have hq2 : q < i := by have := HFL.out; omega
            rw [Nat.zero_add]
            obtain ⟨k0, k1, k2, k3, k4, k5⟩ := hk
            exact ⟨(HCL.out _ (by omega)).trans k0, (HCL.out _ (by omega)).trans k1, (HCL.out _ (by omega)).trans k2, (HCL.out _ (by omega)).trans k3, (HCL.out _ (by omega)).trans k4, (HCL.out _ (by omega)).trans k5⟩
  · have hI : idxI l tm = -1 := if_neg hlate
    rw [hI] at ki
    have HE := Lib.hid (show frmL l tm = l from frmL_all fun q hq => lateN_lt q hq (by omega))
    have HN := Lib.hid hn
    clear HS0 hT hR hI hlate hn
    go_enter Tryd.func42, Tryd.ntmps42
    go_wp2_with (go_at_call 70; (with_reducible refine (ki _ HS.out HT.out).mono ?_); rintro e w1 ⟨rfl, hb1⟩)
    go_ret
    exact ⟨a0, c0, by rw [HE.out, HN.out]; rfl, by rw [HE.out]; exact HS.out.later hb1, hb1.mono hBw⟩
end Go.Proofs.YtkomfenjeoaelaaDoor
