/- The contracts of slices.IndexFunc and DeleteFunc at points, and of From. -/
import Derived.Test.YtcjcbbpolhpphaaBlockLooks
set_option maxRecDepth 20000
set_option linter.unusedSimpArgs false
namespace Go.Proofs.Ytcjcbbpolhpphaa
open Go.RowKit Go.Proofs.Ytcjcbbpolhpphaa.Vi Go.Proofs.Ytcjcbbpolhpphaa.Mk

/-- The first point below a time. -/
def lateN (l : List Pt) (tm : Int) : Nat := (l.takeWhile fun x => decide (tm ≤ x.t)).length
def idxI (l : List Pt) (tm : Int) : Int := if lateN l tm < l.length then (lateN l tm : Int) else -1
theorem lateN_le (l : List Pt) (tm : Int) : lateN l tm ≤ l.length := List.IsPrefix.length_le (List.takeWhile_prefix _)
theorem lateN_ge {l : List Pt} {tm : Int} {k : Nat} (hk : k ≤ l.length) (h : ∀ q (hq : q < l.length), q < k → tm ≤ (l[q]).t) : k ≤ lateN l tm := by
  unfold lateN
  induction l generalizing k with
  | nil => simpa using hk
  | cons a t ih =>
    cases k with
    | zero => omega
    | succ k =>
      have h0 := h 0 (by simp) (by omega)
      simp only [List.getElem_cons_zero] at h0
      rw [List.takeWhile_cons, if_pos (by simpa using h0), List.length_cons]
      have := ih (k := k) (by simpa using hk) fun q hq hqk => by have := h (q + 1) (by simpa using hq) (by omega); simpa using this
      omega
theorem lateN_at {l : List Pt} {tm : Int} {k : Nat} (hk : k < l.length) (h : ∀ q (hq : q < l.length), q < k → tm ≤ (l[q]).t) (h2 : (l[k]).t < tm) : lateN l tm = k := by
  have h1 := lateN_ge (by omega) h
  by_cases e : lateN l tm = k
  · exact e
  · exfalso
    have hm : l[k] ∈ l.takeWhile fun x => decide (tm ≤ x.t) := by
      have hp := List.takeWhile_prefix (fun x : Pt => decide (tm ≤ x.t)) (l := l)
      have hlt : k < (l.takeWhile fun x => decide (tm ≤ x.t)).length := by unfold lateN at h1 e; omega
      have := hp.getElem hlt
      rw [← this]; exact List.getElem_mem hlt
    have := List.all_takeWhile (l := l) (p := fun x : Pt => decide (tm ≤ x.t))
    rw [List.all_eq_true] at this
    have := this _ hm
    simp only [decide_eq_true_eq] at this
    omega
/-- A point written over another one. -/
def setP (w : World) (g o : Nat) (p : Pt) : World := ((((((w.setCell ⟨g, o, none⟩ (.string p.s)).setCell ⟨g, o + 1, none⟩ (.int .i64 p.t)).setCell ⟨g, o + 2, none⟩ (.int .i64 p.v)).setCell ⟨g, o + 3, none⟩ (.int .i64 p.st.c)).setCell ⟨g, o + 4, none⟩ (.int .i64 p.st.s)).setCell ⟨g, o + 5, none⟩ (.int .i64 p.st.q))
theorem cell_off {w : World} {g o k : Nat} {v : Value} (h : o ≠ k) : (w.setCell ⟨g, o, none⟩ v).cell? ⟨g, k, none⟩ = w.cell? ⟨g, k, none⟩ :=
  World.cell?_setCell_other _ _ _ _ fun e => h (by injection e)
theorem cell_blk {w : World} {g o b k : Nat} {v : Value} (h : g ≠ b) : (w.setCell ⟨g, o, none⟩ v).cell? ⟨b, k, none⟩ = w.cell? ⟨b, k, none⟩ :=
  World.cell?_setCell_other _ _ _ _ fun e => h (by injection e)
theorem setP_off {w : World} {g o k : Nat} {p : Pt} (h : k < o ∨ o + 6 ≤ k) : (setP w g o p).cell? ⟨g, k, none⟩ = w.cell? ⟨g, k, none⟩ := by
  unfold setP
  rw [cell_off (by omega), cell_off (by omega), cell_off (by omega), cell_off (by omega), cell_off (by omega), cell_off (by omega)]
theorem setP_blk {w : World} {g o b k : Nat} {p : Pt} (h : g ≠ b) : (setP w g o p).cell? ⟨b, k, none⟩ = w.cell? ⟨b, k, none⟩ := by
  unfold setP
  rw [cell_blk h, cell_blk h, cell_blk h, cell_blk h, cell_blk h, cell_blk h]
theorem setP_pt {w : World} {g o : Nat} {p q : Pt} (h : PtO w g o q) : PtO (setP w g o p) g o p := by
  obtain ⟨h0, h1, h2, h3, h4, h5⟩ := h
  unfold setP
  constructor
  · rw [cell_off (by omega), cell_off (by omega), cell_off (by omega), cell_off (by omega), cell_off (by omega)]; exact World.cell?_setCell_same _ _ _ h0
  · rw [cell_off (by omega), cell_off (by omega), cell_off (by omega), cell_off (by omega)]; exact World.cell?_setCell_same _ _ _ (by rw [cell_off (by omega)]; exact h1)
  · rw [cell_off (by omega), cell_off (by omega), cell_off (by omega)]; exact World.cell?_setCell_same _ _ _ (by rw [cell_off (by omega), cell_off (by omega)]; exact h2)
  · rw [cell_off (by omega), cell_off (by omega)]; exact World.cell?_setCell_same _ _ _ (by rw [cell_off (by omega), cell_off (by omega), cell_off (by omega)]; exact h3)
  · rw [cell_off (by omega)]; exact World.cell?_setCell_same _ _ _ (by rw [cell_off (by omega), cell_off (by omega), cell_off (by omega), cell_off (by omega)]; exact h4)
  · exact World.cell?_setCell_same _ _ _ (by rw [cell_off (by omega), cell_off (by omega), cell_off (by omega), cell_off (by omega), cell_off (by omega)]; exact h5)
theorem setP_far {w : World} {g o k : Nat} {p q : Pt} (h : PtO w g k q) (hk : k + 6 ≤ o ∨ o + 6 ≤ k) : PtO (setP w g o p) g k q :=
  ⟨by rw [setP_off (by omega)]; exact h.c0, by rw [setP_off (by omega)]; exact h.c1, by rw [setP_off (by omega)]; exact h.c2, by rw [setP_off (by omega)]; exact h.c3, by rw [setP_off (by omega)]; exact h.c4, by rw [setP_off (by omega)]; exact h.c5⟩
theorem setP_below {w : World} {B g o : Nat} {p : Pt} (h : B ≤ g) : Below B w (setP w g o p) := by
  unfold setP
  exact (((((((Below.refl B w).setCell (p := ⟨g, o, none⟩) h _).setCell (p := ⟨g, o + 1, none⟩) h _).setCell (p := ⟨g, o + 2, none⟩) h _).setCell (p := ⟨g, o + 3, none⟩) h _).setCell (p := ⟨g, o + 4, none⟩) h _).setCell (p := ⟨g, o + 5, none⟩) h _)
theorem setP_heap {w : World} {g o : Nat} {p : Pt} {cur : Array Value} {t : TypeId} (h : w.heap[g]? = some (.cells cur t (0, 0))) : ∃ cur' : Array Value, (setP w g o p).heap[g]? = some (.cells cur' t (0, 0)) ∧ cur'.size = cur.size := by
  unfold setP
  have a := Lib.heap_setCell_same (i := o + 5) (Lib.heap_setCell_same (i := o + 4) (Lib.heap_setCell_same (i := o + 3) (Lib.heap_setCell_same (i := o + 2) (Lib.heap_setCell_same (i := o + 1) (Lib.heap_setCell_same (i := o) h (.string p.s)) (.int .i64 p.t)) (.int .i64 p.v)) (.int .i64 p.st.c)) (.int .i64 p.st.s)) (.int .i64 p.st.q)
  exact ⟨_, a, by simp⟩
/-- How far DeleteFunc is: the row's head is what is kept of the first j, its tail stands. -/
structure DJ (B : Nat) (w wr : World) (g n : Nat) (l : List Pt) (tm : Int) (i j : Nat) : Prop where
  blk : ∃ cur : Array Value, wr.heap[g]? = some (.cells cur 55 (0, 0)) ∧ n * 6 ≤ cur.size
  len : (frmL (l.take j) tm).length = i
  some_ : ∀ q, q < n → ∃ x, PtO wr g (q * 6) x
  kept : ∀ q (h : q < (frmL (l.take j) tm).length), PtO wr g (q * 6) (frmL (l.take j) tm)[q]
  rest : ∀ q (h : q < l.length), j ≤ q → PtO wr g (q * 6) l[q]
  bel : Below B w wr
theorem frmL_take_le (l : List Pt) (tm : Int) (j : Nat) : (frmL (l.take j) tm).length ≤ j := by
  unfold frmL
  have h1 := List.length_filter_le (fun x : Pt => decide (tm ≤ x.t)) (l.take j)
  rw [List.length_take] at h1
  omega
theorem DJ.later {B : Nat} {w wr w2 : World} {g n : Nat} {l : List Pt} {tm : Int} {i j : Nat} (h : DJ B w wr g n l tm i j) (hg : g < wr.heap.size) (hB : B ≤ wr.heap.size) (k : Below wr.heap.size wr w2) : DJ B w w2 g n l tm i j := by
  obtain ⟨cur, h1, h2⟩ := h.blk
  exact ⟨⟨cur, (k.block g hg).trans h1, h2⟩, h.len, fun q hq => (h.some_ q hq).imp fun x hx => hx.below k hg, fun q hq => (h.kept q hq).below k hg, fun q hq hj => (h.rest q hq hj).below k hg, h.bel.trans (k.mono hB)⟩
theorem DJ.skip {B : Nat} {w wr : World} {g n : Nat} {l : List Pt} {tm : Int} {i j : Nat} (h : DJ B w wr g n l tm i j) (hj : j < l.length) (hd : (l[j]).t < tm) : DJ B w wr g n l tm i (j + 1) := by
  have e : frmL (l.take (j + 1)) tm = frmL (l.take j) tm := by rw [frmL_snoc l j hj, if_neg (by omega), List.append_nil]
  exact ⟨h.blk, by rw [e]; exact h.len, h.some_, fun q hq => by simp only [e] at hq ⊢; exact h.kept q hq, fun q hq hjq => h.rest q hq (by omega), h.bel⟩
theorem DJ.keep_ {B : Nat} {w wr : World} {g n : Nat} {l : List Pt} {tm : Int} {i j : Nat} (h : DJ B w wr g n l tm i j) (hg : B ≤ g) (hij : i < j) (hj : j < l.length) (hd : ¬ (l[j]).t < tm) (hn : l.length = n) : DJ B w (setP wr g (i * 6) l[j]) g n l tm (i + 1) (j + 1) := by
  have e : frmL (l.take (j + 1)) tm = frmL (l.take j) tm ++ [l[j]] := by rw [frmL_snoc l j hj, if_pos (by omega)]
  have hle := frmL_take_le l tm j
  have hlen := h.len
  refine ⟨?_, by rw [e, List.length_append, h.len]; rfl, fun q hq => ?_, fun q hq => ?_, fun q hq hjq => setP_far (h.rest q hq (by omega)) (Or.inr (by omega)), h.bel.trans (setP_below hg)⟩
  · obtain ⟨cur, h1, h2⟩ := h.blk
    obtain ⟨cur', h3, h4⟩ := setP_heap (o := i * 6) (p := l[j]) h1
    exact ⟨cur', h3, by omega⟩
  · obtain ⟨x, hx⟩ := h.some_ q hq
    by_cases hqi : q = i
    · subst hqi; exact ⟨_, setP_pt hx⟩
    · exact ⟨x, setP_far hx (by omega)⟩
  · simp only [e] at hq ⊢
    rw [List.length_append, List.length_singleton] at hq
    by_cases hqi : q < i
    · rw [List.getElem_append_left (by omega)]
      exact setP_far (h.kept q (by omega)) (Or.inl (by omega))
    · obtain rfl : q = i := by omega
      rw [List.getElem_append_right (by omega)]
      simp only [hlen, Nat.sub_self, List.getElem_cons_zero]
      -- what stands there is a point: of the head, or of the tail
      have hcell := h.some_ q (by omega)
      obtain ⟨x, hx⟩ := hcell
      exact setP_pt hx
theorem run_clear6 {P : Program} (w : World) (t e ty : TypeId) (z : Value) (ht : P.underlying t = some (.slice e)) (hv : ∀ w, (zeroValue e).run P w = .ok z w) (g o n c : Nat) (cur : Array Value) (T : TypeId)
    (hg : w.heap[g]? = some (.cells cur T (0, 0))) (hn : 0 < n) (hfit : o + n * z.cells.size ≤ cur.size) (h1 : ∀ v ∈ (Builtin.zeroCells z.cells n).toList, v.oneCell' = true) :
    (Builtin.clear_ #[t] ty #[.slice (some ⟨g, o, none⟩) n c]).run P w =
      .ok (.tuple #[]) (w.setRow g (cur.toList.take o ++ (Builtin.zeroCells z.cells n).toList ++ cur.toList.drop (o + (Builtin.zeroCells z.cells n).toList.length)).toArray) := by
  have hst := run_storeCells_at P g o T (Builtin.zeroCells z.cells n).toList 0 cur w hg (by simpa [Builtin.zeroCells] using hfit) h1
  simp only [Nat.add_zero] at hst
  obtain ⟨m, rfl⟩ : ∃ m, n = m + 1 := ⟨n - 1, by omega⟩
  simp [Builtin.clear_, run_underlying ht, hv, hst]
theorem zeroPt (w : World) : (zeroValue 55).run Try.prog w = .ok (.agg #[.string ⟨#[]⟩, .int .i64 0, .int .i64 0, .int .i64 0, .int .i64 0, .int .i64 0]) w := by kernel_rfl
/-- A tail of a row is cleared: what stands ahead of it stays. -/
theorem clear6 (w : World) (sp : Option Addr) (n c g off : Nat) (cur : Array Value) (t : TypeId) (hg : w.heap[g]? = some (.cells cur t (0, 0))) (hpos : 0 < n → sp = some ⟨g, off, none⟩) (hfit : off + n * 6 ≤ cur.size) :
    ∃ W, (∀ ty, (Builtin.clear_ #[PTT] ty #[.slice sp n c]).run Try.prog w = .ok (.tuple #[]) W) ∧ (∀ k, k < off → W.cell? ⟨g, k, none⟩ = w.cell? ⟨g, k, none⟩) ∧ ∀ B, B ≤ g → Below B w W := by
  by_cases h0 : n = 0
  · subst h0
    exact ⟨w, fun ty => by cases sp <;> simp [Builtin.clear_, run_underlying undPT], fun _ _ => rfl, fun _ _ => Below.refl _ _⟩
  · obtain rfl := hpos (by omega)
    have hrun := fun ty => run_clear6 (P := Try.prog) w PTT 55 ty (.agg #[.string ⟨#[]⟩, .int .i64 0, .int .i64 0, .int .i64 0, .int .i64 0, .int .i64 0]) undPT zeroPt g off n c cur t hg (by omega) (by simpa [Value.cells] using hfit) (by
      intro v hv
      simp only [Builtin.zeroCells, Array.toList_map, List.mem_map] at hv
      obtain ⟨i, _, rfl⟩ := hv
      have : ∀ r, r < 6 → (#[Value.string ⟨#[]⟩, Value.int .i64 0, Value.int .i64 0, Value.int .i64 0, Value.int .i64 0, Value.int .i64 0][r]!).oneCell' = true := by intro r hr; match r, hr with | 0, _ => rfl | 1, _ => rfl | 2, _ => rfl | 3, _ => rfl | 4, _ => rfl | 5, _ => rfl
      exact this _ (Nat.mod_lt _ (by decide)))
    generalize (Builtin.zeroCells (Value.agg #[.string ⟨#[]⟩, .int .i64 0, .int .i64 0, .int .i64 0, .int .i64 0, .int .i64 0]).cells n).toList = zs at hrun
    simp only [List.append_assoc] at hrun
    have hb := setRow_heap w g cur (cur.toList.take off ++ (zs ++ cur.toList.drop (off + zs.length))).toArray t (0, 0) hg
    refine ⟨w.setRow g (cur.toList.take off ++ (zs ++ cur.toList.drop (off + zs.length))).toArray, hrun, fun k hk => ?_, fun B hB => ⟨rfl, rfl, rfl, by simp [World.setRow], fun k hk => setRow_other w g k _ (by omega)⟩⟩
    unfold World.cell?
    dsimp only
    rw [hb, hg]
    simp only [Option.isSome_none, Bool.false_eq_true, if_false]
    rw [List.getElem?_toArray, List.getElem?_append_left (by simp; omega), List.getElem?_take, if_pos hk, Array.getElem?_toList]
def DelDone (B : Nat) (l : List Pt) (w : World) (e : Ending) (w' : World) : Prop := ∃ a c, e = .returned (.slice a l.length c) ∧ Lst w' w'.heap.size a c l ∧ Below B w w'
theorem frmL_all {l : List Pt} {tm : Int} (h : ∀ q (hq : q < l.length), tm ≤ (l[q]).t) : frmL l tm = l := by
  unfold frmL
  refine List.filter_eq_self.2 fun x hx => ?_
  obtain ⟨i, hi, rfl⟩ := List.getElem_of_mem hx
  simpa using h i hi
theorem lateN_lt {l : List Pt} {tm : Int} : ∀ q (hq : q < l.length), q < lateN l tm → tm ≤ (l[q]).t := by
  intro q hq hlt
  have hm : l[q] ∈ l.takeWhile fun x => decide (tm ≤ x.t) := by
    have hp := List.takeWhile_prefix (fun x : Pt => decide (tm ≤ x.t)) (l := l)
    have := hp.getElem hlt
    rw [← this]; exact List.getElem_mem hlt
  have := List.all_takeWhile (l := l) (p := fun x : Pt => decide (tm ≤ x.t))
  rw [List.all_eq_true] at this
  have := this _ hm
  simpa using this
end Go.Proofs.Ytcjcbbpolhpphaa
