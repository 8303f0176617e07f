/- Spans, calls, slices of calls and arrays of two numbers that came in. -/
import Derived.Test.YtdkenokjdiamhaaDoorWindowRef3
import Derived.Deep.Slices
import Derived.Deep.Strs
import Derived.ChangeSame
import Derived.WideShapes
import Derived.Lib.SmallJoins
import Derived.OpenShut
set_option maxRecDepth 20000
namespace Go.Proofs.YtdkenokjdiamhaaDoor
open Go.ChangeShapes Go.WideShapes Go.ChangeAt Go.RowKit Go.Joins

/-- A call of the script: its kind, where its span begins, how long it is. -/
structure OpI where
  k : Int
  f : Int
  n : Int
def OpI.v (o : OpI) : Value := .agg #[.int .i64 o.k, .int .i64 o.f, .int .i64 o.n]
def OpI.sp (o : OpI) : Sp := opSp o.f o.n
structure OpI.fits (o : OpI) : Prop where
  k : -9223372036854775808 ≤ o.k ∧ o.k ≤ 9223372036854775807
  f : -9223372036854775808 ≤ o.f ∧ o.f ≤ 9223372036854775807
  n : -9223372036854775808 ≤ o.n ∧ o.n ≤ 9223372036854775807
theorem cellsSp : Tryd.prog.cellsOf 26 = 2 := by kernel_rfl
theorem cellsOp : Tryd.prog.cellsOf 51 = 3 := by kernel_rfl
theorem cellsInt : Tryd.prog.cellsOf 3 = 1 := by kernel_rfl
theorem span_of_cells {H : Type} {enc : TypeId × Value → H} {w : World} {base : Nat} {sp : Nat → Bool} {hd : Bool} {n : Nat} {cs : List Value} {x : DataW H × List MemPlace} (hcs : cs.length = 2)
    (h : DataW.trod enc Tryd.prog w base sp hd n 26 cs = some x) : ∃ s : Sp, cs = [.int .i64 s.f, .int .i64 s.t] ∧ s.fits := by
  match cs, hcs with
  | [c0, c1], _ =>
    obtain ⟨y0, y1, m, _, _, h0, h1⟩ := trod_struct2 Tryd.underlying26 h
    simp only [cellsInt, List.drop_zero, List.take_succ_cons, List.take_zero, List.drop_succ_cons] at h0 h1
    obtain ⟨n0, e0, _, w0⟩ := DataW.trod_int Tryd.underlying3 h0
    obtain ⟨n1, e1, _, w1⟩ := DataW.trod_int Tryd.underlying3 h1
    simp at e0 e1
    have b0 := bounds_i64 w0
    have b1 := bounds_i64 w1
    exact ⟨⟨n0, n1⟩, by rw [e0, e1], ⟨by dsimp only; omega, by dsimp only; omega⟩⟩
theorem open_span {H : Type} {enc : TypeId × Value → H} {w : World} {base b0 : Nat} {sp : Nat → Bool} {held : Bool} {v : Value} {d : DataW H} {p : List MemPlace}
    (hv : Value.okWide Tryd.prog w .any b0 26 v) (h : DataW.Trod enc Tryd.prog w base sp held 26 v d p) : ∃ s : Sp, v = s.v ∧ s.fits := by
  obtain ⟨cs, rfl, hsz⟩ := okWide_struct Tryd.underlying26 hv
  rw [cellsSp] at hsz
  obtain ⟨fuel, hf⟩ := h
  obtain ⟨s, hs, hfit⟩ := span_of_cells (by simpa [Value.cells] using hsz) hf
  refine ⟨s, ?_, hfit⟩
  obtain ⟨l⟩ := cs
  have : l = [.int .i64 s.f, .int .i64 s.t] := hs
  rw [this]; rfl
theorem op_of_cells {H : Type} {enc : TypeId × Value → H} {w : World} {base : Nat} {sp : Nat → Bool} {hd : Bool} {n : Nat} {cs : List Value} {x : DataW H × List MemPlace} (hcs : cs.length = 3)
    (h : DataW.trod enc Tryd.prog w base sp hd n 51 cs = some x) : ∃ o : OpI, cs = [.int .i64 o.k, .int .i64 o.f, .int .i64 o.n] ∧ o.fits := by
  match cs, hcs with
  | [c0, c1, c2], _ =>
    obtain ⟨y0, y1, y2, m, _, _, h0, h1, h2⟩ := Go.Deep.trod_struct3 Tryd.underlying51 h
    simp only [cellsInt, List.drop_zero, List.take_succ_cons, List.take_zero, List.drop_succ_cons] at h0 h1 h2
    obtain ⟨n0, e0, _, w0⟩ := DataW.trod_int Tryd.underlying3 h0
    obtain ⟨n1, e1, _, w1⟩ := DataW.trod_int Tryd.underlying3 h1
    obtain ⟨n2, e2, _, w2⟩ := DataW.trod_int Tryd.underlying3 h2
    simp at e0 e1 e2
    have b0 := bounds_i64 w0
    have b1 := bounds_i64 w1
    have b2 := bounds_i64 w2
    exact ⟨⟨n0, n1, n2⟩, by rw [e0, e1, e2], ⟨by dsimp only; omega, by dsimp only; omega, by dsimp only; omega⟩⟩
theorem open_op {H : Type} {enc : TypeId × Value → H} {w : World} {base b0 : Nat} {sp : Nat → Bool} {held : Bool} {v : Value} {d : DataW H} {p : List MemPlace}
    (hv : Value.okWide Tryd.prog w .any b0 51 v) (h : DataW.Trod enc Tryd.prog w base sp held 51 v d p) : ∃ o : OpI, v = o.v ∧ o.fits := by
  obtain ⟨cs, rfl, hsz⟩ := okWide_struct Tryd.underlying51 hv
  rw [cellsOp] at hsz
  obtain ⟨fuel, hf⟩ := h
  obtain ⟨o, ho, hfit⟩ := op_of_cells (by simpa [Value.cells] using hsz) hf
  refine ⟨o, ?_, hfit⟩
  obtain ⟨l⟩ := cs
  have : l = [.int .i64 o.k, .int .i64 o.f, .int .i64 o.n] := ho
  rw [this]; rfl
/-- A call's three cells in block b from o on. -/
structure OpO (w : World) (b o : Nat) (a : OpI) : Prop where
  c0 : w.cell? ⟨b, o, none⟩ = some (.int .i64 a.k)
  c1 : w.cell? ⟨b, o + 1, none⟩ = some (.int .i64 a.f)
  c2 : w.cell? ⟨b, o + 2, none⟩ = some (.int .i64 a.n)
theorem OpO.room {w : World} {b o : Nat} {a : OpI} (h : OpO w b o a) : b < w.heap.size := World.block_lt_of_cell? w _ h.c0
theorem OpO.below {w w' : World} {b o B : Nat} {a : OpI} (h : OpO w b o a) (k : Below B w w') (hb : b < B) : OpO w' b o a :=
  ⟨(k.cell (p := ⟨b, o, none⟩) hb).trans h.c0, (k.cell (p := ⟨b, o + 1, none⟩) hb).trans h.c1, (k.cell (p := ⟨b, o + 2, none⟩) hb).trans h.c2⟩
/-- A slice of the calls l, in a block below B. -/
structure Ops (w : World) (B : Nat) (a : Option Addr) (l : List OpI) : Prop where
  at_ : l = [] ∨ ∃ b off, a = some ⟨b, off, none⟩ ∧ b < B ∧ ∀ j (h : j < l.length), OpO w b (off + j * 3) l[j]
theorem Ops.below {w w' : World} {B : Nat} {a : Option Addr} {l : List OpI} (h : Ops w B a l) (k : Below B w w') : Ops w' B a l := by
  rcases h.at_ with h | ⟨b, off, e, hb, hc⟩
  · exact ⟨Or.inl h⟩
  · exact ⟨Or.inr ⟨b, off, e, hb, fun j hj => (hc j hj).below k hb⟩⟩
/-- A slice of calls that came in. -/
structure ArgOps (w : World) (a : Option Addr) (len cap : Nat) : Prop where
  has : ∃ l : List OpI, l.length = len ∧ Ops w w.heap.size a l ∧ len ≤ 9223372036854775807 ∧ ∀ o ∈ l, o.fits
theorem argOps_of {H : Type} {enc : TypeId × Value → H} {w : World} {base fuel : Nat} {sp : Nat → Bool} {hd : Bool} {a : Option Addr} {len cap : Nat} {x : DataW H × List MemPlace}
    (h : DataW.trod enc Tryd.prog w base sp hd fuel 43 [.slice a len cap] = some x) : ArgOps w a len cap := by
  rcases Go.Deep.open_slice Tryd.underlying43 h with ⟨hcs, _⟩ | ⟨y, l, c, m, n, D, Pl, hcs, _, hl, hm, hmm, _, hel⟩
  · simp at hcs
    obtain ⟨rfl, rfl, rfl⟩ := hcs
    exact ⟨[], rfl, ⟨Or.inl rfl⟩, by omega, by simp⟩
  · simp at hcs
    obtain ⟨rfl, rfl, rfl⟩ := hcs
    by_cases h0 : len = 0
    · subst h0
      exact ⟨[], rfl, ⟨Or.inl rfl⟩, by omega, by simp⟩
    · have hlm : len ≤ m := by rw [hmm]; split <;> omega
      rw [cellsOp] at hel
      have each : ∀ i, i < len → ∃ o : OpI, o.fits ∧ w.cell? (y.add (i * 3)) = some (.int .i64 o.k) ∧ w.cell? ((y.add (i * 3)).add 1) = some (.int .i64 o.f) ∧ w.cell? ((y.add (i * 3)).add 2) = some (.int .i64 o.n) := fun i hi => by
        obtain ⟨cs', h1, h2⟩ := hel i (by omega)
        obtain ⟨_, hlen, hget⟩ := World.cells?_some h1
        obtain ⟨st, rfl, hfit⟩ := op_of_cells hlen h2
        have g0 := hget 0 (by omega)
        have g1 := hget 1 (by omega)
        have g2 := hget 2 (by omega)
        simp at g0 g1 g2
        have z : ∀ q : Addr, q.add 0 = q := fun q => by unfold Addr.add; split <;> simp_all
        rw [z] at g0
        exact ⟨st, hfit, g0, g1, g2⟩
      obtain ⟨b, off, spot⟩ := y
      have hspot : spot = none := by
        obtain ⟨st, _, c0, _⟩ := each 0 (by omega)
        simpa [Addr.add] using World.cell?_spot c0
      subst hspot
      have hp : ∀ o j, (⟨b, o, none⟩ : Addr).add j = ⟨b, o + j, none⟩ := fun o j => by unfold Addr.add; split <;> simp_all
      have each2 : ∀ i, i < len → ∃ st : OpI, st.fits ∧ OpO w b (off + i * 3) st := fun i hi => by
        obtain ⟨st, hfit, g0, g1, g2⟩ := each i hi
        rw [hp] at g0 g1 g2
        rw [hp] at g1 g2
        exact ⟨st, hfit, g0, g1, g2⟩
      have hroom : b < w.heap.size := by
        obtain ⟨st, _, c0⟩ := each2 0 (by omega)
        exact c0.room
      refine ⟨(List.range len).map fun i => if hi : i < len then (each2 i hi).choose else ⟨0, 0, 0⟩, by simp, ⟨Or.inr ⟨b, off, rfl, hroom, fun j hj => ?_⟩⟩, by unfold maxLen at hm; omega, fun o ho => ?_⟩
      · simp at hj
        have e := (each2 j hj).choose_spec.2
        simp only [List.getElem_map, List.getElem_range, hj, dif_pos]
        exact e
      · rw [List.mem_map] at ho
        obtain ⟨i, hi, rfl⟩ := ho
        have hi2 : i < len := List.mem_range.1 hi
        rw [dif_pos hi2]
        exact (each2 i hi2).choose_spec.1
theorem open_two {H : Type} {enc : TypeId × Value → H} {w : World} {base b0 : Nat} {sp : Nat → Bool} {held : Bool} {v : Value} {d : DataW H} {p : List MemPlace}
    (hv : Value.okWide Tryd.prog w .any b0 58 v) (h : DataW.Trod enc Tryd.prog w base sp held 58 v d p) :
    ∃ n0 n1 : Int, v = .agg #[.int .i64 n0, .int .i64 n1] ∧ d = .agg [.lit (.int .i64 n0), .lit (.int .i64 n1)] ∧ p = [] ∧ (Lit.int .i64 n0).wf = true ∧ (Lit.int .i64 n1).wf = true := by
  have ht : Tryd.prog.underlying 58 = some (.array 2 3) := Tryd.underlying58
  have hC : Tryd.prog.cellsOf 58 = 2 := by kernel_rfl
  simp only [Value.okWide, ht] at hv
  obtain ⟨cs, rfl, hsz, _⟩ := hv
  obtain ⟨c0, c1, rfl⟩ := array2 (hsz.trans hC)
  obtain ⟨fuel, hf⟩ := h
  obtain ⟨xs, m, _, hx, _, hl, hel⟩ := DataW.trod_array ht hf
  rw [cellsInt] at hel
  match xs, hl with
  | [x0, x1], _ =>
    have e0 := hel 0 (by omega)
    have e1 := hel 1 (by omega)
    simp [Value.cells] at e0 e1
    obtain ⟨n0, h0, rfl, w0⟩ := DataW.trod_int Tryd.underlying3 e0
    obtain ⟨n1, h1, rfl, w1⟩ := DataW.trod_int Tryd.underlying3 e1
    simp at h0 h1
    subst h0 h1
    simp at hx
    obtain ⟨rfl, rfl⟩ := hx
    exact ⟨n0, n1, rfl, rfl, rfl, w0, w1⟩
theorem two_reads {H : Type} {enc : TypeId × Value → H} (W : World) {base : Nat} {sp : Nat → Bool} {held : Bool} {n0 n1 : Int} (w0 : (Lit.int .i64 n0).wf = true) (w1 : (Lit.int .i64 n1).wf = true) :
    DataW.Trod enc Tryd.prog W base sp held 58 (.agg #[.int .i64 n0, .int .i64 n1]) (.agg [.lit (.int .i64 n0), .lit (.int .i64 n1)]) [] := by
  have ht : Tryd.prog.underlying 58 = some (.array 2 3) := Tryd.underlying58
  have hC : Tryd.prog.cellsOf 58 = 2 := by kernel_rfl
  have r2 : List.range 2 = [0, 1] := rfl
  exact ⟨2, by simp [DataW.trod, ht, hC, cellsInt, r2, Value.cells, Tryd.underlying3, w0, w1]⟩
end Go.Proofs.YtdkenokjdiamhaaDoor
