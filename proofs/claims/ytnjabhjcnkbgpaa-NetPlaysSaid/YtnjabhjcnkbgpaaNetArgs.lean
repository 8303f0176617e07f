/- What comes in: slices of numbers and of calls, two numbers; texts cut short. -/
import Derived.Test.YtnjabhjcnkbgpaaNetOne
import Derived.Deep.Slices
import Derived.Deep.Strs
import Derived.ChangeSame
import Derived.ChangeArms
import Derived.WideShapes
import Derived.Lib.SmallJoins
import Derived.OpenShut
import Derived.SliceStrings
import Derived.ChangeSlices
import Derived.Deep.DeepHandedRow
set_option maxRecDepth 20000
set_option linter.unusedSimpArgs false
set_option linter.unusedVariables false
namespace Go.Proofs.Ytnjabhjcnkbgpaa
open Go.ChangeShapes Go.WideShapes Go.ChangeAt Go.RowKit Go.Joins

/-- A slice of numbers that came in: empty, or each of its cells holds a number. -/
def ArgInts (w : World) (a : Option Addr) (len cap : Nat) : Prop :=
  len = 0 ∨ ∃ (b off : Nat) (l : List Int), a = some ⟨b, off, none⟩ ∧ l.length = len ∧ len ≤ cap ∧ cap ≤ maxLen ∧ (∀ j (h : j < l.length), w.cell? ⟨b, off + j, none⟩ = some (.int .i64 l[j])) ∧ ∀ n ∈ l, -9223372036854775808 ≤ n ∧ n ≤ 9223372036854775807
theorem argInts_of {H : Type} {enc : TypeId × Value → H} {w : World} {base fuel : Nat} {sp : Nat → Bool} {hd : Bool} {a : Option Addr} {len cap : Nat} {t e : TypeId} {x : DataW H × List MemPlace}
    (ht : Try.prog.underlying t = some (.slice e)) (he : Try.prog.underlying e = some (.int .i64)) (hc : Try.prog.cellsOf e = 1)
    (h : DataW.trod enc Try.prog w base sp hd fuel t [.slice a len cap] = some x) : ArgInts w a len cap := by
  rcases Go.ChangeShapes.open_ints ht he hc h with ⟨hcs, _⟩ | ⟨y, l, c, zs, hcs, _, hl, hm, hz, _, hcell, hwf⟩
  · simp at hcs
    exact Or.inl hcs.2.1
  · simp at hcs
    obtain ⟨rfl, rfl, rfl⟩ := hcs
    by_cases h0 : len = 0
    · exact Or.inl h0
    · have hlen : len ≤ zs.length := by rw [hz]; split <;> omega
      obtain ⟨b, off, spot⟩ := y
      have hc := hcell 0 (by omega)
      have hspot : spot = none := by simpa [Addr.add] using World.cell?_spot hc
      subst hspot
      have hp : ∀ j, (⟨b, off, none⟩ : Addr).add j = ⟨b, off + j, none⟩ := fun j => by unfold Addr.add; split <;> simp_all
      refine Or.inr ⟨b, off, zs.take len, rfl, by rw [List.length_take]; omega, hl, hm, fun j hj => ?_, fun n hn => ?_⟩
      · rw [List.length_take] at hj
        rw [← hp, hcell j (by omega), List.getElem_take, List.getD_eq_getElem?_getD, List.getElem?_eq_getElem (by omega)]; rfl
      · have := bounds_i64 (hwf n (List.mem_of_mem_take hn))
        omega
/-- A call of the script: its kind, its two numbers, its text. -/
structure OpI where
  k : Int
  a : Int
  b : Int
  s : ByteArray
def OpI.cells (o : OpI) : List Value := [.int .i64 o.k, .int .i64 o.a, .int .i64 o.b, .string o.s]
structure OpI.fits (o : OpI) : Prop where
  k : -9223372036854775808 ≤ o.k ∧ o.k ≤ 9223372036854775807
  a : -9223372036854775808 ≤ o.a ∧ o.a ≤ 9223372036854775807
  b : -9223372036854775808 ≤ o.b ∧ o.b ≤ 9223372036854775807
  s : o.s.size ≤ maxLen
theorem cellsOp : Try.prog.cellsOf 32 = 4 := by kernel_rfl
theorem op_of_cells {H : Type} {enc : TypeId × Value → H} {w : World} {base : Nat} {sp : Nat → Bool} {hd : Bool} {n : Nat} {cs : List Value} {x : DataW H × List MemPlace} (hcs : cs.length = 4)
    (h : DataW.trod enc Try.prog w base sp hd n 32 cs = some x) : ∃ o : OpI, cs = o.cells ∧ o.fits := by
  have hI : Try.prog.cellsOf 3 = 1 := by kernel_rfl
  have hT : Try.prog.cellsOf 9 = 1 := by kernel_rfl
  match cs, hcs with
  | [c0, c1, c2, c3], _ =>
    obtain ⟨xs, m, _, _, _, hl, hel⟩ := DataW.trod_struct Try.underlying32 h
    have hl6 : xs.length = 4 := hl
    match xs, hl6 with
    | [x0, x1, x2, x3], _ =>
      have h0 : DataW.trod enc Try.prog w base sp hd m 3 (([c0, c1, c2, c3].drop 0).take (Try.prog.cellsOf 3)) = some x0 := hel 0 _ rfl
      have h1 : DataW.trod enc Try.prog w base sp hd m 3 (([c0, c1, c2, c3].drop 1).take (Try.prog.cellsOf 3)) = some x1 := hel 1 _ rfl
      have h2 : DataW.trod enc Try.prog w base sp hd m 3 (([c0, c1, c2, c3].drop 2).take (Try.prog.cellsOf 3)) = some x2 := hel 2 _ rfl
      have h3 : DataW.trod enc Try.prog w base sp hd m 9 (([c0, c1, c2, c3].drop 3).take (Try.prog.cellsOf 9)) = some x3 := hel 3 _ rfl
      simp only [hI, hT, List.drop_zero, List.take_succ_cons, List.take_zero, List.drop_succ_cons, List.getElem?_cons_zero, List.getElem?_cons_succ] at h0 h1 h2 h3
      obtain ⟨n0, e0, _, w0⟩ := DataW.trod_int Try.underlying3 h0
      obtain ⟨n1, e1, _, w1⟩ := DataW.trod_int Try.underlying3 h1
      obtain ⟨n2, e2, _, w2⟩ := DataW.trod_int Try.underlying3 h2
      obtain ⟨n3, e3, _, w3⟩ := DataW.trod_string Try.underlying9 h3
      simp at e0 e1 e2 e3
      exact ⟨⟨n0, n1, n2, n3⟩, by rw [e0, e1, e2, e3]; rfl, ⟨bounds_i64 w0, bounds_i64 w1, bounds_i64 w2, w3⟩⟩
/-- A call's four cells in block b from o on. -/
structure OpO (w : World) (b o : Nat) (x : OpI) : Prop where
  c0 : w.cell? ⟨b, o, none⟩ = some (.int .i64 x.k)
  c1 : w.cell? ⟨b, o + 1, none⟩ = some (.int .i64 x.a)
  c2 : w.cell? ⟨b, o + 2, none⟩ = some (.int .i64 x.b)
  c3 : w.cell? ⟨b, o + 3, none⟩ = some (.string x.s)
theorem OpO.room {w : World} {b o : Nat} {a : OpI} (h : OpO w b o a) : b < w.heap.size := World.block_lt_of_cell? w _ h.c0
theorem OpO.below {w w' : World} {b o B : Nat} {a : OpI} (h : OpO w b o a) (k : Below B w w') (hb : b < B) : OpO w' b o a :=
  ⟨(k.cell (p := ⟨b, o, none⟩) hb).trans h.c0, (k.cell (p := ⟨b, o + 1, none⟩) hb).trans h.c1, (k.cell (p := ⟨b, o + 2, none⟩) hb).trans h.c2, (k.cell (p := ⟨b, o + 3, none⟩) hb).trans h.c3⟩
/-- A slice of the calls l, in a block below B. -/
structure Ops (w : World) (B : Nat) (a : Option Addr) (l : List OpI) : Prop where
  at_ : l = [] ∨ ∃ b off, a = some ⟨b, off, none⟩ ∧ b < B ∧ ∀ j (h : j < l.length), OpO w b (off + j * 4) l[j]
theorem Ops.below {w w' : World} {B : Nat} {a : Option Addr} {l : List OpI} (h : Ops w B a l) (k : Below B w w') : Ops w' B a l := by
  rcases h.at_ with h | ⟨b, off, e, hb, hc⟩
  · exact ⟨Or.inl h⟩
  · exact ⟨Or.inr ⟨b, off, e, hb, fun j hj => (hc j hj).below k hb⟩⟩
/-- A slice of calls that came in. -/
structure ArgOps (w : World) (a : Option Addr) (len cap : Nat) : Prop where
  has : ∃ l : List OpI, l.length = len ∧ Ops w w.heap.size a l ∧ len ≤ 9223372036854775807 ∧ ∀ o ∈ l, o.fits
theorem argOps_of {H : Type} {enc : TypeId × Value → H} {w : World} {base fuel : Nat} {sp : Nat → Bool} {hd : Bool} {a : Option Addr} {len cap : Nat} {x : DataW H × List MemPlace}
    (h : DataW.trod enc Try.prog w base sp hd fuel 22 [.slice a len cap] = some x) : ArgOps w a len cap := by
  rcases Go.Deep.open_slice Try.underlying22 h with ⟨hcs, _⟩ | ⟨y, l, c, m, n, D, Pl, hcs, _, hl, hm, hmm, _, hel⟩
  · simp at hcs
    obtain ⟨rfl, rfl, rfl⟩ := hcs
    exact ⟨[], rfl, ⟨Or.inl rfl⟩, by omega, by simp⟩
  · simp at hcs
    obtain ⟨rfl, rfl, rfl⟩ := hcs
    by_cases h0 : len = 0
    · subst h0
      exact ⟨[], rfl, ⟨Or.inl rfl⟩, by omega, by simp⟩
    · have hlm : len ≤ m := by rw [hmm]; split <;> omega
      rw [cellsOp] at hel
      have z : ∀ q : Addr, q.add 0 = q := fun q => by unfold Addr.add; split <;> simp_all
      have each : ∀ i, i < len → ∃ o : OpI, o.fits ∧ w.cell? (y.add (i * 4)) = some (.int .i64 o.k) ∧ w.cell? ((y.add (i * 4)).add 1) = some (.int .i64 o.a) ∧ w.cell? ((y.add (i * 4)).add 2) = some (.int .i64 o.b) ∧ w.cell? ((y.add (i * 4)).add 3) = some (.string o.s) := fun i hi => by
        obtain ⟨cs', h1, h2⟩ := hel i (by omega)
        obtain ⟨_, hlen, hget⟩ := World.cells?_some h1
        obtain ⟨st, rfl, hfit⟩ := op_of_cells hlen h2
        have g0 := hget 0 (by omega)
        have g1 := hget 1 (by omega)
        have g2 := hget 2 (by omega)
        have g3 := hget 3 (by omega)
        simp [OpI.cells] at g0 g1 g2 g3
        rw [z] at g0
        exact ⟨st, hfit, g0, g1, g2, g3⟩
      obtain ⟨b, off, spot⟩ := y
      have hspot : spot = none := by
        obtain ⟨st, _, c0, _⟩ := each 0 (by omega)
        simpa [Addr.add] using World.cell?_spot c0
      subst hspot
      have hp : ∀ o j, (⟨b, o, none⟩ : Addr).add j = ⟨b, o + j, none⟩ := fun o j => by unfold Addr.add; split <;> simp_all
      have each2 : ∀ i, i < len → ∃ st : OpI, st.fits ∧ OpO w b (off + i * 4) st := fun i hi => by
        obtain ⟨st, hfit, g0, g1, g2, g3⟩ := each i hi
        rw [hp] at g0 g1 g2 g3
        rw [hp] at g1 g2 g3
        exact ⟨st, hfit, g0, g1, g2, g3⟩
      have hroom : b < w.heap.size := by
        obtain ⟨st, _, c0⟩ := each2 0 (by omega)
        exact c0.room
      refine ⟨(List.range len).map fun i => if hi : i < len then (each2 i hi).choose else ⟨0, 0, 0, ⟨#[]⟩⟩, by simp, ⟨Or.inr ⟨b, off, rfl, hroom, fun j hj => ?_⟩⟩, by unfold maxLen at hm; omega, fun o ho => ?_⟩
      · simp at hj
        have e := (each2 j hj).choose_spec.2
        simp only [List.getElem_map, List.getElem_range, hj, dif_pos]
        exact e
      · rw [List.mem_map] at ho
        obtain ⟨i, hi, rfl⟩ := ho
        have hi2 : i < len := List.mem_range.1 hi
        rw [dif_pos hi2]
        exact (each2 i hi2).choose_spec.1
theorem open_two {H : Type} {enc : TypeId × Value → H} {w : World} {base b0 : Nat} {sp : Nat → Bool} {held : Bool} {v : Value} {d : DataW H} {p : List MemPlace}
    (hv : Value.okWide Try.prog w .any b0 47 v) (h : DataW.Trod enc Try.prog w base sp held 47 v d p) :
    ∃ n0 n1 : Int, v = .agg #[.int .i64 n0, .int .i64 n1] ∧ d = .agg [.lit (.int .i64 n0), .lit (.int .i64 n1)] ∧ p = [] ∧ (Lit.int .i64 n0).wf = true ∧ (Lit.int .i64 n1).wf = true := by
  have ht : Try.prog.underlying 47 = some (.array 2 3) := Try.underlying47
  have hC : Try.prog.cellsOf 47 = 2 := by kernel_rfl
  have hE : Try.prog.cellsOf 3 = 1 := by kernel_rfl
  simp only [Value.okWide, ht] at hv
  obtain ⟨cs, rfl, hsz, _⟩ := hv
  obtain ⟨c0, c1, rfl⟩ := array2 (hsz.trans hC)
  obtain ⟨fuel, hf⟩ := h
  obtain ⟨xs, m, _, hx, _, hl, hel⟩ := DataW.trod_array ht hf
  rw [hE] at hel
  match xs, hl with
  | [x0, x1], _ =>
    have e0 := hel 0 (by omega)
    have e1 := hel 1 (by omega)
    simp [Value.cells] at e0 e1
    obtain ⟨n0, h0, rfl, w0⟩ := DataW.trod_int Try.underlying3 e0
    obtain ⟨n1, h1, rfl, w1⟩ := DataW.trod_int Try.underlying3 e1
    simp at h0 h1
    subst h0 h1
    simp at hx
    obtain ⟨rfl, rfl⟩ := hx
    exact ⟨n0, n1, rfl, rfl, rfl, w0, w1⟩
theorem two_reads {H : Type} {enc : TypeId × Value → H} (W : World) {base : Nat} {sp : Nat → Bool} {held : Bool} {n0 n1 : Int} (w0 : (Lit.int .i64 n0).wf = true) (w1 : (Lit.int .i64 n1).wf = true) :
    DataW.Trod enc Try.prog W base sp held 47 (.agg #[.int .i64 n0, .int .i64 n1]) (.agg [.lit (.int .i64 n0), .lit (.int .i64 n1)]) [] := by
  have ht : Try.prog.underlying 47 = some (.array 2 3) := Try.underlying47
  have hC : Try.prog.cellsOf 47 = 2 := by kernel_rfl
  have hE : Try.prog.cellsOf 3 = 1 := by kernel_rfl
  have r2 : List.range 2 = [0, 1] := rfl
  exact ⟨2, by simp [DataW.trod, ht, hC, hE, r2, Value.cells, Try.underlying3, w0, w1]⟩
def cutB (s : ByteArray) (n : Nat) : ByteArray := if n < s.size then s.extract 0 n else s
theorem cutB_size (s : ByteArray) (n : Nat) : (cutB s n).size ≤ n := by
  unfold cutB
  split
  · rw [ByteArray.size_extract]; omega
  · omega
theorem short_is (s t : ByteArray) (n : Nat) (m : Int) (w : World) (hm : m = (n : Int)) (hn : n ≤ 2000) (ht : Hid (cutB s n = t)) : Calls Try.prog 26 #[.string s, .int .i64 m] w fun e w' => e = .returned (.string t) ∧ w = w' := by
  by_cases h : n < s.size
  · have H := Lib.hid (show s.extract 0 n = t by rw [← ht.out]; exact (if_pos h).symm)
    subst hm
    go_enter Try.func26, Try.ntmps26
    go_wp2
    go_ret
    exact ⟨by rw [← H.out]; rfl, rfl⟩
  · have H := Lib.hid (show s = t by rw [← ht.out]; exact (if_neg h).symm)
    subst hm
    go_enter Try.func26, Try.ntmps26
    go_wp2
    go_ret
    exact ⟨by rw [← H.out]; rfl, rfl⟩
end Go.Proofs.Ytnjabhjcnkbgpaa
