/- A slice of calls that came in. -/
import Derived.Test.YtbgjcopgipganaaFilesArgs
import Derived.Deep.Slices
import Derived.Deep.Strs
import Derived.ChangeSame
import Derived.ChangeArms
import Derived.WideShapes
import Derived.Lib.SmallJoins
import Derived.OpenShut
set_option maxRecDepth 20000
set_option linter.unusedSimpArgs false
namespace Go.Proofs.Ytbgjcopgipganaa
open Go.ChangeShapes Go.WideShapes Go.ChangeAt Go.RowKit Go.Joins

/-- A call of the script: its kind, its number, its texts, its picks (a, len, cap). -/
structure OpI where
  k : Int
  n : Int
  name : ByteArray
  dst : ByteArray
  body : ByteArray
  pa : Option Addr
  pl : Nat
  pc : Nat
def OpI.cells (o : OpI) : List Value := [.int .i64 o.k, .int .i64 o.n, .string o.name, .string o.dst, .string o.body, .slice o.pa o.pl o.pc]
structure OpI.fits (w : World) (o : OpI) : Prop where
  k : -9223372036854775808 ≤ o.k ∧ o.k ≤ 9223372036854775807
  n : -9223372036854775808 ≤ o.n ∧ o.n ≤ 9223372036854775807
  name : o.name.size ≤ maxLen
  dst : o.dst.size ≤ maxLen
  body : o.body.size ≤ maxLen
  picks : ArgInts w o.pa o.pl o.pc
theorem cellsOp : Try.prog.cellsOf 30 = 6 := by kernel_rfl
theorem op_of_cells {H : Type} {enc : TypeId × Value → H} {w : World} {base : Nat} {sp : Nat → Bool} {hd : Bool} {n : Nat} {cs : List Value} {x : DataW H × List MemPlace} (hcs : cs.length = 6)
    (h : DataW.trod enc Try.prog w base sp hd n 30 cs = some x) : ∃ o : OpI, cs = o.cells ∧ o.fits w := by
  have hI : Try.prog.cellsOf 3 = 1 := by kernel_rfl
  have hT : Try.prog.cellsOf 9 = 1 := by kernel_rfl
  have hN : Try.prog.cellsOf 28 = 1 := by kernel_rfl
  match cs, hcs with
  | [c0, c1, c2, c3, c4, c5], _ =>
    obtain ⟨xs, m, _, _, _, hl, hel⟩ := DataW.trod_struct Try.underlying30 h
    have hl6 : xs.length = 6 := hl
    match xs, hl6 with
    | [x0, x1, x2, x3, x4, x5], _ =>
      have h0 : DataW.trod enc Try.prog w base sp hd m 3 (([c0, c1, c2, c3, c4, c5].drop 0).take (Try.prog.cellsOf 3)) = some x0 := hel 0 _ rfl
      have h1 : DataW.trod enc Try.prog w base sp hd m 3 (([c0, c1, c2, c3, c4, c5].drop 1).take (Try.prog.cellsOf 3)) = some x1 := hel 1 _ rfl
      have h2 : DataW.trod enc Try.prog w base sp hd m 9 (([c0, c1, c2, c3, c4, c5].drop 2).take (Try.prog.cellsOf 9)) = some x2 := hel 2 _ rfl
      have h3 : DataW.trod enc Try.prog w base sp hd m 9 (([c0, c1, c2, c3, c4, c5].drop 3).take (Try.prog.cellsOf 9)) = some x3 := hel 3 _ rfl
      have h4 : DataW.trod enc Try.prog w base sp hd m 9 (([c0, c1, c2, c3, c4, c5].drop 4).take (Try.prog.cellsOf 9)) = some x4 := hel 4 _ rfl
      have h5 : DataW.trod enc Try.prog w base sp hd m 28 (([c0, c1, c2, c3, c4, c5].drop 5).take (Try.prog.cellsOf 28)) = some x5 := hel 5 _ rfl
      simp only [hI, hT, hN, List.drop_zero, List.take_succ_cons, List.take_zero, List.drop_succ_cons, List.getElem?_cons_zero, List.getElem?_cons_succ] at h0 h1 h2 h3 h4 h5
      obtain ⟨n0, e0, _, w0⟩ := DataW.trod_int Try.underlying3 h0
      obtain ⟨n1, e1, _, w1⟩ := DataW.trod_int Try.underlying3 h1
      obtain ⟨n2, e2, _, w2⟩ := DataW.trod_string Try.underlying9 h2
      obtain ⟨n3, e3, _, w3⟩ := DataW.trod_string Try.underlying9 h3
      obtain ⟨n4, e4, _, w4⟩ := DataW.trod_string Try.underlying9 h4
      have h6 : ∃ a l c, c5 = .slice a l c := by
        rcases Go.Deep.open_slice Try.underlying28 h5 with ⟨hcs, _⟩ | ⟨y, l, c, m, n, D, Pl, hcs, _⟩
        · simp at hcs; exact ⟨_, _, _, hcs⟩
        · simp at hcs; exact ⟨_, _, _, hcs⟩
      obtain ⟨a, l, c, rfl⟩ := h6
      have w5 := argInts_of Try.underlying28 Try.underlying3 hI h5
      simp at e0 e1 e2 e3 e4
      have b0 := bounds_i64 w0
      have b1 := bounds_i64 w1
      exact ⟨⟨n0, n1, n2, n3, n4, a, l, c⟩, by rw [e0, e1, e2, e3, e4]; rfl, ⟨b0, b1, w2, w3, w4, w5⟩⟩
/-- A call's six cells in block b from o on. -/
structure OpO (w : World) (b o : Nat) (a : OpI) : Prop where
  c0 : w.cell? ⟨b, o, none⟩ = some (.int .i64 a.k)
  c1 : w.cell? ⟨b, o + 1, none⟩ = some (.int .i64 a.n)
  c2 : w.cell? ⟨b, o + 2, none⟩ = some (.string a.name)
  c3 : w.cell? ⟨b, o + 3, none⟩ = some (.string a.dst)
  c4 : w.cell? ⟨b, o + 4, none⟩ = some (.string a.body)
  c5 : w.cell? ⟨b, o + 5, none⟩ = some (.slice a.pa a.pl a.pc)
theorem OpO.room {w : World} {b o : Nat} {a : OpI} (h : OpO w b o a) : b < w.heap.size := World.block_lt_of_cell? w _ h.c0
theorem OpO.below {w w' : World} {b o B : Nat} {a : OpI} (h : OpO w b o a) (k : Below B w w') (hb : b < B) : OpO w' b o a :=
  ⟨(k.cell (p := ⟨b, o, none⟩) hb).trans h.c0, (k.cell (p := ⟨b, o + 1, none⟩) hb).trans h.c1, (k.cell (p := ⟨b, o + 2, none⟩) hb).trans h.c2, (k.cell (p := ⟨b, o + 3, none⟩) hb).trans h.c3, (k.cell (p := ⟨b, o + 4, none⟩) hb).trans h.c4, (k.cell (p := ⟨b, o + 5, none⟩) hb).trans h.c5⟩
/-- A slice of the calls l, in a block below B. -/
structure Ops (w : World) (B : Nat) (a : Option Addr) (l : List OpI) : Prop where
  at_ : l = [] ∨ ∃ b off, a = some ⟨b, off, none⟩ ∧ b < B ∧ ∀ j (h : j < l.length), OpO w b (off + j * 6) l[j]
theorem Ops.below {w w' : World} {B : Nat} {a : Option Addr} {l : List OpI} (h : Ops w B a l) (k : Below B w w') : Ops w' B a l := by
  rcases h.at_ with h | ⟨b, off, e, hb, hc⟩
  · exact ⟨Or.inl h⟩
  · exact ⟨Or.inr ⟨b, off, e, hb, fun j hj => (hc j hj).below k hb⟩⟩
/-- A slice of calls that came in. -/
structure ArgOps (w : World) (a : Option Addr) (len cap : Nat) : Prop where
  has : ∃ l : List OpI, l.length = len ∧ Ops w w.heap.size a l ∧ len ≤ 9223372036854775807 ∧ ∀ o ∈ l, o.fits w
theorem argOps_of {H : Type} {enc : TypeId × Value → H} {w : World} {base fuel : Nat} {sp : Nat → Bool} {hd : Bool} {a : Option Addr} {len cap : Nat} {x : DataW H × List MemPlace}
    (h : DataW.trod enc Try.prog w base sp hd fuel 22 [.slice a len cap] = some x) : ArgOps w a len cap := by
  rcases Go.Deep.open_slice Try.underlying22 h with ⟨hcs, _⟩ | ⟨y, l, c, m, n, D, Pl, hcs, _, hl, hm, hmm, _, hel⟩
  · simp at hcs
    obtain ⟨rfl, rfl, rfl⟩ := hcs
    exact ⟨[], rfl, ⟨Or.inl rfl⟩, by omega, by simp⟩
  · simp at hcs
    obtain ⟨rfl, rfl, rfl⟩ := hcs
    by_cases h0 : len = 0
    · subst h0
      exact ⟨[], rfl, ⟨Or.inl rfl⟩, by omega, by simp⟩
    · have hlm : len ≤ m := by rw [hmm]; split <;> omega
      rw [cellsOp] at hel
      have z : ∀ q : Addr, q.add 0 = q := fun q => by unfold Addr.add; split <;> simp_all
      have each : ∀ i, i < len → ∃ o : OpI, o.fits w ∧ w.cell? (y.add (i * 6)) = some (.int .i64 o.k) ∧ w.cell? ((y.add (i * 6)).add 1) = some (.int .i64 o.n) ∧ w.cell? ((y.add (i * 6)).add 2) = some (.string o.name) ∧ w.cell? ((y.add (i * 6)).add 3) = some (.string o.dst) ∧ w.cell? ((y.add (i * 6)).add 4) = some (.string o.body) ∧ w.cell? ((y.add (i * 6)).add 5) = some (.slice o.pa o.pl o.pc) := fun i hi => by
        obtain ⟨cs', h1, h2⟩ := hel i (by omega)
        obtain ⟨_, hlen, hget⟩ := World.cells?_some h1
        obtain ⟨st, rfl, hfit⟩ := op_of_cells hlen h2
        have g0 := hget 0 (by omega)
        have g1 := hget 1 (by omega)
        have g2 := hget 2 (by omega)
        have g3 := hget 3 (by omega)
        have g4 := hget 4 (by omega)
        have g5 := hget 5 (by omega)
        simp [OpI.cells] at g0 g1 g2 g3 g4 g5
        rw [z] at g0
        exact ⟨st, hfit, g0, g1, g2, g3, g4, g5⟩
      obtain ⟨b, off, spot⟩ := y
      have hspot : spot = none := by
        obtain ⟨st, _, c0, _⟩ := each 0 (by omega)
        simpa [Addr.add] using World.cell?_spot c0
      subst hspot
      have hp : ∀ o j, (⟨b, o, none⟩ : Addr).add j = ⟨b, o + j, none⟩ := fun o j => by unfold Addr.add; split <;> simp_all
      have each2 : ∀ i, i < len → ∃ st : OpI, st.fits w ∧ OpO w b (off + i * 6) st := fun i hi => by
        obtain ⟨st, hfit, g0, g1, g2, g3, g4, g5⟩ := each i hi
        rw [hp] at g0 g1 g2 g3 g4 g5
        rw [hp] at g1 g2 g3 g4 g5
        exact ⟨st, hfit, g0, g1, g2, g3, g4, g5⟩
      have hroom : b < w.heap.size := by
        obtain ⟨st, _, c0⟩ := each2 0 (by omega)
        exact c0.room
      refine ⟨(List.range len).map fun i => if hi : i < len then (each2 i hi).choose else ⟨0, 0, ⟨#[]⟩, ⟨#[]⟩, ⟨#[]⟩, none, 0, 0⟩, by simp, ⟨Or.inr ⟨b, off, rfl, hroom, fun j hj => ?_⟩⟩, by unfold maxLen at hm; omega, fun o ho => ?_⟩
      · simp at hj
        have e := (each2 j hj).choose_spec.2
        simp only [List.getElem_map, List.getElem_range, hj, dif_pos]
        exact e
      · rw [List.mem_map] at ho
        obtain ⟨i, hi, rfl⟩ := ho
        have hi2 : i < len := List.mem_range.1 hi
        rw [dif_pos hi2]
        exact (each2 i hi2).choose_spec.1
end Go.Proofs.Ytbgjcopgipganaa
