/- Replies that came in. -/
import Derived.Test.YtcjcbbpolhpphaaQuArgs
import Derived.Test.YtcjcbbpolhpphaaSampleG
set_option maxRecDepth 20000
set_option linter.unusedSimpArgs false
set_option linter.unusedVariables false
namespace Go.Proofs.Ytcjcbbpolhpphaa.Qu
open Go.ChangeShapes Go.WideShapes Go.ChangeAt Go.RowKit Go.Joins

/-- A node's reply: its number, its points, where they lie. -/
structure RepI where
  n : Int
  ps : List Pt
  a : Option Addr
  c : Nat
def RepI.cells (r : RepI) : List Value := [.int .i64 r.n, .slice r.a r.ps.length r.c]
structure RepI.fits (r : RepI) (w : World) : Prop where
  n : -9223372036854775808 ≤ r.n ∧ r.n ≤ 9223372036854775807
  pts : Pts w w.heap.size r.a r.ps
  len : r.ps.length ≤ 9223372036854775807
  fit : ∀ p ∈ r.ps, p.fits
abbrev REP : TypeId := 44
theorem cellsRep : Try.prog.cellsOf REP = 2 := by kernel_rfl
theorem rep_of_cells {H : Type} {enc : TypeId × Value → H} {w : World} {base : Nat} {sp : Nat → Bool} {hd : Bool} {n : Nat} {cs : List Value} {x : DataW H × List MemPlace} (hcs : cs.length = 2)
    (h : DataW.trod enc Try.prog w base sp hd n REP cs = some x) : ∃ r : RepI, cs = r.cells ∧ r.fits w := by
  have hI : Try.prog.cellsOf 3 = 1 := by kernel_rfl
  have hT : Try.prog.cellsOf 35 = 1 := by kernel_rfl
  match cs, hcs with
  | [c0, c1], _ =>
    obtain ⟨xs, m, _, _, _, hl, hel⟩ := DataW.trod_struct Try.underlying44 h
    have hl6 : xs.length = 2 := hl
    match xs, hl6 with
    | [x0, x1], _ =>
      have h0 : DataW.trod enc Try.prog w base sp hd m 3 (([c0, c1].drop 0).take (Try.prog.cellsOf 3)) = some x0 := hel 0 _ rfl
      have h1 : DataW.trod enc Try.prog w base sp hd m 35 (([c0, c1].drop 1).take (Try.prog.cellsOf 35)) = some x1 := hel 1 _ rfl
      simp only [hI, hT, List.drop_zero, List.take_succ_cons, List.take_zero, List.drop_succ_cons, List.getElem?_cons_zero, List.getElem?_cons_succ] at h0 h1
      obtain ⟨n0, e0, _, w0⟩ := DataW.trod_int Try.underlying3 h0
      simp at e0
      obtain ⟨a, len, cap, e1⟩ : ∃ a len cap, c1 = .slice a len cap := by
        rcases Go.Deep.open_slice Try.underlying35 h1 with ⟨hcs, _⟩ | ⟨y, l, c, m, n, D, Pl, hcs, _⟩
        · simp at hcs; exact ⟨_, _, _, hcs⟩
        · simp at hcs; exact ⟨_, _, _, hcs⟩
      subst e1
      obtain ⟨l, hl, hp, hlen, hf⟩ := (argPts_of h1).has
      exact ⟨⟨n0, l, a, cap⟩, by rw [e0]; simp [RepI.cells, hl], ⟨bounds_i64 w0, hp, by rw [hl]; exact hlen, hf⟩⟩
/-- A reply's two cells. -/
structure RepO (w : World) (b o : Nat) (x : RepI) : Prop where
  c0 : w.cell? ⟨b, o, none⟩ = some (.int .i64 x.n)
  c1 : w.cell? ⟨b, o + 1, none⟩ = some (.slice x.a x.ps.length x.c)
/-- A slice of replies that came in. -/
structure ArgReps (w : World) (a : Option Addr) (len cap : Nat) : Prop where
  has : ∃ l : List RepI, l.length = len ∧ (l = [] ∨ ∃ b off, a = some ⟨b, off, none⟩ ∧ b < w.heap.size ∧ ∀ j (h : j < l.length), RepO w b (off + j * 2) l[j]) ∧ len ≤ 9223372036854775807 ∧ ∀ r ∈ l, r.fits w
theorem argReps_of {H : Type} {enc : TypeId × Value → H} {w : World} {base fuel : Nat} {sp : Nat → Bool} {hd : Bool} {a : Option Addr} {len cap : Nat} {x : DataW H × List MemPlace}
    (h : DataW.trod enc Try.prog w base sp hd fuel 40 [.slice a len cap] = some x) : ArgReps w a len cap := by
  rcases Go.Deep.open_slice Try.underlying40 h with ⟨hcs, _⟩ | ⟨y, l, c, m, n, D, Pl, hcs, _, hl, hm, hmm, _, hel⟩
  · simp at hcs
    obtain ⟨rfl, rfl, rfl⟩ := hcs
    exact ⟨[], rfl, Or.inl rfl, by omega, by simp⟩
  · simp at hcs
    obtain ⟨rfl, rfl, rfl⟩ := hcs
    by_cases h0 : len = 0
    · subst h0
      exact ⟨[], rfl, Or.inl rfl, by omega, by simp⟩
    · have hlm : len ≤ m := by rw [hmm]; split <;> omega
      rw [cellsRep] at hel
      have z : ∀ q : Addr, q.add 0 = q := fun q => by unfold Addr.add; split <;> simp_all
      have each : ∀ i, i < len → ∃ o : RepI, o.fits w ∧ w.cell? (y.add (i * 2)) = some (.int .i64 o.n) ∧ w.cell? ((y.add (i * 2)).add 1) = some (.slice o.a o.ps.length o.c) := fun i hi => by
        obtain ⟨cs', h1, h2⟩ := hel i (by omega)
        obtain ⟨_, hlen, hget⟩ := World.cells?_some h1
        obtain ⟨st, rfl, hfit⟩ := rep_of_cells hlen h2
        have g0 := hget 0 (by omega)
        have g1 := hget 1 (by omega)
        simp [RepI.cells] at g0 g1
        rw [z] at g0
        exact ⟨st, hfit, g0, g1⟩
      obtain ⟨b, off, spot⟩ := y
      have hspot : spot = none := by
        obtain ⟨st, _, c0, _⟩ := each 0 (by omega)
        simpa [Addr.add] using World.cell?_spot c0
      subst hspot
      have hp : ∀ o j, (⟨b, o, none⟩ : Addr).add j = ⟨b, o + j, none⟩ := fun o j => by unfold Addr.add; split <;> simp_all
      have each2 : ∀ i, i < len → ∃ st : RepI, st.fits w ∧ RepO w b (off + i * 2) st := fun i hi => by
        obtain ⟨st, hfit, g0, g1⟩ := each i hi
        rw [hp] at g0 g1
        rw [hp] at g1
        exact ⟨st, hfit, g0, g1⟩
      have hroom : b < w.heap.size := by
        obtain ⟨st, _, c0⟩ := each2 0 (by omega)
        exact World.block_lt_of_cell? w _ c0.c0
      refine ⟨(List.range len).map fun i => if hi : i < len then (each2 i hi).choose else ⟨0, [], none, 0⟩, by simp, Or.inr ⟨b, off, rfl, hroom, fun j hj => ?_⟩, by unfold maxLen at hm; omega, fun o ho => ?_⟩
      · simp at hj
        have e := (each2 j hj).choose_spec.2
        simp only [List.getElem_map, List.getElem_range, hj, dif_pos]
        exact e
      · rw [List.mem_map] at ho
        obtain ⟨i, hi, rfl⟩ := ho
        have hi2 : i < len := List.mem_range.1 hi
        rw [dif_pos hi2]
        exact (each2 i hi2).choose_spec.1
end Go.Proofs.Ytcjcbbpolhpphaa.Qu
