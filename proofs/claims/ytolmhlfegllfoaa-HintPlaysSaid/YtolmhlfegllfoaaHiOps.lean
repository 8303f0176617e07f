/- Calls that came in. -/
import Derived.Test.YtolmhlfegllfoaaHiArgs
import Derived.Test.YtolmhlfegllfoaaHiMod
set_option maxRecDepth 20000
set_option linter.unusedSimpArgs false
set_option linter.unusedVariables false
namespace Go.Proofs.Ytolmhlfegllfoaa.Qu.Hi
open Go.ChangeShapes Go.WideShapes Go.ChangeAt Go.RowKit Go.Joins Go.Proofs.Ytolmhlfegllfoaa.Vi Go.Proofs.Ytolmhlfegllfoaa.Mk

theorem stamp_of_cells3 {H : Type} {enc : TypeId × Value → H} {w : World} {base : Nat} {sp : Nat → Bool} {hd : Bool} {n : Nat} {cs : List Value} {x : DataW H × List MemPlace} (hcs : cs.length = 3)
    (h : DataW.trod enc Try.prog w base sp hd n 29 cs = some x) : ∃ a : St, cs = [.int .i64 a.c, .int .i64 a.s, .int .i64 a.q] ∧ I64 a.c ∧ I64 a.s ∧ I64 a.q := by
  match cs, hcs with
  | [c0, c1, c2], _ =>
    obtain ⟨y0, y1, y2, m, _, _, h0, h1, h2⟩ := Go.Deep.trod_struct3 Try.underlying29 h
    have hI : Try.prog.cellsOf 3 = 1 := by kernel_rfl
    simp only [hI, List.drop_zero, List.take_succ_cons, List.take_zero, List.drop_succ_cons] at h0 h1 h2
    obtain ⟨n0, e0, _, w0⟩ := DataW.trod_int Try.underlying3 h0
    obtain ⟨n1, e1, _, w1⟩ := DataW.trod_int Try.underlying3 h1
    obtain ⟨n2, e2, _, w2⟩ := DataW.trod_int Try.underlying3 h2
    simp at e0 e1 e2
    exact ⟨⟨n0, n1, n2⟩, by rw [e0, e1, e2], bounds_i64 w0, bounds_i64 w1, bounds_i64 w2⟩
/-- A point with all its numbers in reach. -/
structure Pt.wide (p : Pt) : Prop where
  fits : p.fits
  c : I64 p.st.c
  s : I64 p.st.s
  q : I64 p.st.q
theorem point_of_cells3 {H : Type} {enc : TypeId × Value → H} {w : World} {base : Nat} {sp : Nat → Bool} {hd : Bool} {n : Nat} {cs : List Value} {x : DataW H × List MemPlace} (hcs : cs.length = 6)
    (h : DataW.trod enc Try.prog w base sp hd n 31 cs = some x) : ∃ p : Pt, cs = cells6 p ∧ Pt.wide p := by
  match cs, hcs with
  | [c0, c1, c2, c3, c4, c5], _ =>
    obtain ⟨y0, y1, y2, y3, m, _, _, h0, h1, h2, h3⟩ := Go.Joins.trod_struct4 Try.underlying31 h
    have hI : Try.prog.cellsOf 3 = 1 := by kernel_rfl
    have hJ : Try.prog.cellsOf 2 = 1 := by kernel_rfl
    have hT : Try.prog.cellsOf 9 = 1 := by kernel_rfl
    have hS : Try.prog.cellsOf 29 = 3 := by kernel_rfl
    simp only [hI, hJ, hT, hS, List.drop_zero, List.take_succ_cons, List.take_zero, List.drop_succ_cons] at h0 h1 h2 h3
    obtain ⟨s, e0, _, hs⟩ := DataW.trod_string Try.underlying9 h0
    obtain ⟨n1, e1, _, w1⟩ := DataW.trod_int Try.underlying3 h1
    obtain ⟨n2, e2, _, w2⟩ := DataW.trod_int Try.underlying2 h2
    obtain ⟨a, e3, ha⟩ := stamp_of_cells3 rfl h3
    simp at e0 e1 e2 e3
    obtain ⟨e3, e4, e5⟩ := e3
    refine ⟨⟨s, n1, n2, a⟩, by rw [e0, e1, e2, e3, e4, e5]; rfl, ⟨⟨by unfold maxLen at hs; omega, ?_, ?_⟩, ha.1, ha.2.1, ha.2.2⟩⟩
    · have := bounds_i64 w1; dsimp only; omega
    · have := bounds_i64 w2; dsimp only; omega
/-- A call: its kind, its node, its point, its nodes and where they lie. -/
structure HOp where
  k : Int
  n : Int
  p : Pt
  ns : List Int
  a : Option Addr
  c : Nat
def HOp.cells (r : HOp) : List Value := [.int .i64 r.k, .int .i64 r.n, .string r.p.s, .int .i64 r.p.t, .int .i64 r.p.v, .int .i64 r.p.st.c, .int .i64 r.p.st.s, .int .i64 r.p.st.q, .slice r.a r.ns.length r.c]
structure HOp.fits (r : HOp) (w : World) : Prop where
  k : I64 r.k
  n : I64 r.n
  p : Pt.wide r.p
  ns : Ns w (.slice r.a r.ns.length r.c) r.ns
  cap : r.ns.length ≤ r.c
abbrev HOP : TypeId := 34
theorem cellsHOp : Try.prog.cellsOf HOP = 9 := by kernel_rfl
theorem hop_of_cells {H : Type} {enc : TypeId × Value → H} {w : World} {base : Nat} {sp : Nat → Bool} {hd : Bool} {n : Nat} {cs : List Value} {x : DataW H × List MemPlace} (hcs : cs.length = 9)
    (h : DataW.trod enc Try.prog w base sp hd n HOP cs = some x) : ∃ r : HOp, cs = r.cells ∧ r.fits w := by
  match cs, hcs with
  | [c0, c1, c2, c3, c4, c5, c6, c7, c8], _ =>
    obtain ⟨y0, y1, y2, y3, m, _, _, h0, h1, h2, h3⟩ := Go.Joins.trod_struct4 Try.underlying34 h
    have hI : Try.prog.cellsOf 3 = 1 := by kernel_rfl
    have hP : Try.prog.cellsOf 31 = 6 := by kernel_rfl
    have hL : Try.prog.cellsOf 32 = 1 := by kernel_rfl
    simp only [hI, hP, hL, List.drop_zero, List.take_succ_cons, List.take_zero, List.drop_succ_cons] at h0 h1 h2 h3
    obtain ⟨n0, e0, _, w0⟩ := DataW.trod_int Try.underlying3 h0
    obtain ⟨n1, e1, _, w1⟩ := DataW.trod_int Try.underlying3 h1
    obtain ⟨p, e2, hp⟩ := point_of_cells3 rfl h2
    obtain ⟨a, len, cap, e3⟩ : ∃ a len cap, c8 = .slice a len cap := by
      rcases Go.Deep.open_slice Try.underlying32 h3 with ⟨hcs, _⟩ | ⟨y, l, c, m, n, D, Pl, hcs, _⟩
      · simp at hcs; exact ⟨_, _, _, hcs⟩
      · simp at hcs; exact ⟨_, _, _, hcs⟩
    subst e3
    obtain ⟨l, hl, hc⟩ := ns_of_args (argInts_of Try.underlying32 Try.underlying3 (by kernel_rfl) h3)
    obtain ⟨a', n', c', ec, hle⟩ := hc.out
    injection ec with ec1 ec2 ec3
    subst ec1 ec2 ec3
    have hlen : len = l.length := by
      obtain ⟨a', c', e⟩ := hl.slice
      injection e with e1 e2 e3
    subst hlen
    simp at e0 e1
    simp [cells6] at e2
    obtain ⟨f0, f1, f2, f3, f4, f5⟩ := e2
    exact ⟨⟨n0, n1, p, l, a, cap⟩, by rw [e0, e1, f0, f1, f2, f3, f4, f5]; rfl, ⟨bounds_i64 w0, bounds_i64 w1, hp, hl, hle⟩⟩
/-- A call's nine cells. -/
structure HOpO (w : World) (b o : Nat) (x : HOp) : Prop where
  c0 : w.cell? ⟨b, o, none⟩ = some (.int .i64 x.k)
  c1 : w.cell? ⟨b, o + 1, none⟩ = some (.int .i64 x.n)
  c2 : w.cell? ⟨b, o + 2, none⟩ = some (.string x.p.s)
  c3 : w.cell? ⟨b, o + 3, none⟩ = some (.int .i64 x.p.t)
  c4 : w.cell? ⟨b, o + 4, none⟩ = some (.int .i64 x.p.v)
  c5 : w.cell? ⟨b, o + 5, none⟩ = some (.int .i64 x.p.st.c)
  c6 : w.cell? ⟨b, o + 6, none⟩ = some (.int .i64 x.p.st.s)
  c7 : w.cell? ⟨b, o + 7, none⟩ = some (.int .i64 x.p.st.q)
  c8 : w.cell? ⟨b, o + 8, none⟩ = some (.slice x.a x.ns.length x.c)
theorem HOpO.below {w w' : World} {b o B : Nat} {x : HOp} (h : HOpO w b o x) (k : Below B w w') (hb : b < B) : HOpO w' b o x :=
  ⟨(k.cell (p := ⟨b, o, none⟩) hb).trans h.c0, (k.cell (p := ⟨b, o + 1, none⟩) hb).trans h.c1, (k.cell (p := ⟨b, o + 2, none⟩) hb).trans h.c2, (k.cell (p := ⟨b, o + 3, none⟩) hb).trans h.c3, (k.cell (p := ⟨b, o + 4, none⟩) hb).trans h.c4, (k.cell (p := ⟨b, o + 5, none⟩) hb).trans h.c5, (k.cell (p := ⟨b, o + 6, none⟩) hb).trans h.c6, (k.cell (p := ⟨b, o + 7, none⟩) hb).trans h.c7, (k.cell (p := ⟨b, o + 8, none⟩) hb).trans h.c8⟩
/-- A slice of calls that came in. -/
structure ArgHOps (w : World) (a : Option Addr) (len cap : Nat) : Prop where
  has : ∃ l : List HOp, l.length = len ∧ (l = [] ∨ ∃ b off, a = some ⟨b, off, none⟩ ∧ b < w.heap.size ∧ ∀ j (h : j < l.length), HOpO w b (off + j * 9) l[j]) ∧ len ≤ 9223372036854775807 ∧ ∀ r ∈ l, r.fits w
theorem argHOps_of {H : Type} {enc : TypeId × Value → H} {w : World} {base fuel : Nat} {sp : Nat → Bool} {hd : Bool} {a : Option Addr} {len cap : Nat} {x : DataW H × List MemPlace}
    (h : DataW.trod enc Try.prog w base sp hd fuel 22 [.slice a len cap] = some x) : ArgHOps w a len cap := by
  rcases Go.Deep.open_slice Try.underlying22 h with ⟨hcs, _⟩ | ⟨y, l, c, m, n, D, Pl, hcs, _, hl, hm, hmm, _, hel⟩
  · simp at hcs
    obtain ⟨rfl, rfl, rfl⟩ := hcs
    exact ⟨[], rfl, Or.inl rfl, by omega, by simp⟩
  · simp at hcs
    obtain ⟨rfl, rfl, rfl⟩ := hcs
    by_cases h0 : len = 0
    · subst h0
      exact ⟨[], rfl, Or.inl rfl, by omega, by simp⟩
    · have hlm : len ≤ m := by rw [hmm]; split <;> omega
      rw [cellsHOp] at hel
      have z : ∀ q : Addr, q.add 0 = q := fun q => by unfold Addr.add; split <;> simp_all
      have each : ∀ i, i < len → ∃ o : HOp, o.fits w ∧ ∀ j (hj : j < 9), w.cell? ((y.add (i * 9)).add j) = o.cells[j]? := fun i hi => by
        obtain ⟨cs', h1, h2⟩ := hel i (by omega)
        obtain ⟨_, hlen, hget⟩ := World.cells?_some h1
        obtain ⟨st, rfl, hfit⟩ := hop_of_cells hlen h2
        exact ⟨st, hfit, fun j hj => (hget j (by omega)).trans (by simp)⟩
      obtain ⟨b, off, spot⟩ := y
      have hspot : spot = none := by
        obtain ⟨st, _, c0⟩ := each 0 (by omega)
        have c0 := c0 0 (by omega)
        rw [z] at c0
        simpa [Addr.add] using World.cell?_spot (show w.cell? _ = some (.int .i64 st.k) from c0)
      subst hspot
      have hp : ∀ o j, (⟨b, o, none⟩ : Addr).add j = ⟨b, o + j, none⟩ := fun o j => by unfold Addr.add; split <;> simp_all
      have each2 : ∀ i, i < len → ∃ st : HOp, st.fits w ∧ HOpO w b (off + i * 9) st := fun i hi => by
        obtain ⟨st, hfit, g⟩ := each i hi
        rw [hp] at g
        simp only [hp] at g
        exact ⟨st, hfit, ⟨g 0 (by omega), g 1 (by omega), g 2 (by omega), g 3 (by omega), g 4 (by omega), g 5 (by omega), g 6 (by omega), g 7 (by omega), g 8 (by omega)⟩⟩
      have hroom : b < w.heap.size := by
        obtain ⟨st, _, c0⟩ := each2 0 (by omega)
        exact World.block_lt_of_cell? w _ c0.c0
      refine ⟨(List.range len).map fun i => if hi : i < len then (each2 i hi).choose else ⟨0, 0, ⟨⟨#[]⟩, 0, 0, ⟨0, 0, 0⟩⟩, [], none, 0⟩, by simp, Or.inr ⟨b, off, rfl, hroom, fun j hj => ?_⟩, by unfold maxLen at hm; omega, fun o ho => ?_⟩
      · simp at hj
        have e := (each2 j hj).choose_spec.2
        simp only [List.getElem_map, List.getElem_range, hj, dif_pos]
        exact e
      · rw [List.mem_map] at ho
        obtain ⟨i, hi, rfl⟩ := ho
        have hi2 : i < len := List.mem_range.1 hi
        rw [dif_pos hi2]
        exact (each2 i hi2).choose_spec.1
end Go.Proofs.Ytolmhlfegllfoaa.Qu.Hi
