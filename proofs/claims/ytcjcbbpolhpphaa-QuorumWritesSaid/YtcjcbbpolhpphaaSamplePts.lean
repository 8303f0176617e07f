/- Slices of points: one that came in, and one that the call makes. -/
import Derived.Test.YtcjcbbpolhpphaaSamplePt
import Derived.Test.YtcjcbbpolhpphaaMarkB
set_option maxRecDepth 20000
namespace Go.Proofs.Ytcjcbbpolhpphaa
open Go.RowKit Go.Proofs.Ytcjcbbpolhpphaa.Vi Go.Proofs.Ytcjcbbpolhpphaa.Mk

structure Pt.fits (p : Pt) : Prop where
  s : p.s.size ≤ 9223372036854775807
  t : -9223372036854775808 ≤ p.t ∧ p.t ≤ 9223372036854775807
  v : -9223372036854775808 ≤ p.v ∧ p.v ≤ 9223372036854775807
def Pt.zero : Pt := ⟨⟨#[]⟩, 0, 0, ⟨0, 0, 0⟩⟩
def cells6 (p : Pt) : List Value := [.string p.s, .int .i64 p.t, .int .i64 p.v, .int .i64 p.st.c, .int .i64 p.st.s, .int .i64 p.st.q]
/-- A point's six cells in block b from o on. -/
structure PtO (w : World) (b o : Nat) (p : Pt) : Prop where
  c0 : w.cell? ⟨b, o, none⟩ = some (.string p.s)
  c1 : w.cell? ⟨b, o + 1, none⟩ = some (.int .i64 p.t)
  c2 : w.cell? ⟨b, o + 2, none⟩ = some (.int .i64 p.v)
  c3 : w.cell? ⟨b, o + 3, none⟩ = some (.int .i64 p.st.c)
  c4 : w.cell? ⟨b, o + 4, none⟩ = some (.int .i64 p.st.s)
  c5 : w.cell? ⟨b, o + 5, none⟩ = some (.int .i64 p.st.q)
theorem PtO.room {w : World} {b o : Nat} {p : Pt} (h : PtO w b o p) : b < w.heap.size := World.block_lt_of_cell? w _ h.c0
theorem PtO.below {w w' : World} {b o B : Nat} {p : Pt} (h : PtO w b o p) (k : Below B w w') (hb : b < B) : PtO w' b o p :=
  ⟨(k.cell (p := ⟨b, o, none⟩) hb).trans h.c0, (k.cell (p := ⟨b, o + 1, none⟩) hb).trans h.c1, (k.cell (p := ⟨b, o + 2, none⟩) hb).trans h.c2, (k.cell (p := ⟨b, o + 3, none⟩) hb).trans h.c3, (k.cell (p := ⟨b, o + 4, none⟩) hb).trans h.c4, (k.cell (p := ⟨b, o + 5, none⟩) hb).trans h.c5⟩
theorem PtO.but {w w' : World} {b o d : Nat} {p : Pt} (h : PtO w b o p) (k : But d w w') (hd : b ≠ d) : PtO w' b o p :=
  ⟨(k.cell (p := ⟨b, o, none⟩) hd h.room).trans h.c0, (k.cell (p := ⟨b, o + 1, none⟩) hd h.room).trans h.c1, (k.cell (p := ⟨b, o + 2, none⟩) hd h.room).trans h.c2, (k.cell (p := ⟨b, o + 3, none⟩) hd h.room).trans h.c3, (k.cell (p := ⟨b, o + 4, none⟩) hd h.room).trans h.c4, (k.cell (p := ⟨b, o + 5, none⟩) hd h.room).trans h.c5⟩
/-- A slice of the points l, in a block below B. -/
structure Pts (w : World) (B : Nat) (a : Option Addr) (l : List Pt) : Prop where
  at_ : l = [] ∨ ∃ b off, a = some ⟨b, off, none⟩ ∧ b < B ∧ ∀ j (h : j < l.length), PtO w b (off + j * 6) l[j]
theorem Pts.below {w w' : World} {B : Nat} {a : Option Addr} {l : List Pt} (h : Pts w B a l) (k : Below B w w') : Pts w' B a l := by
  rcases h.at_ with h | ⟨b, off, e, hb, hc⟩
  · exact ⟨Or.inl h⟩
  · exact ⟨Or.inr ⟨b, off, e, hb, fun j hj => (hc j hj).below k hb⟩⟩
theorem Pts.mono {w : World} {B B' : Nat} {a : Option Addr} {l : List Pt} (h : Pts w B a l) (k : B ≤ B') : Pts w B' a l := by
  rcases h.at_ with h | ⟨b, off, e, hb, hc⟩
  · exact ⟨Or.inl h⟩
  · exact ⟨Or.inr ⟨b, off, e, by omega, hc⟩⟩
theorem Pts.but {w w' : World} {B d : Nat} {a : Option Addr} {l : List Pt} (h : Pts w B a l) (k : But d w w') (hd : B ≤ d) : Pts w' B a l := by
  rcases h.at_ with h | ⟨b, off, e, hb, hc⟩
  · exact ⟨Or.inl h⟩
  · exact ⟨Or.inr ⟨b, off, e, hb, fun j hj => (hc j hj).but k (by omega)⟩⟩
theorem Pts.take {w : World} {B : Nat} {a : Option Addr} {l : List Pt} (h : Pts w B a l) (n : Nat) : Pts w B a (l.take n) := by
  rcases h.at_ with h | ⟨b, off, e, hb, hc⟩
  · exact ⟨Or.inl (by rw [h]; simp)⟩
  · exact ⟨Or.inr ⟨b, off, e, hb, fun j hj => by rw [List.getElem_take]; exact hc j (by rw [List.length_take] at hj; omega)⟩⟩
/-- A slice of points that came in. -/
structure ArgPts (w : World) (a : Option Addr) (len cap : Nat) : Prop where
  has : ∃ l : List Pt, l.length = len ∧ Pts w w.heap.size a l ∧ len ≤ 9223372036854775807 ∧ ∀ p ∈ l, p.fits

theorem cellsP : Try.prog.cellsOf 55 = 6 := by kernel_rfl
theorem point_of_cells {H : Type} {enc : TypeId × Value → H} {w : World} {base : Nat} {sp : Nat → Bool} {hd : Bool} {n : Nat} {cs : List Value} {x : DataW H × List MemPlace} (hcs : cs.length = 6)
    (h : DataW.trod enc Try.prog w base sp hd n 55 cs = some x) : ∃ p : Pt, cs = cells6 p ∧ p.fits := by
  match cs, hcs with
  | [c0, c1, c2, c3, c4, c5], _ =>
    obtain ⟨y0, y1, y2, y3, m, _, _, h0, h1, h2, h3⟩ := Go.Joins.trod_struct4 Try.underlying55 h
    have hI : Try.prog.cellsOf 3 = 1 := by kernel_rfl
    have hJ : Try.prog.cellsOf 2 = 1 := by kernel_rfl
    have hT : Try.prog.cellsOf 9 = 1 := by kernel_rfl
    have hS : Try.prog.cellsOf 53 = 3 := by kernel_rfl
    simp only [hI, hJ, hT, hS, List.drop_zero, List.take_succ_cons, List.take_zero, List.drop_succ_cons] at h0 h1 h2 h3
    obtain ⟨s, e0, _, hs⟩ := DataW.trod_string Try.underlying9 h0
    obtain ⟨n1, e1, _, w1⟩ := DataW.trod_int Try.underlying3 h1
    obtain ⟨n2, e2, _, w2⟩ := DataW.trod_int Try.underlying2 h2
    obtain ⟨a, e3⟩ := stamp_of_cells rfl h3
    simp at e0 e1 e2 e3
    obtain ⟨e3, e4, e5⟩ := e3
    refine ⟨⟨s, n1, n2, a⟩, by rw [e0, e1, e2, e3, e4, e5]; rfl, ⟨by unfold maxLen at hs; omega, ?_, ?_⟩⟩
    · have := bounds_i64 w1; dsimp only; omega
    · have := bounds_i64 w2; dsimp only; omega
theorem argPts_of {H : Type} {enc : TypeId × Value → H} {w : World} {base fuel : Nat} {sp : Nat → Bool} {hd : Bool} {a : Option Addr} {len cap : Nat} {x : DataW H × List MemPlace}
    (h : DataW.trod enc Try.prog w base sp hd fuel 35 [.slice a len cap] = some x) : ArgPts w a len cap := by
  rcases Go.Deep.open_slice Try.underlying35 h with ⟨hcs, _⟩ | ⟨y, l, c, m, n, D, Pl, hcs, _, hl, hm, hmm, _, hel⟩
  · simp at hcs
    obtain ⟨rfl, rfl, rfl⟩ := hcs
    exact ⟨[], rfl, ⟨Or.inl rfl⟩, by omega, fun p hp => (by cases hp)⟩
  · simp at hcs
    obtain ⟨rfl, rfl, rfl⟩ := hcs
    by_cases h0 : len = 0
    · subst h0
      exact ⟨[], rfl, ⟨Or.inl rfl⟩, by omega, fun p hp => (by cases hp)⟩
    · have hlm : len ≤ m := by rw [hmm]; split <;> omega
      rw [cellsP] at hel
      have each : ∀ i, i < len → ∃ p : Pt, (w.cell? (y.add (i * 6)) = some (.string p.s) ∧ w.cell? ((y.add (i * 6)).add 1) = some (.int .i64 p.t) ∧ w.cell? ((y.add (i * 6)).add 2) = some (.int .i64 p.v) ∧ w.cell? ((y.add (i * 6)).add 3) = some (.int .i64 p.st.c) ∧ w.cell? ((y.add (i * 6)).add 4) = some (.int .i64 p.st.s) ∧ w.cell? ((y.add (i * 6)).add 5) = some (.int .i64 p.st.q)) ∧ p.fits := fun i hi => by
        obtain ⟨cs', h1, h2⟩ := hel i (by omega)
        obtain ⟨_, hlen, hget⟩ := World.cells?_some h1
        obtain ⟨p, rfl, hp⟩ := point_of_cells hlen h2
        have g0 := hget 0 (by omega)
        have g1 := hget 1 (by omega)
        have g2 := hget 2 (by omega)
        have g3 := hget 3 (by omega)
        have g4 := hget 4 (by omega)
        have g5 := hget 5 (by omega)
        simp [cells6] at g0 g1 g2 g3 g4 g5
        have z : ∀ q : Addr, q.add 0 = q := fun q => by unfold Addr.add; split <;> simp_all
        rw [z] at g0
        exact ⟨p, ⟨g0, g1, g2, g3, g4, g5⟩, hp⟩
      obtain ⟨b, off, spot⟩ := y
      have hspot : spot = none := by
        obtain ⟨p, ⟨c0, _⟩, _⟩ := each 0 (by omega)
        simpa [Addr.add] using World.cell?_spot c0
      subst hspot
      have hp : ∀ o j, (⟨b, o, none⟩ : Addr).add j = ⟨b, o + j, none⟩ := fun o j => by unfold Addr.add; split <;> simp_all
      have each2 : ∀ i, i < len → ∃ p : Pt, PtO w b (off + i * 6) p ∧ p.fits := fun i hi => by
        obtain ⟨p, ⟨g0, g1, g2, g3, g4, g5⟩, hf⟩ := each i hi
        rw [hp] at g0 g1 g2 g3 g4 g5
        rw [hp] at g1 g2 g3 g4 g5
        exact ⟨p, ⟨g0, g1, g2, g3, g4, g5⟩, hf⟩
      have hroom : b < w.heap.size := by
        obtain ⟨p, c0, _⟩ := each2 0 (by omega)
        exact c0.room
      refine ⟨(List.range len).map fun i => if hi : i < len then (each2 i hi).choose else Pt.zero, by simp, ⟨Or.inr ⟨b, off, rfl, hroom, fun j hj => ?_⟩⟩, by unfold maxLen at hm; omega, fun p hp => ?_⟩
      · simp at hj
        have e := (each2 j hj).choose_spec.1
        simp only [List.getElem_map, List.getElem_range, hj, dif_pos]
        exact e
      · obtain ⟨i, hi, rfl⟩ := List.mem_map.1 hp
        have hi2 := List.mem_range.1 hi
        rw [dif_pos hi2]
        exact (each2 i hi2).choose_spec.2

/-- A slice of points that the call has made above B. -/
theorem infoP : (Try.prog.info? 55).map (fun i => (i.zero, i.size, i.bytes)) = some (some (.agg #[.string ⟨#[]⟩, .int .i64 0, .int .i64 0, .int .i64 0, .int .i64 0, .int .i64 0]), 6, 56) := by kernel_rfl
theorem flat6_len (l : List Pt) : (l.flatMap cells6).length = l.length * 6 := by
  induction l with
  | nil => rfl
  | cons a t ih =>
    have e : (a :: t).flatMap cells6 = cells6 a ++ t.flatMap cells6 := by simp
    rw [e, List.length_append, ih, List.length_cons]
    show 6 + t.length * 6 = _
    omega
theorem flat6_at (l : List Pt) : ∀ i (h : i < l.length) r, r < 6 → (l.flatMap cells6)[i * 6 + r]? = (cells6 l[i])[r]? := by
  induction l with
  | nil => intro i h; simp at h
  | cons a t ih =>
    intro i h r hr
    have e : (a :: t).flatMap cells6 = cells6 a ++ t.flatMap cells6 := by simp
    have hl : (cells6 a).length = 6 := rfl
    rw [e]
    cases i with
    | zero =>
      rw [List.getElem?_append_left (by omega)]
      simp
    | succ i =>
      rw [List.getElem?_append_right (by omega), hl]
      have e2 : (i + 1) * 6 + r - 6 = i * 6 + r := by omega
      rw [e2, ih i (by simpa using h) r hr]
      simp
def PRow (w : World) (B : Nat) (v : Value) (xs : List Pt) : Prop := w.ownsRow B 55 6 v xs.length (xs.flatMap cells6)
theorem PRow.slice {w : World} {B : Nat} {v : Value} {xs : List Pt} (h : PRow w B v xs) : ∃ a c, v = .slice a xs.length c := by
  rcases h.2 with ⟨h, h0⟩ | ⟨g, cap, cur, h, _⟩
  · exact ⟨_, _, by rw [h, h0]⟩
  · exact ⟨_, _, h⟩
theorem PRow.nil (w : World) (B : Nat) : PRow w B (.slice none 0 0) [] := World.ownsRow_nil _ _ _ _
theorem PRow.later {w w' : World} {B : Nat} {v : Value} {xs : List Pt} (h : PRow w B v xs) (k : Below w.heap.size w w') : PRow w' B v xs := by
  obtain ⟨h1, h2⟩ := h
  refine ⟨h1, ?_⟩
  rcases h2 with h2 | ⟨g, cap, cur, e1, e2, e3, rest⟩
  · exact Or.inl h2
  · have hg : g < w.heap.size := (Array.getElem?_eq_some_iff.1 e3).1
    exact Or.inr ⟨g, cap, cur, e1, e2, (k.block g hg).trans e3, rest⟩
theorem PRow.but {w w' : World} {B d : Nat} {v : Value} {xs : List Pt} (h : PRow w B v xs) (k : But d w w') (hd : d < B) : PRow w' B v xs := by
  obtain ⟨h1, h2⟩ := h
  refine ⟨h1, ?_⟩
  rcases h2 with h2 | ⟨g, cap, cur, e1, e2, e3, rest⟩
  · exact Or.inl h2
  · have hg : g < w.heap.size := (Array.getElem?_eq_some_iff.1 e3).1
    exact Or.inr ⟨g, cap, cur, e1, e2, (k.block g hg (by omega)).trans e3, rest⟩
theorem PRow.pts {w : World} {B : Nat} {a : Option Addr} {n c : Nat} {xs : List Pt} (h : PRow w B (.slice a n c) xs) : Pts w w.heap.size a xs := by
  by_cases hz : xs = []
  · exact ⟨Or.inl hz⟩
  · have hp : 0 < xs.length := List.length_pos_iff.2 hz
    have h0 := h
    rcases h.2 with ⟨hv, h0⟩ | ⟨g, cap, cur, hv, _⟩
    · exact absurd (List.eq_nil_of_length_eq_zero h0) hz
    · injection hv with e1 e2 e3
      subst e1 e2 e3
      have e1 := World.ownsRow.cellAt (show w.ownsRow B 55 6 _ xs.length (xs.flatMap cells6) from h0)
      have c : ∀ j (hj : j < xs.length), PtO w g (0 + j * 6) xs[j] := fun j hj => by
        rw [Nat.zero_add]
        refine ⟨?_, ?_, ?_, ?_, ?_, ?_⟩
        · have := flat6_at xs j hj 0 (by omega)
          rw [Nat.add_zero] at this
          rw [e1 _ (by omega), this]; rfl
        · rw [e1 _ (by omega), flat6_at xs j hj 1 (by omega)]; rfl
        · rw [e1 _ (by omega), flat6_at xs j hj 2 (by omega)]; rfl
        · rw [e1 _ (by omega), flat6_at xs j hj 3 (by omega)]; rfl
        · rw [e1 _ (by omega), flat6_at xs j hj 4 (by omega)]; rfl
        · rw [e1 _ (by omega), flat6_at xs j hj 5 (by omega)]; rfl
      exact ⟨Or.inr ⟨g, 0, rfl, (c 0 hp).room, c⟩⟩
end Go.Proofs.Ytcjcbbpolhpphaa
