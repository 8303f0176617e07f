/- Calls that came in; the laws' own few and small. -/
import Derived.Test.YthifmfgnblecbaaOgOps
import Derived.Test.YthifmfgnblecbaaCbDuo
set_option maxRecDepth 20000
set_option linter.unusedSimpArgs false
set_option linter.unusedVariables false
namespace Go.Proofs.Ythifmfgnblecbaa.Og.Cb
open Go.ChangeShapes Go.WideShapes Go.ChangeAt Go.RowKit Go.Joins Go.Proofs.Ythifmfgnblecbaa.Vi Go.Proofs.Ythifmfgnblecbaa.Mk

theorem two_new9 : True := trivial
/-- A call: its kind and its record. -/
structure KOp where
  k : Int
  x : Rd
def KOp.cells (r : KOp) : List Value := [.int .i64 r.k, .int .i64 r.x.r.k, .string r.x.r.s, .int .i64 r.x.r.t, .int .i64 r.x.r.v, .int .i64 r.x.r.tier, .int .i64 r.x.r.st.c, .int .i64 r.x.r.st.s, .int .i64 r.x.r.st.q, .slice r.x.a r.x.r.d.length r.x.c]
abbrev boxK (r : KOp) : Obj := .cells #[.int .i64 r.k, .int .i64 r.x.r.k, .string r.x.r.s, .int .i64 r.x.r.t, .int .i64 r.x.r.v, .int .i64 r.x.r.tier, .int .i64 r.x.r.st.c, .int .i64 r.x.r.st.s, .int .i64 r.x.r.st.q, .slice r.x.a r.x.r.d.length r.x.c] 35
structure KOp.fits (r : KOp) (w : World) : Prop where
  k : -9223372036854775808 ≤ r.k ∧ r.k ≤ 9223372036854775807
  rc : r.x.r.wide
  d : ArgNs w r.x.dv r.x.r.d
abbrev KOP : TypeId := 35
theorem cellsKOp : Try.prog.cellsOf KOP = 10 := by kernel_rfl
theorem list10 {α : Type} {l : List α} (h : l.length = 10) : ∃ c0 c1 c2 c3 c4 c5 c6 c7 c8 c9, l = [c0, c1, c2, c3, c4, c5, c6, c7, c8, c9] := by
  match l, h with
  | [c0, c1, c2, c3, c4, c5, c6, c7, c8, c9], _ => exact ⟨c0, c1, c2, c3, c4, c5, c6, c7, c8, c9, rfl⟩
theorem trod_struct2 {H : Type} {enc : TypeId × Value → H} {P : Program} {w : World} {base : Nat} {spare : Nat → Bool} {held : Bool} {t : TypeId} {f0 f1 : Field} {fuel : Nat} {cs : List Value} {x : DataW H × List MemPlace} (ht : P.underlying t = some (.struct #[f0, f1])) (h : DataW.trod enc P w base spare held fuel t cs = some x) :
    ∃ y0 y1 n, DataW.trod enc P w base spare held n f0.type ((cs.drop f0.offset).take (P.cellsOf f0.type)) = some y0 ∧ DataW.trod enc P w base spare held n f1.type ((cs.drop f1.offset).take (P.cellsOf f1.type)) = some y1 := by
  obtain ⟨xs, n, _, rfl, hl, hlen, hf⟩ := DataW.trod_struct ht h
  match xs, hlen with
  | [y0, y1], _ => exact ⟨y0, y1, n, by simpa using hf 0 f0 rfl, by simpa using hf 1 f1 rfl⟩
theorem kop_of_cells {H : Type} {enc : TypeId × Value → H} {w : World} {base : Nat} {sp : Nat → Bool} {hd : Bool} {n : Nat} {cs : List Value} {x : DataW H × List MemPlace} (hcs : cs.length = 10)
    (h : DataW.trod enc Try.prog w base sp hd n KOP cs = some x) : ∃ r : KOp, cs = r.cells ∧ r.fits w := by
  obtain ⟨c0, c1, c2, c3, c4, c5, c6, c7, c8, c9, rfl⟩ := list10 hcs
  obtain ⟨y0, y1, m, h0, h1⟩ := trod_struct2 Try.underlying35 h
  have hI : Try.prog.cellsOf 3 = 1 := by kernel_rfl
  have hP : Try.prog.cellsOf 33 = 9 := by kernel_rfl
  simp only [hI, hP, List.drop_zero, List.take_succ_cons, List.take_zero, List.drop_succ_cons] at h0 h1
  obtain ⟨n0, e0, _, w0⟩ := DataW.trod_int Try.underlying3 h0
  obtain ⟨y, e3, hw, hd3⟩ := rec_of_cells rfl h1
  simp at e0
  simp [cells9] at e3
  obtain ⟨f0, f1, f2, f3, f4, f5, f6, f7, f8⟩ := e3
  exact ⟨⟨n0, y⟩, by rw [e0, f0, f1, f2, f3, f4, f5, f6, f7, f8]; rfl, ⟨bounds_i64 w0, hw, hd3⟩⟩
/-- A call's ten cells. -/
structure KOpO (w : World) (b o : Nat) (x : KOp) : Prop where
  c0 : w.cell? ⟨b, o, none⟩ = some (.int .i64 x.k)
  c1 : w.cell? ⟨b, o + 1, none⟩ = some (.int .i64 x.x.r.k)
  c2 : w.cell? ⟨b, o + 2, none⟩ = some (.string x.x.r.s)
  c3 : w.cell? ⟨b, o + 3, none⟩ = some (.int .i64 x.x.r.t)
  c4 : w.cell? ⟨b, o + 4, none⟩ = some (.int .i64 x.x.r.v)
  c5 : w.cell? ⟨b, o + 5, none⟩ = some (.int .i64 x.x.r.tier)
  c6 : w.cell? ⟨b, o + 6, none⟩ = some (.int .i64 x.x.r.st.c)
  c7 : w.cell? ⟨b, o + 7, none⟩ = some (.int .i64 x.x.r.st.s)
  c8 : w.cell? ⟨b, o + 8, none⟩ = some (.int .i64 x.x.r.st.q)
  c9 : w.cell? ⟨b, o + 9, none⟩ = some (.slice x.x.a x.x.r.d.length x.x.c)
theorem KOpO.other {w w' : World} {b o : Nat} {x : KOp} (h : KOpO w b o x) (k : w'.heap[b]? = w.heap[b]?) : KOpO w' b o x :=
  have f : ∀ j, w'.cell? ⟨b, j, none⟩ = w.cell? ⟨b, j, none⟩ := fun j => World.cell?_of_block (w := w) (a := ⟨b, j, none⟩) k
  ⟨(f _).trans h.c0, (f _).trans h.c1, (f _).trans h.c2, (f _).trans h.c3, (f _).trans h.c4, (f _).trans h.c5, (f _).trans h.c6, (f _).trans h.c7, (f _).trans h.c8, (f _).trans h.c9⟩
theorem KOpO.room {w : World} {b o : Nat} {x : KOp} (h : KOpO w b o x) : b < w.heap.size := World.block_lt_of_cell? w _ h.c0
theorem KOpO.below {w w' : World} {b o B : Nat} {x : KOp} (h : KOpO w b o x) (k : Below B w w') (hb : b < B) : KOpO w' b o x := h.other (k.block b hb)
theorem KOpO.new (w : World) (x : KOp) : KOpO (w.alloc (boxK x)) w.heap.size 0 x := by constructor <;> simp [go_sem]
/-- A slice of calls that came in. -/
structure ArgKOps (w : World) (a : Option Addr) (len cap : Nat) : Prop where
  has : ∃ l : List KOp, l.length = len ∧ (l = [] ∨ ∃ b off, a = some ⟨b, off, none⟩ ∧ b < w.heap.size ∧ ∀ j (h : j < l.length), KOpO w b (off + j * 10) l[j]) ∧ len ≤ 9223372036854775807 ∧ ∀ r ∈ l, r.fits w
theorem argKOps_of {H : Type} {enc : TypeId × Value → H} {w : World} {base fuel : Nat} {sp : Nat → Bool} {hd : Bool} {a : Option Addr} {len cap : Nat} {x : DataW H × List MemPlace}
    (h : DataW.trod enc Try.prog w base sp hd fuel 23 [.slice a len cap] = some x) : ArgKOps w a len cap := by
  rcases Go.Deep.open_slice Try.underlying23 h with ⟨hcs, _⟩ | ⟨y, l, c, m, n, D, Pl, hcs, _, hl, hm, hmm, _, hel⟩
  · simp at hcs
    obtain ⟨rfl, rfl, rfl⟩ := hcs
    exact ⟨[], rfl, Or.inl rfl, by omega, by simp⟩
  · simp at hcs
    obtain ⟨rfl, rfl, rfl⟩ := hcs
    by_cases h0 : len = 0
    · subst h0
      exact ⟨[], rfl, Or.inl rfl, by omega, by simp⟩
    · have hlm : len ≤ m := by rw [hmm]; split <;> omega
      rw [cellsKOp] at hel
      have z : ∀ q : Addr, q.add 0 = q := fun q => by unfold Addr.add; split <;> simp_all
      have each : ∀ i, i < len → ∃ o : KOp, o.fits w ∧ ∀ j (hj : j < 10), w.cell? ((y.add (i * 10)).add j) = o.cells[j]? := fun i hi => by
        obtain ⟨cs', h1, h2⟩ := hel i (by omega)
        obtain ⟨_, hlen, hget⟩ := World.cells?_some h1
        obtain ⟨st, rfl, hfit⟩ := kop_of_cells hlen h2
        exact ⟨st, hfit, fun j hj => (hget j (by omega)).trans (by simp)⟩
      obtain ⟨b, off, spot⟩ := y
      have hspot : spot = none := by
        obtain ⟨st, _, c0⟩ := each 0 (by omega)
        have c0 := c0 0 (by omega)
        rw [z] at c0
        simpa [Addr.add] using World.cell?_spot (show w.cell? _ = some (.int .i64 st.k) from c0)
      subst hspot
      have hp : ∀ o j, (⟨b, o, none⟩ : Addr).add j = ⟨b, o + j, none⟩ := fun o j => by unfold Addr.add; split <;> simp_all
      have each2 : ∀ i, i < len → ∃ st : KOp, st.fits w ∧ KOpO w b (off + i * 10) st := fun i hi => by
        obtain ⟨st, hfit, g⟩ := each i hi
        rw [hp] at g
        simp only [hp] at g
        exact ⟨st, hfit, ⟨g 0 (by omega), g 1 (by omega), g 2 (by omega), g 3 (by omega), g 4 (by omega), g 5 (by omega), g 6 (by omega), g 7 (by omega), g 8 (by omega), g 9 (by omega)⟩⟩
      have hroom : b < w.heap.size := by
        obtain ⟨st, _, c0⟩ := each2 0 (by omega)
        exact World.block_lt_of_cell? w _ c0.c0
      refine ⟨(List.range len).map fun i => if hi : i < len then (each2 i hi).choose else ⟨0, ⟨Rec.zero, none, 0⟩⟩, by simp, Or.inr ⟨b, off, rfl, hroom, fun j hj => ?_⟩, by unfold maxLen at hm; omega, fun o ho => ?_⟩
      · simp at hj
        have e := (each2 j hj).choose_spec.2
        simp only [List.getElem_map, List.getElem_range, hj, dif_pos]
        exact e
      · rw [List.mem_map] at ho
        obtain ⟨i, hi, rfl⟩ := ho
        have hi2 : i < len := List.mem_range.1 hi
        rw [dif_pos hi2]
        exact (each2 i hi2).choose_spec.1
/-- few: a shorter slice of the same block. -/
theorem few18 (a : Option Addr) (cap : Nat) (l : List Int) (w : World) (h : ArgNs w (.slice a l.length cap) l) : Calls Try.prog 10 #[.slice a l.length cap] w fun e w' => e = .returned (.slice a (l.take 12).length cap) ∧ Ns w (.slice a (l.take 12).length cap) (l.take 12) ∧ w = w' := by
  have hsz := h.ns.size
  obtain ⟨a', len', cap', he, hlc⟩ := h.cap.out
  injection he with e1 e2 e3
  subst e1 e2 e3
  by_cases h12 : (12 : Int) < (l.length : Int)
  · have hl : (l.take 12).length = 12 := by rw [List.length_take]; omega
    have hN : Ns w (.slice a 12 cap) (l.take 12) := by
      obtain ⟨⟨a2, cap2, he, hc⟩, hw, _, hr⟩ := h.ns
      injection he with e1 e2 e3
      subst e1 e3
      refine ⟨⟨a, cap, by rw [hl], ?_⟩, fun n hn => hw n (List.mem_of_mem_take hn), by omega, hr⟩
      rcases hc with rfl | ⟨b, off, h3, h4, h5⟩
      · simp at h12
      · refine Or.inr ⟨b, off, h3, h4, fun j hj => ?_⟩
        rw [List.getElem_take]; exact h5 j (by omega)
    have HN := Lib.hid hN
    have hcap : (12 : Int) ≤ (cap : Int) := by omega
    rw [hl]
    clear h hN hl
    go_enter Try.func10, Try.ntmps10
    go_wp2
    go_ret
    exact ⟨rfl, HN.out, rfl⟩
  · have e : l.take 12 = l := List.take_of_length_le (by omega)
    rw [e]
    have HN := Lib.hid h.ns
    clear h e
    go_enter Try.func10, Try.ntmps10
    go_wp2
    go_ret
    exact ⟨rfl, HN.out, rfl⟩
/-- small: a shorter name, fewer numbers. -/
def smallR (x : Rd) : Rd := ⟨x.r.small, x.a, x.c⟩
def Small18 (x : Rd) (w : World) (e : Ending) (w' : World) : Prop := e = .returned (recV (smallR x).r (smallR x).dv) ∧ Ns w' (smallR x).dv (smallR x).r.d ∧ Below w.heap.size w w'
set_option maxHeartbeats 2000000 in
theorem small18 (x : Rd) (w : World) (h : ArgNs w x.dv x.r.d) (hs : x.r.s.size ≤ 9223372036854775807) : Calls Try.prog 15 #[recV x.r x.dv] w (Small18 x w) := by
  obtain ⟨⟨k, s, t, v, tier, ⟨c, st, q⟩, d⟩, a, cap⟩ := x
  unfold Rd.dv recV at *
  dsimp only at *
  obtain ⟨a', len', cap', he, hlc⟩ := h.cap.out
  injection he with e1 e2 e3
  subst e1 e2 e3
  have hal := ((Below.refl w.heap.size w).alloc (Nat.le_refl _) (.cells #[.int .i64 k, .string s, .int .i64 t, .int .i64 v, .int .i64 tier, .int .i64 c, .int .i64 st, .int .i64 q, .slice a d.length cap] 33)).alloc (by simp) (.cells #[.int .i64 0, .string ⟨#[]⟩, .int .i64 0, .int .i64 0, .int .i64 0, .int .i64 0, .int .i64 0, .int .i64 0, .slice none 0 0] 33)
  have kf := fun (W : World) (hW : Below w.heap.size w W) => few18 a cap d W ⟨Ns.later h.ns hW, h.cap⟩
  have HKF := Lib.hid kf
  obtain ⟨m, hm⟩ : ∃ m, (d.take 12).length = m := ⟨_, rfl⟩
  have HN := Lib.hid (show Ns w (.slice a m cap) (d.take 12) from by
    have e := (Go.Proofs.Ythifmfgnblecbaa.Og.take12 h)
    rw [hm] at e; exact e)
  have hds := h.ns.size
  rw [hm] at HKF
  have HM := Lib.hid hm
  clear h kf hal hm
  by_cases h60 : (60 : Int) < (s.size : Int)
  · have hc : cutB s 60 = s.extract 0 60 := by unfold cutB; first | rw [if_pos (by omega)] | rw [if_neg (by omega)]
    have HC := Lib.hid hc
    clear hc
    go_enter Try.func15, Try.ntmps15
    go_wp2_with (go_at_call 10; (with_reducible refine (HKF.out _ (two_new w _ _)).mono ?_); rintro e w2 ⟨rfl, hn2, rfl⟩; (have HN2 := Lib.hid hn2); clear hn2)
    refine bodyPost_ret (v := .agg #[.int .i64 k, .string (s.extract 0 60), .int .i64 t, .int .i64 v, .int .i64 tier, .int .i64 c, .int .i64 st, .int .i64 q, .slice a m cap]) (by simp [results, Try.results15, go_sem]; try rfl) rfl ⟨?_, ?_, two_new w _ _⟩
    · unfold recV smallR Rec.small Rd.dv
      dsimp only
      rw [HC.out, HM.out]
    · show Ns _ (.slice a (d.take 12).length cap) (d.take 12)
      rw [HM.out]
      exact Ns.later HN.out (two_new w _ _)
  · have hc : cutB s 60 = s := by unfold cutB; first | rw [if_neg (by omega)] | rw [if_pos (by omega)]
    have HC := Lib.hid hc
    clear hc
    go_enter Try.func15, Try.ntmps15
    go_wp2_with (go_at_call 10; (with_reducible refine (HKF.out _ (two_new w _ _)).mono ?_); rintro e w2 ⟨rfl, hn2, rfl⟩; (have HN2 := Lib.hid hn2); clear hn2)
    refine bodyPost_ret (v := .agg #[.int .i64 k, .string s, .int .i64 t, .int .i64 v, .int .i64 tier, .int .i64 c, .int .i64 st, .int .i64 q, .slice a m cap]) (by simp [results, Try.results15, go_sem]; try rfl) rfl ⟨?_, ?_, two_new w _ _⟩
    · unfold recV smallR Rec.small Rd.dv
      dsimp only
      rw [HC.out, HM.out]
    · show Ns _ (.slice a (d.take 12).length cap) (d.take 12)
      rw [HM.out]
      exact Ns.later HN.out (two_new w _ _)

end Go.Proofs.Ythifmfgnblecbaa.Og.Cb
