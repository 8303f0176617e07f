/- Slices of records that begin anywhere in their row: read, appended to, cut, cleared. -/
import Derived.Test.YthifmfgnblecbaaOgMath
import Derived.Test.YthifmfgnblecbaaMarkB
import Derived.Test.YthifmfgnblecbaaSampleG
import Derived.Deep.AppendSrc
import Derived.Deep.Upon
import Derived.Deep.MidRow
import Derived.Lib.SliceRun
import Derived.Lib.SmallJoins
import Derived.OwnWalk
set_option maxRecDepth 20000
set_option linter.unusedSimpArgs false
set_option linter.unusedVariables false
namespace Go.Proofs.Ythifmfgnblecbaa.Og
open Go.RowKit Go.Proofs.Ythifmfgnblecbaa.Vi Go.Proofs.Ythifmfgnblecbaa.Mk

/-- A record and where its numbers lie. -/
structure Rd where
  r : Rec
  a : Option Addr
  c : Nat
def Rd.dv (x : Rd) : Value := .slice x.a x.r.d.length x.c
def cells9 (x : Rd) : List Value := [.int .i64 x.r.k, .string x.r.s, .int .i64 x.r.t, .int .i64 x.r.v, .int .i64 x.r.tier, .int .i64 x.r.st.c, .int .i64 x.r.st.s, .int .i64 x.r.st.q, .slice x.a x.r.d.length x.c]
abbrev box9 (x : Rd) : Obj := .cells #[.int .i64 x.r.k, .string x.r.s, .int .i64 x.r.t, .int .i64 x.r.v, .int .i64 x.r.tier, .int .i64 x.r.st.c, .int .i64 x.r.st.s, .int .i64 x.r.st.q, .slice x.a x.r.d.length x.c] 33
theorem flat9_len (l : List Rd) : (l.flatMap cells9).length = l.length * 9 := by
  induction l with
  | nil => rfl
  | cons a t ih =>
    have e : (a :: t).flatMap cells9 = cells9 a ++ t.flatMap cells9 := by simp
    rw [e, List.length_append, ih, List.length_cons]
    show 9 + t.length * 9 = _
    omega
theorem flat9_at (l : List Rd) : ∀ i (h : i < l.length) r, r < 9 → (l.flatMap cells9)[i * 9 + r]? = (cells9 l[i])[r]? := by
  induction l with
  | nil => intro i h; simp at h
  | cons a t ih =>
    intro i h r hr
    have e : (a :: t).flatMap cells9 = cells9 a ++ t.flatMap cells9 := by simp
    have hl : (cells9 a).length = 9 := rfl
    rw [e]
    cases i with
    | zero =>
      rw [List.getElem?_append_left (by omega)]
      simp
    | succ i =>
      rw [List.getElem?_append_right (by omega), hl]
      have e2 : (i + 1) * 9 + r - 9 = i * 9 + r := by omega
      rw [e2, ih i (by simpa using h) r hr]
      simp
theorem cells9_one {l : List Rd} {u : Value} (h : u ∈ l.flatMap cells9) : u.oneCell' = true := by
  obtain ⟨p, _, hu⟩ := List.mem_flatMap.1 h
  simp [cells9] at hu
  rcases hu with rfl | rfl | rfl | rfl | rfl | rfl | rfl | rfl | rfl <;> rfl
/-- The nine cells of a record in block g from o on. -/
structure R9 (w : World) (g o : Nat) (x : Rd) : Prop where
  c0 : w.cell? ⟨g, o, none⟩ = some (.int .i64 x.r.k)
  c1 : w.cell? ⟨g, o + 1, none⟩ = some (.string x.r.s)
  c2 : w.cell? ⟨g, o + 2, none⟩ = some (.int .i64 x.r.t)
  c3 : w.cell? ⟨g, o + 3, none⟩ = some (.int .i64 x.r.v)
  c4 : w.cell? ⟨g, o + 4, none⟩ = some (.int .i64 x.r.tier)
  c5 : w.cell? ⟨g, o + 5, none⟩ = some (.int .i64 x.r.st.c)
  c6 : w.cell? ⟨g, o + 6, none⟩ = some (.int .i64 x.r.st.s)
  c7 : w.cell? ⟨g, o + 7, none⟩ = some (.int .i64 x.r.st.q)
  c8 : w.cell? ⟨g, o + 8, none⟩ = some (.slice x.a x.r.d.length x.c)
theorem R9.room {w : World} {g o : Nat} {x : Rd} (h : R9 w g o x) : g < w.heap.size := World.block_lt_of_cell? w _ h.c0
theorem R9.other {w w' : World} {g o : Nat} {x : Rd} (h : R9 w g o x) (k : w'.heap[g]? = w.heap[g]?) : R9 w' g o x :=
  ⟨(World.cell?_of_block (w := w) k).trans h.c0, (World.cell?_of_block (w := w) k).trans h.c1, (World.cell?_of_block (w := w) k).trans h.c2, (World.cell?_of_block (w := w) k).trans h.c3, (World.cell?_of_block (w := w) k).trans h.c4, (World.cell?_of_block (w := w) k).trans h.c5, (World.cell?_of_block (w := w) k).trans h.c6, (World.cell?_of_block (w := w) k).trans h.c7, (World.cell?_of_block (w := w) k).trans h.c8⟩
theorem R9.later {w w' : World} {g o : Nat} {x : Rd} (h : R9 w g o x) (k : Below w.heap.size w w') : R9 w' g o x := h.other (k.block _ h.room)
theorem R9.new (w : World) (x : Rd) : R9 (w.alloc (box9 x)) w.heap.size 0 x := by constructor <;> simp [go_sem]
theorem R9.recAt {w : World} {g : Nat} {x : Rd} (h : R9 w g 0 x) : RecAt w g x.r x.dv := ⟨h.c0, by simpa using h.c1, by simpa using h.c2, by simpa using h.c3, by simpa using h.c4, by simpa using h.c5, by simpa using h.c6, by simpa using h.c7, by simpa [Rd.dv] using h.c8⟩

/-- v is a slice of the records zs; its row lies above B, may be written as far as its capacity goes, and v may begin anywhere in it. -/
def ORow (w : World) (B : Nat) (v : Value) (zs : List Rd) : Prop := (v = .slice none 0 0 ∧ zs = []) ∨ ∃ g off cap cur, v = .slice (some ⟨g, off, none⟩) zs.length cap ∧ B ≤ g ∧ w.heap[g]? = some (.cells cur 33 (0, 0)) ∧ zs.length ≤ cap ∧ cap ≤ maxLen ∧ off + cap * 9 ≤ cur.size ∧
  ∀ j u, (zs.flatMap cells9)[j]? = some u → cur[off + j]? = some u
theorem ORow.nil (w : World) (B : Nat) : ORow w B (.slice none 0 0) [] := Or.inl ⟨rfl, rfl⟩
theorem ORow.slice {w : World} {B : Nat} {v : Value} {zs : List Rd} (h : ORow w B v zs) : ∃ a c, v = .slice a zs.length c := by
  rcases h with ⟨rfl, rfl⟩ | ⟨g, off, cap, cur, h, _⟩
  · exact ⟨_, _, rfl⟩
  · exact ⟨_, _, h⟩
theorem ORow.typed {w : World} {B : Nat} {v : Value} {zs : List Rd} (h : ORow w B v zs) {k : Nat} (hk : v.ownBlock = some k) : B ≤ k ∧ ∃ cur, w.heap[k]? = some (.cells cur 33 (0, 0)) := by
  rcases h with ⟨rfl, rfl⟩ | ⟨g, off, cap, cur, rfl, h1, h2, _⟩
  · cases hk
  · injection hk with e; dsimp only at e; subst e; exact ⟨h1, _, h2⟩
theorem ORow.lt {w : World} {B : Nat} {v : Value} {zs : List Rd} (h : ORow w B v zs) {k : Nat} (hk : v.ownBlock = some k) : B ≤ k ∧ k < w.heap.size := by
  obtain ⟨h1, cur, h2⟩ := h.typed hk
  exact ⟨h1, (Array.getElem?_eq_some_iff.1 h2).1⟩
theorem ORow.other {w w' : World} {B : Nat} {v : Value} {zs : List Rd} (h : ORow w B v zs) (k : ∀ g, v.ownBlock = some g → w'.heap[g]? = w.heap[g]?) : ORow w' B v zs := by
  rcases h with h | ⟨g, off, cap, cur, rfl, h1, h2, h3⟩
  · exact Or.inl h
  · exact Or.inr ⟨g, off, cap, cur, rfl, h1, (k g rfl).trans h2, h3⟩
theorem ORow.later {w w' : World} {B : Nat} {v : Value} {zs : List Rd} (h : ORow w B v zs) (k : Below w.heap.size w w') : ORow w' B v zs := h.other fun g hg => k.block g (h.lt hg).2
theorem ORow.base {w : World} {B B' : Nat} {v : Value} {zs : List Rd} (h : ORow w B v zs) (k : B' ≤ B) : ORow w B' v zs := by
  rcases h with h | ⟨g, off, cap, cur, rfl, h1, h2⟩
  · exact Or.inl h
  · exact Or.inr ⟨g, off, cap, cur, rfl, Nat.le_trans k h1, h2⟩
theorem ORow.cell {w : World} {B : Nat} {a : Option Addr} {n c : Nat} {zs : List Rd} (h : ORow w B (.slice a n c) zs) (h0 : 0 < zs.length) : ∃ g off, a = some ⟨g, off, none⟩ ∧ n = zs.length ∧ B ≤ g ∧ g < w.heap.size ∧ ∀ j (hj : j < zs.length), R9 w g (off + j * 9) zs[j] := by
  rcases h with ⟨_, rfl⟩ | ⟨g, off, cap, cur, hv, hB, hh, hn, hm, hs, ht⟩
  · simp at h0
  · injection hv with e1 e2 e3
    subst e1 e2 e3
    have e1 : ∀ j r (hj : j < zs.length), r < 9 → w.cell? ⟨g, off + j * 9 + r, none⟩ = (cells9 zs[j])[r]? := fun j r hj hr => by
      rw [Joins.cell_of_block hh]
      have e := flat9_at zs j hj r hr
      obtain ⟨u, hu⟩ : ∃ u, (cells9 zs[j])[r]? = some u := ⟨_, List.getElem?_eq_getElem (l := cells9 zs[j]) (i := r) (show r < 9 from hr)⟩
      rw [hu] at e ⊢
      have := ht _ _ e
      rw [show off + j * 9 + r = off + (j * 9 + r) by omega]
      exact this
    refine ⟨g, off, rfl, rfl, hB, (Array.getElem?_eq_some_iff.1 hh).1, fun j hj => ⟨?_, ?_, ?_, ?_, ?_, ?_, ?_, ?_, ?_⟩⟩
    · have := e1 j 0 hj (by omega)
      rw [Nat.add_zero] at this
      rw [this]; rfl
    · rw [e1 j 1 hj (by omega)]; rfl
    · rw [e1 j 2 hj (by omega)]; rfl
    · rw [e1 j 3 hj (by omega)]; rfl
    · rw [e1 j 4 hj (by omega)]; rfl
    · rw [e1 j 5 hj (by omega)]; rfl
    · rw [e1 j 6 hj (by omega)]; rfl
    · rw [e1 j 7 hj (by omega)]; rfl
    · rw [e1 j 8 hj (by omega)]; rfl
/-- Cells stored one behind the other into a block that is known whole. -/
theorem setCells_row {T : TypeId} (g : Nat) : ∀ (vs : List Value) (o : Nat) (w : World) (cur : Array Value), w.heap[g]? = some (.cells cur T (0, 0)) → o + vs.length ≤ cur.size →
    ∃ cur', (w.setCells g o vs).heap[g]? = some (.cells cur' T (0, 0)) ∧ cur'.size = cur.size ∧ (∀ i, i < o ∨ o + vs.length ≤ i → cur'[i]? = cur[i]?) ∧ ∀ j (h : j < vs.length), cur'[o + j]? = some vs[j]
  | [], o, w, cur, hg, _ => ⟨cur, hg, rfl, fun _ _ => rfl, fun j h => absurd h (Nat.not_lt_zero _)⟩
  | v :: r, o, w, cur, hg, hs => by
    have h1 := Joins.block_setCell (i := o) hg v
    obtain ⟨cur', e1, e2, e3, e4⟩ := setCells_row g r (o + 1) _ _ h1 (by rw [Array.size_setIfInBounds]; simp at hs; omega)
    rw [Array.size_setIfInBounds] at e2
    simp only [List.length_cons] at hs ⊢
    refine ⟨cur', e1, e2, fun i hi => ?_, fun j hj => ?_⟩
    · rw [e3 i (by omega), Array.getElem?_setIfInBounds, if_neg (by omega)]
    · cases j with
      | zero =>
        rw [Nat.add_zero, e3 o (by omega), Array.getElem?_setIfInBounds, if_pos rfl, if_pos (by omega)]; rfl
      | succ j =>
        have := e4 j (by simpa using hj)
        rw [show o + (j + 1) = o + 1 + j by omega, this]; rfl
theorem infoR : (Try.prog.info? 33).map (fun i => (i.zero, i.size, i.bytes)) = some (some (.agg #[.int .i64 0, .string ⟨#[]⟩, .int .i64 0, .int .i64 0, .int .i64 0, .int .i64 0, .int .i64 0, .int .i64 0, .slice none 0 0]), 9, 96) := by kernel_rfl
theorem undR : Try.prog.underlying 43 = some (.slice 33) := Try.underlying43
theorem setCells_size2 (g : Nat) : ∀ (vs : List Value) (o : Nat) (w : World), (w.setCells g o vs).heap.size = w.heap.size ∧ (w.setCells g o vs).tape = w.tape
  | [], _, _ => ⟨rfl, rfl⟩
  | v :: r, o, w => by
    obtain ⟨h1, h2⟩ := setCells_size2 g r (o + 1) (w.setCell ⟨g, o, none⟩ v)
    exact ⟨h1.trans (by simp), h2.trans (by rfl)⟩
theorem setCells_grown (w : World) (g o : Nat) (vs : List Value) : w.grownBy (w.setCells g o vs) (some g) :=
  ⟨World.os_setCells _ _ _ _, (setCells_size2 g _ _ _).2, World.output_setCells _ _ _ _, by rw [(setCells_size2 g _ _ _).1]; exact Nat.le_refl _, fun k hk hne => World.heap_setCells_other w g _ _ hk (fun e => hne (by rw [e]))⟩
theorem drew_alloc_grown (w : World) (o : Obj) (row : Option Nat) : w.grownBy (w.drew.alloc o) row :=
  have k : Below w.heap.size w (w.drew.alloc o) := (Below.refl _ _).drew.alloc (Nat.le_refl _) o
  ⟨k.os, k.tape, k.output, k.size, fun i hi _ => k.block i hi⟩
/-- append(l, y), y a composed record in block N, as an equation. -/
theorem ORow.app {w : World} {B r N : Nat} {v : Value} {zs : List Rd} {y : Rd} (ty : TypeId) (hr : zs.length = r) (hR : ORow w B v zs) (hy : R9 w N 0 y) (hlen : r + 1 ≤ 1000000) (hB : B ≤ w.heap.size) :
    ∃ a' c' w', (Builtin.append_ #[43, 43] ty #[v, .slice (some ⟨N, 0, none⟩) 1 1]).run Try.prog w = .ok (.slice a' (r + 1) c') w' ∧ ORow w' B (.slice a' (r + 1) c') (zs ++ [y]) ∧ w.grownBy w' v.ownBlock ∧ (∀ k, (Value.slice a' (r + 1) c').ownBlock = some k → v.ownBlock = some k ∨ w.heap.size ≤ k) := by
  obtain ⟨i0, hi, hz0, hz1, hz2⟩ := info_parts infoR
  have hl : (zs ++ [y]).length = r + 1 := by rw [List.length_append, hr]; rfl
  have hsrc : ∀ j u, (cells9 y)[j]? = some u → w.cell? ((⟨N, 0, none⟩ : Addr).add j) = some u := by
    intro j u hj
    have hjl : j < 9 := by have := (List.getElem?_eq_some_iff.1 hj).1; simpa [cells9] using this
    rw [show ((⟨N, 0, none⟩ : Addr).add j) = ⟨N, 0 + j, none⟩ from by unfold Addr.add; split <;> simp_all]
    obtain ⟨c0, c1, c2, c3, c4, c5, c6, c7, c8⟩ := hy
    match j, hjl with
    | 0, _ => simp [cells9] at hj; subst hj; exact c0
    | 1, _ => simp [cells9] at hj; subst hj; exact c1
    | 2, _ => simp [cells9] at hj; subst hj; exact c2
    | 3, _ => simp [cells9] at hj; subst hj; exact c3
    | 4, _ => simp [cells9] at hj; subst hj; exact c4
    | 5, _ => simp [cells9] at hj; subst hj; exact c5
    | 6, _ => simp [cells9] at hj; subst hj; exact c6
    | 7, _ => simp [cells9] at hj; subst hj; exact c7
    | 8, _ => simp [cells9] at hj; subst hj; exact c8
  have hS : Src Try.prog i0.size 43 (.slice (some ⟨N, 0, none⟩) 1 1) 1 (cells9 y) w := Src.ofSlice (w := w) undR ⟨N, 0, none⟩ 1 1 (cells9 y) (by rw [hz1]; rfl) hsrc (fun u hu => cells9_one (l := [y]) (by simpa using hu))
  have grow : ∀ (bs : Option Addr) (sc : Nat), v = .slice bs r sc → sc < r + 1 → sc ≤ r → (Builtin.firstCells i0.size r (.slice bs r sc)).run Try.prog w.drew = .ok (zs.flatMap cells9).toArray w.drew →
      ∃ a' c' w', (Builtin.append_ #[43, 43] ty #[v, .slice (some ⟨N, 0, none⟩) 1 1]).run Try.prog w = .ok (.slice a' (r + 1) c') w' ∧ ORow w' B (.slice a' (r + 1) c') (zs ++ [y]) ∧ w.grownBy w' v.ownBlock ∧ (∀ k, (Value.slice a' (r + 1) c').ownBlock = some k → v.ownBlock = some k ∨ w.heap.size ≤ k) := by
    rintro bs sc rfl hsc hsc2 hold
    have hrun := run_append_grow_src (P := Try.prog) w 43 43 ty 33 i0 _ undR hi hz0 bs r sc _ hold _ 1 _ hS (by omega) (by omega) (by rw [hz2]; exact growslice_fits (by omega) (by omega))
    have hge := grownCap_ge w (r + 1) sc 33
    have hcm : grownCap w (r + 1) sc 33 ≤ maxLen := grownCap_le_maxLen w _ _ _ (by unfold maxLen; omega)
    obtain ⟨cp, hcp⟩ : ∃ cp, grownCap w (r + 1) sc 33 = cp := ⟨_, rfl⟩
    rw [hcp] at hrun hge hcm
    refine ⟨_, _, _, hrun, Or.inr ⟨w.heap.size, 0, cp, _, by rw [hl], hB, heap_alloc_new w.drew _, by rw [hl]; exact hge, hcm, ?_, fun j u hu => ?_⟩, drew_alloc_grown _ _ _, fun k hk => ?_⟩
    · simp only [Array.size_append, List.size_toArray, size_zeroCells, List.length_append, flat9_len]
      show 0 + cp * 9 ≤ zs.length * 9 + 9 + (cp - (r + 1)) * 9
      omega
    · rw [Nat.zero_add]
      rw [List.flatMap_append] at hu
      have hu2 : (zs.flatMap cells9 ++ cells9 y)[j]? = some u := by simpa using hu
      have hlt := (List.getElem?_eq_some_iff.1 hu2).1
      rw [Array.getElem?_append_left (by simpa using hlt), List.getElem?_toArray]
      exact hu2
    · injection hk with hk; exact Or.inr (Nat.le_of_eq hk)
  rcases hR with ⟨rfl, rfl⟩ | ⟨g, off, cap, cur, rfl, h1, h2, h3, h4, h5, h6⟩
  · simp at hr
    subst hr
    exact grow none 0 rfl (by omega) (by omega) (run_firstCells_none w.drew i0.size 0 0 0)
  · rw [hr] at h3 grow ⊢
    have hlt := (Array.getElem?_eq_some_iff.1 h2).1
    by_cases hroom : r + 1 ≤ cap
    · have hrun := run_append_room_src (P := Try.prog) w 43 43 ty 33 i0 undR hi g off r cap _ 1 _ hS hroom
        (fun j hj => by
          have hj : j < 9 := hj
          rw [hz1, Joins.cell_of_block h2, Array.getElem?_eq_getElem (by omega)]; rfl)
        (fun j hj => Joins.unfrozen_of_block h2 _)
      rw [hz1] at hrun
      have hl9 : (cells9 y).length = 9 := rfl
      obtain ⟨cur', e1, e2, e3, e4⟩ := setCells_row g (cells9 y) (off + r * 9) w cur h2 (by rw [hl9]; omega)
      refine ⟨_, _, _, hrun, Or.inr ⟨g, off, cap, cur', by rw [hl], h1, e1, by rw [hl]; exact hroom, h4, by rw [e2]; exact h5, fun j u hu => ?_⟩, setCells_grown w g _ _, fun k hk => Or.inl hk⟩
      rw [List.flatMap_append] at hu
      have hu2 : (zs.flatMap cells9 ++ cells9 y)[j]? = some u := by simpa using hu
      have hz9 := flat9_len zs
      by_cases hj : j < r * 9
      · rw [List.getElem?_append_left (by omega)] at hu2
        rw [e3 _ (by omega)]
        exact h6 j u hu2
      · rw [List.getElem?_append_right (by omega), hz9, hr] at hu2
        obtain ⟨hj2, hu3⟩ := List.getElem?_eq_some_iff.1 hu2
        have := e4 (j - r * 9) hj2
        rw [show off + r * 9 + (j - r * 9) = off + j by omega] at this
        rw [this, hu3]
    · refine grow (some ⟨g, off, none⟩) cap rfl (by omega) (by omega) ?_
      refine run_firstCells_some w.drew i0.size r ⟨g, off, none⟩ r cap _ (by rw [flat9_len, hz1, hr]) (fun j u hu => ?_)
      have hc : w.drew.cell? ((⟨g, off, none⟩ : Addr).add j) = w.cell? ⟨g, off + j, none⟩ := by
        rw [show ((⟨g, off, none⟩ : Addr).add j) = ⟨g, off + j, none⟩ from by unfold Addr.add; split <;> simp_all]; rfl
      rw [hc, Joins.cell_of_block h2]
      exact h6 j u hu
/-- A slice cut: what is behind k. -/
theorem add_offR (b off j : Nat) : (⟨b, off, none⟩ : Addr).add j = ⟨b, off + j, none⟩ := by unfold Addr.add; split <;> simp_all
theorem sizeR (w : World) : (sizeOf (Try.prog.elem 43)).run Try.prog w = .ok 9 w := by kernel_rfl
theorem sliced_off (g off k n m : Nat) : ∃ o', sliced (some ⟨g, off, none⟩) k n m 9 = .slice (some ⟨g, o', none⟩) (n - k) (m - k) ∧ (m = k → o' = off) ∧ (m ≠ k → o' = off + k * 9) := by
  unfold sliced
  by_cases e : m = k
  · exact ⟨off, by rw [if_pos e], fun _ => rfl, fun h => absurd e h⟩
  · refine ⟨off + k * 9, ?_, fun h => absurd h e, fun _ => rfl⟩
    rw [if_neg e]
    simp [add_offR]
theorem drop9 (zs : List Rd) (k : Nat) (hk : k ≤ zs.length) (j : Nat) : ((zs.drop k).flatMap cells9)[j]? = (zs.flatMap cells9)[k * 9 + j]? := by
  have e : zs.flatMap cells9 = (zs.take k).flatMap cells9 ++ (zs.drop k).flatMap cells9 := by rw [← List.flatMap_append, List.take_append_drop]
  have hl : ((zs.take k).flatMap cells9).length = k * 9 := by rw [flat9_len, List.length_take]; congr 1; omega
  rw [e, List.getElem?_append_right (by omega), hl]
  congr 1; omega
/-- The row behind its first k records. -/
theorem ORow.cut {w : World} {B g off n c m k : Nat} {zs : List Rd} (h : ORow w B (.slice (some ⟨g, off, none⟩) n c) zs) (hk : k ≤ n) (hm : n ≤ m) (hc : m ≤ c) : ∃ o', sliced (some ⟨g, off, none⟩) k n m 9 = .slice (some ⟨g, o', none⟩) (n - k) (m - k) ∧ ORow w B (.slice (some ⟨g, o', none⟩) (n - k) (m - k)) (zs.drop k) := by
  obtain ⟨o', e1, e2, e3⟩ := sliced_off g off k n m
  refine ⟨o', e1, ?_⟩
  rcases h with ⟨h, _⟩ | ⟨g', off', cap, cur, hv, h1, h2, h3, h4, h5, h6⟩
  · cases h
  · injection hv with a1 a2 a3
    injection a1 with a1
    injection a1 with a4 a5 _
    subst a2 a3 a4 a5
    have hl : (zs.drop k).length = zs.length - k := List.length_drop
    refine Or.inr ⟨g, o', m - k, cur, by rw [hl], h1, h2, by rw [hl]; omega, by omega, ?_, fun j u hu => ?_⟩
    · by_cases e : m = k
      · rw [e2 e]; omega
      · rw [e3 e]; omega
    · rw [drop9 zs k (by omega)] at hu
      have hlt := (List.getElem?_eq_some_iff.1 hu).1
      rw [flat9_len] at hlt
      have := h6 _ _ hu
      rw [e3 (by omega), Nat.add_assoc]
      exact this
theorem ORow.cut_nil {w : World} {B k m : Nat} {zs : List Rd} (h : ORow w B (.slice none 0 0) zs) (hk : k = 0) (hm : m = 0) : sliced none k 0 m 9 = .slice none 0 0 ∧ ORow w B (.slice none 0 0) (zs.drop k) := by
  subst hk hm
  exact ⟨rfl, h⟩
theorem zeroR (w : World) : (zeroValue 33).run Try.prog w = .ok (.agg #[.int .i64 0, .string ⟨#[]⟩, .int .i64 0, .int .i64 0, .int .i64 0, .int .i64 0, .int .i64 0, .int .i64 0, .slice none 0 0]) w := by kernel_rfl
theorem run_clear9 {P : Program} (w : World) (t e ty : TypeId) (z : Value) (ht : P.underlying t = some (.slice e)) (hv : ∀ w, (zeroValue e).run P w = .ok z w) (g o n c : Nat) (cur : Array Value) (T : TypeId)
    (hg : w.heap[g]? = some (.cells cur T (0, 0))) (hn : 0 < n) (hfit : o + n * z.cells.size ≤ cur.size) (h1 : ∀ v ∈ (Builtin.zeroCells z.cells n).toList, v.oneCell' = true) :
    (Builtin.clear_ #[t] ty #[.slice (some ⟨g, o, none⟩) n c]).run P w =
      .ok (.tuple #[]) (w.setRow g (cur.toList.take o ++ (Builtin.zeroCells z.cells n).toList ++ cur.toList.drop (o + (Builtin.zeroCells z.cells n).toList.length)).toArray) := by
  have hst := run_storeCells_at P g o T (Builtin.zeroCells z.cells n).toList 0 cur w hg (by simpa [Builtin.zeroCells] using hfit) h1
  simp only [Nat.add_zero] at hst
  obtain ⟨m, rfl⟩ : ∃ m, n = m + 1 := ⟨n - 1, by omega⟩
  simp [Builtin.clear_, run_underlying ht, hv, hst]
/-- The first k records cleared, and the row behind them. -/
theorem ORow.clear {w : World} {B g off n c k : Nat} {zs : List Rd} (h : ORow w B (.slice (some ⟨g, off, none⟩) n c) zs) (hk : k ≤ n) (k0 : 0 < k) :
    ∃ w', (∀ ty, (Builtin.clear_ #[43] ty #[.slice (some ⟨g, off, none⟩) k c]).run Try.prog w = .ok (.tuple #[]) w') ∧ w.grownBy w' (some g) ∧ w'.heap.size = w.heap.size ∧ n ≤ c ∧ ∃ o', sliced (some ⟨g, off, none⟩) k n n 9 = .slice (some ⟨g, o', none⟩) (n - k) (n - k) ∧ ORow w' B (.slice (some ⟨g, o', none⟩) (n - k) (n - k)) (zs.drop k) := by
  obtain ⟨o', e1, e2, e3⟩ := sliced_off g off k n n
  rcases h with ⟨h, _⟩ | ⟨g', off', cap, cur, hv, h1, h2, h3, h4, h5, h6⟩
  · cases h
  · injection hv with a1 a2 a3
    injection a1 with a1
    injection a1 with a4 a5 _
    subst a2 a3 a4 a5
    have hrun := fun ty => run_clear9 (P := Try.prog) w 43 33 ty (.agg #[.int .i64 0, .string ⟨#[]⟩, .int .i64 0, .int .i64 0, .int .i64 0, .int .i64 0, .int .i64 0, .int .i64 0, .slice none 0 0]) undR zeroR g off k c cur 33 h2 k0 (by simp only [Value.cells]; show off + k * 9 ≤ _; omega) (by
      intro v hv
      simp only [Builtin.zeroCells, Array.toList_map, List.mem_map] at hv
      obtain ⟨i, _, rfl⟩ := hv
      have : ∀ r, r < 9 → (#[Value.int .i64 0, .string ⟨#[]⟩, .int .i64 0, .int .i64 0, .int .i64 0, .int .i64 0, .int .i64 0, .int .i64 0, .slice none 0 0][r]!).oneCell' = true := by intro r hr; match r, hr with | 0, _ => rfl | 1, _ => rfl | 2, _ => rfl | 3, _ => rfl | 4, _ => rfl | 5, _ => rfl | 6, _ => rfl | 7, _ => rfl | 8, _ => rfl
      exact this _ (Nat.mod_lt _ (by decide)))
    have hzl : (Builtin.zeroCells (Value.agg #[.int .i64 0, .string ⟨#[]⟩, .int .i64 0, .int .i64 0, .int .i64 0, .int .i64 0, .int .i64 0, .int .i64 0, .slice none 0 0]).cells k).toList.length = k * 9 := by simp [Builtin.zeroCells, Value.cells]
    generalize (Builtin.zeroCells (Value.agg #[.int .i64 0, .string ⟨#[]⟩, .int .i64 0, .int .i64 0, .int .i64 0, .int .i64 0, .int .i64 0, .int .i64 0, .slice none 0 0]).cells k).toList = xs at hzl hrun
    simp only [List.append_assoc] at hrun
    have hb := setRow_heap w g cur (cur.toList.take off ++ (xs ++ cur.toList.drop (off + xs.length))).toArray 33 (0, 0) h2
    have hl : (zs.drop k).length = zs.length - k := List.length_drop
    refine ⟨_, hrun, ⟨rfl, rfl, rfl, by simp, fun i hi hne => setRow_other w g i _ (fun e => hne (by rw [e]))⟩, by simp, h3, o', e1, Or.inr ⟨g, o', zs.length - k, _, by rw [hl], h1, hb, by rw [hl]; exact Nat.le_refl _, by omega, ?_, fun j u hu => ?_⟩⟩
    · simp only [List.size_toArray, List.length_append, List.length_take, List.length_drop, Array.length_toList, hzl]
      by_cases e : zs.length = k
      · rw [e2 e]; omega
      · rw [e3 e]; omega
    · rw [drop9 zs k (by omega)] at hu
      have hlt := (List.getElem?_eq_some_iff.1 hu).1
      rw [flat9_len] at hlt
      have h7 := h6 _ _ hu
      rw [e3 (by omega), List.getElem?_toArray, List.getElem?_append_right (by simp; omega), List.getElem?_append_right (by simp; omega), List.getElem?_drop]
      simp only [List.length_take, Array.length_toList, hzl, Array.getElem?_toList]
      rw [← h7]
      congr 1
      omega
end Go.Proofs.Ythifmfgnblecbaa.Og
