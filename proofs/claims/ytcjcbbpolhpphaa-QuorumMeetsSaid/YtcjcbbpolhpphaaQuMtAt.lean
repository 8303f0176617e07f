/- QuorumMeets' state: the point, the orders, what the nodes have stored, the write and the read. -/
import Derived.Test.YtcjcbbpolhpphaaQuMtMath
set_option maxRecDepth 20000
set_option linter.unusedSimpArgs false
set_option linter.unusedVariables false
namespace Go.Proofs.Ytcjcbbpolhpphaa.Qu
open Go.RowKit Go.Proofs.Ytcjcbbpolhpphaa.Vi

abbrev TORD : TypeId := 56
abbrev TPT : TypeId := 55
/-- The law's state; of the list at 'hole' nothing is said. -/
structure MS (w0 W : World) (pb ob g bw br B T hole : Nat) (p : Pt) (v0 v1 : Value) (S : QS) (R : RS) (sv : Nat → Value) (ST : Nat → List Pt) : Prop where
  pbig : ∃ cur : Array Value, W.heap[pb]? = some (.cells cur TPT (0, 0))
  pat : PtAt W pb p
  obig : ∃ cur : Array Value, W.heap[ob]? = some (.cells cur TORD (0, 0))
  o0 : W.cell? ⟨ob, 0, none⟩ = some v0
  o1 : W.cell? ⟨ob, 1, none⟩ = some v1
  gbig : ∃ cur : Array Value, W.heap[g]? = some (.cells cur TGOT (0, 0))
  gcel : ∀ i, i < 8 → W.cell? ⟨g, i, none⟩ = some (sv i) ∧ (i = hole ∨ PRow W B (sv i) (ST i))
  dis : ∀ i j, i < 8 → j < 8 → i ≠ j → (sv i).ownBlock = none ∨ (sv i).ownBlock ≠ (sv j).ownBlock
  wat : WAt W bw 64 S
  rd : RdG W w0.heap.size T br R
  bel : Below w0.heap.size w0 W
  lo : w0.heap.size ≤ B
  hB : B ≤ W.heap.size
  pB : pb < B
  gB : B ≤ g
  low : w0.heap.size ≤ bw
  hT : w0.heap.size ≤ T ∧ T ≤ W.heap.size
section
variable {w0 W W' : World} {pb ob g bw br B T hole : Nat} {p : Pt} {v0 v1 : Value} {S : QS} {R : RS} {sv : Nat → Value} {ST : Nat → List Pt}
/-- What stands of another type, or in another block, stays. -/
theorem MS.keep (h : MS w0 W pb ob g bw br B T hole p v0 v1 S R sv ST) (k : ∀ (x : Nat) (cur : Array Value) (Y : TypeId), W.heap[x]? = some (.cells cur Y (0, 0)) → Y = TPT ∨ Y = TORD ∨ Y = TGOT → W'.heap[x]? = W.heap[x]?) {S' : QS} {R' : RS} (hw : WAt W' bw 64 S') (hr : RdG W' w0.heap.size T br R') (hb : Below w0.heap.size W W') : MS w0 W' pb ob g bw br B T hole p v0 v1 S' R' sv ST := by
  obtain ⟨c1, hp⟩ := h.pbig
  obtain ⟨c2, ho⟩ := h.obig
  obtain ⟨c3, hg⟩ := h.gbig
  have kp := k pb c1 _ hp (Or.inl rfl)
  have ko := k ob c2 _ ho (Or.inr (Or.inl rfl))
  have kg := k g c3 _ hg (Or.inr (Or.inr rfl))
  have hc : ∀ b o, W'.heap[b]? = W.heap[b]? → W'.cell? ⟨b, o, none⟩ = W.cell? ⟨b, o, none⟩ := fun b o e => World.cell?_of_block (w := W) e
  refine ⟨⟨c1, kp.trans hp⟩, ?_, ⟨c2, ko.trans ho⟩, (hc _ _ ko).trans h.o0, (hc _ _ ko).trans h.o1, ⟨c3, kg.trans hg⟩, fun i hi => ⟨(hc _ _ kg).trans (h.gcel i hi).1, (h.gcel i hi).2.imp id fun hq => prow_other hq fun x cur hx => k x cur _ hx (Or.inl rfl)⟩, h.dis, hw, hr, h.bel.trans hb, h.lo, Nat.le_trans h.hB hb.size, h.pB, h.gB, h.low, h.hT.1, Nat.le_trans h.hT.2 hb.size⟩
  obtain ⟨p0, p1, p2, p3, p4, p5⟩ := h.pat
  exact ⟨(hc _ _ kp).trans p0, (hc _ _ kp).trans p1, (hc _ _ kp).trans p2, (hc _ _ kp).trans p3, (hc _ _ kp).trans p4, (hc _ _ kp).trans p5⟩
theorem MS.later (h : MS w0 W pb ob g bw br B T hole p v0 v1 S R sv ST) (k : Below W.heap.size W W') : MS w0 W' pb ob g bw br B T hole p v0 v1 S R sv ST :=
  h.keep (fun x cur Y hx _ => k.block x (Array.getElem?_eq_some_iff.1 hx).1) (h.wat.later k) (h.rd.later k) (k.mono h.bel.size)
theorem MS.ack (h : MS w0 W pb ob g bw br B T hole p v0 v1 S R sv ST) (n : Int) : MS w0 (hearW W bw S n) pb ob g bw br B T hole p v0 v1 (hearS S n) R sv ST := by
  obtain ⟨cur, hc⟩ := h.wat.big
  have hb := hearW_but W bw S n
  exact h.keep (fun x c Y hx hY => hb.block x (Array.getElem?_eq_some_iff.1 hx).1 fun e => type_ne hc hx (by rcases hY with rfl | rfl | rfl <;> decide) e) (h.wat.hear n) (h.rd.beside_w h.wat n) (hearW_below h.low n)
theorem MS.ans (h : MS w0 W pb ob g bw br B T hole p v0 v1 S R sv ST) {R' : RS} (hr : RdG W' w0.heap.size T br R') (k : ButP (rmods W br) W W') : MS w0 W' pb ob g bw br B T hole p v0 v1 S R' sv ST :=
  h.keep (fun x c Y hx hY => h.rd.stays k hx (by rcases hY with rfl | rfl | rfl <;> decide)) (h.wat.beside_r h.rd k) hr (k.below (fun x hx => h.rd.mods_lo h.hT.1 hx) h.bel.size)
/-- While the read has no map. -/
theorem MS.rebase (h : MS w0 W pb ob g bw br B T hole p v0 v1 S R sv ST) (hm : W.cell? ⟨br, 33, none⟩ = some (.map none)) : MS w0 W pb ob g bw br B W.heap.size hole p v0 v1 S R sv ST :=
  ⟨h.pbig, h.pat, h.obig, h.o0, h.o1, h.gbig, h.gcel, h.dis, h.wat, h.rd.rebase hm _, h.bel, h.lo, h.hB, h.pB, h.gB, h.low, h.bel.size, Nat.le_refl _⟩
theorem MS.st (h : MS w0 W pb ob g bw br B T hole p v0 v1 S R sv ST) {ST' : Nat → List Pt} (e : ∀ j, j < 8 → ST j = ST' j) : MS w0 W pb ob g bw br B T hole p v0 v1 S R sv ST' :=
  ⟨h.pbig, h.pat, h.obig, h.o0, h.o1, h.gbig, fun i hi => ⟨(h.gcel i hi).1, (h.gcel i hi).2.imp id fun hq => by rw [← e i hi]; exact hq⟩, h.dis, h.wat, h.rd, h.bel, h.lo, h.hB, h.pB, h.gB, h.low, h.hT⟩
/-- What stands at a place. -/
theorem MS.at_ (h : MS w0 W pb ob g bw br B T 8 p v0 v1 S R sv ST) {i : Nat} (hi : i < 8) : ∃ a c, sv i = .slice a (ST i).length c ∧ W.cell? ⟨g, i, none⟩ = some (.slice a (ST i).length c) ∧ PRow W B (.slice a (ST i).length c) (ST i) := by
  obtain ⟨h1, h2⟩ := h.gcel i hi
  rcases h2 with e | h2
  · omega
  · obtain ⟨a, c, e⟩ := PRow.slice h2
    exact ⟨a, c, e, by rw [← e]; exact h1, by rw [← e]; exact h2⟩
theorem MS.gfrozen (h : MS w0 W pb ob g bw br B T hole p v0 v1 S R sv ST) (o : Nat) : W.frozen? ⟨g, o, none⟩ = false := by
  obtain ⟨cur, hb⟩ := h.gbig
  unfold World.frozen?
  simp [hb]
theorem MS.glt (h : MS w0 W pb ob g bw br B T hole p v0 v1 S R sv ST) : g < W.heap.size := by
  obtain ⟨cur, hb⟩ := h.gbig
  exact (Array.getElem?_eq_some_iff.1 hb).1
theorem MS.map_ack (h : MS w0 W pb ob g bw br B T hole p v0 v1 S R sv ST) (hm : W.cell? ⟨br, 33, none⟩ = some (.map none)) (n : Int) : (hearW W bw S n).cell? ⟨br, 33, none⟩ = some (.map none) := by
  obtain ⟨c1, hw⟩ := h.wat.big
  obtain ⟨c2, hr⟩ := h.rd.at_.big
  have e := (hearW_but W bw S n).block br h.rd.at_.lt fun e => type_ne hw hr (by decide) e
  rw [World.cell?_of_block (w := W) (a := ⟨br, 33, none⟩) e]
  exact hm
theorem MS.map_put (h : MS w0 W pb ob g bw br B T hole p v0 v1 S R sv ST) (hm : W.cell? ⟨br, 33, none⟩ = some (.map none)) (i : Nat) (v : Value) : (W.setCell ⟨g, i, none⟩ v).cell? ⟨br, 33, none⟩ = some (.map none) := by
  obtain ⟨c1, hg⟩ := h.gbig
  obtain ⟨c2, hr⟩ := h.rd.at_.big
  have e := set_blk W g i br v h.rd.at_.lt fun e => type_ne hg hr (by decide) e
  rw [World.cell?_of_block (w := W) (a := ⟨br, 33, none⟩) e]
  exact hm
/-- A list is stored. -/
theorem MS.put (h : MS w0 W pb ob g bw br B T hole p v0 v1 S R sv ST) {i : Nat} {v : Value} {l : List Pt} (hi : i < 8) (hv : PRow W B v l) (hd : ∀ j, j < 8 → j ≠ i → (v.ownBlock = none ∨ v.ownBlock ≠ (sv j).ownBlock) ∧ ((sv j).ownBlock = none ∨ (sv j).ownBlock ≠ v.ownBlock)) (hh : hole = i ∨ 8 ≤ hole) : MS w0 (W.setCell ⟨g, i, none⟩ v) pb ob g bw br B T 8 p v0 v1 S R (fun j => if j = i then v else sv j) (fun j => if j = i then l else ST j) := by
  obtain ⟨c1, hp⟩ := h.pbig
  obtain ⟨c2, ho⟩ := h.obig
  obtain ⟨c3, hg⟩ := h.gbig
  obtain ⟨c4, hw⟩ := h.wat.big
  have kb : ∀ (x : Nat) (cur : Array Value) (Y : TypeId), W.heap[x]? = some (.cells cur Y (0, 0)) → Y ≠ TGOT → (W.setCell ⟨g, i, none⟩ v).heap[x]? = W.heap[x]? := fun x cur Y hx hY => set_blk W g _ x _ (Array.getElem?_eq_some_iff.1 hx).1 fun e => type_ne hg hx hY.symm e
  have kp := kb pb c1 _ hp (by decide)
  have ko := kb ob c2 _ ho (by decide)
  have kw := kb bw c4 _ hw (by decide)
  have hc : ∀ b o, (W.setCell ⟨g, i, none⟩ v).heap[b]? = W.heap[b]? → (W.setCell ⟨g, i, none⟩ v).cell? ⟨b, o, none⟩ = W.cell? ⟨b, o, none⟩ := fun b o e => World.cell?_of_block (w := W) e
  have hbl : Below w0.heap.size W (W.setCell ⟨g, i, none⟩ v) := (Below.refl _ W).setCell (p := ⟨g, i, none⟩) (Nat.le_trans h.lo h.gB) _
  have kr : ∀ {x : Value} {xs : List Pt}, PRow W B x xs → PRow (W.setCell ⟨g, i, none⟩ v) B x xs := fun {x xs} hx => prow_other hx fun y cur hy => kb y cur _ hy (by decide)
  refine ⟨⟨c1, kp.trans hp⟩, ?_, ⟨c2, ko.trans ho⟩, (hc _ _ ko).trans h.o0, (hc _ _ ko).trans h.o1, ⟨_, set_heap hg _⟩, fun j hj => ?_, fun a b ha hb hab => ?_, h.wat.of kw, ?_, h.bel.trans hbl, h.lo, by simpa using h.hB, h.pB, h.gB, h.low, h.hT.1, by simpa using h.hT.2⟩
  · obtain ⟨p0, p1, p2, p3, p4, p5⟩ := h.pat
    exact ⟨(hc _ _ kp).trans p0, (hc _ _ kp).trans p1, (hc _ _ kp).trans p2, (hc _ _ kp).trans p3, (hc _ _ kp).trans p4, (hc _ _ kp).trans p5⟩
  · by_cases e : j = i
    · subst e
      rw [if_pos rfl, if_pos rfl]
      exact ⟨World.cell?_setCell_same _ _ _ (h.gcel j hj).1, Or.inr (kr hv)⟩
    · rw [if_neg e, if_neg e]
      refine ⟨(cell_off (by omega)).trans (h.gcel j hj).1, Or.inr ?_⟩
      rcases (h.gcel j hj).2 with e2 | hq
      · rcases hh with hh | hh <;> omega
      · exact kr hq
  · by_cases e1 : a = i
    · subst e1
      rw [if_pos rfl, if_neg (fun e => hab e.symm)]
      exact (hd b hb (fun e => hab e.symm)).1
    · rw [if_neg e1]
      by_cases e2 : b = i
      · subst e2
        rw [if_pos rfl]
        exact (hd a ha e1).2
      · rw [if_neg e2]
        exact h.dis a b ha hb hab
  · refine h.rd.other fun x hx hk => set_blk W g _ x _ hx fun e => ?_
    subst e
    rcases hk with hk | ⟨c, e⟩
    · rcases h.rd.kind hk with ⟨c, e⟩ | ⟨es, cl, e⟩
      · exact type_ne hg e (by decide) rfl
      · exact map_cells hg e rfl
    · exact type_ne hg e (by decide) rfl
/-- What is fresh lies apart from what is stored. -/
theorem MS.fresh (h : MS w0 W pb ob g bw br B T hole p v0 v1 S R sv ST) {W' : World} {v : Value} {l : List Pt} {N : Nat} (hv : PRow W' N v l) (hN : W.heap.size ≤ N) (j : Nat) (hj : j < 8) (hjh : j ≠ hole) : (v.ownBlock = none ∨ v.ownBlock ≠ (sv j).ownBlock) ∧ ((sv j).ownBlock = none ∨ (sv j).ownBlock ≠ v.ownBlock) := by
  have h1 := World.ownsRow.lt hv
  rcases (h.gcel j hj).2 with e | hq
  · exact absurd e hjh
  have h2 := World.ownsRow.lt hq
  cases e1 : v.ownBlock with
  | none => exact ⟨Or.inl rfl, by cases e2 : (sv j).ownBlock with | none => exact Or.inl rfl | some y => exact Or.inr (by simp)⟩
  | some x =>
    cases e2 : (sv j).ownBlock with
    | none => exact ⟨Or.inr (by simp), Or.inl rfl⟩
    | some y =>
      have a1 := (h1 x e1).1
      have a2 := (h2 y e2).2
      exact ⟨Or.inr (by simp; omega), Or.inr (by simp; omega)⟩
theorem rd_grown {w w' : World} {B0 T b : Nat} {R : RS} {row : Option Nat} (h : RdG w B0 T b R) (k : w.grownBy w' row) (hrow : ∀ x, row = some x → x < T ∧ ∃ cur : Array Value, w.heap[x]? = some (.cells cur TPT (0, 0))) : RdG w' B0 T b R := by
  have kb : ∀ x, x < w.heap.size → rmods w b x → w'.heap[x]? = w.heap[x]? := fun x hx hm => k.block x hx fun e => by
    obtain ⟨-, cur, hc⟩ := hrow x e.symm
    rcases h.kind hm with ⟨c, e⟩ | ⟨es, cl, e⟩
    · exact type_ne hc e (by decide) rfl
    · exact map_cells hc e rfl
  have kb0 := kb b h.at_.lt (Or.inl rfl)
  have hc : ∀ o, w'.cell? ⟨b, o, none⟩ = w.cell? ⟨b, o, none⟩ := fun o => World.cell?_of_block (w := w) kb0
  obtain ⟨h1, h2, h3, h4, h5, h6⟩ := h
  refine ⟨h1.of kb0, h2, ?_, h4, h5, h6⟩
  rcases h3 with ⟨c, ha⟩ | ⟨m, c, ⟨hl, D, ⟨es, cl, hm1, hm2⟩, hat⟩⟩
  · exact Or.inl ⟨(hc _).trans c, ha⟩
  · have km := kb m (Array.getElem?_eq_some_iff.1 hm1).1 (Or.inr c)
    refine Or.inr ⟨m, (hc _).trans c, hl, D, ⟨es, cl, km.trans hm1, hm2⟩, fun i hi => ?_⟩
    obtain ⟨a, c', e1, e2⟩ := hat i hi
    refine ⟨a, c', e1, e2.grown k ?_⟩
    cases e3 : row with
    | none => exact Or.inr rfl
    | some x =>
      refine Or.inl fun e4 => ?_
      have := (World.ownsRow.lt e2 x e4).1
      have := (hrow x e3).1
      omega
/-- A list has been appended to where it lies. -/
theorem MS.grow (h : MS w0 W pb ob g bw br B T 8 p v0 v1 S R sv ST) {i : Nat} (hi : i < 8) (k : W.grownBy W' (sv i).ownBlock) (kb : Below B W W') (ht : ∀ x, (sv i).ownBlock = some x → x < T) : MS w0 W' pb ob g bw br B T i p v0 v1 S R sv ST := by
  obtain ⟨c1, hp⟩ := h.pbig
  obtain ⟨c2, ho⟩ := h.obig
  obtain ⟨c3, hg⟩ := h.gbig
  obtain ⟨c4, hw⟩ := h.wat.big
  have hrow : PRow W B (sv i) (ST i) := by
    rcases (h.gcel i hi).2 with e | hq
    · omega
    · exact hq
  have hpt : ∀ x, (sv i).ownBlock = some x → ∃ cur : Array Value, W.heap[x]? = some (.cells cur TPT (0, 0)) := fun x hx => by
    rcases hrow.2 with ⟨e, _⟩ | ⟨g', cap, cur, e, _, hb, _⟩
    · rw [e] at hx; cases hx
    · rw [e] at hx
      simp [Value.ownBlock] at hx
      subst hx
      exact ⟨cur, hb⟩
  have ky : ∀ (x : Nat) (cur : Array Value) (Y : TypeId), W.heap[x]? = some (.cells cur Y (0, 0)) → Y ≠ TPT → W'.heap[x]? = W.heap[x]? := fun x cur Y hx hY => k.block x (Array.getElem?_eq_some_iff.1 hx).1 fun e => by
    obtain ⟨c, hc⟩ := hpt x e.symm
    exact type_ne hc hx (fun e => hY e.symm) rfl
  have kp : W'.heap[pb]? = W.heap[pb]? := kb.block pb h.pB
  have ko := ky ob c2 _ ho (by decide)
  have kg := ky g c3 _ hg (by decide)
  have kw := ky bw c4 _ hw (by decide)
  have hc : ∀ b o, W'.heap[b]? = W.heap[b]? → W'.cell? ⟨b, o, none⟩ = W.cell? ⟨b, o, none⟩ := fun b o e => World.cell?_of_block (w := W) e
  refine ⟨⟨c1, kp.trans hp⟩, ?_, ⟨c2, ko.trans ho⟩, (hc _ _ ko).trans h.o0, (hc _ _ ko).trans h.o1, ⟨c3, kg.trans hg⟩, fun j hj => ⟨(hc _ _ kg).trans (h.gcel j hj).1, ?_⟩, h.dis, h.wat.of kw, rd_grown h.rd k fun x hx => ⟨ht x hx, hpt x hx⟩, h.bel.trans (kb.mono h.lo), h.lo, Nat.le_trans h.hB kb.size, h.pB, h.gB, h.low, h.hT.1, Nat.le_trans h.hT.2 kb.size⟩
  · obtain ⟨p0, p1, p2, p3, p4, p5⟩ := h.pat
    exact ⟨(hc _ _ kp).trans p0, (hc _ _ kp).trans p1, (hc _ _ kp).trans p2, (hc _ _ kp).trans p3, (hc _ _ kp).trans p4, (hc _ _ kp).trans p5⟩
  · by_cases e : j = i
    · exact Or.inl e
    · rcases (h.gcel j hj).2 with e2 | hq
      · omega
      · refine Or.inr (hq.grown k ?_)
        rcases h.dis j i hj hi e with e3 | e3
        · cases e4 : (sv i).ownBlock with
          | none => exact Or.inr rfl
          | some x => rw [e3]; exact Or.inl (by simp)
        · exact Or.inl e3
end
theorem prow_lit (W : World) (B : Nat) (p : Pt) (hB : B ≤ W.heap.size) : PRow (W.alloc (.cells #[.string p.s, .int .i64 p.t, .int .i64 p.v, .int .i64 p.st.c, .int .i64 p.st.s, .int .i64 p.st.q] 55)) B (.slice (some ⟨W.heap.size, 0, none⟩) 1 1) [p] := by
  have := World.ownsRow_lit (base := B) (e := 55) (size := 6) W #[.string p.s, .int .i64 p.t, .int .i64 p.v, .int .i64 p.st.c, .int .i64 p.st.s, .int .i64 p.st.q] 1 hB (by unfold maxLen; omega) rfl
  exact this
/-- append(l, ys...) as an equation. -/
theorem run_appN {w : World} {B r m c N : Nat} {v : Value} {xs ys : List Pt} {p : Option Addr} (ty : TypeId) (hr : xs.length = r) (hm : ys.length = m) (hR : PRow w B v xs) (hL : Lst w N p c ys) (hlen : r + m ≤ 1000000) (hB : B ≤ w.heap.size) :
    ∃ a' c' w', (Builtin.append_ #[PTT, PTT] ty #[v, .slice p m c]).run Try.prog w = .ok (.slice a' (r + m) c') w' ∧ PRow w' B (.slice a' (r + m) c') (xs ++ ys) ∧ w.grownBy w' v.ownBlock ∧ Below B w w' := by
  obtain ⟨i0, hi, hz0, hz1, hz2⟩ := info_parts infoP
  have hl : (xs ++ ys).length = r + m := by rw [List.length_append, hr, hm]
  have hne : ∀ q, v.ownBlock = some q → B ≤ q := fun q hq => (World.ownsRow.lt hR q hq).1
  by_cases h0 : m = 0
  · subst h0
    obtain rfl : ys = [] := List.eq_nil_of_length_eq_zero hm
    obtain ⟨a', c', e⟩ := PRow.slice hR
    subst e
    have hup := hR.upto
    refine ⟨a', c', w, ?_, by rw [List.append_nil, Nat.add_zero, ← hr]; exact hR, World.grownBy.refl _ _, Below.refl _ _⟩
    rw [hr, Nat.add_zero]
    refine run_append_nothing w PTT PTT ty 55 i0 Try.underlying35 hi a' r c' (by rw [← hr]; exact hup.2.1) _ ?_
    cases p with
    | none => exact Src.ofNil w Try.underlying35 c
    | some ad => exact Src.ofSlice w Try.underlying35 ad 0 c [] (by simp) (fun j u hu => by simp at hu) (fun u hu => by simp at hu)
  · obtain ⟨ad, rfl⟩ : ∃ ad, p = some ad := by
      cases p with
      | none =>
        have hc := hL.no rfl
        have hcap := hL.cap
        omega
      | some ad => exact ⟨ad, rfl⟩
    rcases hL.pts.at_ with rfl | ⟨b, o, e, hb, hc⟩
    · simp at hm; omega
    · injection e with e
      subst e
      have hR2 : w.ownsRow B 55 6 v r (xs.flatMap cells6) := by have := hR; unfold PRow at this; rw [hr] at this; exact this
      obtain ⟨v', w', hrun, h2, h3, h4, h5⟩ := run_append_own_at (P := Try.prog) w B PTT ty 55 i0 (.agg #[.string ⟨#[]⟩, .int .i64 0, .int .i64 0, .int .i64 0, .int .i64 0, .int .i64 0]) 6 56 Try.underlying35 hi hz0 hz1 hz2 rfl (by decide) v r (xs.flatMap cells6) hR2 ⟨b, o, none⟩ m c (ys.flatMap cells6) (by rw [flat6_len, hm]) (pts_cells hc) (fun u hu => cells6_one hu) (by unfold maxLen; omega) (by omega) hB
      have hR3 : PRow w' B v' (xs ++ ys) := by
        unfold PRow
        rw [hl, List.flatMap_append]
        exact h2
      obtain ⟨a', c', e⟩ := PRow.slice hR3
      rw [hl] at e
      subst e
      exact ⟨a', c', w', hrun, hR3, h3, (Below.refl B w).grown h3 hB hne⟩
end Go.Proofs.Ytcjcbbpolhpphaa.Qu
