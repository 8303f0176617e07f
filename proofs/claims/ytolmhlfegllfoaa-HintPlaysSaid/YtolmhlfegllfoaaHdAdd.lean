/- The document's Add. -/
import Derived.Test.YtolmhlfegllfoaaHdAt
import Derived.Lib.AppendZeros
set_option maxRecDepth 20000
set_option linter.unusedSimpArgs false
set_option linter.unusedVariables false
namespace Go.Proofs.Ytolmhlfegllfoaa.Qu.Hi
open Go.RowKit Go.Maps Go.Proofs.Ytolmhlfegllfoaa.Vi Go.Proofs.Ytolmhlfegllfoaa.Mk

/-- append onto a slice of the call's own: the old slice, too, reads as it did. -/
theorem run_append_keep {P : Program} (w : World) (base : Nat) (t ty e : TypeId) (i : TypeInfo) (z : Value) (size bytes : Nat) (ht : P.underlying t = some (.slice e)) (hi : P.info? e = some i) (hz : i.zero = some z)
    (hsize : i.size = size) (hby : i.bytes = bytes) (hzs : z.cells.size = size) (hsz : 0 < size)
    (v : Value) (n : Nat) (xs : List Value) (hown : w.ownsRow base e size v n xs)
    (a : Addr) (m c : Nat) (news : List Value) (hl : news.length = m * size) (hnews : ∀ j u, news[j]? = some u → w.cell? (a.add j) = some u) (h1 : ∀ u ∈ news, u.oneCell' = true)
    (hm : 0 < m) (h63 : n + m ≤ 1000000) (hb2 : bytes ≤ 1000) (hbase : base ≤ w.heap.size) :
    ∃ v' w', (Builtin.append_ #[t, t] ty #[v, .slice (some a) m c]).run P w = .ok v' w' ∧ w'.ownsRow base e size v' (n + m) (xs ++ news) ∧ w.grownBy w' v.ownBlock ∧ ((∃ a0 c0, v = .slice a0 n c0 ∧ v' = .slice a0 (n + m) c0) ∨ v'.ownBlock = some w.heap.size) ∧ w'.ownsRow base e size v n xs := by
  have hbytes : (n + m) * bytes ≤ 140737488355328 := Nat.le_trans (Nat.mul_le_mul h63 hb2) (by decide)
  obtain ⟨v', w', hrun, h2, h3, -, h5⟩ := run_append_own_at (P := P) w base t ty e i z size bytes ht hi hz hsize hby hzs hsz v n xs hown a m c news hl hnews h1 (by unfold maxLen; omega) hbytes hbase
  rcases hown.2 with ⟨rfl, rfl⟩ | ⟨g, cap, cur, rfl, hbg, hg, hnc, hcm, hcs, htake⟩
  · have hx : xs = [] := List.eq_nil_of_length_eq_zero (by simpa using hown.1)
    subst hx
    refine ⟨v', w', hrun, h2, h3, ?_, World.ownsRow_nil _ _ _ _⟩
    rcases h5 with h5 | h5
    · rcases h2.2 with ⟨rfl, h0⟩ | ⟨g, cap, cur, rfl, _⟩
      · omega
      · cases h5
    · exact Or.inr h5
  · have hglt : g < w.heap.size := (Array.getElem?_eq_some_iff.1 hg).1
    by_cases hroom : n + m ≤ cap
    · have hfit : n * i.size + news.length ≤ cur.size := by rw [hl, hcs, hsize, ← Nat.add_mul]; exact Nat.mul_le_mul_right _ hroom
      have hr := run_append_room (P := P) w t ty e i ht hi g n cap cur hg a m c news (by rw [hsize]; exact hl) hnews h1 hroom hfit
      rw [hrun] at hr
      injection hr with e1 e2
      subst e1
      rcases h2.2 with ⟨e3, _⟩ | ⟨g', cap', cur', e3, hbg', hg', hnc', hcm', hcs', htake'⟩
      · cases e3
      · injection e3 with e4 e5 e6
        injection e4 with e4
        injection e4 with e4
        subst e4 e6
        refine ⟨_, w', hrun, h2, h3, Or.inl ⟨_, _, rfl, rfl⟩, hown.1, Or.inr ⟨g, cap, cur', rfl, hbg, hg', hnc, hcm, hcs', ?_⟩⟩
        have h7 : cur'.toList.take (n * size) = ((cur'.toList.take ((n + m) * size))).take (n * size) := by
          rw [List.take_take, Nat.min_eq_left (Nat.mul_le_mul_right _ (Nat.le_add_right _ _))]
        rw [h7, htake', ← hown.1, List.take_left]
    · have hr := run_append_grow (P := P) w t ty e i z ht hi hz ⟨g, 0, none⟩ n cap xs (by rw [hsize]; exact hown.1) (hown.cells (g := g) rfl) a m c news (by rw [hsize]; exact hl) hnews (by omega) (by omega) (growslice_fits (by omega) (by rw [hby]; exact hbytes))
      have hr2 := hr
      rw [hrun] at hr
      injection hr with e1 e2
      refine ⟨v', w', hrun, h2, h3, Or.inr (by rw [e1]; rfl), ?_⟩
      rw [e2]
      exact owns_later hown ((Below.refl _ _).drew.alloc (Nat.le_refl _) _)
abbrev boxD (y : Hk) : Obj := .cells #[.string y.p.s, .int .i64 y.p.t, .int .i64 y.p.v, .int .i64 y.p.st.c, .int .i64 y.p.st.s, .int .i64 y.p.st.q, .int .i64 y.n] 68
/-- append(l, y) of the document's, as an equation. -/
theorem appD_run {w : World} {B r : Nat} {v : Value} {xs : List Hk} (y : Hk) (ty : TypeId) (hr : xs.length = r) (hR : HRow 68 w B v xs) (hlen : r + 1 ≤ 1000000) (hB : B ≤ w.heap.size) :
    ∃ a' c' w', (Builtin.append_ #[49, 49] ty #[v, .slice (some ⟨w.heap.size, 0, none⟩) 1 1]).run Try.prog (w.alloc (boxD y)) = .ok (.slice a' (r + 1) c') w' ∧ HRow 68 w' B (.slice a' (r + 1) c') (xs ++ [y]) ∧ (w.alloc (boxD y)).grownBy w' v.ownBlock ∧ ((∃ a0 c0, v = .slice a0 r c0 ∧ a' = a0 ∧ c' = c0) ∨ (Value.slice a' (r + 1) c').ownBlock = some (w.heap.size + 1)) ∧ HRow 68 w' B v xs := by
  obtain ⟨i0, hi, hz0, hz1, hz2⟩ := info_parts htyD.inf
  have hR2 : w.ownsRow B 68 7 v r (xs.flatMap cells7) := by have := hR; unfold HRow at this; rw [hr] at this; exact this
  have hl : (xs ++ [y]).length = r + 1 := by rw [List.length_append, hr]; rfl
  obtain ⟨v', w', hrun, h2, h3, h4, h5⟩ := run_append_keep (P := Try.prog) (w.alloc (boxD y)) B _ ty 68 i0 (.agg #[.string ⟨#[]⟩, .int .i64 0, .int .i64 0, .int .i64 0, .int .i64 0, .int .i64 0, .int .i64 0]) 7 64 htyD.und hi hz0 hz1 hz2 rfl (by decide) v r (xs.flatMap cells7) (hR2.alloc _) ⟨w.heap.size, 0, none⟩ 1 1 (cells7 y) (by simp [cells7]) (by
    intro j u hj
    have hjl : j < 7 := by have := (List.getElem?_eq_some_iff.1 hj).1; simpa [cells7] using this
    match j, hjl with
    | 0, _ | 1, _ | 2, _ | 3, _ | 4, _ | 5, _ | 6, _ => simp [cells7] at hj; subst hj; simp [Addr.add]) (fun u hu => cells7_one (l := [y]) (by simpa using hu)) (by decide) (by omega) (by decide) (by simp; omega)
  have hR3 : HRow 68 w' B v' (xs ++ [y]) := by
    unfold HRow
    rw [hl, List.flatMap_append]
    simpa using h2
  obtain ⟨a', c', e⟩ := hR3.slice
  rw [hl] at e
  subst e
  refine ⟨a', c', w', hrun, hR3, h3, ?_, by unfold HRow; rw [hr]; exact h5⟩
  rcases h4 with ⟨a0, c0, e1, e2⟩ | h4
  · injection e2 with e3 e4 e5
    exact Or.inl ⟨a0, c0, e1, e3, e5⟩
  · exact Or.inr (by rw [h4]; simp)
/-- A beginning of a row. -/
theorem HRow.front {T : TypeId} {w : World} {B r c : Nat} {a : Option Addr} {xs ys : List Hk} (h : HRow T w B (.slice a r c) (xs ++ ys)) : HRow T w B (.slice a xs.length c) xs := by
  rcases h.2 with ⟨e, h1⟩ | ⟨g, cap, cur, e, hg, hh, hn, hm, hs, ht⟩
  · injection e with e1 e2 e3
    subst e1 e3
    rw [List.length_append] at h1
    obtain rfl : xs = [] := List.eq_nil_of_length_eq_zero (by omega)
    exact HRow.nil _ _ _
  · injection e with e1 e2 e3
    subst e1 e3
    rw [List.length_append] at hn
    refine ⟨flat7_len _, Or.inr ⟨g, c, cur, rfl, hg, hh, by omega, hm, hs, ?_⟩⟩
    have h7 : cur.toList.take (xs.length * 7) = (cur.toList.take ((xs ++ ys).length * 7)).take (xs.length * 7) := by
      rw [List.take_take, Nat.min_eq_left (by rw [List.length_append]; omega)]
    rw [h7, ht, List.flatMap_append, ← flat7_len, List.take_left]
/-- The point's box. -/
def BoxP (w : World) (g : Nat) (p : Pt) : Prop := w.heap[g]? = some (.cells #[.string p.s, .int .i64 p.t, .int .i64 p.v, .int .i64 p.st.c, .int .i64 p.st.s, .int .i64 p.st.q] 31 (0, 0))
theorem BoxP.pt {w : World} {g : Nat} {p : Pt} (h : BoxP w g p) : PtAt w g p := by
  unfold BoxP at h
  constructor <;> (unfold World.cell?; dsimp only; rw [h]; rfl)
theorem BoxP.later {w w' : World} {g : Nat} {p : Pt} (h : BoxP w g p) (k : Below w.heap.size w w') : BoxP w' g p := (k.block g (Array.getElem?_eq_some_iff.1 h).1).trans h
def frD (L : List Hk) (p : Pt) (M : List Int) (k : Nat) : List Hk := ((M.take k).filter fun n => !hasB L ⟨p, n⟩).map fun n => ⟨p, n⟩
theorem frD_yes {L : List Hk} {p : Pt} {M : List Int} {k : Nat} (h : k < M.length) (hn : hasB L ⟨p, M[k]⟩ = false) : frD L p M (k + 1) = frD L p M k ++ [⟨p, M[k]⟩] := by
  unfold frD
  rw [List.take_succ_eq_append_getElem h, List.filter_append, List.map_append]
  simp [hn]
theorem frD_no {L : List Hk} {p : Pt} {M : List Int} {k : Nat} (h : k < M.length) (hn : hasB L ⟨p, M[k]⟩ = true) : frD L p M (k + 1) = frD L p M k := by
  unfold frD
  rw [List.take_succ_eq_append_getElem h, List.filter_append, List.map_append]
  simp [hn]
theorem frD_end (L : List Hk) (p : Pt) (l : List Int) : frD L p (nodesL l) (nodesL l).length = freshL L p l := by
  unfold frD freshL
  rw [List.take_length]
  congr 1
  unfold nodesL nodesK pick pickN newB
  rw [List.filter_filter]
  refine List.filter_congr fun n _ => ?_
  rw [Bool.and_comm]
structure RaJ (w wr : World) (B d : Nat) (room : Int) (L : List Hk) (a : Option Addr) (c : Nat) (p : Pt) (M : List Int) (vn : Value) (k r : Nat) (a7 : Option Addr) (c7 : Nat) : Prop where
  do_ : DoAt wr B d room L a c
  row : HRow 68 wr B (.slice a7 r c7) (L ++ frD L p M k)
  len : (L ++ frD L p M k).length = r
  same : (a7 = a ∧ c7 = c) ∨ (Value.slice a L.length c).ownBlock = none ∨ (Value.slice a L.length c).ownBlock ≠ (Value.slice a7 r c7).ownBlock
  frd : FrD w wr B d
  box : BoxP wr w.heap.size p
  nds : IRow wr w.heap.size vn M
theorem RaJ.later {w wr w' : World} {B d : Nat} {room : Int} {L : List Hk} {a : Option Addr} {c : Nat} {p : Pt} {M : List Int} {vn : Value} {k r : Nat} {a7 : Option Addr} {c7 : Nat} (h : RaJ w wr B d room L a c p M vn k r a7 c7) (hb : Below wr.heap.size wr w') : RaJ w w' B d room L a c p M vn k r a7 c7 :=
  ⟨h.do_.later hb, h.row.later hb, h.len, h.same, h.frd.next hb, h.box.later hb, h.nds.later hb⟩
theorem RaJ.skip {w wr : World} {B d : Nat} {room : Int} {L : List Hk} {a : Option Addr} {c : Nat} {p : Pt} {M : List Int} {vn : Value} {k r : Nat} {a7 : Option Addr} {c7 : Nat} (h : RaJ w wr B d room L a c p M vn k r a7 c7) (e : frD L p M (k + 1) = frD L p M k) : RaJ w wr B d room L a c p M vn (k + 1) r a7 c7 :=
  ⟨h.do_, by rw [e]; exact h.row, by rw [e]; exact h.len, h.same, h.frd, h.box, h.nds⟩
theorem HRow.own {T : TypeId} {w : World} {B g : Nat} {v : Value} {xs : List Hk} (h : HRow T w B v xs) (e : v.ownBlock = some g) : ∃ cur, w.heap[g]? = some (.cells cur T (0, 0)) := by
  rcases h.2 with ⟨rfl, _⟩ | ⟨g', cap, cur, rfl, _, hh, _⟩
  · cases e
  · injection e with e; subst e; exact ⟨cur, hh⟩
theorem app_do {w5 w6 : World} {B d : Nat} {room : Int} {L xs : List Hk} {a : Option Addr} {c : Nat} {v : Value} (h : DoAt w5 B d room L a c) (hR : HRow 68 w5 B v xs) (hg : w5.grownBy w6 v.ownBlock) (hrow : HRow 68 w6 B (.slice a L.length c) L) : DoAt w6 B d room L a c := by
  refine ⟨(hg.block d h.lt fun e => ?_).trans h.obj, hrow, h.lo, h.len⟩
  obtain ⟨cur, e2⟩ := hR.own e.symm
  rw [h.obj] at e2
  injection e2 with e2
  injection e2 with _ e2
  exact absurd e2 (by decide)
theorem app_frd {w5 w6 : World} {B d : Nat} {xs : List Hk} {v : Value} (hR : HRow 68 w5 B v xs) (hg : w5.grownBy w6 v.ownBlock) : FrD w5 w6 B d :=
  ⟨hg.os, hg.tape, hg.output, hg.size, fun g hlt hn => hg.block g hlt fun e => hn (Or.inr ⟨(World.ownsRow.lt hR _ e.symm).1, hR.own e.symm⟩)⟩
theorem app_cells {w5 w6 : World} {B g : Nat} {xs : List Hk} {v : Value} {cur : Array Value} {T : TypeId} (hR : HRow 68 w5 B v xs) (hg : w5.grownBy w6 v.ownBlock) (hT : T ≠ 68) (h : w5.heap[g]? = some (.cells cur T (0, 0))) : w6.heap[g]? = w5.heap[g]? :=
  hg.block g (Array.getElem?_eq_some_iff.1 h).1 fun e => by
    obtain ⟨cur', e2⟩ := hR.own e.symm
    rw [h] at e2
    injection e2 with e2
    injection e2 with _ e2
    exact hT e2
theorem irow_other {w w' : World} {B : Nat} {v : Value} {xs : List Int} (h : IRow w B v xs) (k : ∀ (g : Nat) (cur : Array Value), w.heap[g]? = some (.cells cur 3 (0, 0)) → w'.heap[g]? = w.heap[g]?) : IRow w' B v xs := by
  obtain ⟨h1, h2⟩ := h
  refine ⟨h1, ?_⟩
  rcases h2 with h2 | ⟨g, cap, cur, e1, e2, e3, rest⟩
  · exact Or.inl h2
  · exact Or.inr ⟨g, cap, cur, e1, e2, (k g cur e3).trans e3, rest⟩
structure S8 (w : World) (g : Nat) (p : Pt) (gn n cn : Nat) (M : List Int) (X : World) : Prop where
  box : BoxP X g p
  nds : IRow X g (.slice (some ⟨gn, 0, none⟩) n cn) M
theorem S8.later {w X X' : World} {g : Nat} {p : Pt} {gn n cn : Nat} {M : List Int} (h : S8 w g p gn n cn M X) (k : Below X.heap.size X X') : S8 w g p gn n cn M X' := ⟨h.box.later k, h.nds.later k⟩
theorem irow_at {X : World} {B g n c k : Nat} {M : List Int} (h : IRow X B (.slice (some ⟨g, 0, none⟩) n c) M) (hk : k < M.length) : X.cell? ⟨g, k, none⟩ = some (.int .i64 M[k]) := by
  obtain ⟨g', e, -, -, hc⟩ := h.cell (by omega)
  injection e with e
  injection e with e
  subst e
  exact hc k hk
/-- One more entry in the list that is built. -/
theorem RaJ.add {w w5 : World} {B d : Nat} {room : Int} {L : List Hk} {a : Option Addr} {c : Nat} {p : Pt} {M : List Int} {vn : Value} {k r : Nat} {a7 : Option Addr} {c7 : Nat} (h : RaJ w w5 B d room L a c p M vn k r a7 c7) (hk : k < M.length) (hn : hasB L ⟨p, M[k]⟩ = false) (hB : B ≤ w5.heap.size) (hr : r ≤ 1000) (ty : TypeId) :
    ∃ a6 c6 w6, (Builtin.append_ #[49, 49] ty #[.slice a7 r c7, .slice (some ⟨w5.heap.size, 0, none⟩) 1 1]).run Try.prog (w5.alloc (boxD ⟨p, M[k]⟩)) = .ok (.slice a6 (r + 1) c6) w6 ∧ RaJ w w6 B d room L a c p M vn (k + 1) (r + 1) a6 c6 := by
  have hal := (Below.refl w5.heap.size w5).alloc (Nat.le_refl _) (boxD ⟨p, M[k]⟩)
  have h5 := h.later hal
  obtain ⟨a6, c6, w6, hrun, hrow, hg, hl, hkeep⟩ := appD_run (w := w5) ⟨p, M[k]⟩ ty h.len h.row (by omega) hB
  have hst := frD_yes (p := p) hk hn
  have hold : HRow 68 w6 B (.slice a L.length c) L := by
    rcases h.same with ⟨rfl, rfl⟩ | h0
    · exact hkeep.front
    · rcases h0 with h0 | h0
      · refine ⟨h5.do_.row.1, ?_⟩
        rcases h5.do_.row.2 with h1 | ⟨g, cap, cur, e, _⟩
        · exact Or.inl h1
        · rw [e] at h0; cases h0
      · exact World.ownsRow.kept h5.do_.row hg (Or.inr h0)
  have hob : (Value.slice a7 (r + 1) c7).ownBlock = (Value.slice a7 r c7).ownBlock := by cases a7 <;> rfl
  refine ⟨a6, c6, w6, hrun, app_do h5.do_ h5.row hg hold, by rw [hst, ← List.append_assoc]; exact hrow, by rw [hst, ← List.append_assoc, List.length_append, h.len]; rfl, ?_, h5.frd.trans (app_frd h5.row hg), (app_cells h5.row hg (by decide) h5.box).trans h5.box, irow_other h5.nds fun g cur e => app_cells h5.row hg (by decide) e⟩
  rcases hl with ⟨a0, c0, e1, rfl, rfl⟩ | hl
  · injection e1 with e2 e3 e4
    subst e2 e4
    rcases h.same with ⟨rfl, rfl⟩ | h0
    · exact Or.inl ⟨rfl, rfl⟩
    · rw [hob]; exact Or.inr h0
  · right
    by_cases h0 : (Value.slice a L.length c).ownBlock = none
    · exact Or.inl h0
    · refine Or.inr fun e => ?_
      rw [hl] at e
      have := (World.ownsRow.lt h.do_.row _ e).2
      omega
def RAddDone (w : World) (B d : Nat) (room : Int) (L : List Hk) (p : Pt) (l : List Int) (e : Ending) (w' : World) : Prop := e = .returned (.bool (addOk L room p l)) ∧ (∃ a' c', DoAt w' B d room (addL L room p l) a' c') ∧ FrD w w' B d
theorem set_do {w : World} {B d : Nat} {room : Int} {L L' : List Hk} {a a' : Option Addr} {c c' : Nat} (h : DoAt w B d room L a c) (hR : HRow 68 w B (.slice a' L'.length c') L') (hl : L'.length ≤ 600) : DoAt (w.setCell ⟨d, 1, none⟩ (.slice a' L'.length c')) B d room L' a' c' ∧ FrD w (w.setCell ⟨d, 1, none⟩ (.slice a' L'.length c')) B d := by
  have hbut : ∀ g, g ≠ d → (w.setCell ⟨d, 1, none⟩ (.slice a' L'.length c')).heap[g]? = w.heap[g]? := fun g hg => RowKit.Below.heap_setCell _ _ _ _ hg
  have hobj : (w.setCell ⟨d, 1, none⟩ (.slice a' L'.length c')).heap[d]? = some (.cells #[.int .i64 room, .slice a' L'.length c'] 51 (0, 0)) := by
    unfold World.setCell
    dsimp only
    rw [Array.getElem?_modify, if_pos rfl, h.obj]
    rfl
  refine ⟨⟨hobj, hR.other fun g cur e => hbut g fun e2 => ?_, h.lo, hl⟩, ⟨rfl, rfl, rfl, by simp, fun g hg hn => hbut g fun e => hn (Or.inl e)⟩⟩
  subst e2
  rw [h.obj] at e
  injection e with e
  injection e with _ e
  exact absurd e (by decide)
set_option maxHeartbeats 8000000 in
theorem radd_is {w : World} {B d : Nat} {room : Int} {L : List Hk} {a : Option Addr} {c : Nat} (h : DoAt w B d room L a c) (hB : B ≤ w.heap.size) (hroom : room ≤ 600) (p : Pt) (hs : p.s.size ≤ 1000) (v : Value) (l : List Int) (hN : Ns w v l) : Calls Try.prog 17 #[.pointer (some ⟨d, 0, none⟩), ptV p, v] w (RAddDone w B d room L p l) := by
  obtain ⟨a0, c0, rfl⟩ := hN.slice
  have hal := (Below.refl w.heap.size w).alloc (Nat.le_refl _) (.cells #[.string p.s, .int .i64 p.t, .int .i64 p.v, .int .i64 p.st.c, .int .i64 p.st.s, .int .i64 p.st.q] 31)
  have HAL := Lib.hid hal
  have HBX := Lib.hid (show BoxP (w.alloc (.cells #[.string p.s, .int .i64 p.t, .int .i64 p.v, .int .i64 p.st.c, .int .i64 p.st.s, .int .i64 p.st.q] 31)) w.heap.size p from heap_alloc_new _ _)
  obtain ⟨x0, x1, x2, x3, x4, x5⟩ := HBX.out.pt
  have ke := rcheckp_is p (w.alloc (.cells #[.string p.s, .int .i64 p.t, .int .i64 p.v, .int .i64 p.st.c, .int .i64 p.st.s, .int .i64 p.st.q] 31)) (by omega)
  have HH := Lib.hid h
  have HN := Lib.hid (Ns.later hN hal)
  have HBB := Lib.hid hB
  by_cases he : p.err = 0
  · rw [he] at ke
    have kn := fun W (h : Ns W (.slice a0 l.length c0) l) => rnodes_is (.slice a0 l.length c0) l W h
    have kh := fun (x : Hk) (W : World) (h : DoAt W B d room L a c) => rhas_is h x
    obtain ⟨M, hM⟩ : ∃ M, nodesL l = M := ⟨_, rfl⟩
    obtain ⟨n, hn⟩ : ∃ n, M.length = n := ⟨_, rfl⟩
    have hn16 : n ≤ 16 := by rw [← hn, ← hM]; exact (nodesK_ok l 16).1
    have HM := Lib.hid hM
    have HNN := Lib.hid hn
    have HOK := Lib.hid (show addOk L room p l = decide (((L.length + (frD L p M n).length : Nat) : Int) ≤ room) by unfold addOk; rw [he, ← hn, ← hM, frD_end]; simp)
    have HFE := Lib.hid (show addOk L room p l = true → addL L room p l = L ++ frD L p M n from fun e => by unfold addL; rw [e, if_pos rfl, ← hn, ← hM, frD_end])
    have HL6 := Lib.hid h.len
    rw [hM] at kn
    unfold ptV at *
    clear h hN hal he hM hn hB
    go_enter Try.func17, Try.ntmps17
    go_wp2_with (first
      | (go_at_call 28; (with_reducible refine ke.mono ?_); rintro e w2 ⟨rfl, hb2⟩; (have HB2 := Lib.hid (bel_next HAL.out hb2)); (have HX2 := Lib.hid (HBX.out.later hb2)); (have HN2 := Lib.hid (Ns.later HN.out hb2)); (have HD2 := Lib.hid (HH.out.later HB2.out)); (have q1 := HD2.out.c1); clear hb2)
      | (go_at_call 27; (with_reducible refine (kn _ HN2.out).mono ?_); rintro e w3 ⟨vn, rfl, hR3, hb3⟩; (have HJ3 := Lib.hid (show RaJ w w3 B d room L a c p M vn 0 L.length a c from ⟨HD2.out.later hb3, by (rw [show frD L p M 0 = [] from rfl, List.append_nil]; exact (HD2.out.later hb3).row), by (rw [show frD L p M 0 = [] from rfl, List.append_nil]), Or.inl ⟨rfl, rfl⟩, FrD.of (bel_next HB2.out hb3) B d, HX2.out.later hb3, hR3.mono HB2.out.size⟩)); (obtain ⟨an, cn, rfl⟩ := hR3.slice); (rw [HNN.out] at HJ3); (rw [HNN.out]); clear hb3 hR3))
    go_loopw [7, 9, 10] (fun s7 i s10 wr => ∃ (k r : Nat) (a7 : Option Addr) (c7 : Nat), k ≤ n ∧ r ≤ 600 + k ∧ i = .int .i64 (k : Int) ∧ s7 = .slice a7 r c7 ∧ Hid (RaJ w wr B d room L a c p M (.slice an n cn) k r a7 c7)) (fun _ i _ _ => n - (intOf i).toNat)
    case atStart => exact ⟨0, L.length, a, c, by omega, HL6.out, rfl, rfl, HJ3⟩
    case round =>
      obtain ⟨k, r, a7, c7, hk, hr, rfl, rfl, HJ⟩ := hrel
      obtain ⟨w8, hw8⟩ : ∃ x, x = wr := ⟨_, rfl⟩
      subst hw8
      by_cases hlt : k < n
      · have hlt2 : (k : Int) < (n : Int) := by omega
        have hkM : k < M.length := by rw [HNN.out]; exact hlt
        obtain ⟨gn, rfl, -, -, hcn⟩ := HJ.out.nds.cell (by omega)
        have z0 := hcn k hkM
        obtain ⟨y, hy⟩ : ∃ y, M[k] = y := ⟨_, rfl⟩
        rw [hy] at z0
        have HY := Lib.hid hy
        obtain ⟨y0, y1, y2, y3, y4, y5⟩ := HJ.out.box.pt
        have HJd := Lib.hid (HJ.out.later (show Below w8.heap.size w8 w8.drew from (Below.refl _ _).drew))
        have khk := kh ⟨p, y⟩ w8.drew HJd.out.do_
        clear hcn hy
        cases hz : hasB L ⟨p, y⟩ with
        | true =>
          have HX := Lib.hid (frD_no (p := p) hkM (by rw [HY.out]; exact hz))
          rw [hz] at khk
          dsimp only at khk
          clear hz
          go_wp2_with fail
          refine still_tail 6 (by kernel_rfl) (by kernel_rfl) ?_
          simp only [List.take_succ_cons, List.take_zero, List.drop_succ_cons, List.drop_zero]
          repeat still_step
          refine wpStill_nil ?_
          go_wp2_with (go_at_call 34; (with_reducible refine khk.mono ?_); rintro e w9 ⟨rfl, hb9⟩; (have HJ9 := Lib.hid (HJd.out.later hb9)); clear hb9)
          go_roundw
          case rel => exact ⟨k + 1, r, a7, c7, by omega, by omega, by go_num, rfl, Lib.hid (HJ9.out.skip HX.out)⟩
          case measure => simp [intOf]; omega
        | false =>
          have HHS := Lib.hid (show hasB L ⟨p, M[k]⟩ = false by rw [HY.out]; exact hz)
          have HK := Lib.hid hkM
          rw [hz] at khk
          dsimp only at khk
          clear hz
          go_wp2_with fail
          refine still_tail 6 (by kernel_rfl) (by kernel_rfl) ?_
          simp only [List.take_succ_cons, List.take_zero, List.drop_succ_cons, List.drop_zero]
          repeat still_step
          refine wpStill_nil ?_
          go_wp2_with (go_at_call 34; (with_reducible refine khk.mono ?_); rintro e w9 ⟨rfl, hb9⟩; (have HJ9 := Lib.hid (HJd.out.later hb9)); (have HS9 := Lib.hid (Nat.le_trans (show w.heap.size ≤ w8.drew.heap.size from HJd.out.frd.size) hb9.size)); clear hb9)
          have HJe := Lib.hid (HJ9.out.later (show Below w9.heap.size w9 w9.drew from (Below.refl _ _).drew))
          obtain ⟨g2, e2, -, -, hcn⟩ := HJe.out.nds.cell (by rw [HNN.out]; omega)
          injection e2 with e2
          injection e2 with e2
          subst e2
          have z1 := hcn k HK.out
          rw [HY.out] at z1
          obtain ⟨u0, u1, u2, u3, u4, u5⟩ := HJe.out.box.pt
          obtain ⟨a6, c6, w6, hrun, hJ6⟩ := HJe.out.add HK.out HHS.out (Nat.le_trans HBB.out HS9.out) (by omega) 49
          rw [HY.out] at hrun
          have HJ6 := Lib.hid hJ6
          clear hcn hJ6
          have hrun : (Builtin.append_ #[49, 49] 49 #[.slice a7 r c7, .slice (some ⟨w9.heap.size, 0, none⟩) 1 1]).run Try.prog (w9.alloc (.cells #[.string p.s, .int .i64 p.t, .int .i64 p.v, .int .i64 p.st.c, .int .i64 p.st.s, .int .i64 p.st.q, .int .i64 y] 68)).drew = .ok (.slice a6 (r + 1) c6) w6 := hrun
          have z1 : w9.cell? ⟨gn, k, none⟩ = some (.int .i64 y) := z1
          have u0 : w9.cell? ⟨w.heap.size, 0, none⟩ = some (.string p.s) := u0
          have u1 : w9.cell? ⟨w.heap.size, 1, none⟩ = some (.int .i64 p.t) := u1
          have u2 : w9.cell? ⟨w.heap.size, 2, none⟩ = some (.int .i64 p.v) := u2
          have u3 : w9.cell? ⟨w.heap.size, 3, none⟩ = some (.int .i64 p.st.c) := u3
          have u4 : w9.cell? ⟨w.heap.size, 4, none⟩ = some (.int .i64 p.st.s) := u4
          have u5 : w9.cell? ⟨w.heap.size, 5, none⟩ = some (.int .i64 p.st.q) := u5
          go_wp2_with fail
          refine wp_region_held_drew (S := (S8 w w.heap.size p gn n cn M)) (by kernel_rfl) (show S8 w w.heap.size p gn n cn M w9.drew from ⟨HJe.out.box, HJe.out.nds⟩) (fun hHeld => ?_)
          refine wpAnyH_take (i := 0) (oi := ?v1o) (v := ?v1v) ?v1h (by kernel_rfl) (by kernel_rfl) (by kernel_rfl) ?v1q ?v1y hHeld ?v1r
          case v1h => (simp only [List.getElem?_toArray, List.getElem?_cons_zero]; rfl)
          case v1q => exact fun _ _ _ h => h
          case v1y => (refine Or.inl ⟨by first | kernel_rfl | rfl, ?_⟩; intro w hSw; (try dsimp only at hSw); obtain ⟨hb8, hi8⟩ := hSw; obtain ⟨u0, u1, u2, u3, u4, u5⟩ := hb8.pt; have z1 := (irow_at hi8 HK.out).trans (by rw [HY.out]); go_simp <;> (try with_reducible rfl))
          try simp only [Act.put, List.setIfInBounds_toArray, List.set_cons_zero, List.set_cons_succ]
          refine wpAnyH_take (i := 1) (oi := ?v2o) (v := ?v2v) ?v2h (by kernel_rfl) (by kernel_rfl) (by kernel_rfl) ?v2q ?v2y hHeld ?v2r
          case v2h => (simp only [List.getElem?_toArray, List.getElem?_cons_succ, List.getElem?_cons_zero]; rfl)
          case v2q => exact fun _ _ _ h => h
          case v2y => (refine Or.inl ⟨by first | kernel_rfl | rfl, ?_⟩; intro w hSw; (try dsimp only at hSw); obtain ⟨hb8, hi8⟩ := hSw; obtain ⟨u0, u1, u2, u3, u4, u5⟩ := hb8.pt; have z1 := (irow_at hi8 HK.out).trans (by rw [HY.out]); go_simp <;> (try with_reducible rfl))
          try simp only [Act.put, List.setIfInBounds_toArray, List.set_cons_zero, List.set_cons_succ]
          refine wpAnyH_take (i := 2) (oi := ?v3o) (v := ?v3v) ?v3h (by kernel_rfl) (by kernel_rfl) (by kernel_rfl) ?v3q ?v3y hHeld ?v3r
          case v3h => (simp only [List.getElem?_toArray, List.getElem?_cons_succ, List.getElem?_cons_zero]; rfl)
          case v3q => exact fun _ _ _ h => h
          case v3y => (refine Or.inl ⟨by first | kernel_rfl | rfl, ?_⟩; intro w hSw; (try dsimp only at hSw); obtain ⟨hb8, hi8⟩ := hSw; obtain ⟨u0, u1, u2, u3, u4, u5⟩ := hb8.pt; have z1 := (irow_at hi8 HK.out).trans (by rw [HY.out]); go_simp <;> (try with_reducible rfl))
          try simp only [Act.put, List.setIfInBounds_toArray, List.set_cons_zero, List.set_cons_succ]
          refine wpAnyH_take (i := 3) (oi := ?v4o) (v := ?v4v) ?v4h (by kernel_rfl) (by kernel_rfl) (by kernel_rfl) ?v4q ?v4y hHeld ?v4r
          case v4h => (simp only [List.getElem?_toArray, List.getElem?_cons_succ, List.getElem?_cons_zero]; rfl)
          case v4q => exact fun _ _ _ h => h
          case v4y => (refine Or.inl ⟨by first | kernel_rfl | rfl, ?_⟩; intro w hSw; (try dsimp only at hSw); obtain ⟨hb8, hi8⟩ := hSw; obtain ⟨u0, u1, u2, u3, u4, u5⟩ := hb8.pt; have z1 := (irow_at hi8 HK.out).trans (by rw [HY.out]); go_simp <;> (try with_reducible rfl))
          try simp only [Act.put, List.setIfInBounds_toArray, List.set_cons_zero, List.set_cons_succ]
          refine wpAnyH_take (i := 4) (oi := ?v5o) (v := ?v5v) ?v5h (by kernel_rfl) (by kernel_rfl) (by kernel_rfl) ?v5q ?v5y hHeld ?v5r
          case v5h => (simp only [List.getElem?_toArray, List.getElem?_cons_succ, List.getElem?_cons_zero]; rfl)
          case v5q => exact fun _ _ _ h => h
          case v5y => (refine Or.inl ⟨by first | kernel_rfl | rfl, ?_⟩; intro w hSw; (try dsimp only at hSw); obtain ⟨hb8, hi8⟩ := hSw; obtain ⟨u0, u1, u2, u3, u4, u5⟩ := hb8.pt; have z1 := (irow_at hi8 HK.out).trans (by rw [HY.out]); go_simp <;> (try with_reducible rfl))
          try simp only [Act.put, List.setIfInBounds_toArray, List.set_cons_zero, List.set_cons_succ]
          refine wpAnyH_take (i := 5) (oi := ?v6o) (v := ?v6v) ?v6h (by kernel_rfl) (by kernel_rfl) (by kernel_rfl) ?v6q ?v6y hHeld ?v6r
          case v6h => (simp only [List.getElem?_toArray, List.getElem?_cons_succ, List.getElem?_cons_zero]; rfl)
          case v6q => exact fun _ _ _ h => h
          case v6y => (refine Or.inl ⟨by first | kernel_rfl | rfl, ?_⟩; intro w hSw; (try dsimp only at hSw); obtain ⟨hb8, hi8⟩ := hSw; obtain ⟨u0, u1, u2, u3, u4, u5⟩ := hb8.pt; have z1 := (irow_at hi8 HK.out).trans (by rw [HY.out]); go_simp <;> (try with_reducible rfl))
          try simp only [Act.put, List.setIfInBounds_toArray, List.set_cons_zero, List.set_cons_succ]
          refine wpAnyH_take (i := 6) (oi := ?v7o) (v := ?v7v) ?v7h (by kernel_rfl) (by kernel_rfl) (by kernel_rfl) ?v7q ?v7y hHeld ?v7r
          case v7h => (simp only [List.getElem?_toArray, List.getElem?_cons_succ, List.getElem?_cons_zero]; rfl)
          case v7q => exact fun _ _ _ h => h
          case v7y => (refine Or.inl ⟨by first | kernel_rfl | rfl, ?_⟩; intro w hSw; (try dsimp only at hSw); obtain ⟨hb8, hi8⟩ := hSw; obtain ⟨u0, u1, u2, u3, u4, u5⟩ := hb8.pt; have z1 := (irow_at hi8 HK.out).trans (by rw [HY.out]); go_simp <;> (try with_reducible rfl))
          try simp only [Act.put, List.setIfInBounds_toArray, List.set_cons_zero, List.set_cons_succ]
          refine wpAnyH_ready (rs := [7]) (by kernel_rfl) (by simp) ?_
          refine (AllReadyH.cons rfl (fun K hK => ?_) AllReadyH.nil)
          go_simp
          skip
          refine hK.out _ _ (hHeld.later ((Below.refl _ _).alloc (Nat.le_refl _) _)) (fun hHeld => ?_)
          clear hK K
          try simp only [Act.put, List.setIfInBounds_toArray, List.set_cons_zero, List.set_cons_succ]
          refine wpAnyH_ready (rs := [8]) (by kernel_rfl) (by simp) ?_
          refine (AllReadyH.cons rfl (fun K hK => ?_) AllReadyH.nil)
          refine (if_pos (by kernel_rfl)).mpr ?_
          refine Lib.wp_append_run _ _ _ _ _ rfl _ _ rfl rfl _ _ hrun ?_
          refine hK.out _ _ (⟨HJ6.out.box, HJ6.out.nds⟩) (fun hHeld => ?_)
          clear hK K
          try simp only [Act.put, List.setIfInBounds_toArray, List.set_cons_zero, List.set_cons_succ]
          refine wpAnyH_take (i := 9) (oi := ?v8o) (v := ?v8v) ?v8h (by kernel_rfl) (by kernel_rfl) (by kernel_rfl) ?v8q ?v8y hHeld ?v8r
          case v8h => (simp only [List.getElem?_toArray, List.getElem?_cons_succ, List.getElem?_cons_zero]; rfl)
          case v8q => exact fun _ _ _ h => h
          case v8y => (refine Or.inl ⟨by first | kernel_rfl | rfl, ?_⟩; intro w hSw; (try dsimp only at hSw); obtain ⟨hb8, hi8⟩ := hSw; obtain ⟨u0, u1, u2, u3, u4, u5⟩ := hb8.pt; have z1 := (irow_at hi8 HK.out).trans (by rw [HY.out]); go_simp <;> (try with_reducible rfl))
          try simp only [Act.put, List.setIfInBounds_toArray, List.set_cons_zero, List.set_cons_succ]
          refine wpAnyH_done (by kernel_rfl) ?_ _
          go_wp2
          go_roundw
          case rel => exact ⟨k + 1, r + 1, a6, c6, by omega, by omega, by go_num, rfl, HJ6⟩
          case measure => simp [intOf]; omega
      · obtain rfl : k = n := by omega
        have hlt2 : ¬ (k : Int) < (k : Int) := by omega
        have d0 := HJ.out.do_.c0
        have hlen := HJ.out.len
        have hrl : ((r : Nat) : Int) = ((L.length + (frD L p M k).length : Nat) : Int) := by rw [← hlen, List.length_append]
        by_cases hgt : room < (r : Int)
        · have HO := Lib.hid (show addOk L room p l = false by rw [HOK.out]; exact decide_eq_false (by omega))
          clear hlt hrl hlen
          go_wp2
          go_ret
          exact ⟨by rw [HO.out]; rfl, ⟨a, c, by unfold addL; rw [HO.out]; exact HJ.out.do_⟩, HJ.out.frd⟩
        · have HO := Lib.hid (show addOk L room p l = true by rw [HOK.out]; exact decide_eq_true (by omega))
          have hrow := HJ.out.row
          have hset := set_do HJ.out.do_ (a' := a7) (c' := c7) (L' := L ++ frD L p M k) (by rw [hlen]; exact hrow) (by omega)
          rw [hlen] at hset
          have HS := Lib.hid hset
          have hfz := HJ.out.do_.frozen 1
          have d1 := HJ.out.do_.c1
          clear hlt hrl hlen hrow hset
          go_wp2
          go_ret
          exact ⟨by rw [HO.out]; rfl, ⟨a7, c7, by rw [HFE.out HO.out]; exact HS.out.1⟩, HJ.out.frd.trans HS.out.2⟩
  · have he1 : p.err = 1 := by unfold Pt.err at *; split at he <;> simp_all
    rw [he1] at ke
    have HO := Lib.hid (show addOk L room p l = false by unfold addOk; rw [decide_eq_false he]; rfl)
    clear h hN he he1
    unfold ptV at *
    go_enter Try.func17, Try.ntmps17
    go_wp2_with (go_at_call 28; (with_reducible refine ke.mono ?_); rintro e w2 ⟨rfl, hb2⟩; (have HB2 := Lib.hid (bel_next HAL.out hb2)); clear hb2)
    go_ret
    exact ⟨by rw [HO.out]; rfl, ⟨a, c, by unfold addL; rw [HO.out]; exact HH.out.later HB2.out⟩, FrD.of HB2.out B d⟩
end Go.Proofs.Ytolmhlfegllfoaa.Qu.Hi
