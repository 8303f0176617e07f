/- slices.Insert at spans: at the end, with room, without. -/
import Derived.Test.YtdkenokjdiamhaaDoorWindowRow
set_option maxRecDepth 20000
namespace Go.Proofs.YtdkenokjdiamhaaDoor
open Go.RowKit Go.Lib

theorem overlaps_not {w : World} {r : Option Nat} {a2 : Option Addr} {l : List Sp} {g c : Nat} {L : List Sp} {cur : List Value} (hs : SrcOk w r a2 l) (hr : r = some g) (hl : l ≠ []) (hrow : RowIs w g c L cur) (hc : 0 < c) (c2 : Nat) (p : Option Addr) (hp : ∃ o, p = some ⟨g, o, none⟩) (k q : Nat) :
    (callFunc 68 #[.slice a2 l.length c2, .slice p k q]).run Tryd.prog w = .ok (.value (.bool false)) w ∧ (callFunc 68 #[.slice p k q, .slice a2 l.length c2]).run Tryd.prog w = .ok (.value (.bool false)) w := by
  rcases hs with hs | ⟨b, off, rfl, hne, hsp, hfz⟩
  · exact absurd hs hl
  · obtain ⟨o, rfl⟩ := hp
    subst hr
    have hbg : b ≠ g := fun e => hne (by rw [e])
    have hlp : 0 < l.length := List.length_pos_iff.2 hl
    have hc0 := (hsp 0 hlp).c0
    have hsb : ∃ tb kb, w.shape? b = some (tb, kb) ∧ kb ≠ 0 := by
      unfold World.cell? at hc0
      unfold World.shape?
      cases hh : w.heap[b]? with
      | none => rw [hh] at hc0; cases hc0
      | some ob =>
        rw [hh] at hc0
        cases ob with
        | cells cs tt fz =>
          refine ⟨tt, cs.size, rfl, fun e0 => ?_⟩
          simp at hc0
          have := (Array.getElem?_eq_some_iff.1 hc0).1
          omega
        | _ => cases hc0
    obtain ⟨tb, kb, hsb, hkb⟩ := hsb
    have hsg : w.shape? g = some (26, cur.toArray.size) := by unfold World.shape?; rw [hrow.heap]
    have hkg : cur.toArray.size ≠ 0 := by have := hrow.len; simp only [List.size_toArray]; omega
    have hfg : ∀ j, w.frozen? ⟨g, j, none⟩ = false := fun j => by simp [World.frozen?, hrow.heap]
    have hz : ∀ w, (sizeOf 26).run Tryd.prog w = .ok 2 w := fun w => by kernel_rfl
    refine ⟨?_, ?_⟩
    · rw [run_callFunc_extern Tryd.func68 (by kernel_rfl) (by kernel_rfl) (by kernel_rfl) (e := Extern.SlicesOverlaps.overlaps #[SPT, SPT] #[4]) (by kernel_rfl),
        Lib.run_overlaps_apart w SPT 4 26 undSpT 2 hz ⟨b, off, none⟩ ⟨g, o, none⟩ l.length c2 k q hbg tb 26 kb cur.toArray.size hsb hsg hkg (hfz off) (hfz kb)]
      rfl
    · rw [run_callFunc_extern Tryd.func68 (by kernel_rfl) (by kernel_rfl) (by kernel_rfl) (e := Extern.SlicesOverlaps.overlaps #[SPT, SPT] #[4]) (by kernel_rfl),
        Lib.run_overlaps_apart w SPT 4 26 undSpT 2 hz ⟨g, o, none⟩ ⟨b, off, none⟩ k q l.length c2 (Ne.symm hbg) 26 tb cur.toArray.size kb hsg hsb hkb (hfg o) (hfg _)]
      rfl

set_option maxHeartbeats 2000000 in
theorem insert_end (B : Nat) (a a2 : Option Addr) (n m c c2 : Nat) (L l : List Sp) (w : World) (hn : Hid (L.length = n)) (hm : Hid (l.length = m)) (hR : SpRow w B (.slice a L.length c) L) (hB : B ≤ w.heap.size)
    (hs : SrcOk w (Value.slice a n c).ownBlock a2 l) (hl : 0 < m) (hsz : n + m ≤ 1000000) :
    Calls Tryd.prog 67 #[.slice a n c, .int .i64 (n : Int), .slice a2 m c2] w (RepDone B (.slice a n c) (L ++ l) w) := by
  obtain ⟨i0, hi, hz0, hz1, hz2⟩ := info_parts infoSp
  obtain ⟨p, -, hp1, hp2⟩ := cut_from a n c n (n : Int) rfl (Nat.le_refl n)
  have hmz : ((m : Int) == 0) = false := by rw [beq_eq_false_iff_ne]; omega
  have hHN := hn
  have hHM := hm
  rcases hs with hs | ⟨b, off, rfl, hne, hsp, -⟩
  · have := hm.out; rw [hs] at this; simp at this; omega
  · have hR0 : w.ownsRow B 26 2 (.slice a n c) n (L.flatMap cells2) := by have := hR; unfold SpRow at this; rw [hn.out] at this; exact this
    have hfl : (l.flatMap cells2).length = m * 2 := by rw [flat2_len, hm.out]
    have hsrc := flat_cells b off w l hsp
    clear hsp hne hR
    go_enter Tryd.func67, Tryd.ntmps67
    go_wp2_with (at_builtin; refine wpList_append_own_at _ rfl _ _ SPT rfl B 26 i0 (.agg #[.int .i64 0, .int .i64 0]) 2 16 Tryd.underlying29 hi hz0 hz1 hz2 rfl (by decide) _ _ _ rfl hR0 ⟨b, off, none⟩ m c2 (l.flatMap cells2) rfl hfl ?c1 ?c2 ?c3 ?c4 ?c5 ?_)
    case c1 =>
      intro j u hj
      rw [Addr.add_lit]
      exact hsrc j u hj
    case c2 => exact flat_one l
    case c3 => unfold maxLen; omega
    case c4 => omega
    case c5 => exact hB
    intro v' w' hown hgrow _ hfoot
    have HOWN := Lib.hid hown
    have HF := Lib.hid hfoot
    clear hown hsrc hfl hR0 hfoot
    go_wp2
    go_ret
    refine ⟨_, rfl, ?_, hgrow, ?_⟩
    · unfold SpRow
      rw [List.length_append, hHN.out, hHM.out, List.flatMap_append]
      exact HOWN.out
    · rcases HF.out with h | h
      · exact Or.inl h
      · exact Or.inr ⟨_, h, Nat.le_refl _⟩

theorem SrcOk.grown {w w' : World} {r : Option Nat} {a : Option Addr} {l : List Sp} (h : SrcOk w r a l) (hg : w.grownBy w' r) : SrcOk w' r a l := by
  rcases h with h | ⟨b, off, e, hne, hsp, hfz⟩
  · exact Or.inl h
  · by_cases h0 : l = []
    · exact Or.inl h0
    · have hb : b < w.heap.size := (hsp 0 (List.length_pos_iff.2 h0)).room
      have hk := hg.block b hb hne
      exact Or.inr ⟨b, off, e, hne, fun j hj => ⟨(World.cell?_of_block (a := ⟨b, off + j * 2, none⟩) hk).trans (hsp j hj).c0, (World.cell?_of_block (a := ⟨b, off + j * 2 + 1, none⟩) hk).trans (hsp j hj).c1⟩, fun j => (World.frozen?_of_block (a := ⟨b, j, none⟩) hk).trans (hfz j)⟩
theorem SrcOk.cells {w : World} {r : Option Nat} {a : Option Addr} {l : List Sp} (h : SrcOk w r a l) (hl : l ≠ []) : ∃ ad, a = some ad ∧ ∀ j v, (l.flatMap cells2)[j]? = some v → w.cell? (ad.add j) = some v := by
  rcases h with h | ⟨b, off, e, hne, hsp, hfz⟩
  · exact absurd h hl
  · exact ⟨_, e, fun j v hv => by rw [Addr.add_lit]; exact flat_cells b off w l hsp j v hv⟩

set_option maxHeartbeats 2000000 in
theorem insert_shift (B : Nat) (g : Nat) (a2 : Option Addr) (i n m c c2 : Nat) (L l : List Sp) (cur : List Value) (w : World) (hn : Hid (L.length = n)) (hm : Hid (l.length = m)) (hR : RowIs w g c L cur) (hB : B ≤ g)
    (hs : SrcOk w (some g) a2 l) (hl : 0 < m) (hin : i < n) (hroom : n + m ≤ c) (hsz : n + m ≤ 1000000)
    (T : List Sp) (hT : Hid (L.take i ++ l ++ L.drop i = T)) :
    Calls Tryd.prog 67 #[.slice (some ⟨g, 0, none⟩) n c, .int .i64 (i : Int), .slice a2 m c2] w (RepDone B (.slice (some ⟨g, 0, none⟩) n c) T w) := by
  have hl0 : l ≠ [] := by intro e; have := hm.out; rw [e] at this; simp at this; omega
  have hct : c ≤ 9223372036854775807 := by have := hR.top; unfold maxLen at this; omega
  obtain ⟨p1, -, hp1, hp1'⟩ := cut_from (some ⟨g, 0, none⟩) n c i (i : Int) rfl (by omega)
  obtain ⟨hp2, hp2'⟩ := cut_to g n c (n + m) ((n : Int) + (m : Int)) (by omega) hroom
  obtain ⟨p3, hp3a, hp3, hp3'⟩ := cut_from (some ⟨g, 0, none⟩) (n + m) c (i + m) ((i : Int) + (m : Int)) (by omega) (by omega)
  have hp3e := hp3a (by omega)
  rw [add_row] at hp3e
  subst hp3e
  obtain ⟨p4, hp4a, hp4, hp4'⟩ := cut_from (some ⟨g, 0, none⟩) (n + m) c i (i : Int) rfl (by omega)
  have hp4e := hp4a (by omega)
  rw [add_row] at hp4e
  subst hp4e
  have hov := fun k q => (overlaps_not (p := some ⟨g, (i + m) * 2, none⟩) hs rfl hl0 hR (by omega) c2 ⟨_, rfl⟩ k q).1
  rw [hm.out] at hov
  have hmz : ((m : Int) == 0) = false := by rw [beq_eq_false_iff_ne]; omega
  have hie : ((i : Int) == (n : Int)) = false := by rw [beq_eq_false_iff_ne]; omega
  have hgt : ¬ (c : Int) < (n : Int) + (m : Int) := by omega
  have hw1 : IntKind.i64.wrap ((n : Int) + (m : Int)) = (n : Int) + (m : Int) := by rw [IntKind.wrap_i64]; omega
  have hw2 : IntKind.i64.wrap ((i : Int) + (m : Int)) = (i : Int) + (m : Int) := by rw [IntKind.wrap_i64]; omega
  obtain ⟨A, hA⟩ : ∃ A, (L.take i).flatMap cells2 = A := ⟨_, rfl⟩
  obtain ⟨M, hM⟩ : ∃ M, l.flatMap cells2 = M := ⟨_, rfl⟩
  obtain ⟨C, hC⟩ : ∃ C, (L.drop i).flatMap cells2 = C := ⟨_, rfl⟩
  have lA : A.length = i * 2 := by rw [← hA, flat2_len, List.length_take, hn.out]; omega
  have lM : M.length = m * 2 := by rw [← hM, flat2_len, hm.out]
  have lC : C.length = (n - i) * 2 := by rw [← hC, flat2_len, List.length_drop, hn.out]
  have oM : ∀ v ∈ M, v.oneCell' = true := by rw [← hM]; exact flat_one l
  have oC : ∀ v ∈ C, v.oneCell' = true := by rw [← hC]; exact flat_one _
  have cC := hR.cells i (by rw [hn.out]; omega)
  rw [hC] at cC
  have tA : cur.take A.length = A := by rw [lA, ← hA]; exact hR.head i (by rw [hn.out]; omega)
  have hcl := hR.len
  have hheap := hR.heap
  have HEND := Lib.hid (fun (w' : World) (hh : w'.heap[g]? = some (.cells (splice (splice cur ((i + m) * 2) C) (i * 2) M).toArray 26 (0, 0))) => show SpRow w' B (.slice (some ⟨g, 0, none⟩) (n + m) c) (L.take i ++ l ++ L.drop i) by
    have hlen : (L.take i ++ l ++ L.drop i).length = n + m := by
      rw [List.length_append, List.length_append, List.length_take, List.length_drop, hn.out, hm.out]; omega
    have hfl : (L.take i ++ l ++ L.drop i).flatMap cells2 = A ++ M ++ C := by rw [List.flatMap_append, List.flatMap_append, hA, hM, hC]
    have key := sp_ba cur A M C tA (by omega)
    rw [lA, lM, lC] at key
    have e1 : i * 2 + m * 2 = (i + m) * 2 := by omega
    have e2 : i * 2 + m * 2 + (n - i) * 2 = (n + m) * 2 := by omega
    rw [e2, e1] at key
    have hR' : RowIs w' g c (L.take i ++ l ++ L.drop i) (splice (splice cur ((i + m) * 2) C) (i * 2) M) := ⟨hh, by
      rw [length_splice _ _ _ (by rw [length_splice _ _ _ (by omega)]; omega), length_splice _ _ _ (by omega)]; exact hcl, by omega, hR.top, by rw [hlen, hfl]; exact key⟩
    have := hR'.row hB
    rw [hlen] at this
    exact this)
  have HS := Lib.hid hs
  have d1 : C.length = Nat.min (n + m - i) (n + m - (i + m)) * 2 := by rw [lC]; simp only [Nat.min_def]; split <;> omega
  have d2 : ∀ (j : Nat) v, C[j]? = some v → w.cell? ((⟨g, i * 2, none⟩ : Addr).add j) = some v := fun j v hv => by rw [Addr.add_lit]; exact cC j v hv
  have d3 : (i + m) * 2 + C.length ≤ cur.length := by omega
  have d4 : M.length = Nat.min m (n + m - i) * 2 := by rw [lM]; simp only [Nat.min_def]; split <;> omega
  have d5 : ∀ w : World, SrcOk w (some g) a2 l → ∃ ad, a2 = some ad ∧ ∀ j v, M[j]? = some v → w.cell? (ad.add j) = some v := fun w h => by rw [← hM]; exact h.cells hl0
  have HT := Lib.hid hT.out
  clear hA hM hC tA hn hm hs hR hT
  go_enter Tryd.func67, Tryd.ntmps67
  go_wp2_with (simp only [hov])
  go_region_law (refine step_copy_rows rfl _ _ rfl (some ⟨g, (i + m) * 2, none⟩) (some ⟨g, i * 2, none⟩) (n + m - (i + m)) (c - (i + m)) (n + m - i) (c - i) (by simp [Act.eval, Act.put]) (by simp [Act.eval, Act.put]) g ((i + m) * 2) cur 26 hheap C d1 (fun _ => ⟨rfl, _, rfl, d2⟩) d3 oC ?_; intro w4 HG4 hb4)
  have HS4 := Lib.hid (HS.out.grown (w' := w4) ⟨hb4.os, hb4.tape, hb4.output, hb4.size, hb4.block⟩)
  have hl4 := length_splice cur ((i + m) * 2) C d3
  go_wp2_with (refine wpList_copy_rows rfl _ _ rfl (some ⟨g, i * 2, none⟩) a2 (n + m - i) (c - i) m c2 rfl rfl g (i * 2) _ 26 HG4.out M d4 (fun _ => ⟨rfl, d5 w4 HS4.out⟩) (by rw [hl4]; omega) oM ?_)
  intro w5 HG5 hb5
  go_wp2
  go_ret
  exact ⟨_, rfl, by rw [← HT.out]; exact HEND.out w5 HG5.out, World.grownBy.trans ⟨hb4.os, hb4.tape, hb4.output, hb4.size, hb4.block⟩ hb5, Or.inl rfl⟩

/-- append(s[:i], make([]T, k)...) where there is no room: a new row. -/
theorem append_zeros {w : World} {g c : Nat} {L : List Sp} {cur : List Value} (hR : RowIs w g c L cur) (i k tot : Nat) (hi : i ≤ L.length) (hk : 0 < k) (htot : i + k = tot) (hc : c < tot) (hsz : tot ≤ 2000000) :
    ∃ ROW G W1, (∀ ty, (Builtin.append_ #[SPT, 3] ty #[.slice (some ⟨g, 0, none⟩) i c, .int .i64 (k : Int)]).run Tryd.prog w = .ok (.slice (some ⟨w.heap.size, 0, none⟩) tot G) W1) ∧
      W1.heap[w.heap.size]? = some (.cells (List.toArray ROW) 26 (0, 0)) ∧ ROW.length = G * 2 ∧ tot ≤ G ∧ G ≤ maxLen ∧ ROW.take (i * 2) = (L.take i).flatMap cells2 ∧ w.grownBy W1 none := by
  obtain ⟨i0, hi0, hz0, hz1, hz2⟩ := info_parts infoSp
  have hfl : ((L.take i).flatMap cells2).length = i * 2 := by rw [flat2_len, List.length_take]; omega
  have hold : (Builtin.firstCells i0.size i (.slice (some ⟨g, 0, none⟩) i c)).run Tryd.prog w.drew = .ok ((L.take i).flatMap cells2).toArray w.drew := by
    rw [hz1]
    refine run_firstCells_some w.drew 2 i ⟨g, 0, none⟩ i c _ hfl (fun j v hj => ?_)
    rw [Addr.add_lit, Nat.zero_add]
    show w.cell? _ = _
    rw [← hR.head i hi, List.getElem?_take] at hj
    split at hj
    · rw [cell_of_row w g j cur.toArray _ (0, 0) hR.heap]; simpa using hj
    · cases hj
  subst htot
  have key := fun ty => Lib.run_append_grow_zeros w SPT 3 ty 26 i0 _ .i64 .i64 undSpT Tryd.underlying3 hi0 hz0 (some ⟨g, 0, none⟩) i c _ hold k hk (by omega) hc (by omega) (by rw [hz2]; omega) (by rw [hz2]; exact growslice_fits hc (by omega))
  have hG := grownCap_ge w (i + k) c 26
  have hGm := grownCap_le_maxLen w (i + k) c 26 (by unfold maxLen; omega)
  generalize grownCap w (i + k) c 26 = G at key hG hGm
  refine ⟨(L.take i).flatMap cells2 ++ (Builtin.zeroCells (Value.agg #[.int .i64 0, .int .i64 0]).cells k).toList ++ (Builtin.zeroCells (Value.agg #[.int .i64 0, .int .i64 0]).cells (G - (i + k))).toList, G, _, key, ?_, ?_, hG, hGm, ?_, ?_⟩
  rotate_right
  · have h := World.grownBy_alloc w.drew (.cells (((L.take i).flatMap cells2).toArray ++ Builtin.zeroCells (Value.agg #[.int .i64 0, .int .i64 0]).cells k ++ Builtin.zeroCells (Value.agg #[.int .i64 0, .int .i64 0]).cells (G - (i + k))) 26) none
    exact ⟨h.os, h.tape, h.output, h.size, h.block⟩
  · have e := heap_alloc_new w.drew (.cells (((L.take i).flatMap cells2).toArray ++ Builtin.zeroCells (Value.agg #[.int .i64 0, .int .i64 0]).cells k ++ Builtin.zeroCells (Value.agg #[.int .i64 0, .int .i64 0]).cells (G - (i + k))) 26)
    have e2 : ((L.take i).flatMap cells2 ++ (Builtin.zeroCells (Value.agg #[.int .i64 0, .int .i64 0]).cells k).toList ++ (Builtin.zeroCells (Value.agg #[.int .i64 0, .int .i64 0]).cells (G - (i + k))).toList).toArray = ((L.take i).flatMap cells2).toArray ++ Builtin.zeroCells (Value.agg #[.int .i64 0, .int .i64 0]).cells k ++ Builtin.zeroCells (Value.agg #[.int .i64 0, .int .i64 0]).cells (G - (i + k)) := by
      apply Array.ext'; simp
    rw [e2]
    exact e
  · rw [List.length_append, List.length_append, hfl]
    simp [Builtin.zeroCells, Value.cells]
    omega
  · rw [List.append_assoc, List.take_left' hfl]

theorem row_end {w' : World} {B g c tot : Nat} {T : List Sp} {cur' X : List Value} (hB : B ≤ g) (hh : w'.heap[g]? = some (.cells cur'.toArray 26 (0, 0))) (hl : cur'.length = c * 2) (htot : tot ≤ c) (hc : c ≤ maxLen) (hT : T.length = tot) (hX : cur'.take (tot * 2) = X) (hF : T.flatMap cells2 = X) : SpRow w' B (.slice (some ⟨g, 0, none⟩) tot c) T := by
  have hR' : RowIs w' g c T cur' := ⟨hh, hl, by omega, hc, by rw [hT, hX, hF]⟩
  have := hR'.row hB
  rw [hT] at this
  exact this
/-- The pieces of what is put together. -/
structure Pieces (L l : List Sp) (i j n m q : Nat) (A M C : List Value) (T : List Sp) : Prop where
  lA : A.length = i * 2
  lM : M.length = m * 2
  lC : C.length = q * 2
  oM : ∀ v ∈ M, v.oneCell' = true
  oC : ∀ v ∈ C, v.oneCell' = true
  lT : T.length = i + m + q
  fT : T.flatMap cells2 = A ++ M ++ C
theorem Pieces.of {L l T : List Sp} {i j n m : Nat} (q : Nat) (hn : L.length = n) (hm : l.length = m) (hij : i ≤ j) (hj : j ≤ n) (hq : n - j = q) (hT : L.take i ++ l ++ L.drop j = T) : Pieces L l i j n m q ((L.take i).flatMap cells2) (l.flatMap cells2) ((L.drop j).flatMap cells2) T :=
  ⟨by rw [flat2_len, List.length_take, hn]; omega, by rw [flat2_len, hm], by rw [flat2_len, List.length_drop, hn, hq], flat_one _, flat_one _, by rw [← hT, List.length_append, List.length_append, List.length_take, List.length_drop, hn, hm]; omega, by rw [← hT, List.flatMap_append, List.flatMap_append]⟩
theorem grown_next {u w x : World} {r : Option Nat} (h : u.grownBy w none) (k : ∀ b, b < u.heap.size → some b ≠ r → x.heap[b]? = w.heap[b]?) (ho : x.os = w.os) (ht : x.tape = w.tape) (hp : x.output = w.output) (hs : w.heap.size ≤ x.heap.size) : u.grownBy x r :=
  ⟨ho.trans h.os, ht.trans h.tape, hp.trans h.output, Nat.le_trans h.size hs, fun b hb hr => (k b hb hr).trans (h.block b hb (by simp))⟩

set_option maxHeartbeats 2000000 in
theorem insert_grow (B : Nat) (g : Nat) (a2 : Option Addr) (i n m c c2 : Nat) (L l : List Sp) (cur : List Value) (w : World) (hn : Hid (L.length = n)) (hm : Hid (l.length = m)) (hR : RowIs w g c L cur) (hB : B ≤ g)
    (hs : SrcOk w (some g) a2 l) (hl : 0 < m) (hin : i < n) (hroom : c < n + m) (hsz : n + m ≤ 1000000)
    (T : List Sp) (hT : Hid (L.take i ++ l ++ L.drop i = T)) :
    Calls Tryd.prog 67 #[.slice (some ⟨g, 0, none⟩) n c, .int .i64 (i : Int), .slice a2 m c2] w (RepDone B (.slice (some ⟨g, 0, none⟩) n c) T w) := by
  have hl0 : l ≠ [] := by intro e; have := hm.out; rw [e] at this; simp at this; omega
  have hct : c ≤ 9223372036854775807 := by have := hR.top; unfold maxLen at this; omega
  have hnc : n ≤ c := by have := hR.fits; rw [hn.out] at this; exact this
  have hgw : g < w.heap.size := (Array.getElem?_eq_some_iff.1 hR.heap).1
  obtain ⟨p1, hp1a, hp1, hp1'⟩ := cut_from (some ⟨g, 0, none⟩) n c i (i : Int) rfl (by omega)
  have hp1e := hp1a (by omega)
  rw [add_row] at hp1e
  subst hp1e
  obtain ⟨hp2, hp2'⟩ := cut_to g n c i (i : Int) rfl (by omega)
  obtain ⟨ROW, G, W1, hap, hrow, hrl, hG, hGm, htk, hgr⟩ := append_zeros hR i (n + m - i) (n + m) (by rw [hn.out]; omega) (by omega) (by omega) hroom (by omega)
  have hGt : G ≤ 9223372036854775807 := by unfold maxLen at hGm; omega
  obtain ⟨N, hN⟩ : ∃ N, w.heap.size = N := ⟨_, rfl⟩
  rw [hN] at hap hrow
  obtain ⟨p3, hp3a, hp3, hp3'⟩ := cut_from (some ⟨N, 0, none⟩) (n + m) G (i + m) ((i : Int) + (m : Int)) (by omega) (by omega)
  have hp3e := hp3a (by omega)
  rw [add_row] at hp3e
  subst hp3e
  obtain ⟨p4, hp4a, hp4, hp4'⟩ := cut_from (some ⟨N, 0, none⟩) (n + m) G i (i : Int) rfl (by omega)
  have hp4e := hp4a (by omega)
  rw [add_row] at hp4e
  subst hp4e
  have hmz : ((m : Int) == 0) = false := by rw [beq_eq_false_iff_ne]; omega
  have hie : ((i : Int) == (n : Int)) = false := by rw [beq_eq_false_iff_ne]; omega
  have hgt : (c : Int) < (n : Int) + (m : Int) := by omega
  have hw1 : IntKind.i64.wrap ((n : Int) + (m : Int)) = (n : Int) + (m : Int) := by rw [IntKind.wrap_i64]; omega
  have hw2 : IntKind.i64.wrap ((i : Int) + (m : Int)) = (i : Int) + (m : Int) := by rw [IntKind.wrap_i64]; omega
  have hw3 : IntKind.i64.wrap ((n : Int) + (m : Int) - (i : Int)) = (n : Int) + (m : Int) - (i : Int) := by rw [IntKind.wrap_i64]; omega
  have hkk : (n : Int) + (m : Int) - (i : Int) = ((n + m - i : Nat) : Int) := by omega
  have hap2 : ∀ ty, (Builtin.append_ #[SPT, 3] ty #[.slice (some ⟨g, 0, none⟩) i c, .int .i64 ((n : Int) + (m : Int) - (i : Int))]).run Tryd.prog w = .ok (.slice (some ⟨N, 0, none⟩) (n + m) G) W1 := fun ty => by rw [hkk]; exact hap ty
  obtain ⟨lA, lM, lC, oM, oC, lT, fT⟩ := Pieces.of (n - i) hn.out hm.out (Nat.le_refl i) (by omega) rfl hT.out
  have cC := hR.cells i (by rw [hn.out]; omega)
  have hHR := Lib.hid hR
  rw [← htk] at lA fT
  obtain ⟨A, hA⟩ : ∃ A, ROW.take (i * 2) = A := ⟨_, rfl⟩
  obtain ⟨M, hM⟩ : ∃ M, l.flatMap cells2 = M := ⟨_, rfl⟩
  obtain ⟨C, hC⟩ : ∃ C, (L.drop i).flatMap cells2 = C := ⟨_, rfl⟩
  rw [hA] at lA fT
  rw [hM] at lM oM fT
  rw [hC] at lC oC fT cC
  have key := sp_ab ROW A M C (by rw [lA]; exact hA)
  rw [lA, lM, lC] at key
  have e1 : i * 2 + m * 2 = (i + m) * 2 := by omega
  have e2 : (i + m) * 2 + (n - i) * 2 = (n + m) * 2 := by omega
  rw [e1, e2] at key
  have f1 : i * 2 + M.length ≤ ROW.length := by omega
  have l1 := length_splice ROW (i * 2) M f1
  have f2 : (i + m) * 2 + C.length ≤ (splice ROW (i * 2) M).length := by omega
  have l2 := length_splice (splice ROW (i * 2) M) ((i + m) * 2) C f2
  have HEND := Lib.hid (fun (w' : World) hh => row_end (w' := w') (B := B) (g := N) (tot := n + m) (T := T) (cur' := splice (splice ROW (i * 2) M) ((i + m) * 2) C) (c := G) (by omega) hh (by omega) hG hGm (by omega) key fT)
  have d1 : M.length = Nat.min m (n + m - i) * 2 := by rw [lM]; simp only [Nat.min_def]; split <;> omega
  have d2 : ∃ ad, a2 = some ad ∧ ∀ (j : Nat) v, M[j]? = some v → W1.cell? (ad.add j) = some v := by rw [← hM]; exact (hs.grown (grown_any hgr)).cells hl0
  have d3 : C.length = Nat.min (n - i) (n + m - (i + m)) * 2 := by rw [lC]; simp only [Nat.min_def]; split <;> omega
  have d4 : ∀ w' : World, W1.grownBy w' (some N) → ∀ (j : Nat) v, C[j]? = some v → w'.cell? ((⟨g, i * 2, none⟩ : Addr).add j) = some v := fun w' h j v hv => by
    rw [Addr.add_lit]
    refine (World.cell?_of_block (w := w) ?_).trans (cC j v hv)
    exact (h.block g (Nat.lt_of_lt_of_le hgw hgr.size) (by simp; omega)).trans (hgr.block g hgw (by simp))
  have HGR := Lib.hid (fun (w4 w5 : World) (h4 : W1.grownBy w4 (some N)) (h5 : w4.grownBy w5 (some N)) => show w.grownBy w5 (some g) from grown_next hgr (fun b hb hr => by
    rw [h5.block b (Nat.lt_of_lt_of_le hb (Nat.le_trans hgr.size h4.size)) (by simp; omega), h4.block b (Nat.lt_of_lt_of_le hb hgr.size) (by simp; omega)]) (h5.os.trans h4.os) (h5.tape.trans h4.tape) (h5.output.trans h4.output) (Nat.le_trans h4.size h5.size))
  clear hA hM hC hn hm hs hR hT hkk hap htk hgr key e1 e2 fT hHR
  go_enter Tryd.func67, Tryd.ntmps67
  go_wp2_with (first
    | (at_builtin; refine Lib.wpList_append_run _ rfl _ _ _ _ rfl _ _ rfl rfl _ _ (hap2 _) ?_)
    | (refine wpList_copy_rows rfl _ _ rfl (some ⟨N, i * 2, none⟩) a2 (n + m - i) (G - i) m c2 rfl rfl N (i * 2) ROW 26 hrow M d1 (fun _ => ⟨rfl, d2⟩) f1 oM ?_))
  intro w4 HG4 hb4
  have d4 := d4 w4 hb4
  go_wp2_with fail
  go_region_law (refine step_copy_rows rfl _ _ rfl (some ⟨N, (i + m) * 2, none⟩) (some ⟨g, i * 2, none⟩) (n + m - (i + m)) (G - (i + m)) (n - i) (c - i) (by simp [Act.eval, Act.put]) (by simp [Act.eval, Act.put]) N ((i + m) * 2) _ 26 HG4.out C d3 (fun _ => ⟨rfl, _, rfl, d4⟩) f2 oC ?_; intro w5 HG5 hb5)
  go_wp2
  go_ret
  exact ⟨_, rfl, HEND.out w5 HG5.out, HGR.out w4 w5 hb4 ⟨hb5.os, hb5.tape, hb5.output, hb5.size, hb5.block⟩, Or.inr ⟨N, rfl, by omega⟩⟩
end Go.Proofs.YtdkenokjdiamhaaDoor
