/- ring.New. -/
import Derived.Test.YtmmkbedheeeecaaRingObj
import Derived.Deep.RegionHeld
set_option maxRecDepth 20000
set_option linter.unusedSimpArgs false
namespace Go.Proofs.Ytmmkbedheeeecaa
open Go.RowKit

/-- The nodes below k that stand in a list. -/
def nodesK (l : List Int) (k : Nat) : List Int := ((List.range k).map (fun i : Nat => (i : Int))).filter (inL l)
def nodesL (l : List Int) : List Int := nodesK l 16
def ptsL (N : List Int) : List Pt := N.flatMap ptsOf
theorem nodesK_yes {l : List Int} {k : Nat} (h : inL l (k : Int) = true) : nodesK l (k + 1) = nodesK l k ++ [(k : Int)] := by
  unfold nodesK; rw [List.range_succ, List.map_append, List.filter_append]; simp [h]
theorem nodesK_no {l : List Int} {k : Nat} (h : inL l (k : Int) = false) : nodesK l (k + 1) = nodesK l k := by
  unfold nodesK; rw [List.range_succ, List.map_append, List.filter_append]; simp [h]
theorem nodesK_ok (l : List Int) (k : Nat) : (nodesK l k).length ≤ k ∧ ∀ n ∈ nodesK l k, 0 ≤ n ∧ n < (k : Int) := by
  refine ⟨?_, fun n hn => ?_⟩
  · unfold nodesK; exact Nat.le_trans (List.length_filter_le _ _) (by simp)
  · unfold nodesK at hn
    obtain ⟨h1, -⟩ := List.mem_filter.1 hn
    obtain ⟨i, hi, rfl⟩ := List.mem_map.1 h1
    have := List.mem_range.1 hi
    omega
theorem nodesL_ok (l : List Int) : NOk (nodesL l) := ⟨(nodesK_ok l 16).1, fun n hn => by have := (nodesK_ok l 16).2 n hn; omega⟩
theorem ptsOf_len (n : Int) : (ptsOf n).length = 8 := by simp [ptsOf]
theorem ptsL_len (N : List Int) : (ptsL N).length = N.length * 8 := by
  induction N with
  | nil => rfl
  | cons n t ih =>
    have e : ptsL (n :: t) = ptsOf n ++ ptsL t := by simp [ptsL]
    rw [e, List.length_append, ih, ptsOf_len, List.length_cons]; omega
theorem ptsL_snoc (N : List Int) (n : Int) : ptsL (N ++ [n]) = ptsL N ++ ptsOf n := by unfold ptsL; rw [List.flatMap_append]; simp
theorem ptsL_mem {N : List Int} {p : Pt} (h : p ∈ ptsL N) : p.n ∈ N ∧ ∃ k, k < 8 ∧ p = ptOf p.n k := by
  unfold ptsL at h
  obtain ⟨n, hn, hp⟩ := List.mem_flatMap.1 h
  unfold ptsOf at hp
  obtain ⟨k, hk, rfl⟩ := List.mem_map.1 hp
  exact ⟨hn, k, List.mem_range.1 hk, rfl⟩
theorem pok_srt {N : List Int} (h : NOk N) : POk (srt (ptsL N)) := by
  refine ⟨by rw [srt_len, ptsL_len]; have := h.1; omega, fun p hp => ?_⟩
  obtain ⟨h1, k, -, h2⟩ := ptsL_mem ((List.mergeSort_perm _ _).mem_iff.1 hp)
  refine ⟨?_, h.2 _ h1⟩
  rw [h2]
  exact hashL_fit _
theorem flatP_one (l : List Pt) : ∀ v ∈ l.flatMap cellsP, v.oneCell' = true := by
  intro v hv
  obtain ⟨s, _, h⟩ := List.mem_flatMap.1 hv
  unfold cellsP at h
  rcases List.mem_cons.1 h with rfl | h
  · rfl
  · rw [List.mem_singleton] at h; subst h; rfl
/-- Points appended to a slice of the call's own, in a region that draws its order. -/
theorem step_prow {ops : Array Oper} {o : Oper} {a : Act} {w : World} {K : Act → World → Prop} {Q : Exit → Act → World → Prop} {E : Prop} (hgd : o.guard = none) (sl x : Operand)
    (ho : o.op = .call { callee := .builtin .append, args := #[sl, x], argTypes := #[55, 55] })
    (B C : Nat) (v u : Value) (xs ys : List Pt) (hs : a.eval sl = v) (hx : a.eval x = u) (hown : PRow w B 61 v xs) (hnew : PRow w C 61 u ys) (hpos : 0 < ys.length) (hB : B ≤ w.heap.size) (hl : xs.length + ys.length ≤ 1000000)
    (h : ∀ v' w', PRow w' B 61 v' (xs ++ ys) → Below B w w' → Grew w w' v v' → K (a.put o.dst v') w') :
    if Region.wanted o (yielded ops a.tmps) = true then Oper.wp Try.prog o a w K Q else E := by
  have hw : Region.wanted o (yielded ops a.tmps) = true := by simp [Region.wanted, hgd]
  rw [if_pos hw]
  obtain ⟨i0, hi, hz0, hz1, hz2⟩ := info_parts infoP
  obtain ⟨g2, cap2, rfl⟩ : ∃ g2 cap2, u = .slice (some ⟨g2, 0, none⟩) ys.length cap2 := by
    rcases hnew.2 with ⟨_, h0⟩ | ⟨g, cap, cur, e, _⟩
    · omega
    · exact ⟨g, cap, e⟩
  obtain ⟨v', w', hr, h2, h3, h4, h5⟩ := run_append_own_at (P := Try.prog) w B 55 o.type 61 i0 (.agg #[.int .u64 0, .int .i64 0]) 2 16 Try.underlying55 hi hz0 hz1 hz2 rfl (by decide) v xs.length (xs.flatMap cellsP) hown ⟨g2, 0, none⟩ ys.length cap2 (ys.flatMap cellsP) (flatP_len ys) (World.ownsRow.cells hnew (g := g2) rfl) (flatP_one ys) (by unfold maxLen; omega) (by omega) hB
  have G : Grew w w' v v' := ⟨h3, by
    rcases h5 with h5 | h5
    · exact Or.inl h5
    · exact Or.inr ⟨_, h5, Nat.le_refl _⟩⟩
  have hf := h v' w' (by unfold PRow; rw [List.length_append, List.flatMap_append]; exact h2) (G.below hown (Nat.le_refl _) hB) G
  unfold Oper.wp execOp
  simp only [ho, resolve, invoke, builtin, Sem.run_bind, Sem.run_pure, Result.andThen_ok, List.map_toArray, List.map_cons, List.map_nil, hs, hx, hr]
  exact hf
/-- Behind the nodes below k. -/
structure NewRel (w wr : World) (ep : Int) (v1 v2 : Value) (N : List Int) : Prop where
  c0 : wr.cell? ⟨w.heap.size, 0, none⟩ = some (.int .i64 ep)
  c1 : wr.cell? ⟨w.heap.size, 1, none⟩ = some v1
  c2 : wr.cell? ⟨w.heap.size, 2, none⟩ = some v2
  f1 : wr.frozen? ⟨w.heap.size, 1, none⟩ = false
  f2 : wr.frozen? ⟨w.heap.size, 2, none⟩ = false
  r1 : IRow wr (w.heap.size + 1) v1 N
  r2 : PRow wr (w.heap.size + 1) 61 v2 (ptsL N)
  ap : Apart v1 v2
  bel : Below w.heap.size w wr
/-- The same, with one node's points still to come. -/
structure MidRel (w wr : World) (ep : Int) (v1 v2 : Value) (N M : List Int) : Prop where
  c0 : wr.cell? ⟨w.heap.size, 0, none⟩ = some (.int .i64 ep)
  c1 : wr.cell? ⟨w.heap.size, 1, none⟩ = some v1
  c2 : wr.cell? ⟨w.heap.size, 2, none⟩ = some v2
  f1 : wr.frozen? ⟨w.heap.size, 1, none⟩ = false
  f2 : wr.frozen? ⟨w.heap.size, 2, none⟩ = false
  r1 : IRow wr (w.heap.size + 1) v1 N
  r2 : PRow wr (w.heap.size + 1) 61 v2 (ptsL M)
  ap : Apart v1 v2
  bel : Below w.heap.size w wr
theorem MidRel.later {w wr w' : World} {ep : Int} {v1 v2 : Value} {N M : List Int} (h : MidRel w wr ep v1 v2 N M) (k : Below wr.heap.size wr w') : MidRel w w' ep v1 v2 N M := by
  have hb : w.heap.size < wr.heap.size := World.block_lt_of_cell? wr _ h.c0
  exact ⟨(k.cell (p := ⟨w.heap.size, 0, none⟩) hb).trans h.c0, (k.cell (p := ⟨w.heap.size, 1, none⟩) hb).trans h.c1, (k.cell (p := ⟨w.heap.size, 2, none⟩) hb).trans h.c2,
    (k.frozen (p := ⟨w.heap.size, 1, none⟩) hb).trans h.f1, (k.frozen (p := ⟨w.heap.size, 2, none⟩) hb).trans h.f2, h.r1.later k, h.r2.later k, h.ap, bel_next h.bel k⟩
/-- The nodes have grown by one: stored. -/
theorem NewRel.node {w wr w' : World} {ep : Int} {v1 v2 v1' : Value} {N M : List Int} (h : NewRel w wr ep v1 v2 N) (k : IRow w' (w.heap.size + 1) v1' M) (b : Below (w.heap.size + 1) wr w') (G : Grew wr w' v1 v1') :
    MidRel w (w'.setCell ⟨w.heap.size, 1, none⟩ v1') ep v1' v2 M N := by
  have hb : w.heap.size < wr.heap.size := World.block_lt_of_cell? wr _ h.c0
  have hlt : w.heap.size < w.heap.size + 1 := Nat.lt_succ_self _
  have kp := G.keep h.r2 h.ap.symm
  have cc : ∀ j, w'.cell? ⟨w.heap.size, j, none⟩ = wr.cell? ⟨w.heap.size, j, none⟩ := fun j => b.cell (p := ⟨w.heap.size, j, none⟩) hlt
  have ff : ∀ j, w'.frozen? ⟨w.heap.size, j, none⟩ = wr.frozen? ⟨w.heap.size, j, none⟩ := fun j => b.frozen (p := ⟨w.heap.size, j, none⟩) hlt
  refine ⟨?_, ?_, ?_, ?_, ?_, ownsRow_setCell_below k hlt _, ownsRow_setCell_below kp.1 hlt _, kp.2.symm, ?_⟩
  · rw [World.cell?_setCell_other _ _ _ _ (by intro e; injection e with _ e2; omega), cc]; exact h.c0
  · exact World.cell?_setCell_same' _ _ _ (by rw [cc, h.c1]; rfl)
  · rw [World.cell?_setCell_other _ _ _ _ (by intro e; injection e with _ e2; omega), cc]; exact h.c2
  · rw [World.frozen?_setCell, ff]; exact h.f1
  · rw [World.frozen?_setCell, ff]; exact h.f2
  · exact (h.bel.trans (b.mono (Nat.le_succ _))).setCell (Nat.le_refl _) _
theorem MidRel.pts {w wr w' : World} {ep : Int} {v1 v2 v2' : Value} {N M : List Int} (h : MidRel w wr ep v1 v2 N M) (k : PRow w' (w.heap.size + 1) 61 v2' (ptsL N)) (b : Below (w.heap.size + 1) wr w') (G : Grew wr w' v2 v2') :
    NewRel w (w'.setCell ⟨w.heap.size, 2, none⟩ v2') ep v1 v2' N := by
  have hlt : w.heap.size < w.heap.size + 1 := Nat.lt_succ_self _
  have kp := G.keep h.r1 h.ap
  have cc : ∀ j, w'.cell? ⟨w.heap.size, j, none⟩ = wr.cell? ⟨w.heap.size, j, none⟩ := fun j => b.cell (p := ⟨w.heap.size, j, none⟩) hlt
  have ff : ∀ j, w'.frozen? ⟨w.heap.size, j, none⟩ = wr.frozen? ⟨w.heap.size, j, none⟩ := fun j => b.frozen (p := ⟨w.heap.size, j, none⟩) hlt
  refine ⟨?_, ?_, ?_, ?_, ?_, ownsRow_setCell_below kp.1 hlt _, ownsRow_setCell_below k hlt _, kp.2, ?_⟩
  · rw [World.cell?_setCell_other _ _ _ _ (by intro e; injection e with _ e2; omega), cc]; exact h.c0
  · rw [World.cell?_setCell_other _ _ _ _ (by intro e; injection e with _ e2; omega), cc]; exact h.c1
  · exact World.cell?_setCell_same' _ _ _ (by rw [cc, h.c2]; rfl)
  · rw [World.frozen?_setCell, ff]; exact h.f1
  · rw [World.frozen?_setCell, ff]; exact h.f2
  · exact (h.bel.trans (b.mono (Nat.le_succ _))).setCell (Nat.le_refl _) _
/-- What New leaves. -/
def NewDone (ep : Int) (l : List Int) (w : World) (e : Ending) (w' : World) : Prop := ∃ b v1 v2, e = .returned (.pointer (some ⟨b, 0, none⟩)) ∧ RingAt w' b v1 v2 ep (nodesL l) (srt (ptsL (nodesL l))) ∧ Below w.heap.size w w'
set_option maxHeartbeats 4000000 in
theorem new_is (ep : Int) (v : Value) (l : List Int) (w : World) (h : Ns w v l) : Calls Try.prog 13 #[.int .i64 ep, v] w (NewDone ep l w) := by
  obtain ⟨a, cap, rfl⟩ := h.slice
  have H := Lib.hid h
  have kp := fun n w h => pointsOf_is n w h
  clear h
  generalize l.length = len at *
  go_enter Try.func13, Try.ntmps13
  go_wp2
  go_loopw [10] (fun i wr => ∃ k : Nat, k ≤ 16 ∧ i = .int .i64 (k : Int) ∧ ∃ v1 v2, NewRel w wr ep v1 v2 (nodesK l k)) (fun i _ => 16 - (intOf i).toNat)
  case atStart =>
    refine ⟨0, by omega, rfl, .slice none 0 0, .slice none 0 0, ⟨by simp, by simp, by simp, by simp, by simp, IRow.nil _ _, PRow.nil _ _ _, Apart.nil _, (Below.refl w.heap.size w).alloc (Nat.le_refl _) _⟩⟩
  case round =>
    obtain ⟨k, hk, rfl, v1, v2, hR⟩ := hrel
    obtain ⟨a1, d1, rfl⟩ := hR.r1.slice
    obtain ⟨a2, d2, rfl⟩ := hR.r2.slice
    obtain ⟨w2, hw2⟩ : ∃ w2, w2 = wr := ⟨_, rfl⟩
    subst hw2
    by_cases hlt : k < 16
    · have hlt2 : (k : Int) < 16 := by omega
      obtain ⟨q, hq⟩ : ∃ q, inL l (k : Int) = q := ⟨_, rfl⟩
      have kc := contains_is (.slice a len cap) l (k : Int) w2 (by first | exact H.out.later hR.bel | exact Ns.later H.out hR.bel)
      rw [hq] at kc
      have HQ := Lib.hid hq
      have HR := Lib.hid hR
      have c1 := hR.c1
      have f1 := hR.f1
      have hlen1 := (nodesK_ok l k).1
      clear hR hq
      cases q with
      | false =>
        clear c1 f1
        go_wp2_with (go_at_call 26; (with_reducible refine kc.mono ?_); rintro e w1 ⟨rfl, rfl⟩)
        go_roundw
        case rel => exact ⟨k + 1, by omega, by go_num, _, _, by rw [nodesK_no HQ.out]; exact HR.out⟩
        case measure => simp [intOf]; omega
      | true =>
        have HM := Lib.hid (nodesK_yes HQ.out)
        have HL := Lib.hid hlen1
        have hB1 : w.heap.size + 1 ≤ w2.heap.size := World.block_lt_of_cell? w2 _ c1
        clear hlen1
        generalize hN : nodesK l k = N at *
        have hr1 := HR.out.r1
        clear hN
        go_wp2_with (first
          | (go_at_call 26; (with_reducible refine kc.mono ?_); rintro e w1 ⟨rfl, rfl⟩)
          | (at_builtin; refine wpList_irow rfl _ _ rfl (w.heap.size + 1) (.slice a1 N.length d1) N rfl (k : Int) rfl hr1 hB1 (by have := HL.out; omega) ?_))
        intro v1' w3 hr3 hb3 G3
        obtain ⟨a3, d3, e3⟩ := hr3.slice
        obtain ⟨n3, hn3⟩ : ∃ n3, (N ++ [(k : Int)]).length = n3 := ⟨_, rfl⟩
        rw [hn3] at e3
        have HN3 := Lib.hid hn3
        clear hn3
        subst e3
        have hM := HR.out.node hr3 hb3 G3
        have c3 : w3.cell? ⟨w.heap.size, 1, none⟩ = some (.slice a1 N.length d1) := (hb3.cell (p := ⟨w.heap.size, 1, none⟩) (Nat.lt_succ_self _)).trans c1
        have f3 : w3.frozen? ⟨w.heap.size, 1, none⟩ = false := (hb3.frozen (p := ⟨w.heap.size, 1, none⟩) (Nat.lt_succ_self _)).trans f1
        have HM3 := Lib.hid hM
        clear hr3 hb3 G3 hM c1 f1 hr1 kc
        generalize hw4 : w3.setCell ⟨w.heap.size, 1, none⟩ (.slice a3 n3 d3) = w4 at *
        go_upto_region 7 with fail
        clear hw4 c3 f3
        obtain ⟨kcall⟩ : Nonempty (∀ W, Calls Try.prog 27 #[.int .i64 (k : Int)] W fun e w' => ∃ v, e = .returned v ∧ PRow w' W.heap.size 61 v (ptsOf (k : Int)) ∧ Below W.heap.size W w') := ⟨fun W => kp (k : Int) W (by omega)⟩
        have HM4 := Lib.hid (HM3.out.later ((Below.refl _ _).drew))
        refine wp_region_held_drew (S := fun _ => True) (by kernel_rfl) trivial (fun hHeld => ?_)
        clear hHeld
        generalize w4.drew = wd at *
        have c4 := HM4.out.c2
        have hHeld : True := trivial
        refine wpAnyH_take (i := 0) (oi := ?o1o) (v := ?o1v) ?o1h (by kernel_rfl) (by kernel_rfl) (by kernel_rfl) ?o1q ?o1y hHeld ?o1r
        case o1h => (simp only [List.getElem?_toArray, List.getElem?_cons_zero]; rfl)
        case o1q => exact fun _ _ _ h => h
        case o1y => (refine Or.inl ⟨by first | kernel_rfl | rfl, ?_⟩; intro w hSw; (try dsimp only at hSw); go_simp <;> (try with_reducible rfl))
        try simp only [Act.put, List.setIfInBounds_toArray, List.set_cons_zero, List.set_cons_succ]
        refine wpAnyH_take (i := 1) (oi := ?o2o) (v := ?o2v) ?o2h (by kernel_rfl) (by kernel_rfl) (by kernel_rfl) ?o2q ?o2y hHeld ?o2r
        case o2h => (simp only [List.getElem?_toArray, List.getElem?_cons_succ, List.getElem?_cons_zero]; rfl)
        case o2q => exact fun _ _ _ h => h
        case o2y => (refine Or.inl ⟨by first | kernel_rfl | rfl, ?_⟩; intro w hSw; (try dsimp only at hSw); go_simp <;> (try with_reducible rfl))
        try simp only [Act.put, List.setIfInBounds_toArray, List.set_cons_zero, List.set_cons_succ]
        refine wpAnyH_take (i := 2) (oi := ?o3o) (v := ?o3v) ?o3h (by kernel_rfl) (by kernel_rfl) (by kernel_rfl) ?o3q ?o3y hHeld ?o3r
        case o3h => (simp only [List.getElem?_toArray, List.getElem?_cons_succ, List.getElem?_cons_zero]; rfl)
        case o3q => exact fun _ _ _ h => h
        case o3y => (refine Or.inl ⟨by first | kernel_rfl | rfl, ?_⟩; intro w hSw; (try dsimp only at hSw); go_simp <;> (try with_reducible rfl))
        try simp only [Act.put, List.setIfInBounds_toArray, List.set_cons_zero, List.set_cons_succ]
        refine wpAnyH_take (i := 3) (oi := ?o4o) (v := ?o4v) ?o4h (by kernel_rfl) (by kernel_rfl) (by kernel_rfl) ?o4q ?o4y hHeld ?o4r
        case o4h => (simp only [List.getElem?_toArray, List.getElem?_cons_succ, List.getElem?_cons_zero]; rfl)
        case o4q => exact fun _ _ _ h => h
        case o4y => (refine Or.inl ⟨by first | kernel_rfl | rfl, ?_⟩; intro w hSw; (try dsimp only at hSw); go_simp <;> (try with_reducible rfl))
        try simp only [Act.put, List.setIfInBounds_toArray, List.set_cons_zero, List.set_cons_succ]
        refine wpAnyH_take (i := 5) (oi := ?o5o) (v := ?o5v) ?o5h (by kernel_rfl) (by kernel_rfl) (by kernel_rfl) ?o5q ?o5y hHeld ?o5r
        case o5h => (simp only [List.getElem?_toArray, List.getElem?_cons_succ, List.getElem?_cons_zero]; rfl)
        case o5q => exact fun _ _ _ h => h
        case o5y => (refine Or.inl ⟨by first | kernel_rfl | rfl, ?_⟩; intro w hSw; (try dsimp only at hSw); go_simp <;> (try with_reducible rfl))
        try simp only [Act.put, List.setIfInBounds_toArray, List.set_cons_zero, List.set_cons_succ]
        refine wpAnyH_ready (rs := [4, 6]) (by kernel_rfl) (by simp) ?_
        refine (AllReadyH.cons rfl (fun K hK => ?_) (AllReadyH.cons rfl (fun K hK => ?_) AllReadyH.nil))
        ·
          go_simp
          skip
          refine hK.out _ _ (trivial) (fun hHeld => ?_)
          clear hK K
          try simp only [Act.put, List.setIfInBounds_toArray, List.set_cons_zero, List.set_cons_succ]
          refine wpAnyH_ready (rs := [6]) (by kernel_rfl) (by simp) ?_
          refine (AllReadyH.cons rfl (fun K hK => ?_) AllReadyH.nil)
          go_simp
          ((with_reducible refine (kcall _).mono ?_); rintro e w5 ⟨v5, rfl, hp5, hb5⟩; (have HP5 := Lib.hid hp5); (have h5 := HM4.out.later hb5); (have c5 := h5.c2); (have HM5 := Lib.hid h5); clear hp5 hb5 h5 c4 kcall)
          refine hK.out _ _ (trivial) (fun hHeld => ?_)
          clear hK K
          try simp only [Act.put, List.setIfInBounds_toArray, List.set_cons_zero, List.set_cons_succ]
          refine wpAnyH_ready (rs := [7]) (by kernel_rfl) (by simp) ?_
          refine (AllReadyH.cons rfl (fun K hK => ?_) AllReadyH.nil)
          refine step_prow rfl _ _ rfl (w.heap.size + 1) _ (.slice a2 (ptsL N).length d2) v5 (ptsL N) (ptsOf (k : Int)) rfl rfl HM5.out.r2 HP5.out (by rw [ptsOf_len]; omega) (World.block_lt_of_cell? w5 _ c5) (by rw [ptsL_len, ptsOf_len]; have := HL.out; omega) ?_
          intro v6 w6 hr6 hb6 G6
          have c6 : w6.cell? ⟨w.heap.size, 2, none⟩ = some (.slice a2 (ptsL N).length d2) := (hb6.cell (p := ⟨w.heap.size, 2, none⟩) (Nat.lt_succ_self _)).trans c5
          have f6 : w6.frozen? ⟨w.heap.size, 2, none⟩ = false := (hb6.frozen (p := ⟨w.heap.size, 2, none⟩) (Nat.lt_succ_self _)).trans HM5.out.f2
          have h6 := HM5.out.pts (by rw [ptsL_snoc]; exact hr6) hb6 G6
          obtain ⟨a6, d6, e6⟩ := hr6.slice
          obtain ⟨n6, hn6⟩ : ∃ n, (ptsL N ++ ptsOf (k : Int)).length = n := ⟨_, rfl⟩
          rw [hn6] at e6
          subst e6
          have HM6 := Lib.hid h6
          clear hr6 hb6 G6 h6 hn6 c5
          refine hK.out _ _ (trivial) (fun hHeld => ?_)
          clear hK K
          try simp only [Act.put, List.setIfInBounds_toArray, List.set_cons_zero, List.set_cons_succ]
          refine wpAnyH_take (i := 8) (oi := ?o6o) (v := ?o6v) ?o6h (by kernel_rfl) (by kernel_rfl) (by kernel_rfl) ?o6q ?o6y hHeld ?o6r
          case o6h => (simp only [List.getElem?_toArray, List.getElem?_cons_succ, List.getElem?_cons_zero]; rfl)
          case o6q => exact fun _ _ _ h => h
          case o6y => (refine Or.inl ⟨by first | kernel_rfl | rfl, ?_⟩; intro w hSw; (try dsimp only at hSw); go_simp <;> (try with_reducible rfl))
          try simp only [Act.put, List.setIfInBounds_toArray, List.set_cons_zero, List.set_cons_succ]
          refine wpAnyH_take (i := 9) (oi := ?o7o) (v := ?o7v) ?o7h (by kernel_rfl) (by kernel_rfl) (by kernel_rfl) ?o7q ?o7y hHeld ?o7r
          case o7h => (simp only [List.getElem?_toArray, List.getElem?_cons_succ, List.getElem?_cons_zero]; rfl)
          case o7q => exact fun _ _ _ h => h
          case o7y => (refine Or.inl ⟨by first | kernel_rfl | rfl, ?_⟩; intro w hSw; (try dsimp only at hSw); go_simp <;> (try with_reducible rfl))
          try simp only [Act.put, List.setIfInBounds_toArray, List.set_cons_zero, List.set_cons_succ]
          refine wpAnyH_ready (rs := [10]) (by kernel_rfl) (by simp) ?_
          refine (AllReadyH.cons rfl (fun K hK => ?_) AllReadyH.nil)
          go_simp
          skip
          refine hK.out _ _ (trivial) (fun hHeld => ?_)
          clear hK K
          try simp only [Act.put]
          refine wpAnyH_done (by kernel_rfl) ?_ _
          go_wp2
          go_roundw
          case rel => exact ⟨k + 1, by omega, by go_num, _, _, by rw [HM.out]; exact HM6.out⟩
          case measure => simp [intOf]; omega
        ·
          go_simp
          ((with_reducible refine (kcall _).mono ?_); rintro e w5 ⟨v5, rfl, hp5, hb5⟩; (have HP5 := Lib.hid hp5); (have h5 := HM4.out.later hb5); (have c5 := h5.c2); (have HM5 := Lib.hid h5); clear hp5 hb5 h5 c4 kcall)
          refine hK.out _ _ (trivial) (fun hHeld => ?_)
          clear hK K
          try simp only [Act.put, List.setIfInBounds_toArray, List.set_cons_zero, List.set_cons_succ]
          refine wpAnyH_ready (rs := [4]) (by kernel_rfl) (by simp) ?_
          refine (AllReadyH.cons rfl (fun K hK => ?_) AllReadyH.nil)
          go_simp
          skip
          refine hK.out _ _ (trivial) (fun hHeld => ?_)
          clear hK K
          try simp only [Act.put, List.setIfInBounds_toArray, List.set_cons_zero, List.set_cons_succ]
          refine wpAnyH_ready (rs := [7]) (by kernel_rfl) (by simp) ?_
          refine (AllReadyH.cons rfl (fun K hK => ?_) AllReadyH.nil)
          refine step_prow rfl _ _ rfl (w.heap.size + 1) _ (.slice a2 (ptsL N).length d2) v5 (ptsL N) (ptsOf (k : Int)) rfl rfl HM5.out.r2 HP5.out (by rw [ptsOf_len]; omega) (World.block_lt_of_cell? w5 _ c5) (by rw [ptsL_len, ptsOf_len]; have := HL.out; omega) ?_
          intro v6 w6 hr6 hb6 G6
          have c6 : w6.cell? ⟨w.heap.size, 2, none⟩ = some (.slice a2 (ptsL N).length d2) := (hb6.cell (p := ⟨w.heap.size, 2, none⟩) (Nat.lt_succ_self _)).trans c5
          have f6 : w6.frozen? ⟨w.heap.size, 2, none⟩ = false := (hb6.frozen (p := ⟨w.heap.size, 2, none⟩) (Nat.lt_succ_self _)).trans HM5.out.f2
          have h6 := HM5.out.pts (by rw [ptsL_snoc]; exact hr6) hb6 G6
          obtain ⟨a6, d6, e6⟩ := hr6.slice
          obtain ⟨n6, hn6⟩ : ∃ n, (ptsL N ++ ptsOf (k : Int)).length = n := ⟨_, rfl⟩
          rw [hn6] at e6
          subst e6
          have HM6 := Lib.hid h6
          clear hr6 hb6 G6 h6 hn6 c5
          refine hK.out _ _ (trivial) (fun hHeld => ?_)
          clear hK K
          try simp only [Act.put, List.setIfInBounds_toArray, List.set_cons_zero, List.set_cons_succ]
          refine wpAnyH_take (i := 8) (oi := ?o8o) (v := ?o8v) ?o8h (by kernel_rfl) (by kernel_rfl) (by kernel_rfl) ?o8q ?o8y hHeld ?o8r
          case o8h => (simp only [List.getElem?_toArray, List.getElem?_cons_succ, List.getElem?_cons_zero]; rfl)
          case o8q => exact fun _ _ _ h => h
          case o8y => (refine Or.inl ⟨by first | kernel_rfl | rfl, ?_⟩; intro w hSw; (try dsimp only at hSw); go_simp <;> (try with_reducible rfl))
          try simp only [Act.put, List.setIfInBounds_toArray, List.set_cons_zero, List.set_cons_succ]
          refine wpAnyH_take (i := 9) (oi := ?o9o) (v := ?o9v) ?o9h (by kernel_rfl) (by kernel_rfl) (by kernel_rfl) ?o9q ?o9y hHeld ?o9r
          case o9h => (simp only [List.getElem?_toArray, List.getElem?_cons_succ, List.getElem?_cons_zero]; rfl)
          case o9q => exact fun _ _ _ h => h
          case o9y => (refine Or.inl ⟨by first | kernel_rfl | rfl, ?_⟩; intro w hSw; (try dsimp only at hSw); go_simp <;> (try with_reducible rfl))
          try simp only [Act.put, List.setIfInBounds_toArray, List.set_cons_zero, List.set_cons_succ]
          refine wpAnyH_ready (rs := [10]) (by kernel_rfl) (by simp) ?_
          refine (AllReadyH.cons rfl (fun K hK => ?_) AllReadyH.nil)
          go_simp
          skip
          refine hK.out _ _ (trivial) (fun hHeld => ?_)
          clear hK K
          try simp only [Act.put]
          refine wpAnyH_done (by kernel_rfl) ?_ _
          go_wp2
          go_roundw
          case rel => exact ⟨k + 1, by omega, by go_num, _, _, by rw [HM.out]; exact HM6.out⟩
          case measure => simp [intOf]; omega
    · obtain rfl : k = 16 := by omega
      have HR := Lib.hid hR
      have c2 := hR.c2
      have ks := sort_is (.slice a2 (ptsL (nodesK l 16)).length d2) (ptsL (nodesK l 16)) (w.heap.size + 1) w2 hR.r2 (by rw [ptsL_len]; have := (nodesK_ok l 16).1; omega)
      clear hR kp hk
      generalize (ptsL (nodesK l 16)).length = n2 at *
      go_wp2_with (go_at_call 28; (with_reducible refine ks.mono ?_); rintro e w3 ⟨rfl, hr3, hg3⟩; (have HR3 := Lib.hid hr3); (have HG3 := Lib.hid hg3); clear hr3 hg3 c2)
      go_ret
      have G : Grew w2 w3 (.slice a2 n2 d2) (.slice a2 n2 d2) := ⟨HG3.out, Or.inl rfl⟩
      have hb := G.below HR.out.r2 (Nat.le_refl _) (World.block_lt_of_cell? w2 _ HR.out.c0)
      have hlt : w.heap.size < w.heap.size + 1 := Nat.lt_succ_self _
      exact ⟨_, _, _, rfl, ⟨(hb.cell (p := ⟨w.heap.size, 0, none⟩) hlt).trans HR.out.c0, (hb.cell (p := ⟨w.heap.size, 1, none⟩) hlt).trans HR.out.c1, (hb.cell (p := ⟨w.heap.size, 2, none⟩) hlt).trans HR.out.c2, Joins.ownsRow_le (G.keep HR.out.r1 HR.out.ap).1 (Nat.zero_le _), Joins.ownsRow_le HR3.out (Nat.zero_le _), nodesL_ok l, pok_srt (nodesL_ok l)⟩, HR.out.bel.trans (hb.mono (Nat.le_succ _))⟩
end Go.Proofs.Ytmmkbedheeeecaa
