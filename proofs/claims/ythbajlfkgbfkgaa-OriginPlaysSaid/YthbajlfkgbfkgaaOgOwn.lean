/- A copy of a record; whether a record is beyond a vector. -/
import Derived.Test.YthbajlfkgbfkgaaOgAt
import Derived.Test.YthbajlfkgbfkgaaSampleG
import Derived.Deep.RegionHeld
set_option maxRecDepth 20000
set_option linter.unusedSimpArgs false
set_option linter.unusedVariables false
namespace Go.Proofs.Ythbajlfkgbfkgaa.Og
open Go.RowKit Go.Proofs.Ythbajlfkgbfkgaa.Vi Go.Proofs.Ythbajlfkgbfkgaa.Mk

theorem setCell_noop {w : World} {b o : Nat} {v : Value} (h : w.cell? ⟨b, o, none⟩ = some v) : w.setCell ⟨b, o, none⟩ v = w := by
  unfold World.cell? at h
  unfold World.setCell
  obtain ⟨heap, tape, drawn, os, output⟩ := w
  dsimp only at *
  congr 1
  apply Array.ext
  · simp
  · intro i h1 h2
    rw [Array.getElem_modify]
    split
    · rename_i e
      subst e
      have hb : heap[b]? = some heap[b] := Array.getElem?_eq_getElem h2
      rw [hb] at h
      cases hq : heap[b] with
      | cells c t f =>
        rw [hq] at h
        simp at h
        simp only [Option.isSome_none, Bool.false_eq_true, if_false]
        congr 1
        apply Array.ext
        · simp
        · intro j g1 g2
          rw [Array.getElem_setIfInBounds]
          split
          · rename_i e
            subst e
            rw [Array.getElem?_eq_getElem g2] at h
            exact (Option.some.inj h).symm
          · rfl
      | _ => rfl
    · rfl
theorem World.heap_setCell_off (w : World) (b o : Nat) (v : Value) (q : Nat) (h : q ≠ b) : (w.setCell ⟨b, o, none⟩ v).heap[q]? = w.heap[q]? := Below.heap_setCell w ⟨b, o, none⟩ v q h
theorem nine_off (a : World) (b q : Nat) (h : q ≠ b) (v0 v1 v2 v3 v4 v5 v6 v7 v8 : Value) : (((((((((a.setCell ⟨b, 0, none⟩ v0).setCell ⟨b, 1, none⟩ v1).setCell ⟨b, 2, none⟩ v2).setCell ⟨b, 3, none⟩ v3).setCell ⟨b, 4, none⟩ v4).setCell ⟨b, 5, none⟩ v5).setCell ⟨b, 6, none⟩ v6).setCell ⟨b, 7, none⟩ v7).setCell ⟨b, 8, none⟩ v8).heap[q]? = a.heap[q]? := by
  rw [World.heap_setCell_off _ _ _ _ _ h, World.heap_setCell_off _ _ _ _ _ h, World.heap_setCell_off _ _ _ _ _ h, World.heap_setCell_off _ _ _ _ _ h, World.heap_setCell_off _ _ _ _ _ h, World.heap_setCell_off _ _ _ _ _ h, World.heap_setCell_off _ _ _ _ _ h, World.heap_setCell_off _ _ _ _ _ h, World.heap_setCell_off _ _ _ _ _ h]
theorem own_past {v : Value} {A C D : Nat} (h : ∀ q, v.ownBlock = some q → C ≤ q ∧ q < D) (k : A ≤ C) : ∀ q, v.ownBlock = some q → A ≤ q ∧ q < D := fun q hq => ⟨Nat.le_trans k (h q hq).1, (h q hq).2⟩
structure OwS (w : World) (b e : Nat) (r : Rec) (u : World) : Prop where
  rw_ : ∃ z, RecW u b r z
  out : RecW u e Rec.zero (.slice none 0 0)
  bel : Below w.heap.size w u
  lo : w.heap.size ≤ b ∧ b < e
theorem OwS.lt1 {w u : World} {b e : Nat} {r : Rec} (h : OwS w b e r u) : b < u.heap.size := by obtain ⟨z, hz⟩ := h.rw_; exact hz.room
theorem OwS.keep {w u u' : World} {b e : Nat} {r : Rec} (h : OwS w b e r u) (k : Below u.heap.size u u') : OwS w b e r u' := by
  obtain ⟨z, hz⟩ := h.rw_
  exact ⟨⟨z, hz.below k⟩, h.out.below k, bel_next h.bel k, h.lo⟩
theorem OwS.set8 {w u : World} {b e : Nat} {r : Rec} (h : OwS w b e r u) (v : Value) : OwS w b e r (u.setCell ⟨b, 8, none⟩ v) := by
  obtain ⟨z, hz⟩ := h.rw_
  exact ⟨⟨v, hz.set8 r.d v⟩, h.out.other ⟨b, 8, none⟩ v (by have := h.lo; dsimp only; omega), h.bel.setCell (by have := h.lo; dsimp only; omega) _, h.lo⟩
def OwnDone (r : Rec) (w : World) (e : Ending) (w' : World) : Prop := ∃ x : Rd, x.r = r ∧ e = .returned (recV r x.dv) ∧ Ns w' x.dv r.d ∧ Below w.heap.size w w' ∧ ∀ q, x.dv.ownBlock = some q → w.heap.size ≤ q ∧ q < w'.heap.size
set_option maxHeartbeats 4000000 in
theorem own_is (x : Rd) (w : World) (hN : Ns w x.dv x.r.d) (hs : x.r.s.size ≤ 100000) (hl : x.r.d.length ≤ 1000000) : Calls Try.prog 42 #[recV x.r x.dv] w (OwnDone x.r w) := by
  obtain ⟨r, a, c⟩ := x
  unfold Rd.dv recV at *
  dsimp only at *
  have hal := ((Below.refl w.heap.size w).alloc (Nat.le_refl _) (.cells #[.int .i64 r.k, .string r.s, .int .i64 r.t, .int .i64 r.v, .int .i64 r.tier, .int .i64 r.st.c, .int .i64 r.st.s, .int .i64 r.st.q, .slice a r.d.length c] 33)).alloc (by simp) (.cells #[.int .i64 0, .string ⟨#[]⟩, .int .i64 0, .int .i64 0, .int .i64 0, .int .i64 0, .int .i64 0, .int .i64 0, .slice none 0 0] 33)
  have kc := fun (W : World) => clone_is r.s W hs
  have ks := fun (W : World) (h : Ns W (.slice a r.d.length c) r.d) => sclone_is _ _ W h hl
  have h1 := (RecW.new w r (.slice a r.d.length c)).below ((Below.refl _ (w.alloc (.cells #[.int .i64 r.k, .string r.s, .int .i64 r.t, .int .i64 r.v, .int .i64 r.tier, .int .i64 r.st.c, .int .i64 r.st.s, .int .i64 r.st.q, .slice a r.d.length c] 33))).alloc (Nat.le_refl _) (.cells #[.int .i64 0, .string ⟨#[]⟩, .int .i64 0, .int .i64 0, .int .i64 0, .int .i64 0, .int .i64 0, .int .i64 0, .slice none 0 0] 33))
  have h2 := RecW.new (w.alloc (.cells #[.int .i64 r.k, .string r.s, .int .i64 r.t, .int .i64 r.v, .int .i64 r.tier, .int .i64 r.st.c, .int .i64 r.st.s, .int .i64 r.st.q, .slice a r.d.length c] 33)) Rec.zero (.slice none 0 0)
  rw [World.size_alloc] at h2
  have HN0 := Lib.hid (Ns.later hN hal.drew)
  have HS0 := Lib.hid (show OwS w w.heap.size (w.heap.size + 1) r ((w.alloc (.cells #[.int .i64 r.k, .string r.s, .int .i64 r.t, .int .i64 r.v, .int .i64 r.tier, .int .i64 r.st.c, .int .i64 r.st.s, .int .i64 r.st.q, .slice a r.d.length c] 33)).alloc (.cells #[.int .i64 0, .string ⟨#[]⟩, .int .i64 0, .int .i64 0, .int .i64 0, .int .i64 0, .int .i64 0, .int .i64 0, .slice none 0 0] 33)).drew from OwS.keep ⟨⟨_, h1⟩, h2, hal, by omega⟩ (Below.refl _ _).drew)
  have k80 := h1.at_.c8
  clear hN hal h1 h2
  obtain ⟨W0, hW0⟩ : ∃ x, ((w.alloc (.cells #[.int .i64 r.k, .string r.s, .int .i64 r.t, .int .i64 r.v, .int .i64 r.tier, .int .i64 r.st.c, .int .i64 r.st.s, .int .i64 r.st.q, .slice a r.d.length c] 33)).alloc (.cells #[.int .i64 0, .string ⟨#[]⟩, .int .i64 0, .int .i64 0, .int .i64 0, .int .i64 0, .int .i64 0, .int .i64 0, .slice none 0 0] 33)) = x := ⟨_, rfl⟩
  have HSZ := Lib.hid (show W0.heap.size = w.heap.size + 2 by rw [← hW0]; simp)
  rw [hW0] at HN0 HS0 k80
  go_enter Try.func42, Try.ntmps42
  go_wp2_with fail
  refine wp_region_held_drew (S := (OwS w w.heap.size (w.heap.size + 1) r)) (by kernel_rfl) HS0.out (fun hHeld => ?_)
  refine wpAnyH_take (i := 0) (oi := ?o1o) (v := ?o1v) ?o1h (by kernel_rfl) (by kernel_rfl) (by kernel_rfl) ?o1q ?o1y hHeld ?o1r
  case o1h => (simp only [List.getElem?_toArray, List.getElem?_cons_zero]; rfl)
  case o1q => exact fun _ _ _ h => h
  case o1y => (refine Or.inl ⟨by first | kernel_rfl | rfl, ?_⟩; intro w hSw; (try dsimp only at hSw); obtain ⟨⟨zz, ⟨⟨x0, x1, x2, x3, x4, x5, x6, x7, x8⟩, y0, y1, y2, y3, y4, y5, y6, y7, y8⟩⟩, -, -⟩ := hSw; go_simp <;> (try with_reducible rfl))
  try simp only [Act.put, List.setIfInBounds_toArray, List.set_cons_zero, List.set_cons_succ]
  refine wpAnyH_take (i := 1) (oi := ?o2o) (v := ?o2v) ?o2h (by kernel_rfl) (by kernel_rfl) (by kernel_rfl) ?o2q ?o2y hHeld ?o2r
  case o2h => (simp only [List.getElem?_toArray, List.getElem?_cons_succ, List.getElem?_cons_zero]; rfl)
  case o2q => exact fun _ _ _ h => h
  case o2y => (refine Or.inl ⟨by first | kernel_rfl | rfl, ?_⟩; intro w hSw; (try dsimp only at hSw); obtain ⟨⟨zz, ⟨⟨x0, x1, x2, x3, x4, x5, x6, x7, x8⟩, y0, y1, y2, y3, y4, y5, y6, y7, y8⟩⟩, -, -⟩ := hSw; go_simp <;> (try with_reducible rfl))
  try simp only [Act.put, List.setIfInBounds_toArray, List.set_cons_zero, List.set_cons_succ]
  refine wpAnyH_take (i := 3) (oi := ?o3o) (v := ?o3v) ?o3h (by kernel_rfl) (by kernel_rfl) (by kernel_rfl) ?o3q ?o3y hHeld ?o3r
  case o3h => (simp only [List.getElem?_toArray, List.getElem?_cons_succ, List.getElem?_cons_zero]; rfl)
  case o3q => exact fun _ _ _ h => h
  case o3y => (refine Or.inl ⟨by first | kernel_rfl | rfl, ?_⟩; intro w hSw; (try dsimp only at hSw); obtain ⟨⟨zz, ⟨⟨x0, x1, x2, x3, x4, x5, x6, x7, x8⟩, y0, y1, y2, y3, y4, y5, y6, y7, y8⟩⟩, -, -⟩ := hSw; go_simp <;> (try with_reducible rfl))
  try simp only [Act.put, List.setIfInBounds_toArray, List.set_cons_zero, List.set_cons_succ]
  refine wpAnyH_ready (rs := [2, 4]) (by kernel_rfl) (by simp) ?_
  refine (AllReadyH.cons rfl (fun K hK => ?_) (AllReadyH.cons rfl (fun K hK => ?_) AllReadyH.nil))
  ·
    go_simp
    (go_at_call 52; (with_reducible refine (kc _).mono ?_); rintro e w1 ⟨rfl, hb1⟩; (have HB1 := Lib.hid hb1); (have k81 : w1.cell? ⟨w.heap.size, 8, none⟩ = some (.slice a r.d.length c) := (hb1.cell (p := ⟨w.heap.size, 8, none⟩) (hHeld.lt1)).trans k80); (have HN1 := Lib.hid (Ns.later HN0.out hb1)); (have hHeld := hHeld.keep hb1); clear hb1)
    refine hK.out _ _ (hHeld) (fun hHeld => ?_)
    clear hK K
    try simp only [Act.put, List.setIfInBounds_toArray, List.set_cons_zero, List.set_cons_succ]
    refine wpAnyH_ready (rs := [4]) (by kernel_rfl) (by simp) ?_
    refine (AllReadyH.cons rfl (fun K hK => ?_) AllReadyH.nil)
    go_simp
    skip
    refine hK.out _ _ (hHeld) (fun hHeld => ?_)
    clear hK K
    try simp only [Act.put, List.setIfInBounds_toArray, List.set_cons_zero, List.set_cons_succ]
    refine wpAnyH_take (i := 6) (oi := ?o4o) (v := ?o4v) ?o4h (by kernel_rfl) (by kernel_rfl) (by kernel_rfl) ?o4q ?o4y hHeld ?o4r
    case o4h => (simp only [List.getElem?_toArray, List.getElem?_cons_succ, List.getElem?_cons_zero]; rfl)
    case o4q => exact fun _ _ _ h => h
    case o4y => (refine Or.inl ⟨by first | kernel_rfl | rfl, ?_⟩; intro w hSw; (try dsimp only at hSw); obtain ⟨⟨zz, ⟨⟨x0, x1, x2, x3, x4, x5, x6, x7, x8⟩, y0, y1, y2, y3, y4, y5, y6, y7, y8⟩⟩, -, -⟩ := hSw; go_simp <;> (try with_reducible rfl))
    try simp only [Act.put, List.setIfInBounds_toArray, List.set_cons_zero, List.set_cons_succ]
    refine wpAnyH_ready (rs := [5]) (by kernel_rfl) (by simp) ?_
    refine (AllReadyH.cons rfl (fun K hK => ?_) AllReadyH.nil)
    go_simp
    (go_at_call 48; (with_reducible refine (ks _ HN1.out).mono ?_); rintro e w2 ⟨v2, rfl, hn2, hb2, hf2⟩; (have HB2 := Lib.hid hb2); (have HF2 := Lib.hid (own_past hf2 (Nat.le_trans (Nat.le_of_eq HSZ.out.symm) HB1.out.size))); (have HN2 := Lib.hid hn2); (obtain ⟨a2, c2, rfl⟩ := hn2.slice); (have hHeld := hHeld.keep hb2); (obtain ⟨⟨z2, ⟨⟨x0, x1, x2, x3, x4, x5, x6, x7, x8⟩, y0, y1, y2, y3, y4, y5, y6, y7, y8⟩⟩, -, -⟩ := id hHeld); clear hn2 hb2 hf2)
    refine hK.out _ _ (hHeld) (fun hHeld => ?_)
    clear hK K
    try simp only [Act.put, List.setIfInBounds_toArray, List.set_cons_zero, List.set_cons_succ]
    refine wpAnyH_ready (rs := [7]) (by kernel_rfl) (by simp) ?_
    refine (AllReadyH.cons rfl (fun K hK => ?_) AllReadyH.nil)
    go_simp
    (rw [setCell_noop x1])
    refine hK.out _ _ (hHeld) (fun hHeld => ?_)
    clear hK K
    try simp only [Act.put]
    refine wpAnyH_take (i := 8) (oi := ?o5o) (v := ?o5v) ?o5h (by kernel_rfl) (by kernel_rfl) (by kernel_rfl) ?o5q ?o5y hHeld ?o5r
    case o5h => (simp only [List.getElem?_toArray, List.getElem?_cons_succ, List.getElem?_cons_zero]; rfl)
    case o5q => exact fun _ _ _ h => h
    case o5y => (refine Or.inl ⟨by first | kernel_rfl | rfl, ?_⟩; intro w hSw; (try dsimp only at hSw); obtain ⟨⟨zz, ⟨⟨x0, x1, x2, x3, x4, x5, x6, x7, x8⟩, y0, y1, y2, y3, y4, y5, y6, y7, y8⟩⟩, -, -⟩ := hSw; go_simp <;> (try with_reducible rfl))
    try simp only [Act.put, List.setIfInBounds_toArray, List.set_cons_zero, List.set_cons_succ]
    refine wpAnyH_ready (rs := [9]) (by kernel_rfl) (by simp) ?_
    refine (AllReadyH.cons rfl (fun K hK => ?_) AllReadyH.nil)
    go_simp
    skip
    refine hK.out _ _ (hHeld.set8 _) (fun hHeld => ?_)
    clear hK K
    try simp only [Act.put]
    refine wpAnyH_done (by kernel_rfl) ?_ _
    have hE := hHeld.out
    have hR3 : RecW (w2.setCell ⟨w.heap.size, 8, none⟩ (.slice a2 r.d.length c2)) w.heap.size r (.slice a2 r.d.length c2) := RecW.set8 (r := r) ⟨⟨x0, x1, x2, x3, x4, x5, x6, x7, x8⟩, y0, y1, y2, y3, y4, y5, y6, y7, y8⟩ r.d _
    have HN3 := Lib.hid (Ns.other HN2.out (by simp) (fun q hq _ => World.heap_setCell_off w2 w.heap.size 8 _ q (fun e => by have := HF2.out q hq; omega)) : Ns (w2.setCell ⟨w.heap.size, 8, none⟩ (.slice a2 r.d.length c2)) (.slice a2 r.d.length c2) r.d)
    have HB3 := Lib.hid hHeld.bel
    obtain ⟨w3, hw3⟩ : ∃ x, w2.setCell ⟨w.heap.size, 8, none⟩ (.slice a2 r.d.length c2) = x := ⟨_, rfl⟩
    rw [hw3] at hE hR3 HN3 HB3 ⊢
    have HS3 := Lib.hid (show w3.heap.size = w2.heap.size from by rw [← hw3]; simp)
    obtain ⟨⟨p0, p1, p2, p3, p4, p5, p6, p7, p8⟩, q0, q1, q2, q3, q4, q5, q6, q7, q8⟩ := hR3
    obtain ⟨⟨s0, s1, s2, s3, s4, s5, s6, s7, s8⟩, t0, t1, t2, t3, t4, t5, t6, t7, t8⟩ := hE
    clear x0 x1 x2 x3 x4 x5 x6 x7 x8 y0 y1 y2 y3 y4 y5 y6 y7 y8 hHeld hw3
    go_wp2
    refine bodyPost_ret (v := recV r (.slice a2 r.d.length c2)) (by unfold recV; simp [results, Try.results42, go_sem, s0, s1, s2, s3, s4, s5, s6, s7, s8]; try rfl) rfl ⟨⟨r, a2, c2⟩, rfl, rfl, ?_, ?_, ?_⟩
    · exact Ns.other HN3.out (by simp) (fun q hq _ => nine_off w3 (w.heap.size + 1) q (fun e => by have := HF2.out q hq; omega) _ _ _ _ _ _ _ _ _)
    · exact nine_set HB3.out (w.heap.size + 1) (by omega) _ _ _ _ _ _ _ _ _
    · intro q hq
      have := HF2.out q hq
      exact ⟨by omega, by simp only [World.size_setCell]; rw [HS3.out]; exact this.2⟩
  ·
    go_simp
    skip
    refine hK.out _ _ (hHeld) (fun hHeld => ?_)
    clear hK K
    try simp only [Act.put, List.setIfInBounds_toArray, List.set_cons_zero, List.set_cons_succ]
    refine wpAnyH_ready (rs := [2]) (by kernel_rfl) (by simp) ?_
    refine (AllReadyH.cons rfl (fun K hK => ?_) AllReadyH.nil)
    go_simp
    (go_at_call 52; (with_reducible refine (kc _).mono ?_); rintro e w1 ⟨rfl, hb1⟩; (have HB1 := Lib.hid hb1); (have k81 : w1.cell? ⟨w.heap.size, 8, none⟩ = some (.slice a r.d.length c) := (hb1.cell (p := ⟨w.heap.size, 8, none⟩) (hHeld.lt1)).trans k80); (have HN1 := Lib.hid (Ns.later HN0.out hb1)); (have hHeld := hHeld.keep hb1); clear hb1)
    refine hK.out _ _ (hHeld) (fun hHeld => ?_)
    clear hK K
    try simp only [Act.put, List.setIfInBounds_toArray, List.set_cons_zero, List.set_cons_succ]
    refine wpAnyH_take (i := 6) (oi := ?o6o) (v := ?o6v) ?o6h (by kernel_rfl) (by kernel_rfl) (by kernel_rfl) ?o6q ?o6y hHeld ?o6r
    case o6h => (simp only [List.getElem?_toArray, List.getElem?_cons_succ, List.getElem?_cons_zero]; rfl)
    case o6q => exact fun _ _ _ h => h
    case o6y => (refine Or.inl ⟨by first | kernel_rfl | rfl, ?_⟩; intro w hSw; (try dsimp only at hSw); obtain ⟨⟨zz, ⟨⟨x0, x1, x2, x3, x4, x5, x6, x7, x8⟩, y0, y1, y2, y3, y4, y5, y6, y7, y8⟩⟩, -, -⟩ := hSw; go_simp <;> (try with_reducible rfl))
    try simp only [Act.put, List.setIfInBounds_toArray, List.set_cons_zero, List.set_cons_succ]
    refine wpAnyH_ready (rs := [5]) (by kernel_rfl) (by simp) ?_
    refine (AllReadyH.cons rfl (fun K hK => ?_) AllReadyH.nil)
    go_simp
    (go_at_call 48; (with_reducible refine (ks _ HN1.out).mono ?_); rintro e w2 ⟨v2, rfl, hn2, hb2, hf2⟩; (have HB2 := Lib.hid hb2); (have HF2 := Lib.hid (own_past hf2 (Nat.le_trans (Nat.le_of_eq HSZ.out.symm) HB1.out.size))); (have HN2 := Lib.hid hn2); (obtain ⟨a2, c2, rfl⟩ := hn2.slice); (have hHeld := hHeld.keep hb2); (obtain ⟨⟨z2, ⟨⟨x0, x1, x2, x3, x4, x5, x6, x7, x8⟩, y0, y1, y2, y3, y4, y5, y6, y7, y8⟩⟩, -, -⟩ := id hHeld); clear hn2 hb2 hf2)
    refine hK.out _ _ (hHeld) (fun hHeld => ?_)
    clear hK K
    try simp only [Act.put, List.setIfInBounds_toArray, List.set_cons_zero, List.set_cons_succ]
    refine wpAnyH_ready (rs := [7]) (by kernel_rfl) (by simp) ?_
    refine (AllReadyH.cons rfl (fun K hK => ?_) AllReadyH.nil)
    go_simp
    (rw [setCell_noop x1])
    refine hK.out _ _ (hHeld) (fun hHeld => ?_)
    clear hK K
    try simp only [Act.put]
    refine wpAnyH_take (i := 8) (oi := ?o7o) (v := ?o7v) ?o7h (by kernel_rfl) (by kernel_rfl) (by kernel_rfl) ?o7q ?o7y hHeld ?o7r
    case o7h => (simp only [List.getElem?_toArray, List.getElem?_cons_succ, List.getElem?_cons_zero]; rfl)
    case o7q => exact fun _ _ _ h => h
    case o7y => (refine Or.inl ⟨by first | kernel_rfl | rfl, ?_⟩; intro w hSw; (try dsimp only at hSw); obtain ⟨⟨zz, ⟨⟨x0, x1, x2, x3, x4, x5, x6, x7, x8⟩, y0, y1, y2, y3, y4, y5, y6, y7, y8⟩⟩, -, -⟩ := hSw; go_simp <;> (try with_reducible rfl))
    try simp only [Act.put, List.setIfInBounds_toArray, List.set_cons_zero, List.set_cons_succ]
    refine wpAnyH_ready (rs := [9]) (by kernel_rfl) (by simp) ?_
    refine (AllReadyH.cons rfl (fun K hK => ?_) AllReadyH.nil)
    go_simp
    skip
    refine hK.out _ _ (hHeld.set8 _) (fun hHeld => ?_)
    clear hK K
    try simp only [Act.put]
    refine wpAnyH_done (by kernel_rfl) ?_ _
    have hE := hHeld.out
    have hR3 : RecW (w2.setCell ⟨w.heap.size, 8, none⟩ (.slice a2 r.d.length c2)) w.heap.size r (.slice a2 r.d.length c2) := RecW.set8 (r := r) ⟨⟨x0, x1, x2, x3, x4, x5, x6, x7, x8⟩, y0, y1, y2, y3, y4, y5, y6, y7, y8⟩ r.d _
    have HN3 := Lib.hid (Ns.other HN2.out (by simp) (fun q hq _ => World.heap_setCell_off w2 w.heap.size 8 _ q (fun e => by have := HF2.out q hq; omega)) : Ns (w2.setCell ⟨w.heap.size, 8, none⟩ (.slice a2 r.d.length c2)) (.slice a2 r.d.length c2) r.d)
    have HB3 := Lib.hid hHeld.bel
    obtain ⟨w3, hw3⟩ : ∃ x, w2.setCell ⟨w.heap.size, 8, none⟩ (.slice a2 r.d.length c2) = x := ⟨_, rfl⟩
    rw [hw3] at hE hR3 HN3 HB3 ⊢
    have HS3 := Lib.hid (show w3.heap.size = w2.heap.size from by rw [← hw3]; simp)
    obtain ⟨⟨p0, p1, p2, p3, p4, p5, p6, p7, p8⟩, q0, q1, q2, q3, q4, q5, q6, q7, q8⟩ := hR3
    obtain ⟨⟨s0, s1, s2, s3, s4, s5, s6, s7, s8⟩, t0, t1, t2, t3, t4, t5, t6, t7, t8⟩ := hE
    clear x0 x1 x2 x3 x4 x5 x6 x7 x8 y0 y1 y2 y3 y4 y5 y6 y7 y8 hHeld hw3
    go_wp2
    refine bodyPost_ret (v := recV r (.slice a2 r.d.length c2)) (by unfold recV; simp [results, Try.results42, go_sem, s0, s1, s2, s3, s4, s5, s6, s7, s8]; try rfl) rfl ⟨⟨r, a2, c2⟩, rfl, rfl, ?_, ?_, ?_⟩
    · exact Ns.other HN3.out (by simp) (fun q hq _ => nine_off w3 (w.heap.size + 1) q (fun e => by have := HF2.out q hq; omega) _ _ _ _ _ _ _ _ _)
    · exact nine_set HB3.out (w.heap.size + 1) (by omega) _ _ _ _ _ _ _ _ _
    · intro q hq
      have := HF2.out q hq
      exact ⟨by omega, by simp only [World.size_setCell]; rw [HS3.out]; exact this.2⟩
end Go.Proofs.Ythbajlfkgbfkgaa.Og
