/- The contracts of the document's Put and Sort. -/
import Derived.Test.YtcjcbbpolhpphaaBlockPlace
set_option maxRecDepth 20000
set_option linter.unusedSimpArgs false
namespace Go.Proofs.Ytcjcbbpolhpphaa
open Go.RowKit Go.Proofs.Ytcjcbbpolhpphaa.Vi Go.Proofs.Ytcjcbbpolhpphaa.Mk

/-- What Put comes to, in terms of what is ahead. -/
def putAt (p : Pt) (l : List Pt) (k : Nat) : List Pt := if h : k < l.length then (if (l[k]).eqp p = true then l.take k ++ [if p.newer l[k] = true then p else l[k]] ++ l.drop (k + 1) else l.take k ++ [p] ++ l.drop k) else l.take k ++ [p] ++ l.drop k
theorem ins_putAt (p : Pt) : ∀ (l : List Pt), ins p l = putAt p l (lowN l p)
  | [] => rfl
  | x :: l => by
    have ih := ins_putAt p l
    unfold ins
    cases h : x.before p with
    | true =>
      rw [if_pos rfl, ih]
      have e : lowN (x :: l) p = lowN l p + 1 := by unfold lowN; rw [List.takeWhile_cons, if_pos h]; rfl
      rw [e]
      unfold putAt
      by_cases hl : lowN l p < l.length
      · rw [dif_pos hl, dif_pos (by simpa using hl)]
        simp only [List.getElem_cons_succ, List.take_succ_cons, List.drop_succ_cons]
        split <;> simp
      · rw [dif_neg hl, dif_neg (by simpa using hl)]
        simp
    | false =>
      rw [if_neg (by simp)]
      have e : lowN (x :: l) p = 0 := by unfold lowN; rw [List.takeWhile_cons, if_neg (by simp [h])]; rfl
      rw [e]
      unfold putAt
      rw [dif_pos (by simp)]
      simp only [List.getElem_cons_zero]
      split
      · split <;> simp
      · simp
theorem lowN_at {l : List Pt} {p : Pt} {k : Nat} (hk : k ≤ l.length) (h : ∀ q (hq : q < l.length), q < k → (l[q]).before p = true) (h2 : ∀ hk : k < l.length, (l[k]).before p = false) : lowN l p = k := by
  induction l generalizing k with
  | nil => simp at hk; subst hk; rfl
  | cons a t ih =>
    cases k with
    | zero =>
      have := h2 (by simp)
      simp only [List.getElem_cons_zero] at this
      unfold lowN; rw [List.takeWhile_cons, if_neg (by simp [this])]; rfl
    | succ k =>
      have h0 := h 0 (by simp) (by omega)
      simp only [List.getElem_cons_zero] at h0
      have := ih (k := k) (by simpa using hk) (fun q hq hqk => by have := h (q + 1) (by simpa using hq) (by omega); simpa using this) (fun hk' => by have := h2 (by simpa using hk'); simpa using this)
      unfold lowN at this ⊢; rw [List.takeWhile_cons, if_pos (by simpa using h0), List.length_cons, this]
/-- Held: the point's box, what is put together. -/
structure RPu (w : World) (T : Nat) (p : Pt) (v : Value) (xs : List Pt) (w' : World) : Prop where
  x : PtAt w' T p
  row : PRow w' (T + 1) v xs
  bel : Below w.heap.size w w'
theorem RPu.keep {w w1 w2 : World} {T : Nat} {p : Pt} {v : Value} {xs : List Pt} (h : RPu w T p v xs w1) (k : Below w1.heap.size w1 w2) : RPu w T p v xs w2 := ⟨h.x.later k, h.row.later k, bel_next h.bel k⟩
theorem RPu.drew {w w1 : World} {T : Nat} {p : Pt} {v : Value} {xs : List Pt} (h : RPu w T p v xs w1) : RPu w T p v xs w1.drew := h.keep ((Below.refl _ _).drew)
theorem RPu.app {w w1 w2 : World} {T : Nat} {p : Pt} {v v' : Value} {xs xs' : List Pt} (h : RPu w T p v xs w1) (hT : w.heap.size ≤ T) (hb : Below (T + 1) w1 w2) (hr : PRow w2 (T + 1) v' xs') : RPu w T p v' xs' w2 :=
  ⟨h.x.below hb (Nat.lt_succ_self _), hr, h.bel.trans (hb.mono (by omega))⟩

set_option maxHeartbeats 16000000 in
theorem rput_is (a0 : Option Addr) (c0 : Nat) (l : List Pt) (p : Pt) (w : World) (hS : Lst w w.heap.size a0 c0 l) (hl : l.length ≤ 900000) : Calls Try.prog 32 #[.slice a0 l.length c0, ptV p] w (OwnDone (ins p l) w) := by
  obtain ⟨n, hn⟩ : ∃ n, l.length = n := ⟨_, rfl⟩
  have HS := Lib.hid hS
  have hcap := hS.cap
  have HP0 := Lib.hid (PtAt.new w p)
  have HB0 := Lib.hid ((Below.refl w.heap.size w).alloc (Nat.le_refl _) (.cells #[.string p.s, .int .i64 p.t, .int .i64 p.v, .int .i64 p.st.c, .int .i64 p.st.s, .int .i64 p.st.q] 55))
  rw [hn] at hl hcap ⊢
  have HN := Lib.hid hn
  have HTW := Lib.hid (Nat.le_refl w.heap.size)
  unfold ptV
  clear hS hn
  go_enter Try.func32, Try.ntmps32
  go_wp2
  obtain ⟨T, hT⟩ : ∃ T, w.heap.size = T := ⟨_, rfl⟩
  have HTE := Lib.hid hT
  rw [hT] at HP0
  simp only [hT]
  go_loopw [5] (fun i wr => ∃ (k : Nat), k ≤ n ∧ i = .int .i64 (k : Int) ∧ Hid (∀ q (hq : q < l.length), q < k → (l[q]).before p = true) ∧ Hid (RPu w T p (.slice none 0 0) [] wr)) (fun i _ => n - (intOf i).toNat)
  case atStart => exact ⟨0, by omega, rfl, Lib.hid fun q _ h => by omega, Lib.hid ⟨HP0.out, PRow.nil _ _, HB0.out⟩⟩
  case round =>
    obtain ⟨k, hk, rfl, hall, HR⟩ := hrel
    have HTW : Hid (w.heap.size ≤ T) := Lib.hid (Nat.le_of_eq HTE.out)
    clear HP0 HB0
    obtain ⟨w3, hw3⟩ : ∃ x, x = wr := ⟨_, rfl⟩
    subst hw3
    have kt := fun w => at_to0 a0 n c0 k (k : Int) rfl (by omega) w
    have kt2 := fun w => cut_to0 a0 n c0 k (k : Int) rfl (by omega) w
    have HTK := Lib.hid (show (l.take k).length = k by rw [List.length_take, HN.out]; omega)
    have HLK := Lib.hid (show Lst w w.heap.size a0 c0 (l.take k) by have := HS.out.to_ (hi := k) (by rw [HN.out]; exact hk); rwa [cutP_zero] at this)
    by_cases hlt : k < n
    · have hlti : (k : Int) < (n : Int) := by omega
      have hkl : k < l.length := by rw [HN.out]; exact hlt
      rcases HS.out.pts.at_ with hl0 | ⟨b, off, rfl, hbw, hc⟩
      · rw [hl0] at hkl; simp at hkl
      · have HGO := Lib.hid (fun (h : (l[k]).before p = true) => show ∀ q (hq : q < l.length), q < k + 1 → (l[q]).before p = true from fun q hq hqk => by
          by_cases e : q = k
          · subst e; exact h
          · exact hall.out q hq (by omega))
        have HNO := Lib.hid (fun (h : (l[k]).before p = false) => (ins_putAt p l).trans (congrArg (putAt p l) (lowN_at (by rw [HN.out]; exact hk) hall.out fun _ => h)))
        have hpd : putAt p l k = if (l[k]).eqp p = true then l.take k ++ [if p.newer l[k] = true then p else l[k]] ++ l.drop (k + 1) else l.take k ++ [p] ++ l.drop k := dif_pos hkl
        rw [hpd] at HNO
        obtain ⟨q, hq⟩ : ∃ q, l[k] = q := ⟨_, rfl⟩
        obtain ⟨iq, hiq⟩ : ∃ iq, off + k * 6 = iq := ⟨_, rfl⟩
        have HQ0 := Lib.hid (hc k hkl)
        have HBQ := Lib.hid hbw
        rw [hq] at HGO HNO
        rw [hq, hiq] at HQ0
        obtain ⟨z, hz⟩ : ∃ z, q.before p = z := ⟨_, rfl⟩
        have kb := fun w => rbefore_is q p z w (Lib.hid hz)
        unfold ptV at kb
        rw [hz] at HGO HNO
        have HZ := Lib.hid hz
        clear hc hq hpd hall hz
        cases z with
        | true =>
          go_wp2_with fail
          refine wp_region_held_drew (S := (RPu w T p (.slice none 0 0) [])) (by kernel_rfl) HR.out.drew (fun hHeld => ?_)
          refine wpAnyH_take (i := 0) (oi := ?pa1o) (v := ?pa1v) ?pa1h (by kernel_rfl) (by kernel_rfl) (by kernel_rfl) ?pa1q ?pa1y hHeld ?pa1r
          case pa1h => (simp only [List.getElem?_toArray, List.getElem?_cons_zero]; rfl)
          case pa1q => exact fun _ _ _ h => h
          case pa1y => (refine Or.inl ⟨by first | kernel_rfl | rfl, ?_⟩; intro w hSw; (try dsimp only at hSw); obtain ⟨c0', c1, c2', c3, c4, c5⟩ := hSw.x; have hY := HQ0.out.below hSw.bel HBQ.out; obtain ⟨d0, d1, d2, d3, d4, d5⟩ := hY; go_simp <;> (try with_reducible rfl))
          try simp only [Act.put, List.setIfInBounds_toArray, List.set_cons_zero, List.set_cons_succ]
          refine wpAnyH_take (i := 1) (oi := ?pa2o) (v := ?pa2v) ?pa2h (by kernel_rfl) (by kernel_rfl) (by kernel_rfl) ?pa2q ?pa2y hHeld ?pa2r
          case pa2h => (simp only [List.getElem?_toArray, List.getElem?_cons_succ, List.getElem?_cons_zero]; rfl)
          case pa2q => exact fun _ _ _ h => h
          case pa2y => (refine Or.inl ⟨by first | kernel_rfl | rfl, ?_⟩; intro w hSw; (try dsimp only at hSw); obtain ⟨c0', c1, c2', c3, c4, c5⟩ := hSw.x; have hY := HQ0.out.below hSw.bel HBQ.out; obtain ⟨d0, d1, d2, d3, d4, d5⟩ := hY; go_simp <;> (try with_reducible rfl))
          try simp only [Act.put, List.setIfInBounds_toArray, List.set_cons_zero, List.set_cons_succ]
          refine wpAnyH_take (i := 2) (oi := ?pa3o) (v := ?pa3v) ?pa3h (by kernel_rfl) (by kernel_rfl) (by kernel_rfl) ?pa3q ?pa3y hHeld ?pa3r
          case pa3h => (simp only [List.getElem?_toArray, List.getElem?_cons_succ, List.getElem?_cons_zero]; rfl)
          case pa3q => exact fun _ _ _ h => h
          case pa3y => (refine Or.inl ⟨by first | kernel_rfl | rfl, ?_⟩; intro w hSw; (try dsimp only at hSw); obtain ⟨c0', c1, c2', c3, c4, c5⟩ := hSw.x; have hY := HQ0.out.below hSw.bel HBQ.out; obtain ⟨d0, d1, d2, d3, d4, d5⟩ := hY; go_simp <;> (try with_reducible rfl))
          try simp only [Act.put, List.setIfInBounds_toArray, List.set_cons_zero, List.set_cons_succ]
          refine wpAnyH_take (i := 3) (oi := ?pa4o) (v := ?pa4v) ?pa4h (by kernel_rfl) (by kernel_rfl) (by kernel_rfl) ?pa4q ?pa4y hHeld ?pa4r
          case pa4h => (simp only [List.getElem?_toArray, List.getElem?_cons_succ, List.getElem?_cons_zero]; rfl)
          case pa4q => exact fun _ _ _ h => h
          case pa4y => (refine Or.inl ⟨by first | kernel_rfl | rfl, ?_⟩; intro w hSw; (try dsimp only at hSw); obtain ⟨c0', c1, c2', c3, c4, c5⟩ := hSw.x; have hY := HQ0.out.below hSw.bel HBQ.out; obtain ⟨d0, d1, d2, d3, d4, d5⟩ := hY; go_simp <;> (try with_reducible rfl))
          try simp only [Act.put, List.setIfInBounds_toArray, List.set_cons_zero, List.set_cons_succ]
          refine wpAnyH_take (i := 4) (oi := ?pa5o) (v := ?pa5v) ?pa5h (by kernel_rfl) (by kernel_rfl) (by kernel_rfl) ?pa5q ?pa5y hHeld ?pa5r
          case pa5h => (simp only [List.getElem?_toArray, List.getElem?_cons_succ, List.getElem?_cons_zero]; rfl)
          case pa5q => exact fun _ _ _ h => h
          case pa5y => (refine Or.inl ⟨by first | kernel_rfl | rfl, ?_⟩; intro w hSw; (try dsimp only at hSw); obtain ⟨c0', c1, c2', c3, c4, c5⟩ := hSw.x; have hY := HQ0.out.below hSw.bel HBQ.out; obtain ⟨d0, d1, d2, d3, d4, d5⟩ := hY; go_simp <;> (try with_reducible rfl))
          try simp only [Act.put, List.setIfInBounds_toArray, List.set_cons_zero, List.set_cons_succ]
          refine wpAnyH_ready (rs := [5]) (by kernel_rfl) (by simp) ?_
          refine (AllReadyH.cons rfl (fun K hK => ?_) AllReadyH.nil)
          go_simp
          ((with_reducible refine (kb _).mono ?_); rintro e w4 ⟨rfl, hb4⟩)
          refine hK.out _ _ (hHeld.keep hb4) (fun hHeld => ?_)
          clear hK K
          try simp only [Act.put, List.setIfInBounds_toArray, List.set_cons_zero, List.set_cons_succ]
          refine wpAnyH_take (i := 6) (oi := ?pa6o) (v := ?pa6v) ?pa6h (by kernel_rfl) (by kernel_rfl) (by kernel_rfl) ?pa6q ?pa6y hHeld ?pa6r
          case pa6h => (simp only [List.getElem?_toArray, List.getElem?_cons_succ, List.getElem?_cons_zero]; rfl)
          case pa6q => exact fun _ _ _ h => h
          case pa6y => (refine Or.inl ⟨by first | kernel_rfl | rfl, ?_⟩; intro w hSw; (try dsimp only at hSw); obtain ⟨c0', c1, c2', c3, c4, c5⟩ := hSw.x; have hY := HQ0.out.below hSw.bel HBQ.out; obtain ⟨d0, d1, d2, d3, d4, d5⟩ := hY; go_simp <;> (try with_reducible rfl))
          try simp only [Act.put, List.setIfInBounds_toArray, List.set_cons_zero, List.set_cons_succ]
          refine wpAnyH_done (by kernel_rfl) ?_ _
          have HH := Lib.hid hHeld
          have HG := Lib.hid (HGO.out (by first | rfl | trivial))
          clear hHeld
          go_wp2
          go_roundw
          case rel => exact ⟨k + 1, by omega, by go_num, HG, HH⟩
          case measure => simp [intOf]; omega
        | false =>
          have HE0 := Lib.hid (HNO.out rfl)
          clear HGO HNO
          by_cases hs : q.s = p.s
          · have hqs := seq_eq hs
            by_cases ht : q.t = p.t
            · have hqt : (q.t == p.t) = true := by simpa using ht
              obtain ⟨y, hy⟩ : ∃ y, p.newer q = y := ⟨_, rfl⟩
              have kn := fun w => rnewer_is p q y w (Lib.hid hy)
              unfold ptV at kn
              have HE1 := Lib.hid (show ins p l = l.take k ++ [if y = true then p else q] ++ l.drop (k + 1) by rw [HE0.out, if_pos (Pt.eqp_iff.2 ⟨hs, ht⟩), hy])
              clear HE0 hy hs ht
              have hw1 : IntKind.i64.wrap ((k : Int) + 1) = (k : Int) + 1 := by rw [IntKind.wrap_i64]; omega
              obtain ⟨x2, hx2⟩ : ∃ x, cutP (some ⟨b, off, none⟩) (k + 1) c0 = x := ⟨_, rfl⟩
              obtain ⟨n2, hn2⟩ : ∃ x, n - (k + 1) = x := ⟨_, rfl⟩
              obtain ⟨c2, hc2⟩ : ∃ x, c0 - (k + 1) = x := ⟨_, rfl⟩
              have kf := fun w => at_from (some ⟨b, off, none⟩) n c0 (k + 1) ((k : Int) + 1) (by omega) (by omega) w
              have kf2 := fun w => cut_from (some ⟨b, off, none⟩) n c0 (k + 1) ((k : Int) + 1) (by omega) (by omega) w
              rw [hx2, hn2, hc2] at kf kf2
              have HN2 := Lib.hid (show (l.drop (k + 1)).length = n2 by rw [List.length_drop, HN.out]; exact hn2)
              have HL2 := Lib.hid (show Lst w w.heap.size x2 c2 (l.drop (k + 1)) by rw [← hx2, ← hc2]; exact HS.out.from_ (by rw [HN.out]; omega))
              clear hx2 hc2
              cases y with
              | true =>
                have HE := Lib.hid (show ins p l = l.take k ++ [p] ++ l.drop (k + 1) from HE1.out)
                go_wp2_with fail
                refine wp_region_held_drew (S := (RPu w T p (.slice none 0 0) [])) (by kernel_rfl) HR.out.drew (fun hHeld => ?_)
                refine wpAnyH_take (i := 0) (oi := ?pcx1o) (v := ?pcx1v) ?pcx1h (by kernel_rfl) (by kernel_rfl) (by kernel_rfl) ?pcx1q ?pcx1y hHeld ?pcx1r
                case pcx1h => (simp only [List.getElem?_toArray, List.getElem?_cons_zero]; rfl)
                case pcx1q => exact fun _ _ _ h => h
                case pcx1y => (refine Or.inl ⟨by first | kernel_rfl | rfl, ?_⟩; intro w hSw; (try dsimp only at hSw); obtain ⟨c0', c1, c2', c3, c4, c5⟩ := hSw.x; have hY := HQ0.out.below hSw.bel HBQ.out; obtain ⟨d0, d1, d2, d3, d4, d5⟩ := hY; go_simp <;> (try with_reducible rfl))
                try simp only [Act.put, List.setIfInBounds_toArray, List.set_cons_zero, List.set_cons_succ]
                refine wpAnyH_take (i := 1) (oi := ?pcx2o) (v := ?pcx2v) ?pcx2h (by kernel_rfl) (by kernel_rfl) (by kernel_rfl) ?pcx2q ?pcx2y hHeld ?pcx2r
                case pcx2h => (simp only [List.getElem?_toArray, List.getElem?_cons_succ, List.getElem?_cons_zero]; rfl)
                case pcx2q => exact fun _ _ _ h => h
                case pcx2y => (refine Or.inl ⟨by first | kernel_rfl | rfl, ?_⟩; intro w hSw; (try dsimp only at hSw); obtain ⟨c0', c1, c2', c3, c4, c5⟩ := hSw.x; have hY := HQ0.out.below hSw.bel HBQ.out; obtain ⟨d0, d1, d2, d3, d4, d5⟩ := hY; go_simp <;> (try with_reducible rfl))
                try simp only [Act.put, List.setIfInBounds_toArray, List.set_cons_zero, List.set_cons_succ]
                refine wpAnyH_take (i := 2) (oi := ?pcx3o) (v := ?pcx3v) ?pcx3h (by kernel_rfl) (by kernel_rfl) (by kernel_rfl) ?pcx3q ?pcx3y hHeld ?pcx3r
                case pcx3h => (simp only [List.getElem?_toArray, List.getElem?_cons_succ, List.getElem?_cons_zero]; rfl)
                case pcx3q => exact fun _ _ _ h => h
                case pcx3y => (refine Or.inl ⟨by first | kernel_rfl | rfl, ?_⟩; intro w hSw; (try dsimp only at hSw); obtain ⟨c0', c1, c2', c3, c4, c5⟩ := hSw.x; have hY := HQ0.out.below hSw.bel HBQ.out; obtain ⟨d0, d1, d2, d3, d4, d5⟩ := hY; go_simp <;> (try with_reducible rfl))
                try simp only [Act.put, List.setIfInBounds_toArray, List.set_cons_zero, List.set_cons_succ]
                refine wpAnyH_take (i := 3) (oi := ?pcx4o) (v := ?pcx4v) ?pcx4h (by kernel_rfl) (by kernel_rfl) (by kernel_rfl) ?pcx4q ?pcx4y hHeld ?pcx4r
                case pcx4h => (simp only [List.getElem?_toArray, List.getElem?_cons_succ, List.getElem?_cons_zero]; rfl)
                case pcx4q => exact fun _ _ _ h => h
                case pcx4y => (refine Or.inl ⟨by first | kernel_rfl | rfl, ?_⟩; intro w hSw; (try dsimp only at hSw); obtain ⟨c0', c1, c2', c3, c4, c5⟩ := hSw.x; have hY := HQ0.out.below hSw.bel HBQ.out; obtain ⟨d0, d1, d2, d3, d4, d5⟩ := hY; go_simp <;> (try with_reducible rfl))
                try simp only [Act.put, List.setIfInBounds_toArray, List.set_cons_zero, List.set_cons_succ]
                refine wpAnyH_take (i := 4) (oi := ?pcx5o) (v := ?pcx5v) ?pcx5h (by kernel_rfl) (by kernel_rfl) (by kernel_rfl) ?pcx5q ?pcx5y hHeld ?pcx5r
                case pcx5h => (simp only [List.getElem?_toArray, List.getElem?_cons_succ, List.getElem?_cons_zero]; rfl)
                case pcx5q => exact fun _ _ _ h => h
                case pcx5y => (refine Or.inl ⟨by first | kernel_rfl | rfl, ?_⟩; intro w hSw; (try dsimp only at hSw); obtain ⟨c0', c1, c2', c3, c4, c5⟩ := hSw.x; have hY := HQ0.out.below hSw.bel HBQ.out; obtain ⟨d0, d1, d2, d3, d4, d5⟩ := hY; go_simp <;> (try with_reducible rfl))
                try simp only [Act.put, List.setIfInBounds_toArray, List.set_cons_zero, List.set_cons_succ]
                refine wpAnyH_ready (rs := [5]) (by kernel_rfl) (by simp) ?_
                refine (AllReadyH.cons rfl (fun K hK => ?_) AllReadyH.nil)
                go_simp
                ((with_reducible refine (kb _).mono ?_); rintro e w4 ⟨rfl, hb4⟩)
                refine hK.out _ _ (hHeld.keep hb4) (fun hHeld => ?_)
                clear hK K
                try simp only [Act.put, List.setIfInBounds_toArray, List.set_cons_zero, List.set_cons_succ]
                refine wpAnyH_take (i := 6) (oi := ?pcx6o) (v := ?pcx6v) ?pcx6h (by kernel_rfl) (by kernel_rfl) (by kernel_rfl) ?pcx6q ?pcx6y hHeld ?pcx6r
                case pcx6h => (simp only [List.getElem?_toArray, List.getElem?_cons_succ, List.getElem?_cons_zero]; rfl)
                case pcx6q => exact fun _ _ _ h => h
                case pcx6y => (refine Or.inl ⟨by first | kernel_rfl | rfl, ?_⟩; intro w hSw; (try dsimp only at hSw); obtain ⟨c0', c1, c2', c3, c4, c5⟩ := hSw.x; have hY := HQ0.out.below hSw.bel HBQ.out; obtain ⟨d0, d1, d2, d3, d4, d5⟩ := hY; go_simp <;> (try with_reducible rfl))
                try simp only [Act.put, List.setIfInBounds_toArray, List.set_cons_zero, List.set_cons_succ]
                refine wpAnyH_done (by kernel_rfl) ?_ _
                have HH := Lib.hid hHeld
                clear hHeld
                go_wp2_with (first | (at_builtin; refine wpList_appN (w := w4) rfl _ _ rfl (T + 1) 0 (.slice none 0 0) [] (l.take k) (some ⟨b, off, none⟩) k c0 w.heap.size rfl rfl HTK.out (Lib.hid rfl) HH.out.row (HLK.out.below HH.out.bel) (by omega) HH.out.x.room ?_; intro a6 c6 w6 hrow6 _ hb6 _; have HR6 := Lib.hid (HH.out.app HTW.out hb6 (show PRow w6 (T + 1) (.slice a6 k c6) (l.take k) by simpa using hrow6.out)); clear hrow6 hb6))
                refine wp_region_held_drew (S := (RPu w T p (.slice a6 k c6) (l.take k))) (by kernel_rfl) HR6.out.drew (fun hHeld => ?_)
                refine wpAnyH_take (i := 0) (oi := ?pcy1o) (v := ?pcy1v) ?pcy1h (by kernel_rfl) (by kernel_rfl) (by kernel_rfl) ?pcy1q ?pcy1y hHeld ?pcy1r
                case pcy1h => (simp only [List.getElem?_toArray, List.getElem?_cons_zero]; rfl)
                case pcy1q => exact fun _ _ _ h => h
                case pcy1y => (refine Or.inl ⟨by first | kernel_rfl | rfl, ?_⟩; intro w hSw; (try dsimp only at hSw); obtain ⟨c0', c1, c2', c3, c4, c5⟩ := hSw.x; have hY := HQ0.out.below hSw.bel HBQ.out; obtain ⟨d0, d1, d2, d3, d4, d5⟩ := hY; go_simp <;> (try with_reducible rfl))
                try simp only [Act.put, List.setIfInBounds_toArray, List.set_cons_zero, List.set_cons_succ]
                refine wpAnyH_take (i := 1) (oi := ?pcy2o) (v := ?pcy2v) ?pcy2h (by kernel_rfl) (by kernel_rfl) (by kernel_rfl) ?pcy2q ?pcy2y hHeld ?pcy2r
                case pcy2h => (simp only [List.getElem?_toArray, List.getElem?_cons_succ, List.getElem?_cons_zero]; rfl)
                case pcy2q => exact fun _ _ _ h => h
                case pcy2y => (refine Or.inl ⟨by first | kernel_rfl | rfl, ?_⟩; intro w hSw; (try dsimp only at hSw); obtain ⟨c0', c1, c2', c3, c4, c5⟩ := hSw.x; have hY := HQ0.out.below hSw.bel HBQ.out; obtain ⟨d0, d1, d2, d3, d4, d5⟩ := hY; go_simp <;> (try with_reducible rfl))
                try simp only [Act.put, List.setIfInBounds_toArray, List.set_cons_zero, List.set_cons_succ]
                refine wpAnyH_take (i := 2) (oi := ?pcy3o) (v := ?pcy3v) ?pcy3h (by kernel_rfl) (by kernel_rfl) (by kernel_rfl) ?pcy3q ?pcy3y hHeld ?pcy3r
                case pcy3h => (simp only [List.getElem?_toArray, List.getElem?_cons_succ, List.getElem?_cons_zero]; rfl)
                case pcy3q => exact fun _ _ _ h => h
                case pcy3y => (refine Or.inl ⟨by first | kernel_rfl | rfl, ?_⟩; intro w hSw; (try dsimp only at hSw); obtain ⟨c0', c1, c2', c3, c4, c5⟩ := hSw.x; have hY := HQ0.out.below hSw.bel HBQ.out; obtain ⟨d0, d1, d2, d3, d4, d5⟩ := hY; go_simp <;> (try with_reducible rfl))
                try simp only [Act.put, List.setIfInBounds_toArray, List.set_cons_zero, List.set_cons_succ]
                refine wpAnyH_take (i := 3) (oi := ?pcy4o) (v := ?pcy4v) ?pcy4h (by kernel_rfl) (by kernel_rfl) (by kernel_rfl) ?pcy4q ?pcy4y hHeld ?pcy4r
                case pcy4h => (simp only [List.getElem?_toArray, List.getElem?_cons_succ, List.getElem?_cons_zero]; rfl)
                case pcy4q => exact fun _ _ _ h => h
                case pcy4y => (refine Or.inl ⟨by first | kernel_rfl | rfl, ?_⟩; intro w hSw; (try dsimp only at hSw); obtain ⟨c0', c1, c2', c3, c4, c5⟩ := hSw.x; have hY := HQ0.out.below hSw.bel HBQ.out; obtain ⟨d0, d1, d2, d3, d4, d5⟩ := hY; go_simp <;> (try with_reducible rfl))
                try simp only [Act.put, List.setIfInBounds_toArray, List.set_cons_zero, List.set_cons_succ]
                refine wpAnyH_take (i := 4) (oi := ?pcy5o) (v := ?pcy5v) ?pcy5h (by kernel_rfl) (by kernel_rfl) (by kernel_rfl) ?pcy5q ?pcy5y hHeld ?pcy5r
                case pcy5h => (simp only [List.getElem?_toArray, List.getElem?_cons_succ, List.getElem?_cons_zero]; rfl)
                case pcy5q => exact fun _ _ _ h => h
                case pcy5y => (refine Or.inl ⟨by first | kernel_rfl | rfl, ?_⟩; intro w hSw; (try dsimp only at hSw); obtain ⟨c0', c1, c2', c3, c4, c5⟩ := hSw.x; have hY := HQ0.out.below hSw.bel HBQ.out; obtain ⟨d0, d1, d2, d3, d4, d5⟩ := hY; go_simp <;> (try with_reducible rfl))
                try simp only [Act.put, List.setIfInBounds_toArray, List.set_cons_zero, List.set_cons_succ]
                refine wpAnyH_take (i := 5) (oi := ?pcy6o) (v := ?pcy6v) ?pcy6h (by kernel_rfl) (by kernel_rfl) (by kernel_rfl) ?pcy6q ?pcy6y hHeld ?pcy6r
                case pcy6h => (simp only [List.getElem?_toArray, List.getElem?_cons_succ, List.getElem?_cons_zero]; rfl)
                case pcy6q => exact fun _ _ _ h => h
                case pcy6y => (refine Or.inl ⟨by first | kernel_rfl | rfl, ?_⟩; intro w hSw; (try dsimp only at hSw); obtain ⟨c0', c1, c2', c3, c4, c5⟩ := hSw.x; have hY := HQ0.out.below hSw.bel HBQ.out; obtain ⟨d0, d1, d2, d3, d4, d5⟩ := hY; go_simp <;> (try with_reducible rfl))
                try simp only [Act.put, List.setIfInBounds_toArray, List.set_cons_zero, List.set_cons_succ]
                refine wpAnyH_take (i := 6) (oi := ?pcy7o) (v := ?pcy7v) ?pcy7h (by kernel_rfl) (by kernel_rfl) (by kernel_rfl) ?pcy7q ?pcy7y hHeld ?pcy7r
                case pcy7h => (simp only [List.getElem?_toArray, List.getElem?_cons_succ, List.getElem?_cons_zero]; rfl)
                case pcy7q => exact fun _ _ _ h => h
                case pcy7y => (refine Or.inl ⟨by first | kernel_rfl | rfl, ?_⟩; intro w hSw; (try dsimp only at hSw); obtain ⟨c0', c1, c2', c3, c4, c5⟩ := hSw.x; have hY := HQ0.out.below hSw.bel HBQ.out; obtain ⟨d0, d1, d2, d3, d4, d5⟩ := hY; go_simp <;> (try with_reducible rfl))
                try simp only [Act.put, List.setIfInBounds_toArray, List.set_cons_zero, List.set_cons_succ]
                refine wpAnyH_take (i := 7) (oi := ?pcy8o) (v := ?pcy8v) ?pcy8h (by kernel_rfl) (by kernel_rfl) (by kernel_rfl) ?pcy8q ?pcy8y hHeld ?pcy8r
                case pcy8h => (simp only [List.getElem?_toArray, List.getElem?_cons_succ, List.getElem?_cons_zero]; rfl)
                case pcy8q => exact fun _ _ _ h => h
                case pcy8y => (refine Or.inl ⟨by first | kernel_rfl | rfl, ?_⟩; intro w hSw; (try dsimp only at hSw); obtain ⟨c0', c1, c2', c3, c4, c5⟩ := hSw.x; have hY := HQ0.out.below hSw.bel HBQ.out; obtain ⟨d0, d1, d2, d3, d4, d5⟩ := hY; go_simp <;> (try with_reducible rfl))
                try simp only [Act.put, List.setIfInBounds_toArray, List.set_cons_zero, List.set_cons_succ]
                refine wpAnyH_take (i := 8) (oi := ?pcy9o) (v := ?pcy9v) ?pcy9h (by kernel_rfl) (by kernel_rfl) (by kernel_rfl) ?pcy9q ?pcy9y hHeld ?pcy9r
                case pcy9h => (simp only [List.getElem?_toArray, List.getElem?_cons_succ, List.getElem?_cons_zero]; rfl)
                case pcy9q => exact fun _ _ _ h => h
                case pcy9y => (refine Or.inl ⟨by first | kernel_rfl | rfl, ?_⟩; intro w hSw; (try dsimp only at hSw); obtain ⟨c0', c1, c2', c3, c4, c5⟩ := hSw.x; have hY := HQ0.out.below hSw.bel HBQ.out; obtain ⟨d0, d1, d2, d3, d4, d5⟩ := hY; go_simp <;> (try with_reducible rfl))
                try simp only [Act.put, List.setIfInBounds_toArray, List.set_cons_zero, List.set_cons_succ]
                refine wpAnyH_take (i := 9) (oi := ?pcy10o) (v := ?pcy10v) ?pcy10h (by kernel_rfl) (by kernel_rfl) (by kernel_rfl) ?pcy10q ?pcy10y hHeld ?pcy10r
                case pcy10h => (simp only [List.getElem?_toArray, List.getElem?_cons_succ, List.getElem?_cons_zero]; rfl)
                case pcy10q => exact fun _ _ _ h => h
                case pcy10y => (refine Or.inl ⟨by first | kernel_rfl | rfl, ?_⟩; intro w hSw; (try dsimp only at hSw); obtain ⟨c0', c1, c2', c3, c4, c5⟩ := hSw.x; have hY := HQ0.out.below hSw.bel HBQ.out; obtain ⟨d0, d1, d2, d3, d4, d5⟩ := hY; go_simp <;> (try with_reducible rfl))
                try simp only [Act.put, List.setIfInBounds_toArray, List.set_cons_zero, List.set_cons_succ]
                refine wpAnyH_take (i := 10) (oi := ?pcy11o) (v := ?pcy11v) ?pcy11h (by kernel_rfl) (by kernel_rfl) (by kernel_rfl) ?pcy11q ?pcy11y hHeld ?pcy11r
                case pcy11h => (simp only [List.getElem?_toArray, List.getElem?_cons_succ, List.getElem?_cons_zero]; rfl)
                case pcy11q => exact fun _ _ _ h => h
                case pcy11y => (refine Or.inl ⟨by first | kernel_rfl | rfl, ?_⟩; intro w hSw; (try dsimp only at hSw); obtain ⟨c0', c1, c2', c3, c4, c5⟩ := hSw.x; have hY := HQ0.out.below hSw.bel HBQ.out; obtain ⟨d0, d1, d2, d3, d4, d5⟩ := hY; go_simp <;> (try with_reducible rfl))
                try simp only [Act.put, List.setIfInBounds_toArray, List.set_cons_zero, List.set_cons_succ]
                refine wpAnyH_take (i := 11) (oi := ?pcy12o) (v := ?pcy12v) ?pcy12h (by kernel_rfl) (by kernel_rfl) (by kernel_rfl) ?pcy12q ?pcy12y hHeld ?pcy12r
                case pcy12h => (simp only [List.getElem?_toArray, List.getElem?_cons_succ, List.getElem?_cons_zero]; rfl)
                case pcy12q => exact fun _ _ _ h => h
                case pcy12y => (refine Or.inl ⟨by first | kernel_rfl | rfl, ?_⟩; intro w hSw; (try dsimp only at hSw); obtain ⟨c0', c1, c2', c3, c4, c5⟩ := hSw.x; have hY := HQ0.out.below hSw.bel HBQ.out; obtain ⟨d0, d1, d2, d3, d4, d5⟩ := hY; go_simp <;> (try with_reducible rfl))
                try simp only [Act.put, List.setIfInBounds_toArray, List.set_cons_zero, List.set_cons_succ]
                refine wpAnyH_take (i := 12) (oi := ?pcy13o) (v := ?pcy13v) ?pcy13h (by kernel_rfl) (by kernel_rfl) (by kernel_rfl) ?pcy13q ?pcy13y hHeld ?pcy13r
                case pcy13h => (simp only [List.getElem?_toArray, List.getElem?_cons_succ, List.getElem?_cons_zero]; rfl)
                case pcy13q => exact fun _ _ _ h => h
                case pcy13y => (refine Or.inl ⟨by first | kernel_rfl | rfl, ?_⟩; intro w hSw; (try dsimp only at hSw); obtain ⟨c0', c1, c2', c3, c4, c5⟩ := hSw.x; have hY := HQ0.out.below hSw.bel HBQ.out; obtain ⟨d0, d1, d2, d3, d4, d5⟩ := hY; go_simp <;> (try with_reducible rfl))
                try simp only [Act.put, List.setIfInBounds_toArray, List.set_cons_zero, List.set_cons_succ]
                refine wpAnyH_take (i := 13) (oi := ?pcy14o) (v := ?pcy14v) ?pcy14h (by kernel_rfl) (by kernel_rfl) (by kernel_rfl) ?pcy14q ?pcy14y hHeld ?pcy14r
                case pcy14h => (simp only [List.getElem?_toArray, List.getElem?_cons_succ, List.getElem?_cons_zero]; rfl)
                case pcy14q => exact fun _ _ _ h => h
                case pcy14y => (refine Or.inl ⟨by first | kernel_rfl | rfl, ?_⟩; intro w hSw; (try dsimp only at hSw); obtain ⟨c0', c1, c2', c3, c4, c5⟩ := hSw.x; have hY := HQ0.out.below hSw.bel HBQ.out; obtain ⟨d0, d1, d2, d3, d4, d5⟩ := hY; go_simp <;> (try with_reducible rfl))
                try simp only [Act.put, List.setIfInBounds_toArray, List.set_cons_zero, List.set_cons_succ]
                refine wpAnyH_take (i := 14) (oi := ?pcy15o) (v := ?pcy15v) ?pcy15h (by kernel_rfl) (by kernel_rfl) (by kernel_rfl) ?pcy15q ?pcy15y hHeld ?pcy15r
                case pcy15h => (simp only [List.getElem?_toArray, List.getElem?_cons_succ, List.getElem?_cons_zero]; rfl)
                case pcy15q => exact fun _ _ _ h => h
                case pcy15y => (refine Or.inl ⟨by first | kernel_rfl | rfl, ?_⟩; intro w hSw; (try dsimp only at hSw); obtain ⟨c0', c1, c2', c3, c4, c5⟩ := hSw.x; have hY := HQ0.out.below hSw.bel HBQ.out; obtain ⟨d0, d1, d2, d3, d4, d5⟩ := hY; go_simp <;> (try with_reducible rfl))
                try simp only [Act.put, List.setIfInBounds_toArray, List.set_cons_zero, List.set_cons_succ]
                refine wpAnyH_take (i := 15) (oi := ?pcy16o) (v := ?pcy16v) ?pcy16h (by kernel_rfl) (by kernel_rfl) (by kernel_rfl) ?pcy16q ?pcy16y hHeld ?pcy16r
                case pcy16h => (simp only [List.getElem?_toArray, List.getElem?_cons_succ, List.getElem?_cons_zero]; rfl)
                case pcy16q => exact fun _ _ _ h => h
                case pcy16y => (refine Or.inl ⟨by first | kernel_rfl | rfl, ?_⟩; intro w hSw; (try dsimp only at hSw); obtain ⟨c0', c1, c2', c3, c4, c5⟩ := hSw.x; have hY := HQ0.out.below hSw.bel HBQ.out; obtain ⟨d0, d1, d2, d3, d4, d5⟩ := hY; go_simp <;> (try with_reducible rfl))
                try simp only [Act.put, List.setIfInBounds_toArray, List.set_cons_zero, List.set_cons_succ]
                refine wpAnyH_take (i := 16) (oi := ?pcy17o) (v := ?pcy17v) ?pcy17h (by kernel_rfl) (by kernel_rfl) (by kernel_rfl) ?pcy17q ?pcy17y hHeld ?pcy17r
                case pcy17h => (simp only [List.getElem?_toArray, List.getElem?_cons_succ, List.getElem?_cons_zero]; rfl)
                case pcy17q => exact fun _ _ _ h => h
                case pcy17y => (refine Or.inl ⟨by first | kernel_rfl | rfl, ?_⟩; intro w hSw; (try dsimp only at hSw); obtain ⟨c0', c1, c2', c3, c4, c5⟩ := hSw.x; have hY := HQ0.out.below hSw.bel HBQ.out; obtain ⟨d0, d1, d2, d3, d4, d5⟩ := hY; go_simp <;> (try with_reducible rfl))
                try simp only [Act.put, List.setIfInBounds_toArray, List.set_cons_zero, List.set_cons_succ]
                refine wpAnyH_take (i := 17) (oi := ?pcy18o) (v := ?pcy18v) ?pcy18h (by kernel_rfl) (by kernel_rfl) (by kernel_rfl) ?pcy18q ?pcy18y hHeld ?pcy18r
                case pcy18h => (simp only [List.getElem?_toArray, List.getElem?_cons_succ, List.getElem?_cons_zero]; rfl)
                case pcy18q => exact fun _ _ _ h => h
                case pcy18y => (refine Or.inl ⟨by first | kernel_rfl | rfl, ?_⟩; intro w hSw; (try dsimp only at hSw); obtain ⟨c0', c1, c2', c3, c4, c5⟩ := hSw.x; have hY := HQ0.out.below hSw.bel HBQ.out; obtain ⟨d0, d1, d2, d3, d4, d5⟩ := hY; go_simp <;> (try with_reducible rfl))
                try simp only [Act.put, List.setIfInBounds_toArray, List.set_cons_zero, List.set_cons_succ]
                refine wpAnyH_take (i := 18) (oi := ?pcy19o) (v := ?pcy19v) ?pcy19h (by kernel_rfl) (by kernel_rfl) (by kernel_rfl) ?pcy19q ?pcy19y hHeld ?pcy19r
                case pcy19h => (simp only [List.getElem?_toArray, List.getElem?_cons_succ, List.getElem?_cons_zero]; rfl)
                case pcy19q => exact fun _ _ _ h => h
                case pcy19y => (refine Or.inl ⟨by first | kernel_rfl | rfl, ?_⟩; intro w hSw; (try dsimp only at hSw); obtain ⟨c0', c1, c2', c3, c4, c5⟩ := hSw.x; have hY := HQ0.out.below hSw.bel HBQ.out; obtain ⟨d0, d1, d2, d3, d4, d5⟩ := hY; go_simp <;> (try with_reducible rfl))
                try simp only [Act.put, List.setIfInBounds_toArray, List.set_cons_zero, List.set_cons_succ]
                refine wpAnyH_take (i := 19) (oi := ?pcy20o) (v := ?pcy20v) ?pcy20h (by kernel_rfl) (by kernel_rfl) (by kernel_rfl) ?pcy20q ?pcy20y hHeld ?pcy20r
                case pcy20h => (simp only [List.getElem?_toArray, List.getElem?_cons_succ, List.getElem?_cons_zero]; rfl)
                case pcy20q => exact fun _ _ _ h => h
                case pcy20y => (refine Or.inl ⟨by first | kernel_rfl | rfl, ?_⟩; intro w hSw; (try dsimp only at hSw); obtain ⟨c0', c1, c2', c3, c4, c5⟩ := hSw.x; have hY := HQ0.out.below hSw.bel HBQ.out; obtain ⟨d0, d1, d2, d3, d4, d5⟩ := hY; go_simp <;> (try with_reducible rfl))
                try simp only [Act.put, List.setIfInBounds_toArray, List.set_cons_zero, List.set_cons_succ]
                refine wpAnyH_take (i := 20) (oi := ?pcy21o) (v := ?pcy21v) ?pcy21h (by kernel_rfl) (by kernel_rfl) (by kernel_rfl) ?pcy21q ?pcy21y hHeld ?pcy21r
                case pcy21h => (simp only [List.getElem?_toArray, List.getElem?_cons_succ, List.getElem?_cons_zero]; rfl)
                case pcy21q => exact fun _ _ _ h => h
                case pcy21y => (refine Or.inl ⟨by first | kernel_rfl | rfl, ?_⟩; intro w hSw; (try dsimp only at hSw); obtain ⟨c0', c1, c2', c3, c4, c5⟩ := hSw.x; have hY := HQ0.out.below hSw.bel HBQ.out; obtain ⟨d0, d1, d2, d3, d4, d5⟩ := hY; go_simp <;> (try with_reducible rfl))
                try simp only [Act.put, List.setIfInBounds_toArray, List.set_cons_zero, List.set_cons_succ]
                refine wpAnyH_take (i := 21) (oi := ?pcy22o) (v := ?pcy22v) ?pcy22h (by kernel_rfl) (by kernel_rfl) (by kernel_rfl) ?pcy22q ?pcy22y hHeld ?pcy22r
                case pcy22h => (simp only [List.getElem?_toArray, List.getElem?_cons_succ, List.getElem?_cons_zero]; rfl)
                case pcy22q => exact fun _ _ _ h => h
                case pcy22y => (refine Or.inl ⟨by first | kernel_rfl | rfl, ?_⟩; intro w hSw; (try dsimp only at hSw); obtain ⟨c0', c1, c2', c3, c4, c5⟩ := hSw.x; have hY := HQ0.out.below hSw.bel HBQ.out; obtain ⟨d0, d1, d2, d3, d4, d5⟩ := hY; go_simp <;> (try with_reducible rfl))
                try simp only [Act.put, List.setIfInBounds_toArray, List.set_cons_zero, List.set_cons_succ]
                refine wpAnyH_take (i := 22) (oi := ?pcy23o) (v := ?pcy23v) ?pcy23h (by kernel_rfl) (by kernel_rfl) (by kernel_rfl) ?pcy23q ?pcy23y hHeld ?pcy23r
                case pcy23h => (simp only [List.getElem?_toArray, List.getElem?_cons_succ, List.getElem?_cons_zero]; rfl)
                case pcy23q => exact fun _ _ _ h => h
                case pcy23y => (refine Or.inl ⟨by first | kernel_rfl | rfl, ?_⟩; intro w hSw; (try dsimp only at hSw); obtain ⟨c0', c1, c2', c3, c4, c5⟩ := hSw.x; have hY := HQ0.out.below hSw.bel HBQ.out; obtain ⟨d0, d1, d2, d3, d4, d5⟩ := hY; go_simp <;> (try with_reducible rfl))
                try simp only [Act.put, List.setIfInBounds_toArray, List.set_cons_zero, List.set_cons_succ]
                refine wpAnyH_take (i := 23) (oi := ?pcy24o) (v := ?pcy24v) ?pcy24h (by kernel_rfl) (by kernel_rfl) (by kernel_rfl) ?pcy24q ?pcy24y hHeld ?pcy24r
                case pcy24h => (simp only [List.getElem?_toArray, List.getElem?_cons_succ, List.getElem?_cons_zero]; rfl)
                case pcy24q => exact fun _ _ _ h => h
                case pcy24y => (refine Or.inl ⟨by first | kernel_rfl | rfl, ?_⟩; intro w hSw; (try dsimp only at hSw); obtain ⟨c0', c1, c2', c3, c4, c5⟩ := hSw.x; have hY := HQ0.out.below hSw.bel HBQ.out; obtain ⟨d0, d1, d2, d3, d4, d5⟩ := hY; go_simp <;> (try with_reducible rfl))
                try simp only [Act.put, List.setIfInBounds_toArray, List.set_cons_zero, List.set_cons_succ]
                refine wpAnyH_done (by kernel_rfl) ?_ _
                have HH6 := Lib.hid hHeld
                clear hHeld
                go_wp2_with fail
                refine wp_region_held_drew (S := (RPu w T p (.slice a6 k c6) (l.take k))) (by kernel_rfl) HH6.out.drew (fun hHeld => ?_)
                refine wpAnyH_take (i := 0) (oi := ?pcz1o) (v := ?pcz1v) ?pcz1h (by kernel_rfl) (by kernel_rfl) (by kernel_rfl) ?pcz1q ?pcz1y hHeld ?pcz1r
                case pcz1h => (simp only [List.getElem?_toArray, List.getElem?_cons_zero]; rfl)
                case pcz1q => exact fun _ _ _ h => h
                case pcz1y => (refine Or.inl ⟨by first | kernel_rfl | rfl, ?_⟩; intro w hSw; (try dsimp only at hSw); obtain ⟨c0', c1, c2', c3, c4, c5⟩ := hSw.x; have hY := HQ0.out.below hSw.bel HBQ.out; obtain ⟨d0, d1, d2, d3, d4, d5⟩ := hY; go_simp <;> (try with_reducible rfl))
                try simp only [Act.put, List.setIfInBounds_toArray, List.set_cons_zero, List.set_cons_succ]
                refine wpAnyH_take (i := 1) (oi := ?pcz2o) (v := ?pcz2v) ?pcz2h (by kernel_rfl) (by kernel_rfl) (by kernel_rfl) ?pcz2q ?pcz2y hHeld ?pcz2r
                case pcz2h => (simp only [List.getElem?_toArray, List.getElem?_cons_succ, List.getElem?_cons_zero]; rfl)
                case pcz2q => exact fun _ _ _ h => h
                case pcz2y => (refine Or.inl ⟨by first | kernel_rfl | rfl, ?_⟩; intro w hSw; (try dsimp only at hSw); obtain ⟨c0', c1, c2', c3, c4, c5⟩ := hSw.x; have hY := HQ0.out.below hSw.bel HBQ.out; obtain ⟨d0, d1, d2, d3, d4, d5⟩ := hY; go_simp <;> (try with_reducible rfl))
                try simp only [Act.put, List.setIfInBounds_toArray, List.set_cons_zero, List.set_cons_succ]
                refine wpAnyH_take (i := 2) (oi := ?pcz3o) (v := ?pcz3v) ?pcz3h (by kernel_rfl) (by kernel_rfl) (by kernel_rfl) ?pcz3q ?pcz3y hHeld ?pcz3r
                case pcz3h => (simp only [List.getElem?_toArray, List.getElem?_cons_succ, List.getElem?_cons_zero]; rfl)
                case pcz3q => exact fun _ _ _ h => h
                case pcz3y => (refine Or.inl ⟨by first | kernel_rfl | rfl, ?_⟩; intro w hSw; (try dsimp only at hSw); obtain ⟨c0', c1, c2', c3, c4, c5⟩ := hSw.x; have hY := HQ0.out.below hSw.bel HBQ.out; obtain ⟨d0, d1, d2, d3, d4, d5⟩ := hY; go_simp <;> (try with_reducible rfl))
                try simp only [Act.put, List.setIfInBounds_toArray, List.set_cons_zero, List.set_cons_succ]
                refine wpAnyH_take (i := 3) (oi := ?pcz4o) (v := ?pcz4v) ?pcz4h (by kernel_rfl) (by kernel_rfl) (by kernel_rfl) ?pcz4q ?pcz4y hHeld ?pcz4r
                case pcz4h => (simp only [List.getElem?_toArray, List.getElem?_cons_succ, List.getElem?_cons_zero]; rfl)
                case pcz4q => exact fun _ _ _ h => h
                case pcz4y => (refine Or.inl ⟨by first | kernel_rfl | rfl, ?_⟩; intro w hSw; (try dsimp only at hSw); obtain ⟨c0', c1, c2', c3, c4, c5⟩ := hSw.x; have hY := HQ0.out.below hSw.bel HBQ.out; obtain ⟨d0, d1, d2, d3, d4, d5⟩ := hY; go_simp <;> (try with_reducible rfl))
                try simp only [Act.put, List.setIfInBounds_toArray, List.set_cons_zero, List.set_cons_succ]
                refine wpAnyH_take (i := 4) (oi := ?pcz5o) (v := ?pcz5v) ?pcz5h (by kernel_rfl) (by kernel_rfl) (by kernel_rfl) ?pcz5q ?pcz5y hHeld ?pcz5r
                case pcz5h => (simp only [List.getElem?_toArray, List.getElem?_cons_succ, List.getElem?_cons_zero]; rfl)
                case pcz5q => exact fun _ _ _ h => h
                case pcz5y => (refine Or.inl ⟨by first | kernel_rfl | rfl, ?_⟩; intro w hSw; (try dsimp only at hSw); obtain ⟨c0', c1, c2', c3, c4, c5⟩ := hSw.x; have hY := HQ0.out.below hSw.bel HBQ.out; obtain ⟨d0, d1, d2, d3, d4, d5⟩ := hY; go_simp <;> (try with_reducible rfl))
                try simp only [Act.put, List.setIfInBounds_toArray, List.set_cons_zero, List.set_cons_succ]
                refine wpAnyH_ready (rs := [5]) (by kernel_rfl) (by simp) ?_
                refine (AllReadyH.cons rfl (fun K hK => ?_) AllReadyH.nil)
                go_simp
                ((with_reducible refine (kn _).mono ?_); rintro e w5 ⟨rfl, hb5⟩)
                refine hK.out _ _ (hHeld.keep hb5) (fun hHeld => ?_)
                clear hK K
                try simp only [Act.put, List.setIfInBounds_toArray, List.set_cons_zero, List.set_cons_succ]
                refine wpAnyH_take (i := 6) (oi := ?pcz6o) (v := ?pcz6v) ?pcz6h (by kernel_rfl) (by kernel_rfl) (by kernel_rfl) ?pcz6q ?pcz6y hHeld ?pcz6r
                case pcz6h => (simp only [List.getElem?_toArray, List.getElem?_cons_succ, List.getElem?_cons_zero]; rfl)
                case pcz6q => exact fun _ _ _ h => h
                case pcz6y => (refine Or.inl ⟨by first | kernel_rfl | rfl, ?_⟩; intro w hSw; (try dsimp only at hSw); obtain ⟨c0', c1, c2', c3, c4, c5⟩ := hSw.x; have hY := HQ0.out.below hSw.bel HBQ.out; obtain ⟨d0, d1, d2, d3, d4, d5⟩ := hY; go_simp <;> (try with_reducible rfl))
                try simp only [Act.put, List.setIfInBounds_toArray, List.set_cons_zero, List.set_cons_succ]
                refine wpAnyH_done (by kernel_rfl) ?_ _
                have HH7 := Lib.hid hHeld
                have hX6 := hHeld.x
                obtain ⟨x0, x1, x2', x3, x4, x5⟩ := hX6
                have hY := HQ0.out.below hHeld.bel HBQ.out
                obtain ⟨y0, y1, y2', y3, y4, y5⟩ := hY
                clear hHeld
                go_wp2_with (first | (at_builtin; refine wpList_appP (w := w5) rfl _ _ rfl (T + 1) k (.slice a6 k c6) (l.take k) p (w5).heap.size rfl rfl rfl HTK HH7.out.row (by omega) HH7.out.x.room ?_; intro a7 c7 w7 hrow7 _ hb7 _; have HR7 := Lib.hid (HH7.out.app HTW.out hb7 hrow7.out); clear hrow7 hb7) | (at_builtin; refine wpList_appN (w := w7) rfl _ _ rfl (T + 1) (k + 1) (.slice a7 (k + 1) c7) (l.take k ++ [p]) (l.drop (k + 1)) x2 n2 c2 w.heap.size rfl rfl HN2.out (Lib.hid (by rw [List.length_append, HTK.out]; rfl)) HR7.out.row (HL2.out.below HR7.out.bel) (by omega) HR7.out.x.room ?_; intro a8 c8 w8 hrow8 _ hb8 _; have HR8 := Lib.hid (HR7.out.app HTW.out hb8 hrow8.out); clear hrow8 hb8))
                go_ret
                exact ⟨_, rfl, by rw [HE.out]; exact HR8.out.row.base (by have := HTW.out; omega), HR8.out.bel⟩
              | false =>
                have HE := Lib.hid (show ins p l = l.take k ++ [q] ++ l.drop (k + 1) from HE1.out)
                go_wp2_with fail
                refine wp_region_held_drew (S := (RPu w T p (.slice none 0 0) [])) (by kernel_rfl) HR.out.drew (fun hHeld => ?_)
                refine wpAnyH_take (i := 0) (oi := ?pdx1o) (v := ?pdx1v) ?pdx1h (by kernel_rfl) (by kernel_rfl) (by kernel_rfl) ?pdx1q ?pdx1y hHeld ?pdx1r
                case pdx1h => (simp only [List.getElem?_toArray, List.getElem?_cons_zero]; rfl)
                case pdx1q => exact fun _ _ _ h => h
                case pdx1y => (refine Or.inl ⟨by first | kernel_rfl | rfl, ?_⟩; intro w hSw; (try dsimp only at hSw); obtain ⟨c0', c1, c2', c3, c4, c5⟩ := hSw.x; have hY := HQ0.out.below hSw.bel HBQ.out; obtain ⟨d0, d1, d2, d3, d4, d5⟩ := hY; go_simp <;> (try with_reducible rfl))
                try simp only [Act.put, List.setIfInBounds_toArray, List.set_cons_zero, List.set_cons_succ]
                refine wpAnyH_take (i := 1) (oi := ?pdx2o) (v := ?pdx2v) ?pdx2h (by kernel_rfl) (by kernel_rfl) (by kernel_rfl) ?pdx2q ?pdx2y hHeld ?pdx2r
                case pdx2h => (simp only [List.getElem?_toArray, List.getElem?_cons_succ, List.getElem?_cons_zero]; rfl)
                case pdx2q => exact fun _ _ _ h => h
                case pdx2y => (refine Or.inl ⟨by first | kernel_rfl | rfl, ?_⟩; intro w hSw; (try dsimp only at hSw); obtain ⟨c0', c1, c2', c3, c4, c5⟩ := hSw.x; have hY := HQ0.out.below hSw.bel HBQ.out; obtain ⟨d0, d1, d2, d3, d4, d5⟩ := hY; go_simp <;> (try with_reducible rfl))
                try simp only [Act.put, List.setIfInBounds_toArray, List.set_cons_zero, List.set_cons_succ]
                refine wpAnyH_take (i := 2) (oi := ?pdx3o) (v := ?pdx3v) ?pdx3h (by kernel_rfl) (by kernel_rfl) (by kernel_rfl) ?pdx3q ?pdx3y hHeld ?pdx3r
                case pdx3h => (simp only [List.getElem?_toArray, List.getElem?_cons_succ, List.getElem?_cons_zero]; rfl)
                case pdx3q => exact fun _ _ _ h => h
                case pdx3y => (refine Or.inl ⟨by first | kernel_rfl | rfl, ?_⟩; intro w hSw; (try dsimp only at hSw); obtain ⟨c0', c1, c2', c3, c4, c5⟩ := hSw.x; have hY := HQ0.out.below hSw.bel HBQ.out; obtain ⟨d0, d1, d2, d3, d4, d5⟩ := hY; go_simp <;> (try with_reducible rfl))
                try simp only [Act.put, List.setIfInBounds_toArray, List.set_cons_zero, List.set_cons_succ]
                refine wpAnyH_take (i := 3) (oi := ?pdx4o) (v := ?pdx4v) ?pdx4h (by kernel_rfl) (by kernel_rfl) (by kernel_rfl) ?pdx4q ?pdx4y hHeld ?pdx4r
                case pdx4h => (simp only [List.getElem?_toArray, List.getElem?_cons_succ, List.getElem?_cons_zero]; rfl)
                case pdx4q => exact fun _ _ _ h => h
                case pdx4y => (refine Or.inl ⟨by first | kernel_rfl | rfl, ?_⟩; intro w hSw; (try dsimp only at hSw); obtain ⟨c0', c1, c2', c3, c4, c5⟩ := hSw.x; have hY := HQ0.out.below hSw.bel HBQ.out; obtain ⟨d0, d1, d2, d3, d4, d5⟩ := hY; go_simp <;> (try with_reducible rfl))
                try simp only [Act.put, List.setIfInBounds_toArray, List.set_cons_zero, List.set_cons_succ]
                refine wpAnyH_take (i := 4) (oi := ?pdx5o) (v := ?pdx5v) ?pdx5h (by kernel_rfl) (by kernel_rfl) (by kernel_rfl) ?pdx5q ?pdx5y hHeld ?pdx5r
                case pdx5h => (simp only [List.getElem?_toArray, List.getElem?_cons_succ, List.getElem?_cons_zero]; rfl)
                case pdx5q => exact fun _ _ _ h => h
                case pdx5y => (refine Or.inl ⟨by first | kernel_rfl | rfl, ?_⟩; intro w hSw; (try dsimp only at hSw); obtain ⟨c0', c1, c2', c3, c4, c5⟩ := hSw.x; have hY := HQ0.out.below hSw.bel HBQ.out; obtain ⟨d0, d1, d2, d3, d4, d5⟩ := hY; go_simp <;> (try with_reducible rfl))
                try simp only [Act.put, List.setIfInBounds_toArray, List.set_cons_zero, List.set_cons_succ]
                refine wpAnyH_ready (rs := [5]) (by kernel_rfl) (by simp) ?_
                refine (AllReadyH.cons rfl (fun K hK => ?_) AllReadyH.nil)
                go_simp
                ((with_reducible refine (kb _).mono ?_); rintro e w4 ⟨rfl, hb4⟩)
                refine hK.out _ _ (hHeld.keep hb4) (fun hHeld => ?_)
                clear hK K
                try simp only [Act.put, List.setIfInBounds_toArray, List.set_cons_zero, List.set_cons_succ]
                refine wpAnyH_take (i := 6) (oi := ?pdx6o) (v := ?pdx6v) ?pdx6h (by kernel_rfl) (by kernel_rfl) (by kernel_rfl) ?pdx6q ?pdx6y hHeld ?pdx6r
                case pdx6h => (simp only [List.getElem?_toArray, List.getElem?_cons_succ, List.getElem?_cons_zero]; rfl)
                case pdx6q => exact fun _ _ _ h => h
                case pdx6y => (refine Or.inl ⟨by first | kernel_rfl | rfl, ?_⟩; intro w hSw; (try dsimp only at hSw); obtain ⟨c0', c1, c2', c3, c4, c5⟩ := hSw.x; have hY := HQ0.out.below hSw.bel HBQ.out; obtain ⟨d0, d1, d2, d3, d4, d5⟩ := hY; go_simp <;> (try with_reducible rfl))
                try simp only [Act.put, List.setIfInBounds_toArray, List.set_cons_zero, List.set_cons_succ]
                refine wpAnyH_done (by kernel_rfl) ?_ _
                have HH := Lib.hid hHeld
                clear hHeld
                go_wp2_with (first | (at_builtin; refine wpList_appN (w := w4) rfl _ _ rfl (T + 1) 0 (.slice none 0 0) [] (l.take k) (some ⟨b, off, none⟩) k c0 w.heap.size rfl rfl HTK.out (Lib.hid rfl) HH.out.row (HLK.out.below HH.out.bel) (by omega) HH.out.x.room ?_; intro a6 c6 w6 hrow6 _ hb6 _; have HR6 := Lib.hid (HH.out.app HTW.out hb6 (show PRow w6 (T + 1) (.slice a6 k c6) (l.take k) by simpa using hrow6.out)); clear hrow6 hb6))
                refine wp_region_held_drew (S := (RPu w T p (.slice a6 k c6) (l.take k))) (by kernel_rfl) HR6.out.drew (fun hHeld => ?_)
                refine wpAnyH_take (i := 0) (oi := ?pdy1o) (v := ?pdy1v) ?pdy1h (by kernel_rfl) (by kernel_rfl) (by kernel_rfl) ?pdy1q ?pdy1y hHeld ?pdy1r
                case pdy1h => (simp only [List.getElem?_toArray, List.getElem?_cons_zero]; rfl)
                case pdy1q => exact fun _ _ _ h => h
                case pdy1y => (refine Or.inl ⟨by first | kernel_rfl | rfl, ?_⟩; intro w hSw; (try dsimp only at hSw); obtain ⟨c0', c1, c2', c3, c4, c5⟩ := hSw.x; have hY := HQ0.out.below hSw.bel HBQ.out; obtain ⟨d0, d1, d2, d3, d4, d5⟩ := hY; go_simp <;> (try with_reducible rfl))
                try simp only [Act.put, List.setIfInBounds_toArray, List.set_cons_zero, List.set_cons_succ]
                refine wpAnyH_take (i := 1) (oi := ?pdy2o) (v := ?pdy2v) ?pdy2h (by kernel_rfl) (by kernel_rfl) (by kernel_rfl) ?pdy2q ?pdy2y hHeld ?pdy2r
                case pdy2h => (simp only [List.getElem?_toArray, List.getElem?_cons_succ, List.getElem?_cons_zero]; rfl)
                case pdy2q => exact fun _ _ _ h => h
                case pdy2y => (refine Or.inl ⟨by first | kernel_rfl | rfl, ?_⟩; intro w hSw; (try dsimp only at hSw); obtain ⟨c0', c1, c2', c3, c4, c5⟩ := hSw.x; have hY := HQ0.out.below hSw.bel HBQ.out; obtain ⟨d0, d1, d2, d3, d4, d5⟩ := hY; go_simp <;> (try with_reducible rfl))
                try simp only [Act.put, List.setIfInBounds_toArray, List.set_cons_zero, List.set_cons_succ]
                refine wpAnyH_take (i := 2) (oi := ?pdy3o) (v := ?pdy3v) ?pdy3h (by kernel_rfl) (by kernel_rfl) (by kernel_rfl) ?pdy3q ?pdy3y hHeld ?pdy3r
                case pdy3h => (simp only [List.getElem?_toArray, List.getElem?_cons_succ, List.getElem?_cons_zero]; rfl)
                case pdy3q => exact fun _ _ _ h => h
                case pdy3y => (refine Or.inl ⟨by first | kernel_rfl | rfl, ?_⟩; intro w hSw; (try dsimp only at hSw); obtain ⟨c0', c1, c2', c3, c4, c5⟩ := hSw.x; have hY := HQ0.out.below hSw.bel HBQ.out; obtain ⟨d0, d1, d2, d3, d4, d5⟩ := hY; go_simp <;> (try with_reducible rfl))
                try simp only [Act.put, List.setIfInBounds_toArray, List.set_cons_zero, List.set_cons_succ]
                refine wpAnyH_take (i := 3) (oi := ?pdy4o) (v := ?pdy4v) ?pdy4h (by kernel_rfl) (by kernel_rfl) (by kernel_rfl) ?pdy4q ?pdy4y hHeld ?pdy4r
                case pdy4h => (simp only [List.getElem?_toArray, List.getElem?_cons_succ, List.getElem?_cons_zero]; rfl)
                case pdy4q => exact fun _ _ _ h => h
                case pdy4y => (refine Or.inl ⟨by first | kernel_rfl | rfl, ?_⟩; intro w hSw; (try dsimp only at hSw); obtain ⟨c0', c1, c2', c3, c4, c5⟩ := hSw.x; have hY := HQ0.out.below hSw.bel HBQ.out; obtain ⟨d0, d1, d2, d3, d4, d5⟩ := hY; go_simp <;> (try with_reducible rfl))
                try simp only [Act.put, List.setIfInBounds_toArray, List.set_cons_zero, List.set_cons_succ]
                refine wpAnyH_take (i := 4) (oi := ?pdy5o) (v := ?pdy5v) ?pdy5h (by kernel_rfl) (by kernel_rfl) (by kernel_rfl) ?pdy5q ?pdy5y hHeld ?pdy5r
                case pdy5h => (simp only [List.getElem?_toArray, List.getElem?_cons_succ, List.getElem?_cons_zero]; rfl)
                case pdy5q => exact fun _ _ _ h => h
                case pdy5y => (refine Or.inl ⟨by first | kernel_rfl | rfl, ?_⟩; intro w hSw; (try dsimp only at hSw); obtain ⟨c0', c1, c2', c3, c4, c5⟩ := hSw.x; have hY := HQ0.out.below hSw.bel HBQ.out; obtain ⟨d0, d1, d2, d3, d4, d5⟩ := hY; go_simp <;> (try with_reducible rfl))
                try simp only [Act.put, List.setIfInBounds_toArray, List.set_cons_zero, List.set_cons_succ]
                refine wpAnyH_take (i := 5) (oi := ?pdy6o) (v := ?pdy6v) ?pdy6h (by kernel_rfl) (by kernel_rfl) (by kernel_rfl) ?pdy6q ?pdy6y hHeld ?pdy6r
                case pdy6h => (simp only [List.getElem?_toArray, List.getElem?_cons_succ, List.getElem?_cons_zero]; rfl)
                case pdy6q => exact fun _ _ _ h => h
                case pdy6y => (refine Or.inl ⟨by first | kernel_rfl | rfl, ?_⟩; intro w hSw; (try dsimp only at hSw); obtain ⟨c0', c1, c2', c3, c4, c5⟩ := hSw.x; have hY := HQ0.out.below hSw.bel HBQ.out; obtain ⟨d0, d1, d2, d3, d4, d5⟩ := hY; go_simp <;> (try with_reducible rfl))
                try simp only [Act.put, List.setIfInBounds_toArray, List.set_cons_zero, List.set_cons_succ]
                refine wpAnyH_take (i := 6) (oi := ?pdy7o) (v := ?pdy7v) ?pdy7h (by kernel_rfl) (by kernel_rfl) (by kernel_rfl) ?pdy7q ?pdy7y hHeld ?pdy7r
                case pdy7h => (simp only [List.getElem?_toArray, List.getElem?_cons_succ, List.getElem?_cons_zero]; rfl)
                case pdy7q => exact fun _ _ _ h => h
                case pdy7y => (refine Or.inl ⟨by first | kernel_rfl | rfl, ?_⟩; intro w hSw; (try dsimp only at hSw); obtain ⟨c0', c1, c2', c3, c4, c5⟩ := hSw.x; have hY := HQ0.out.below hSw.bel HBQ.out; obtain ⟨d0, d1, d2, d3, d4, d5⟩ := hY; go_simp <;> (try with_reducible rfl))
                try simp only [Act.put, List.setIfInBounds_toArray, List.set_cons_zero, List.set_cons_succ]
                refine wpAnyH_take (i := 7) (oi := ?pdy8o) (v := ?pdy8v) ?pdy8h (by kernel_rfl) (by kernel_rfl) (by kernel_rfl) ?pdy8q ?pdy8y hHeld ?pdy8r
                case pdy8h => (simp only [List.getElem?_toArray, List.getElem?_cons_succ, List.getElem?_cons_zero]; rfl)
                case pdy8q => exact fun _ _ _ h => h
                case pdy8y => (refine Or.inl ⟨by first | kernel_rfl | rfl, ?_⟩; intro w hSw; (try dsimp only at hSw); obtain ⟨c0', c1, c2', c3, c4, c5⟩ := hSw.x; have hY := HQ0.out.below hSw.bel HBQ.out; obtain ⟨d0, d1, d2, d3, d4, d5⟩ := hY; go_simp <;> (try with_reducible rfl))
                try simp only [Act.put, List.setIfInBounds_toArray, List.set_cons_zero, List.set_cons_succ]
                refine wpAnyH_take (i := 8) (oi := ?pdy9o) (v := ?pdy9v) ?pdy9h (by kernel_rfl) (by kernel_rfl) (by kernel_rfl) ?pdy9q ?pdy9y hHeld ?pdy9r
                case pdy9h => (simp only [List.getElem?_toArray, List.getElem?_cons_succ, List.getElem?_cons_zero]; rfl)
                case pdy9q => exact fun _ _ _ h => h
                case pdy9y => (refine Or.inl ⟨by first | kernel_rfl | rfl, ?_⟩; intro w hSw; (try dsimp only at hSw); obtain ⟨c0', c1, c2', c3, c4, c5⟩ := hSw.x; have hY := HQ0.out.below hSw.bel HBQ.out; obtain ⟨d0, d1, d2, d3, d4, d5⟩ := hY; go_simp <;> (try with_reducible rfl))
                try simp only [Act.put, List.setIfInBounds_toArray, List.set_cons_zero, List.set_cons_succ]
                refine wpAnyH_take (i := 9) (oi := ?pdy10o) (v := ?pdy10v) ?pdy10h (by kernel_rfl) (by kernel_rfl) (by kernel_rfl) ?pdy10q ?pdy10y hHeld ?pdy10r
                case pdy10h => (simp only [List.getElem?_toArray, List.getElem?_cons_succ, List.getElem?_cons_zero]; rfl)
                case pdy10q => exact fun _ _ _ h => h
                case pdy10y => (refine Or.inl ⟨by first | kernel_rfl | rfl, ?_⟩; intro w hSw; (try dsimp only at hSw); obtain ⟨c0', c1, c2', c3, c4, c5⟩ := hSw.x; have hY := HQ0.out.below hSw.bel HBQ.out; obtain ⟨d0, d1, d2, d3, d4, d5⟩ := hY; go_simp <;> (try with_reducible rfl))
                try simp only [Act.put, List.setIfInBounds_toArray, List.set_cons_zero, List.set_cons_succ]
                refine wpAnyH_take (i := 10) (oi := ?pdy11o) (v := ?pdy11v) ?pdy11h (by kernel_rfl) (by kernel_rfl) (by kernel_rfl) ?pdy11q ?pdy11y hHeld ?pdy11r
                case pdy11h => (simp only [List.getElem?_toArray, List.getElem?_cons_succ, List.getElem?_cons_zero]; rfl)
                case pdy11q => exact fun _ _ _ h => h
                case pdy11y => (refine Or.inl ⟨by first | kernel_rfl | rfl, ?_⟩; intro w hSw; (try dsimp only at hSw); obtain ⟨c0', c1, c2', c3, c4, c5⟩ := hSw.x; have hY := HQ0.out.below hSw.bel HBQ.out; obtain ⟨d0, d1, d2, d3, d4, d5⟩ := hY; go_simp <;> (try with_reducible rfl))
                try simp only [Act.put, List.setIfInBounds_toArray, List.set_cons_zero, List.set_cons_succ]
                refine wpAnyH_take (i := 11) (oi := ?pdy12o) (v := ?pdy12v) ?pdy12h (by kernel_rfl) (by kernel_rfl) (by kernel_rfl) ?pdy12q ?pdy12y hHeld ?pdy12r
                case pdy12h => (simp only [List.getElem?_toArray, List.getElem?_cons_succ, List.getElem?_cons_zero]; rfl)
                case pdy12q => exact fun _ _ _ h => h
                case pdy12y => (refine Or.inl ⟨by first | kernel_rfl | rfl, ?_⟩; intro w hSw; (try dsimp only at hSw); obtain ⟨c0', c1, c2', c3, c4, c5⟩ := hSw.x; have hY := HQ0.out.below hSw.bel HBQ.out; obtain ⟨d0, d1, d2, d3, d4, d5⟩ := hY; go_simp <;> (try with_reducible rfl))
                try simp only [Act.put, List.setIfInBounds_toArray, List.set_cons_zero, List.set_cons_succ]
                refine wpAnyH_take (i := 12) (oi := ?pdy13o) (v := ?pdy13v) ?pdy13h (by kernel_rfl) (by kernel_rfl) (by kernel_rfl) ?pdy13q ?pdy13y hHeld ?pdy13r
                case pdy13h => (simp only [List.getElem?_toArray, List.getElem?_cons_succ, List.getElem?_cons_zero]; rfl)
                case pdy13q => exact fun _ _ _ h => h
                case pdy13y => (refine Or.inl ⟨by first | kernel_rfl | rfl, ?_⟩; intro w hSw; (try dsimp only at hSw); obtain ⟨c0', c1, c2', c3, c4, c5⟩ := hSw.x; have hY := HQ0.out.below hSw.bel HBQ.out; obtain ⟨d0, d1, d2, d3, d4, d5⟩ := hY; go_simp <;> (try with_reducible rfl))
                try simp only [Act.put, List.setIfInBounds_toArray, List.set_cons_zero, List.set_cons_succ]
                refine wpAnyH_take (i := 13) (oi := ?pdy14o) (v := ?pdy14v) ?pdy14h (by kernel_rfl) (by kernel_rfl) (by kernel_rfl) ?pdy14q ?pdy14y hHeld ?pdy14r
                case pdy14h => (simp only [List.getElem?_toArray, List.getElem?_cons_succ, List.getElem?_cons_zero]; rfl)
                case pdy14q => exact fun _ _ _ h => h
                case pdy14y => (refine Or.inl ⟨by first | kernel_rfl | rfl, ?_⟩; intro w hSw; (try dsimp only at hSw); obtain ⟨c0', c1, c2', c3, c4, c5⟩ := hSw.x; have hY := HQ0.out.below hSw.bel HBQ.out; obtain ⟨d0, d1, d2, d3, d4, d5⟩ := hY; go_simp <;> (try with_reducible rfl))
                try simp only [Act.put, List.setIfInBounds_toArray, List.set_cons_zero, List.set_cons_succ]
                refine wpAnyH_take (i := 14) (oi := ?pdy15o) (v := ?pdy15v) ?pdy15h (by kernel_rfl) (by kernel_rfl) (by kernel_rfl) ?pdy15q ?pdy15y hHeld ?pdy15r
                case pdy15h => (simp only [List.getElem?_toArray, List.getElem?_cons_succ, List.getElem?_cons_zero]; rfl)
                case pdy15q => exact fun _ _ _ h => h
                case pdy15y => (refine Or.inl ⟨by first | kernel_rfl | rfl, ?_⟩; intro w hSw; (try dsimp only at hSw); obtain ⟨c0', c1, c2', c3, c4, c5⟩ := hSw.x; have hY := HQ0.out.below hSw.bel HBQ.out; obtain ⟨d0, d1, d2, d3, d4, d5⟩ := hY; go_simp <;> (try with_reducible rfl))
                try simp only [Act.put, List.setIfInBounds_toArray, List.set_cons_zero, List.set_cons_succ]
                refine wpAnyH_take (i := 15) (oi := ?pdy16o) (v := ?pdy16v) ?pdy16h (by kernel_rfl) (by kernel_rfl) (by kernel_rfl) ?pdy16q ?pdy16y hHeld ?pdy16r
                case pdy16h => (simp only [List.getElem?_toArray, List.getElem?_cons_succ, List.getElem?_cons_zero]; rfl)
                case pdy16q => exact fun _ _ _ h => h
                case pdy16y => (refine Or.inl ⟨by first | kernel_rfl | rfl, ?_⟩; intro w hSw; (try dsimp only at hSw); obtain ⟨c0', c1, c2', c3, c4, c5⟩ := hSw.x; have hY := HQ0.out.below hSw.bel HBQ.out; obtain ⟨d0, d1, d2, d3, d4, d5⟩ := hY; go_simp <;> (try with_reducible rfl))
                try simp only [Act.put, List.setIfInBounds_toArray, List.set_cons_zero, List.set_cons_succ]
                refine wpAnyH_take (i := 16) (oi := ?pdy17o) (v := ?pdy17v) ?pdy17h (by kernel_rfl) (by kernel_rfl) (by kernel_rfl) ?pdy17q ?pdy17y hHeld ?pdy17r
                case pdy17h => (simp only [List.getElem?_toArray, List.getElem?_cons_succ, List.getElem?_cons_zero]; rfl)
                case pdy17q => exact fun _ _ _ h => h
                case pdy17y => (refine Or.inl ⟨by first | kernel_rfl | rfl, ?_⟩; intro w hSw; (try dsimp only at hSw); obtain ⟨c0', c1, c2', c3, c4, c5⟩ := hSw.x; have hY := HQ0.out.below hSw.bel HBQ.out; obtain ⟨d0, d1, d2, d3, d4, d5⟩ := hY; go_simp <;> (try with_reducible rfl))
                try simp only [Act.put, List.setIfInBounds_toArray, List.set_cons_zero, List.set_cons_succ]
                refine wpAnyH_take (i := 17) (oi := ?pdy18o) (v := ?pdy18v) ?pdy18h (by kernel_rfl) (by kernel_rfl) (by kernel_rfl) ?pdy18q ?pdy18y hHeld ?pdy18r
                case pdy18h => (simp only [List.getElem?_toArray, List.getElem?_cons_succ, List.getElem?_cons_zero]; rfl)
                case pdy18q => exact fun _ _ _ h => h
                case pdy18y => (refine Or.inl ⟨by first | kernel_rfl | rfl, ?_⟩; intro w hSw; (try dsimp only at hSw); obtain ⟨c0', c1, c2', c3, c4, c5⟩ := hSw.x; have hY := HQ0.out.below hSw.bel HBQ.out; obtain ⟨d0, d1, d2, d3, d4, d5⟩ := hY; go_simp <;> (try with_reducible rfl))
                try simp only [Act.put, List.setIfInBounds_toArray, List.set_cons_zero, List.set_cons_succ]
                refine wpAnyH_take (i := 18) (oi := ?pdy19o) (v := ?pdy19v) ?pdy19h (by kernel_rfl) (by kernel_rfl) (by kernel_rfl) ?pdy19q ?pdy19y hHeld ?pdy19r
                case pdy19h => (simp only [List.getElem?_toArray, List.getElem?_cons_succ, List.getElem?_cons_zero]; rfl)
                case pdy19q => exact fun _ _ _ h => h
                case pdy19y => (refine Or.inl ⟨by first | kernel_rfl | rfl, ?_⟩; intro w hSw; (try dsimp only at hSw); obtain ⟨c0', c1, c2', c3, c4, c5⟩ := hSw.x; have hY := HQ0.out.below hSw.bel HBQ.out; obtain ⟨d0, d1, d2, d3, d4, d5⟩ := hY; go_simp <;> (try with_reducible rfl))
                try simp only [Act.put, List.setIfInBounds_toArray, List.set_cons_zero, List.set_cons_succ]
                refine wpAnyH_take (i := 19) (oi := ?pdy20o) (v := ?pdy20v) ?pdy20h (by kernel_rfl) (by kernel_rfl) (by kernel_rfl) ?pdy20q ?pdy20y hHeld ?pdy20r
                case pdy20h => (simp only [List.getElem?_toArray, List.getElem?_cons_succ, List.getElem?_cons_zero]; rfl)
                case pdy20q => exact fun _ _ _ h => h
                case pdy20y => (refine Or.inl ⟨by first | kernel_rfl | rfl, ?_⟩; intro w hSw; (try dsimp only at hSw); obtain ⟨c0', c1, c2', c3, c4, c5⟩ := hSw.x; have hY := HQ0.out.below hSw.bel HBQ.out; obtain ⟨d0, d1, d2, d3, d4, d5⟩ := hY; go_simp <;> (try with_reducible rfl))
                try simp only [Act.put, List.setIfInBounds_toArray, List.set_cons_zero, List.set_cons_succ]
                refine wpAnyH_take (i := 20) (oi := ?pdy21o) (v := ?pdy21v) ?pdy21h (by kernel_rfl) (by kernel_rfl) (by kernel_rfl) ?pdy21q ?pdy21y hHeld ?pdy21r
                case pdy21h => (simp only [List.getElem?_toArray, List.getElem?_cons_succ, List.getElem?_cons_zero]; rfl)
                case pdy21q => exact fun _ _ _ h => h
                case pdy21y => (refine Or.inl ⟨by first | kernel_rfl | rfl, ?_⟩; intro w hSw; (try dsimp only at hSw); obtain ⟨c0', c1, c2', c3, c4, c5⟩ := hSw.x; have hY := HQ0.out.below hSw.bel HBQ.out; obtain ⟨d0, d1, d2, d3, d4, d5⟩ := hY; go_simp <;> (try with_reducible rfl))
                try simp only [Act.put, List.setIfInBounds_toArray, List.set_cons_zero, List.set_cons_succ]
                refine wpAnyH_take (i := 21) (oi := ?pdy22o) (v := ?pdy22v) ?pdy22h (by kernel_rfl) (by kernel_rfl) (by kernel_rfl) ?pdy22q ?pdy22y hHeld ?pdy22r
                case pdy22h => (simp only [List.getElem?_toArray, List.getElem?_cons_succ, List.getElem?_cons_zero]; rfl)
                case pdy22q => exact fun _ _ _ h => h
                case pdy22y => (refine Or.inl ⟨by first | kernel_rfl | rfl, ?_⟩; intro w hSw; (try dsimp only at hSw); obtain ⟨c0', c1, c2', c3, c4, c5⟩ := hSw.x; have hY := HQ0.out.below hSw.bel HBQ.out; obtain ⟨d0, d1, d2, d3, d4, d5⟩ := hY; go_simp <;> (try with_reducible rfl))
                try simp only [Act.put, List.setIfInBounds_toArray, List.set_cons_zero, List.set_cons_succ]
                refine wpAnyH_take (i := 22) (oi := ?pdy23o) (v := ?pdy23v) ?pdy23h (by kernel_rfl) (by kernel_rfl) (by kernel_rfl) ?pdy23q ?pdy23y hHeld ?pdy23r
                case pdy23h => (simp only [List.getElem?_toArray, List.getElem?_cons_succ, List.getElem?_cons_zero]; rfl)
                case pdy23q => exact fun _ _ _ h => h
                case pdy23y => (refine Or.inl ⟨by first | kernel_rfl | rfl, ?_⟩; intro w hSw; (try dsimp only at hSw); obtain ⟨c0', c1, c2', c3, c4, c5⟩ := hSw.x; have hY := HQ0.out.below hSw.bel HBQ.out; obtain ⟨d0, d1, d2, d3, d4, d5⟩ := hY; go_simp <;> (try with_reducible rfl))
                try simp only [Act.put, List.setIfInBounds_toArray, List.set_cons_zero, List.set_cons_succ]
                refine wpAnyH_take (i := 23) (oi := ?pdy24o) (v := ?pdy24v) ?pdy24h (by kernel_rfl) (by kernel_rfl) (by kernel_rfl) ?pdy24q ?pdy24y hHeld ?pdy24r
                case pdy24h => (simp only [List.getElem?_toArray, List.getElem?_cons_succ, List.getElem?_cons_zero]; rfl)
                case pdy24q => exact fun _ _ _ h => h
                case pdy24y => (refine Or.inl ⟨by first | kernel_rfl | rfl, ?_⟩; intro w hSw; (try dsimp only at hSw); obtain ⟨c0', c1, c2', c3, c4, c5⟩ := hSw.x; have hY := HQ0.out.below hSw.bel HBQ.out; obtain ⟨d0, d1, d2, d3, d4, d5⟩ := hY; go_simp <;> (try with_reducible rfl))
                try simp only [Act.put, List.setIfInBounds_toArray, List.set_cons_zero, List.set_cons_succ]
                refine wpAnyH_done (by kernel_rfl) ?_ _
                have HH6 := Lib.hid hHeld
                clear hHeld
                go_wp2_with fail
                refine wp_region_held_drew (S := (RPu w T p (.slice a6 k c6) (l.take k))) (by kernel_rfl) HH6.out.drew (fun hHeld => ?_)
                refine wpAnyH_take (i := 0) (oi := ?pdz1o) (v := ?pdz1v) ?pdz1h (by kernel_rfl) (by kernel_rfl) (by kernel_rfl) ?pdz1q ?pdz1y hHeld ?pdz1r
                case pdz1h => (simp only [List.getElem?_toArray, List.getElem?_cons_zero]; rfl)
                case pdz1q => exact fun _ _ _ h => h
                case pdz1y => (refine Or.inl ⟨by first | kernel_rfl | rfl, ?_⟩; intro w hSw; (try dsimp only at hSw); obtain ⟨c0', c1, c2', c3, c4, c5⟩ := hSw.x; have hY := HQ0.out.below hSw.bel HBQ.out; obtain ⟨d0, d1, d2, d3, d4, d5⟩ := hY; go_simp <;> (try with_reducible rfl))
                try simp only [Act.put, List.setIfInBounds_toArray, List.set_cons_zero, List.set_cons_succ]
                refine wpAnyH_take (i := 1) (oi := ?pdz2o) (v := ?pdz2v) ?pdz2h (by kernel_rfl) (by kernel_rfl) (by kernel_rfl) ?pdz2q ?pdz2y hHeld ?pdz2r
                case pdz2h => (simp only [List.getElem?_toArray, List.getElem?_cons_succ, List.getElem?_cons_zero]; rfl)
                case pdz2q => exact fun _ _ _ h => h
                case pdz2y => (refine Or.inl ⟨by first | kernel_rfl | rfl, ?_⟩; intro w hSw; (try dsimp only at hSw); obtain ⟨c0', c1, c2', c3, c4, c5⟩ := hSw.x; have hY := HQ0.out.below hSw.bel HBQ.out; obtain ⟨d0, d1, d2, d3, d4, d5⟩ := hY; go_simp <;> (try with_reducible rfl))
                try simp only [Act.put, List.setIfInBounds_toArray, List.set_cons_zero, List.set_cons_succ]
                refine wpAnyH_take (i := 2) (oi := ?pdz3o) (v := ?pdz3v) ?pdz3h (by kernel_rfl) (by kernel_rfl) (by kernel_rfl) ?pdz3q ?pdz3y hHeld ?pdz3r
                case pdz3h => (simp only [List.getElem?_toArray, List.getElem?_cons_succ, List.getElem?_cons_zero]; rfl)
                case pdz3q => exact fun _ _ _ h => h
                case pdz3y => (refine Or.inl ⟨by first | kernel_rfl | rfl, ?_⟩; intro w hSw; (try dsimp only at hSw); obtain ⟨c0', c1, c2', c3, c4, c5⟩ := hSw.x; have hY := HQ0.out.below hSw.bel HBQ.out; obtain ⟨d0, d1, d2, d3, d4, d5⟩ := hY; go_simp <;> (try with_reducible rfl))
                try simp only [Act.put, List.setIfInBounds_toArray, List.set_cons_zero, List.set_cons_succ]
                refine wpAnyH_take (i := 3) (oi := ?pdz4o) (v := ?pdz4v) ?pdz4h (by kernel_rfl) (by kernel_rfl) (by kernel_rfl) ?pdz4q ?pdz4y hHeld ?pdz4r
                case pdz4h => (simp only [List.getElem?_toArray, List.getElem?_cons_succ, List.getElem?_cons_zero]; rfl)
                case pdz4q => exact fun _ _ _ h => h
                case pdz4y => (refine Or.inl ⟨by first | kernel_rfl | rfl, ?_⟩; intro w hSw; (try dsimp only at hSw); obtain ⟨c0', c1, c2', c3, c4, c5⟩ := hSw.x; have hY := HQ0.out.below hSw.bel HBQ.out; obtain ⟨d0, d1, d2, d3, d4, d5⟩ := hY; go_simp <;> (try with_reducible rfl))
                try simp only [Act.put, List.setIfInBounds_toArray, List.set_cons_zero, List.set_cons_succ]
                refine wpAnyH_take (i := 4) (oi := ?pdz5o) (v := ?pdz5v) ?pdz5h (by kernel_rfl) (by kernel_rfl) (by kernel_rfl) ?pdz5q ?pdz5y hHeld ?pdz5r
                case pdz5h => (simp only [List.getElem?_toArray, List.getElem?_cons_succ, List.getElem?_cons_zero]; rfl)
                case pdz5q => exact fun _ _ _ h => h
                case pdz5y => (refine Or.inl ⟨by first | kernel_rfl | rfl, ?_⟩; intro w hSw; (try dsimp only at hSw); obtain ⟨c0', c1, c2', c3, c4, c5⟩ := hSw.x; have hY := HQ0.out.below hSw.bel HBQ.out; obtain ⟨d0, d1, d2, d3, d4, d5⟩ := hY; go_simp <;> (try with_reducible rfl))
                try simp only [Act.put, List.setIfInBounds_toArray, List.set_cons_zero, List.set_cons_succ]
                refine wpAnyH_ready (rs := [5]) (by kernel_rfl) (by simp) ?_
                refine (AllReadyH.cons rfl (fun K hK => ?_) AllReadyH.nil)
                go_simp
                ((with_reducible refine (kn _).mono ?_); rintro e w5 ⟨rfl, hb5⟩)
                refine hK.out _ _ (hHeld.keep hb5) (fun hHeld => ?_)
                clear hK K
                try simp only [Act.put, List.setIfInBounds_toArray, List.set_cons_zero, List.set_cons_succ]
                refine wpAnyH_take (i := 6) (oi := ?pdz6o) (v := ?pdz6v) ?pdz6h (by kernel_rfl) (by kernel_rfl) (by kernel_rfl) ?pdz6q ?pdz6y hHeld ?pdz6r
                case pdz6h => (simp only [List.getElem?_toArray, List.getElem?_cons_succ, List.getElem?_cons_zero]; rfl)
                case pdz6q => exact fun _ _ _ h => h
                case pdz6y => (refine Or.inl ⟨by first | kernel_rfl | rfl, ?_⟩; intro w hSw; (try dsimp only at hSw); obtain ⟨c0', c1, c2', c3, c4, c5⟩ := hSw.x; have hY := HQ0.out.below hSw.bel HBQ.out; obtain ⟨d0, d1, d2, d3, d4, d5⟩ := hY; go_simp <;> (try with_reducible rfl))
                try simp only [Act.put, List.setIfInBounds_toArray, List.set_cons_zero, List.set_cons_succ]
                refine wpAnyH_done (by kernel_rfl) ?_ _
                have HH7 := Lib.hid hHeld
                have hX6 := hHeld.x
                obtain ⟨x0, x1, x2', x3, x4, x5⟩ := hX6
                have hY := HQ0.out.below hHeld.bel HBQ.out
                obtain ⟨y0, y1, y2', y3, y4, y5⟩ := hY
                clear hHeld
                go_wp2_with (first | (at_builtin; refine wpList_appP (w := w5) rfl _ _ rfl (T + 1) k (.slice a6 k c6) (l.take k) q (w5).heap.size rfl rfl rfl HTK HH7.out.row (by omega) HH7.out.x.room ?_; intro a7 c7 w7 hrow7 _ hb7 _; have HR7 := Lib.hid (HH7.out.app HTW.out hb7 hrow7.out); clear hrow7 hb7) | (at_builtin; refine wpList_appN (w := w7) rfl _ _ rfl (T + 1) (k + 1) (.slice a7 (k + 1) c7) (l.take k ++ [q]) (l.drop (k + 1)) x2 n2 c2 w.heap.size rfl rfl HN2.out (Lib.hid (by rw [List.length_append, HTK.out]; rfl)) HR7.out.row (HL2.out.below HR7.out.bel) (by omega) HR7.out.x.room ?_; intro a8 c8 w8 hrow8 _ hb8 _; have HR8 := Lib.hid (HR7.out.app HTW.out hb8 hrow8.out); clear hrow8 hb8))
                go_ret
                exact ⟨_, rfl, by rw [HE.out]; exact HR8.out.row.base (by have := HTW.out; omega), HR8.out.bel⟩
            · have hqt : (q.t == p.t) = false := by simpa using ht
              have HE := Lib.hid (show ins p l = l.take k ++ [p] ++ l.drop k by rw [HE0.out, if_neg (fun h => ht (Pt.eqp_iff.1 h).2)])
              clear HE0 hs ht
              obtain ⟨x2, hx2⟩ : ∃ x, cutP (some ⟨b, off, none⟩) (k) c0 = x := ⟨_, rfl⟩
              obtain ⟨n2, hn2⟩ : ∃ x, n - (k) = x := ⟨_, rfl⟩
              obtain ⟨c2, hc2⟩ : ∃ x, c0 - (k) = x := ⟨_, rfl⟩
              have kf := fun w => at_from (some ⟨b, off, none⟩) n c0 (k) (k : Int) (by omega) (by omega) w
              have kf2 := fun w => cut_from (some ⟨b, off, none⟩) n c0 (k) (k : Int) (by omega) (by omega) w
              rw [hx2, hn2, hc2] at kf kf2
              have HN2 := Lib.hid (show (l.drop (k)).length = n2 by rw [List.length_drop, HN.out]; exact hn2)
              have HL2 := Lib.hid (show Lst w w.heap.size x2 c2 (l.drop (k)) by rw [← hx2, ← hc2]; exact HS.out.from_ (by rw [HN.out]; omega))
              clear hx2 hc2
              go_wp2_with fail
              refine wp_region_held_drew (S := (RPu w T p (.slice none 0 0) [])) (by kernel_rfl) HR.out.drew (fun hHeld => ?_)
              refine wpAnyH_take (i := 0) (oi := ?pex1o) (v := ?pex1v) ?pex1h (by kernel_rfl) (by kernel_rfl) (by kernel_rfl) ?pex1q ?pex1y hHeld ?pex1r
              case pex1h => (simp only [List.getElem?_toArray, List.getElem?_cons_zero]; rfl)
              case pex1q => exact fun _ _ _ h => h
              case pex1y => (refine Or.inl ⟨by first | kernel_rfl | rfl, ?_⟩; intro w hSw; (try dsimp only at hSw); obtain ⟨c0', c1, c2', c3, c4, c5⟩ := hSw.x; have hY := HQ0.out.below hSw.bel HBQ.out; obtain ⟨d0, d1, d2, d3, d4, d5⟩ := hY; go_simp <;> (try with_reducible rfl))
              try simp only [Act.put, List.setIfInBounds_toArray, List.set_cons_zero, List.set_cons_succ]
              refine wpAnyH_take (i := 1) (oi := ?pex2o) (v := ?pex2v) ?pex2h (by kernel_rfl) (by kernel_rfl) (by kernel_rfl) ?pex2q ?pex2y hHeld ?pex2r
              case pex2h => (simp only [List.getElem?_toArray, List.getElem?_cons_succ, List.getElem?_cons_zero]; rfl)
              case pex2q => exact fun _ _ _ h => h
              case pex2y => (refine Or.inl ⟨by first | kernel_rfl | rfl, ?_⟩; intro w hSw; (try dsimp only at hSw); obtain ⟨c0', c1, c2', c3, c4, c5⟩ := hSw.x; have hY := HQ0.out.below hSw.bel HBQ.out; obtain ⟨d0, d1, d2, d3, d4, d5⟩ := hY; go_simp <;> (try with_reducible rfl))
              try simp only [Act.put, List.setIfInBounds_toArray, List.set_cons_zero, List.set_cons_succ]
              refine wpAnyH_take (i := 2) (oi := ?pex3o) (v := ?pex3v) ?pex3h (by kernel_rfl) (by kernel_rfl) (by kernel_rfl) ?pex3q ?pex3y hHeld ?pex3r
              case pex3h => (simp only [List.getElem?_toArray, List.getElem?_cons_succ, List.getElem?_cons_zero]; rfl)
              case pex3q => exact fun _ _ _ h => h
              case pex3y => (refine Or.inl ⟨by first | kernel_rfl | rfl, ?_⟩; intro w hSw; (try dsimp only at hSw); obtain ⟨c0', c1, c2', c3, c4, c5⟩ := hSw.x; have hY := HQ0.out.below hSw.bel HBQ.out; obtain ⟨d0, d1, d2, d3, d4, d5⟩ := hY; go_simp <;> (try with_reducible rfl))
              try simp only [Act.put, List.setIfInBounds_toArray, List.set_cons_zero, List.set_cons_succ]
              refine wpAnyH_take (i := 3) (oi := ?pex4o) (v := ?pex4v) ?pex4h (by kernel_rfl) (by kernel_rfl) (by kernel_rfl) ?pex4q ?pex4y hHeld ?pex4r
              case pex4h => (simp only [List.getElem?_toArray, List.getElem?_cons_succ, List.getElem?_cons_zero]; rfl)
              case pex4q => exact fun _ _ _ h => h
              case pex4y => (refine Or.inl ⟨by first | kernel_rfl | rfl, ?_⟩; intro w hSw; (try dsimp only at hSw); obtain ⟨c0', c1, c2', c3, c4, c5⟩ := hSw.x; have hY := HQ0.out.below hSw.bel HBQ.out; obtain ⟨d0, d1, d2, d3, d4, d5⟩ := hY; go_simp <;> (try with_reducible rfl))
              try simp only [Act.put, List.setIfInBounds_toArray, List.set_cons_zero, List.set_cons_succ]
              refine wpAnyH_take (i := 4) (oi := ?pex5o) (v := ?pex5v) ?pex5h (by kernel_rfl) (by kernel_rfl) (by kernel_rfl) ?pex5q ?pex5y hHeld ?pex5r
              case pex5h => (simp only [List.getElem?_toArray, List.getElem?_cons_succ, List.getElem?_cons_zero]; rfl)
              case pex5q => exact fun _ _ _ h => h
              case pex5y => (refine Or.inl ⟨by first | kernel_rfl | rfl, ?_⟩; intro w hSw; (try dsimp only at hSw); obtain ⟨c0', c1, c2', c3, c4, c5⟩ := hSw.x; have hY := HQ0.out.below hSw.bel HBQ.out; obtain ⟨d0, d1, d2, d3, d4, d5⟩ := hY; go_simp <;> (try with_reducible rfl))
              try simp only [Act.put, List.setIfInBounds_toArray, List.set_cons_zero, List.set_cons_succ]
              refine wpAnyH_ready (rs := [5]) (by kernel_rfl) (by simp) ?_
              refine (AllReadyH.cons rfl (fun K hK => ?_) AllReadyH.nil)
              go_simp
              ((with_reducible refine (kb _).mono ?_); rintro e w4 ⟨rfl, hb4⟩)
              refine hK.out _ _ (hHeld.keep hb4) (fun hHeld => ?_)
              clear hK K
              try simp only [Act.put, List.setIfInBounds_toArray, List.set_cons_zero, List.set_cons_succ]
              refine wpAnyH_take (i := 6) (oi := ?pex6o) (v := ?pex6v) ?pex6h (by kernel_rfl) (by kernel_rfl) (by kernel_rfl) ?pex6q ?pex6y hHeld ?pex6r
              case pex6h => (simp only [List.getElem?_toArray, List.getElem?_cons_succ, List.getElem?_cons_zero]; rfl)
              case pex6q => exact fun _ _ _ h => h
              case pex6y => (refine Or.inl ⟨by first | kernel_rfl | rfl, ?_⟩; intro w hSw; (try dsimp only at hSw); obtain ⟨c0', c1, c2', c3, c4, c5⟩ := hSw.x; have hY := HQ0.out.below hSw.bel HBQ.out; obtain ⟨d0, d1, d2, d3, d4, d5⟩ := hY; go_simp <;> (try with_reducible rfl))
              try simp only [Act.put, List.setIfInBounds_toArray, List.set_cons_zero, List.set_cons_succ]
              refine wpAnyH_done (by kernel_rfl) ?_ _
              have HH := Lib.hid hHeld
              clear hHeld
              go_wp2_with (first | (at_builtin; refine wpList_appN (w := w4) rfl _ _ rfl (T + 1) 0 (.slice none 0 0) [] (l.take k) (some ⟨b, off, none⟩) k c0 w.heap.size rfl rfl HTK.out (Lib.hid rfl) HH.out.row (HLK.out.below HH.out.bel) (by omega) HH.out.x.room ?_; intro a6 c6 w6 hrow6 _ hb6 _; have HR6 := Lib.hid (HH.out.app HTW.out hb6 (show PRow w6 (T + 1) (.slice a6 k c6) (l.take k) by simpa using hrow6.out)); clear hrow6 hb6))
              refine wp_region_held_drew (S := (RPu w T p (.slice a6 k c6) (l.take k))) (by kernel_rfl) HR6.out.drew (fun hHeld => ?_)
              refine wpAnyH_take (i := 0) (oi := ?pey1o) (v := ?pey1v) ?pey1h (by kernel_rfl) (by kernel_rfl) (by kernel_rfl) ?pey1q ?pey1y hHeld ?pey1r
              case pey1h => (simp only [List.getElem?_toArray, List.getElem?_cons_zero]; rfl)
              case pey1q => exact fun _ _ _ h => h
              case pey1y => (refine Or.inl ⟨by first | kernel_rfl | rfl, ?_⟩; intro w hSw; (try dsimp only at hSw); obtain ⟨c0', c1, c2', c3, c4, c5⟩ := hSw.x; have hY := HQ0.out.below hSw.bel HBQ.out; obtain ⟨d0, d1, d2, d3, d4, d5⟩ := hY; go_simp <;> (try with_reducible rfl))
              try simp only [Act.put, List.setIfInBounds_toArray, List.set_cons_zero, List.set_cons_succ]
              refine wpAnyH_take (i := 1) (oi := ?pey2o) (v := ?pey2v) ?pey2h (by kernel_rfl) (by kernel_rfl) (by kernel_rfl) ?pey2q ?pey2y hHeld ?pey2r
              case pey2h => (simp only [List.getElem?_toArray, List.getElem?_cons_succ, List.getElem?_cons_zero]; rfl)
              case pey2q => exact fun _ _ _ h => h
              case pey2y => (refine Or.inl ⟨by first | kernel_rfl | rfl, ?_⟩; intro w hSw; (try dsimp only at hSw); obtain ⟨c0', c1, c2', c3, c4, c5⟩ := hSw.x; have hY := HQ0.out.below hSw.bel HBQ.out; obtain ⟨d0, d1, d2, d3, d4, d5⟩ := hY; go_simp <;> (try with_reducible rfl))
              try simp only [Act.put, List.setIfInBounds_toArray, List.set_cons_zero, List.set_cons_succ]
              refine wpAnyH_take (i := 2) (oi := ?pey3o) (v := ?pey3v) ?pey3h (by kernel_rfl) (by kernel_rfl) (by kernel_rfl) ?pey3q ?pey3y hHeld ?pey3r
              case pey3h => (simp only [List.getElem?_toArray, List.getElem?_cons_succ, List.getElem?_cons_zero]; rfl)
              case pey3q => exact fun _ _ _ h => h
              case pey3y => (refine Or.inl ⟨by first | kernel_rfl | rfl, ?_⟩; intro w hSw; (try dsimp only at hSw); obtain ⟨c0', c1, c2', c3, c4, c5⟩ := hSw.x; have hY := HQ0.out.below hSw.bel HBQ.out; obtain ⟨d0, d1, d2, d3, d4, d5⟩ := hY; go_simp <;> (try with_reducible rfl))
              try simp only [Act.put, List.setIfInBounds_toArray, List.set_cons_zero, List.set_cons_succ]
              refine wpAnyH_take (i := 3) (oi := ?pey4o) (v := ?pey4v) ?pey4h (by kernel_rfl) (by kernel_rfl) (by kernel_rfl) ?pey4q ?pey4y hHeld ?pey4r
              case pey4h => (simp only [List.getElem?_toArray, List.getElem?_cons_succ, List.getElem?_cons_zero]; rfl)
              case pey4q => exact fun _ _ _ h => h
              case pey4y => (refine Or.inl ⟨by first | kernel_rfl | rfl, ?_⟩; intro w hSw; (try dsimp only at hSw); obtain ⟨c0', c1, c2', c3, c4, c5⟩ := hSw.x; have hY := HQ0.out.below hSw.bel HBQ.out; obtain ⟨d0, d1, d2, d3, d4, d5⟩ := hY; go_simp <;> (try with_reducible rfl))
              try simp only [Act.put, List.setIfInBounds_toArray, List.set_cons_zero, List.set_cons_succ]
              refine wpAnyH_take (i := 4) (oi := ?pey5o) (v := ?pey5v) ?pey5h (by kernel_rfl) (by kernel_rfl) (by kernel_rfl) ?pey5q ?pey5y hHeld ?pey5r
              case pey5h => (simp only [List.getElem?_toArray, List.getElem?_cons_succ, List.getElem?_cons_zero]; rfl)
              case pey5q => exact fun _ _ _ h => h
              case pey5y => (refine Or.inl ⟨by first | kernel_rfl | rfl, ?_⟩; intro w hSw; (try dsimp only at hSw); obtain ⟨c0', c1, c2', c3, c4, c5⟩ := hSw.x; have hY := HQ0.out.below hSw.bel HBQ.out; obtain ⟨d0, d1, d2, d3, d4, d5⟩ := hY; go_simp <;> (try with_reducible rfl))
              try simp only [Act.put, List.setIfInBounds_toArray, List.set_cons_zero, List.set_cons_succ]
              refine wpAnyH_take (i := 5) (oi := ?pey6o) (v := ?pey6v) ?pey6h (by kernel_rfl) (by kernel_rfl) (by kernel_rfl) ?pey6q ?pey6y hHeld ?pey6r
              case pey6h => (simp only [List.getElem?_toArray, List.getElem?_cons_succ, List.getElem?_cons_zero]; rfl)
              case pey6q => exact fun _ _ _ h => h
              case pey6y => (refine Or.inl ⟨by first | kernel_rfl | rfl, ?_⟩; intro w hSw; (try dsimp only at hSw); obtain ⟨c0', c1, c2', c3, c4, c5⟩ := hSw.x; have hY := HQ0.out.below hSw.bel HBQ.out; obtain ⟨d0, d1, d2, d3, d4, d5⟩ := hY; go_simp <;> (try with_reducible rfl))
              try simp only [Act.put, List.setIfInBounds_toArray, List.set_cons_zero, List.set_cons_succ]
              refine wpAnyH_take (i := 6) (oi := ?pey7o) (v := ?pey7v) ?pey7h (by kernel_rfl) (by kernel_rfl) (by kernel_rfl) ?pey7q ?pey7y hHeld ?pey7r
              case pey7h => (simp only [List.getElem?_toArray, List.getElem?_cons_succ, List.getElem?_cons_zero]; rfl)
              case pey7q => exact fun _ _ _ h => h
              case pey7y => (refine Or.inl ⟨by first | kernel_rfl | rfl, ?_⟩; intro w hSw; (try dsimp only at hSw); obtain ⟨c0', c1, c2', c3, c4, c5⟩ := hSw.x; have hY := HQ0.out.below hSw.bel HBQ.out; obtain ⟨d0, d1, d2, d3, d4, d5⟩ := hY; go_simp <;> (try with_reducible rfl))
              try simp only [Act.put, List.setIfInBounds_toArray, List.set_cons_zero, List.set_cons_succ]
              refine wpAnyH_take (i := 7) (oi := ?pey8o) (v := ?pey8v) ?pey8h (by kernel_rfl) (by kernel_rfl) (by kernel_rfl) ?pey8q ?pey8y hHeld ?pey8r
              case pey8h => (simp only [List.getElem?_toArray, List.getElem?_cons_succ, List.getElem?_cons_zero]; rfl)
              case pey8q => exact fun _ _ _ h => h
              case pey8y => (refine Or.inl ⟨by first | kernel_rfl | rfl, ?_⟩; intro w hSw; (try dsimp only at hSw); obtain ⟨c0', c1, c2', c3, c4, c5⟩ := hSw.x; have hY := HQ0.out.below hSw.bel HBQ.out; obtain ⟨d0, d1, d2, d3, d4, d5⟩ := hY; go_simp <;> (try with_reducible rfl))
              try simp only [Act.put, List.setIfInBounds_toArray, List.set_cons_zero, List.set_cons_succ]
              refine wpAnyH_take (i := 8) (oi := ?pey9o) (v := ?pey9v) ?pey9h (by kernel_rfl) (by kernel_rfl) (by kernel_rfl) ?pey9q ?pey9y hHeld ?pey9r
              case pey9h => (simp only [List.getElem?_toArray, List.getElem?_cons_succ, List.getElem?_cons_zero]; rfl)
              case pey9q => exact fun _ _ _ h => h
              case pey9y => (refine Or.inl ⟨by first | kernel_rfl | rfl, ?_⟩; intro w hSw; (try dsimp only at hSw); obtain ⟨c0', c1, c2', c3, c4, c5⟩ := hSw.x; have hY := HQ0.out.below hSw.bel HBQ.out; obtain ⟨d0, d1, d2, d3, d4, d5⟩ := hY; go_simp <;> (try with_reducible rfl))
              try simp only [Act.put, List.setIfInBounds_toArray, List.set_cons_zero, List.set_cons_succ]
              refine wpAnyH_take (i := 9) (oi := ?pey10o) (v := ?pey10v) ?pey10h (by kernel_rfl) (by kernel_rfl) (by kernel_rfl) ?pey10q ?pey10y hHeld ?pey10r
              case pey10h => (simp only [List.getElem?_toArray, List.getElem?_cons_succ, List.getElem?_cons_zero]; rfl)
              case pey10q => exact fun _ _ _ h => h
              case pey10y => (refine Or.inl ⟨by first | kernel_rfl | rfl, ?_⟩; intro w hSw; (try dsimp only at hSw); obtain ⟨c0', c1, c2', c3, c4, c5⟩ := hSw.x; have hY := HQ0.out.below hSw.bel HBQ.out; obtain ⟨d0, d1, d2, d3, d4, d5⟩ := hY; go_simp <;> (try with_reducible rfl))
              try simp only [Act.put, List.setIfInBounds_toArray, List.set_cons_zero, List.set_cons_succ]
              refine wpAnyH_take (i := 10) (oi := ?pey11o) (v := ?pey11v) ?pey11h (by kernel_rfl) (by kernel_rfl) (by kernel_rfl) ?pey11q ?pey11y hHeld ?pey11r
              case pey11h => (simp only [List.getElem?_toArray, List.getElem?_cons_succ, List.getElem?_cons_zero]; rfl)
              case pey11q => exact fun _ _ _ h => h
              case pey11y => (refine Or.inl ⟨by first | kernel_rfl | rfl, ?_⟩; intro w hSw; (try dsimp only at hSw); obtain ⟨c0', c1, c2', c3, c4, c5⟩ := hSw.x; have hY := HQ0.out.below hSw.bel HBQ.out; obtain ⟨d0, d1, d2, d3, d4, d5⟩ := hY; go_simp <;> (try with_reducible rfl))
              try simp only [Act.put, List.setIfInBounds_toArray, List.set_cons_zero, List.set_cons_succ]
              refine wpAnyH_take (i := 11) (oi := ?pey12o) (v := ?pey12v) ?pey12h (by kernel_rfl) (by kernel_rfl) (by kernel_rfl) ?pey12q ?pey12y hHeld ?pey12r
              case pey12h => (simp only [List.getElem?_toArray, List.getElem?_cons_succ, List.getElem?_cons_zero]; rfl)
              case pey12q => exact fun _ _ _ h => h
              case pey12y => (refine Or.inl ⟨by first | kernel_rfl | rfl, ?_⟩; intro w hSw; (try dsimp only at hSw); obtain ⟨c0', c1, c2', c3, c4, c5⟩ := hSw.x; have hY := HQ0.out.below hSw.bel HBQ.out; obtain ⟨d0, d1, d2, d3, d4, d5⟩ := hY; go_simp <;> (try with_reducible rfl))
              try simp only [Act.put, List.setIfInBounds_toArray, List.set_cons_zero, List.set_cons_succ]
              refine wpAnyH_take (i := 12) (oi := ?pey13o) (v := ?pey13v) ?pey13h (by kernel_rfl) (by kernel_rfl) (by kernel_rfl) ?pey13q ?pey13y hHeld ?pey13r
              case pey13h => (simp only [List.getElem?_toArray, List.getElem?_cons_succ, List.getElem?_cons_zero]; rfl)
              case pey13q => exact fun _ _ _ h => h
              case pey13y => (refine Or.inl ⟨by first | kernel_rfl | rfl, ?_⟩; intro w hSw; (try dsimp only at hSw); obtain ⟨c0', c1, c2', c3, c4, c5⟩ := hSw.x; have hY := HQ0.out.below hSw.bel HBQ.out; obtain ⟨d0, d1, d2, d3, d4, d5⟩ := hY; go_simp <;> (try with_reducible rfl))
              try simp only [Act.put, List.setIfInBounds_toArray, List.set_cons_zero, List.set_cons_succ]
              refine wpAnyH_take (i := 13) (oi := ?pey14o) (v := ?pey14v) ?pey14h (by kernel_rfl) (by kernel_rfl) (by kernel_rfl) ?pey14q ?pey14y hHeld ?pey14r
              case pey14h => (simp only [List.getElem?_toArray, List.getElem?_cons_succ, List.getElem?_cons_zero]; rfl)
              case pey14q => exact fun _ _ _ h => h
              case pey14y => (refine Or.inl ⟨by first | kernel_rfl | rfl, ?_⟩; intro w hSw; (try dsimp only at hSw); obtain ⟨c0', c1, c2', c3, c4, c5⟩ := hSw.x; have hY := HQ0.out.below hSw.bel HBQ.out; obtain ⟨d0, d1, d2, d3, d4, d5⟩ := hY; go_simp <;> (try with_reducible rfl))
              try simp only [Act.put, List.setIfInBounds_toArray, List.set_cons_zero, List.set_cons_succ]
              refine wpAnyH_take (i := 14) (oi := ?pey15o) (v := ?pey15v) ?pey15h (by kernel_rfl) (by kernel_rfl) (by kernel_rfl) ?pey15q ?pey15y hHeld ?pey15r
              case pey15h => (simp only [List.getElem?_toArray, List.getElem?_cons_succ, List.getElem?_cons_zero]; rfl)
              case pey15q => exact fun _ _ _ h => h
              case pey15y => (refine Or.inl ⟨by first | kernel_rfl | rfl, ?_⟩; intro w hSw; (try dsimp only at hSw); obtain ⟨c0', c1, c2', c3, c4, c5⟩ := hSw.x; have hY := HQ0.out.below hSw.bel HBQ.out; obtain ⟨d0, d1, d2, d3, d4, d5⟩ := hY; go_simp <;> (try with_reducible rfl))
              try simp only [Act.put, List.setIfInBounds_toArray, List.set_cons_zero, List.set_cons_succ]
              refine wpAnyH_take (i := 15) (oi := ?pey16o) (v := ?pey16v) ?pey16h (by kernel_rfl) (by kernel_rfl) (by kernel_rfl) ?pey16q ?pey16y hHeld ?pey16r
              case pey16h => (simp only [List.getElem?_toArray, List.getElem?_cons_succ, List.getElem?_cons_zero]; rfl)
              case pey16q => exact fun _ _ _ h => h
              case pey16y => (refine Or.inl ⟨by first | kernel_rfl | rfl, ?_⟩; intro w hSw; (try dsimp only at hSw); obtain ⟨c0', c1, c2', c3, c4, c5⟩ := hSw.x; have hY := HQ0.out.below hSw.bel HBQ.out; obtain ⟨d0, d1, d2, d3, d4, d5⟩ := hY; go_simp <;> (try with_reducible rfl))
              try simp only [Act.put, List.setIfInBounds_toArray, List.set_cons_zero, List.set_cons_succ]
              refine wpAnyH_take (i := 16) (oi := ?pey17o) (v := ?pey17v) ?pey17h (by kernel_rfl) (by kernel_rfl) (by kernel_rfl) ?pey17q ?pey17y hHeld ?pey17r
              case pey17h => (simp only [List.getElem?_toArray, List.getElem?_cons_succ, List.getElem?_cons_zero]; rfl)
              case pey17q => exact fun _ _ _ h => h
              case pey17y => (refine Or.inl ⟨by first | kernel_rfl | rfl, ?_⟩; intro w hSw; (try dsimp only at hSw); obtain ⟨c0', c1, c2', c3, c4, c5⟩ := hSw.x; have hY := HQ0.out.below hSw.bel HBQ.out; obtain ⟨d0, d1, d2, d3, d4, d5⟩ := hY; go_simp <;> (try with_reducible rfl))
              try simp only [Act.put, List.setIfInBounds_toArray, List.set_cons_zero, List.set_cons_succ]
              refine wpAnyH_take (i := 17) (oi := ?pey18o) (v := ?pey18v) ?pey18h (by kernel_rfl) (by kernel_rfl) (by kernel_rfl) ?pey18q ?pey18y hHeld ?pey18r
              case pey18h => (simp only [List.getElem?_toArray, List.getElem?_cons_succ, List.getElem?_cons_zero]; rfl)
              case pey18q => exact fun _ _ _ h => h
              case pey18y => (refine Or.inl ⟨by first | kernel_rfl | rfl, ?_⟩; intro w hSw; (try dsimp only at hSw); obtain ⟨c0', c1, c2', c3, c4, c5⟩ := hSw.x; have hY := HQ0.out.below hSw.bel HBQ.out; obtain ⟨d0, d1, d2, d3, d4, d5⟩ := hY; go_simp <;> (try with_reducible rfl))
              try simp only [Act.put, List.setIfInBounds_toArray, List.set_cons_zero, List.set_cons_succ]
              refine wpAnyH_take (i := 18) (oi := ?pey19o) (v := ?pey19v) ?pey19h (by kernel_rfl) (by kernel_rfl) (by kernel_rfl) ?pey19q ?pey19y hHeld ?pey19r
              case pey19h => (simp only [List.getElem?_toArray, List.getElem?_cons_succ, List.getElem?_cons_zero]; rfl)
              case pey19q => exact fun _ _ _ h => h
              case pey19y => (refine Or.inl ⟨by first | kernel_rfl | rfl, ?_⟩; intro w hSw; (try dsimp only at hSw); obtain ⟨c0', c1, c2', c3, c4, c5⟩ := hSw.x; have hY := HQ0.out.below hSw.bel HBQ.out; obtain ⟨d0, d1, d2, d3, d4, d5⟩ := hY; go_simp <;> (try with_reducible rfl))
              try simp only [Act.put, List.setIfInBounds_toArray, List.set_cons_zero, List.set_cons_succ]
              refine wpAnyH_take (i := 19) (oi := ?pey20o) (v := ?pey20v) ?pey20h (by kernel_rfl) (by kernel_rfl) (by kernel_rfl) ?pey20q ?pey20y hHeld ?pey20r
              case pey20h => (simp only [List.getElem?_toArray, List.getElem?_cons_succ, List.getElem?_cons_zero]; rfl)
              case pey20q => exact fun _ _ _ h => h
              case pey20y => (refine Or.inl ⟨by first | kernel_rfl | rfl, ?_⟩; intro w hSw; (try dsimp only at hSw); obtain ⟨c0', c1, c2', c3, c4, c5⟩ := hSw.x; have hY := HQ0.out.below hSw.bel HBQ.out; obtain ⟨d0, d1, d2, d3, d4, d5⟩ := hY; go_simp <;> (try with_reducible rfl))
              try simp only [Act.put, List.setIfInBounds_toArray, List.set_cons_zero, List.set_cons_succ]
              refine wpAnyH_take (i := 20) (oi := ?pey21o) (v := ?pey21v) ?pey21h (by kernel_rfl) (by kernel_rfl) (by kernel_rfl) ?pey21q ?pey21y hHeld ?pey21r
              case pey21h => (simp only [List.getElem?_toArray, List.getElem?_cons_succ, List.getElem?_cons_zero]; rfl)
              case pey21q => exact fun _ _ _ h => h
              case pey21y => (refine Or.inl ⟨by first | kernel_rfl | rfl, ?_⟩; intro w hSw; (try dsimp only at hSw); obtain ⟨c0', c1, c2', c3, c4, c5⟩ := hSw.x; have hY := HQ0.out.below hSw.bel HBQ.out; obtain ⟨d0, d1, d2, d3, d4, d5⟩ := hY; go_simp <;> (try with_reducible rfl))
              try simp only [Act.put, List.setIfInBounds_toArray, List.set_cons_zero, List.set_cons_succ]
              refine wpAnyH_take (i := 21) (oi := ?pey22o) (v := ?pey22v) ?pey22h (by kernel_rfl) (by kernel_rfl) (by kernel_rfl) ?pey22q ?pey22y hHeld ?pey22r
              case pey22h => (simp only [List.getElem?_toArray, List.getElem?_cons_succ, List.getElem?_cons_zero]; rfl)
              case pey22q => exact fun _ _ _ h => h
              case pey22y => (refine Or.inl ⟨by first | kernel_rfl | rfl, ?_⟩; intro w hSw; (try dsimp only at hSw); obtain ⟨c0', c1, c2', c3, c4, c5⟩ := hSw.x; have hY := HQ0.out.below hSw.bel HBQ.out; obtain ⟨d0, d1, d2, d3, d4, d5⟩ := hY; go_simp <;> (try with_reducible rfl))
              try simp only [Act.put, List.setIfInBounds_toArray, List.set_cons_zero, List.set_cons_succ]
              refine wpAnyH_take (i := 22) (oi := ?pey23o) (v := ?pey23v) ?pey23h (by kernel_rfl) (by kernel_rfl) (by kernel_rfl) ?pey23q ?pey23y hHeld ?pey23r
              case pey23h => (simp only [List.getElem?_toArray, List.getElem?_cons_succ, List.getElem?_cons_zero]; rfl)
              case pey23q => exact fun _ _ _ h => h
              case pey23y => (refine Or.inl ⟨by first | kernel_rfl | rfl, ?_⟩; intro w hSw; (try dsimp only at hSw); obtain ⟨c0', c1, c2', c3, c4, c5⟩ := hSw.x; have hY := HQ0.out.below hSw.bel HBQ.out; obtain ⟨d0, d1, d2, d3, d4, d5⟩ := hY; go_simp <;> (try with_reducible rfl))
              try simp only [Act.put, List.setIfInBounds_toArray, List.set_cons_zero, List.set_cons_succ]
              refine wpAnyH_take (i := 23) (oi := ?pey24o) (v := ?pey24v) ?pey24h (by kernel_rfl) (by kernel_rfl) (by kernel_rfl) ?pey24q ?pey24y hHeld ?pey24r
              case pey24h => (simp only [List.getElem?_toArray, List.getElem?_cons_succ, List.getElem?_cons_zero]; rfl)
              case pey24q => exact fun _ _ _ h => h
              case pey24y => (refine Or.inl ⟨by first | kernel_rfl | rfl, ?_⟩; intro w hSw; (try dsimp only at hSw); obtain ⟨c0', c1, c2', c3, c4, c5⟩ := hSw.x; have hY := HQ0.out.below hSw.bel HBQ.out; obtain ⟨d0, d1, d2, d3, d4, d5⟩ := hY; go_simp <;> (try with_reducible rfl))
              try simp only [Act.put, List.setIfInBounds_toArray, List.set_cons_zero, List.set_cons_succ]
              refine wpAnyH_done (by kernel_rfl) ?_ _
              have HH6 := Lib.hid hHeld
              have hX6 := hHeld.x
              obtain ⟨x0, x1, x2', x3, x4, x5⟩ := hX6
              clear hHeld
              go_wp2_with (first | (at_builtin; refine wpList_appP (w := w6.drew) rfl _ _ rfl (T + 1) k (.slice a6 k c6) (l.take k) p (w6.drew).heap.size rfl rfl rfl HTK HH6.out.row (by omega) HH6.out.x.room ?_; intro a7 c7 w7 hrow7 _ hb7 _; have HR7 := Lib.hid (HH6.out.app HTW.out hb7 hrow7.out); clear hrow7 hb7) | (at_builtin; refine wpList_appN (w := w7) rfl _ _ rfl (T + 1) (k + 1) (.slice a7 (k + 1) c7) (l.take k ++ [p]) (l.drop k) x2 n2 c2 w.heap.size rfl rfl HN2.out (Lib.hid (by rw [List.length_append, HTK.out]; rfl)) HR7.out.row (HL2.out.below HR7.out.bel) (by omega) HR7.out.x.room ?_; intro a8 c8 w8 hrow8 _ hb8 _; have HR8 := Lib.hid (HR7.out.app HTW.out hb8 hrow8.out); clear hrow8 hb8))
              go_ret
              exact ⟨_, rfl, by rw [HE.out]; exact HR8.out.row.base (by have := HTW.out; omega), HR8.out.bel⟩
          · have hqs := seq_ne hs
            have HE := Lib.hid (show ins p l = l.take k ++ [p] ++ l.drop k by rw [HE0.out, if_neg (fun h => hs (Pt.eqp_iff.1 h).1)])
            clear HE0 hs
            obtain ⟨x2, hx2⟩ : ∃ x, cutP (some ⟨b, off, none⟩) (k) c0 = x := ⟨_, rfl⟩
            obtain ⟨n2, hn2⟩ : ∃ x, n - (k) = x := ⟨_, rfl⟩
            obtain ⟨c2, hc2⟩ : ∃ x, c0 - (k) = x := ⟨_, rfl⟩
            have kf := fun w => at_from (some ⟨b, off, none⟩) n c0 (k) (k : Int) (by omega) (by omega) w
            have kf2 := fun w => cut_from (some ⟨b, off, none⟩) n c0 (k) (k : Int) (by omega) (by omega) w
            rw [hx2, hn2, hc2] at kf kf2
            have HN2 := Lib.hid (show (l.drop (k)).length = n2 by rw [List.length_drop, HN.out]; exact hn2)
            have HL2 := Lib.hid (show Lst w w.heap.size x2 c2 (l.drop (k)) by rw [← hx2, ← hc2]; exact HS.out.from_ (by rw [HN.out]; omega))
            clear hx2 hc2
            go_wp2_with fail
            refine wp_region_held_drew (S := (RPu w T p (.slice none 0 0) [])) (by kernel_rfl) HR.out.drew (fun hHeld => ?_)
            refine wpAnyH_take (i := 0) (oi := ?pfx1o) (v := ?pfx1v) ?pfx1h (by kernel_rfl) (by kernel_rfl) (by kernel_rfl) ?pfx1q ?pfx1y hHeld ?pfx1r
            case pfx1h => (simp only [List.getElem?_toArray, List.getElem?_cons_zero]; rfl)
            case pfx1q => exact fun _ _ _ h => h
            case pfx1y => (refine Or.inl ⟨by first | kernel_rfl | rfl, ?_⟩; intro w hSw; (try dsimp only at hSw); obtain ⟨c0', c1, c2', c3, c4, c5⟩ := hSw.x; have hY := HQ0.out.below hSw.bel HBQ.out; obtain ⟨d0, d1, d2, d3, d4, d5⟩ := hY; go_simp <;> (try with_reducible rfl))
            try simp only [Act.put, List.setIfInBounds_toArray, List.set_cons_zero, List.set_cons_succ]
            refine wpAnyH_take (i := 1) (oi := ?pfx2o) (v := ?pfx2v) ?pfx2h (by kernel_rfl) (by kernel_rfl) (by kernel_rfl) ?pfx2q ?pfx2y hHeld ?pfx2r
            case pfx2h => (simp only [List.getElem?_toArray, List.getElem?_cons_succ, List.getElem?_cons_zero]; rfl)
            case pfx2q => exact fun _ _ _ h => h
            case pfx2y => (refine Or.inl ⟨by first | kernel_rfl | rfl, ?_⟩; intro w hSw; (try dsimp only at hSw); obtain ⟨c0', c1, c2', c3, c4, c5⟩ := hSw.x; have hY := HQ0.out.below hSw.bel HBQ.out; obtain ⟨d0, d1, d2, d3, d4, d5⟩ := hY; go_simp <;> (try with_reducible rfl))
            try simp only [Act.put, List.setIfInBounds_toArray, List.set_cons_zero, List.set_cons_succ]
            refine wpAnyH_take (i := 2) (oi := ?pfx3o) (v := ?pfx3v) ?pfx3h (by kernel_rfl) (by kernel_rfl) (by kernel_rfl) ?pfx3q ?pfx3y hHeld ?pfx3r
            case pfx3h => (simp only [List.getElem?_toArray, List.getElem?_cons_succ, List.getElem?_cons_zero]; rfl)
            case pfx3q => exact fun _ _ _ h => h
            case pfx3y => (refine Or.inl ⟨by first | kernel_rfl | rfl, ?_⟩; intro w hSw; (try dsimp only at hSw); obtain ⟨c0', c1, c2', c3, c4, c5⟩ := hSw.x; have hY := HQ0.out.below hSw.bel HBQ.out; obtain ⟨d0, d1, d2, d3, d4, d5⟩ := hY; go_simp <;> (try with_reducible rfl))
            try simp only [Act.put, List.setIfInBounds_toArray, List.set_cons_zero, List.set_cons_succ]
            refine wpAnyH_take (i := 3) (oi := ?pfx4o) (v := ?pfx4v) ?pfx4h (by kernel_rfl) (by kernel_rfl) (by kernel_rfl) ?pfx4q ?pfx4y hHeld ?pfx4r
            case pfx4h => (simp only [List.getElem?_toArray, List.getElem?_cons_succ, List.getElem?_cons_zero]; rfl)
            case pfx4q => exact fun _ _ _ h => h
            case pfx4y => (refine Or.inl ⟨by first | kernel_rfl | rfl, ?_⟩; intro w hSw; (try dsimp only at hSw); obtain ⟨c0', c1, c2', c3, c4, c5⟩ := hSw.x; have hY := HQ0.out.below hSw.bel HBQ.out; obtain ⟨d0, d1, d2, d3, d4, d5⟩ := hY; go_simp <;> (try with_reducible rfl))
            try simp only [Act.put, List.setIfInBounds_toArray, List.set_cons_zero, List.set_cons_succ]
            refine wpAnyH_take (i := 4) (oi := ?pfx5o) (v := ?pfx5v) ?pfx5h (by kernel_rfl) (by kernel_rfl) (by kernel_rfl) ?pfx5q ?pfx5y hHeld ?pfx5r
            case pfx5h => (simp only [List.getElem?_toArray, List.getElem?_cons_succ, List.getElem?_cons_zero]; rfl)
            case pfx5q => exact fun _ _ _ h => h
            case pfx5y => (refine Or.inl ⟨by first | kernel_rfl | rfl, ?_⟩; intro w hSw; (try dsimp only at hSw); obtain ⟨c0', c1, c2', c3, c4, c5⟩ := hSw.x; have hY := HQ0.out.below hSw.bel HBQ.out; obtain ⟨d0, d1, d2, d3, d4, d5⟩ := hY; go_simp <;> (try with_reducible rfl))
            try simp only [Act.put, List.setIfInBounds_toArray, List.set_cons_zero, List.set_cons_succ]
            refine wpAnyH_ready (rs := [5]) (by kernel_rfl) (by simp) ?_
            refine (AllReadyH.cons rfl (fun K hK => ?_) AllReadyH.nil)
            go_simp
            ((with_reducible refine (kb _).mono ?_); rintro e w4 ⟨rfl, hb4⟩)
            refine hK.out _ _ (hHeld.keep hb4) (fun hHeld => ?_)
            clear hK K
            try simp only [Act.put, List.setIfInBounds_toArray, List.set_cons_zero, List.set_cons_succ]
            refine wpAnyH_take (i := 6) (oi := ?pfx6o) (v := ?pfx6v) ?pfx6h (by kernel_rfl) (by kernel_rfl) (by kernel_rfl) ?pfx6q ?pfx6y hHeld ?pfx6r
            case pfx6h => (simp only [List.getElem?_toArray, List.getElem?_cons_succ, List.getElem?_cons_zero]; rfl)
            case pfx6q => exact fun _ _ _ h => h
            case pfx6y => (refine Or.inl ⟨by first | kernel_rfl | rfl, ?_⟩; intro w hSw; (try dsimp only at hSw); obtain ⟨c0', c1, c2', c3, c4, c5⟩ := hSw.x; have hY := HQ0.out.below hSw.bel HBQ.out; obtain ⟨d0, d1, d2, d3, d4, d5⟩ := hY; go_simp <;> (try with_reducible rfl))
            try simp only [Act.put, List.setIfInBounds_toArray, List.set_cons_zero, List.set_cons_succ]
            refine wpAnyH_done (by kernel_rfl) ?_ _
            have HH := Lib.hid hHeld
            clear hHeld
            go_wp2_with (first | (at_builtin; refine wpList_appN (w := w4) rfl _ _ rfl (T + 1) 0 (.slice none 0 0) [] (l.take k) (some ⟨b, off, none⟩) k c0 w.heap.size rfl rfl HTK.out (Lib.hid rfl) HH.out.row (HLK.out.below HH.out.bel) (by omega) HH.out.x.room ?_; intro a6 c6 w6 hrow6 _ hb6 _; have HR6 := Lib.hid (HH.out.app HTW.out hb6 (show PRow w6 (T + 1) (.slice a6 k c6) (l.take k) by simpa using hrow6.out)); clear hrow6 hb6))
            refine wp_region_held_drew (S := (RPu w T p (.slice a6 k c6) (l.take k))) (by kernel_rfl) HR6.out.drew (fun hHeld => ?_)
            refine wpAnyH_take (i := 0) (oi := ?pfy1o) (v := ?pfy1v) ?pfy1h (by kernel_rfl) (by kernel_rfl) (by kernel_rfl) ?pfy1q ?pfy1y hHeld ?pfy1r
            case pfy1h => (simp only [List.getElem?_toArray, List.getElem?_cons_zero]; rfl)
            case pfy1q => exact fun _ _ _ h => h
            case pfy1y => (refine Or.inl ⟨by first | kernel_rfl | rfl, ?_⟩; intro w hSw; (try dsimp only at hSw); obtain ⟨c0', c1, c2', c3, c4, c5⟩ := hSw.x; have hY := HQ0.out.below hSw.bel HBQ.out; obtain ⟨d0, d1, d2, d3, d4, d5⟩ := hY; go_simp <;> (try with_reducible rfl))
            try simp only [Act.put, List.setIfInBounds_toArray, List.set_cons_zero, List.set_cons_succ]
            refine wpAnyH_take (i := 1) (oi := ?pfy2o) (v := ?pfy2v) ?pfy2h (by kernel_rfl) (by kernel_rfl) (by kernel_rfl) ?pfy2q ?pfy2y hHeld ?pfy2r
            case pfy2h => (simp only [List.getElem?_toArray, List.getElem?_cons_succ, List.getElem?_cons_zero]; rfl)
            case pfy2q => exact fun _ _ _ h => h
            case pfy2y => (refine Or.inl ⟨by first | kernel_rfl | rfl, ?_⟩; intro w hSw; (try dsimp only at hSw); obtain ⟨c0', c1, c2', c3, c4, c5⟩ := hSw.x; have hY := HQ0.out.below hSw.bel HBQ.out; obtain ⟨d0, d1, d2, d3, d4, d5⟩ := hY; go_simp <;> (try with_reducible rfl))
            try simp only [Act.put, List.setIfInBounds_toArray, List.set_cons_zero, List.set_cons_succ]
            refine wpAnyH_take (i := 2) (oi := ?pfy3o) (v := ?pfy3v) ?pfy3h (by kernel_rfl) (by kernel_rfl) (by kernel_rfl) ?pfy3q ?pfy3y hHeld ?pfy3r
            case pfy3h => (simp only [List.getElem?_toArray, List.getElem?_cons_succ, List.getElem?_cons_zero]; rfl)
            case pfy3q => exact fun _ _ _ h => h
            case pfy3y => (refine Or.inl ⟨by first | kernel_rfl | rfl, ?_⟩; intro w hSw; (try dsimp only at hSw); obtain ⟨c0', c1, c2', c3, c4, c5⟩ := hSw.x; have hY := HQ0.out.below hSw.bel HBQ.out; obtain ⟨d0, d1, d2, d3, d4, d5⟩ := hY; go_simp <;> (try with_reducible rfl))
            try simp only [Act.put, List.setIfInBounds_toArray, List.set_cons_zero, List.set_cons_succ]
            refine wpAnyH_take (i := 3) (oi := ?pfy4o) (v := ?pfy4v) ?pfy4h (by kernel_rfl) (by kernel_rfl) (by kernel_rfl) ?pfy4q ?pfy4y hHeld ?pfy4r
            case pfy4h => (simp only [List.getElem?_toArray, List.getElem?_cons_succ, List.getElem?_cons_zero]; rfl)
            case pfy4q => exact fun _ _ _ h => h
            case pfy4y => (refine Or.inl ⟨by first | kernel_rfl | rfl, ?_⟩; intro w hSw; (try dsimp only at hSw); obtain ⟨c0', c1, c2', c3, c4, c5⟩ := hSw.x; have hY := HQ0.out.below hSw.bel HBQ.out; obtain ⟨d0, d1, d2, d3, d4, d5⟩ := hY; go_simp <;> (try with_reducible rfl))
            try simp only [Act.put, List.setIfInBounds_toArray, List.set_cons_zero, List.set_cons_succ]
            refine wpAnyH_take (i := 4) (oi := ?pfy5o) (v := ?pfy5v) ?pfy5h (by kernel_rfl) (by kernel_rfl) (by kernel_rfl) ?pfy5q ?pfy5y hHeld ?pfy5r
            case pfy5h => (simp only [List.getElem?_toArray, List.getElem?_cons_succ, List.getElem?_cons_zero]; rfl)
            case pfy5q => exact fun _ _ _ h => h
            case pfy5y => (refine Or.inl ⟨by first | kernel_rfl | rfl, ?_⟩; intro w hSw; (try dsimp only at hSw); obtain ⟨c0', c1, c2', c3, c4, c5⟩ := hSw.x; have hY := HQ0.out.below hSw.bel HBQ.out; obtain ⟨d0, d1, d2, d3, d4, d5⟩ := hY; go_simp <;> (try with_reducible rfl))
            try simp only [Act.put, List.setIfInBounds_toArray, List.set_cons_zero, List.set_cons_succ]
            refine wpAnyH_take (i := 5) (oi := ?pfy6o) (v := ?pfy6v) ?pfy6h (by kernel_rfl) (by kernel_rfl) (by kernel_rfl) ?pfy6q ?pfy6y hHeld ?pfy6r
            case pfy6h => (simp only [List.getElem?_toArray, List.getElem?_cons_succ, List.getElem?_cons_zero]; rfl)
            case pfy6q => exact fun _ _ _ h => h
            case pfy6y => (refine Or.inl ⟨by first | kernel_rfl | rfl, ?_⟩; intro w hSw; (try dsimp only at hSw); obtain ⟨c0', c1, c2', c3, c4, c5⟩ := hSw.x; have hY := HQ0.out.below hSw.bel HBQ.out; obtain ⟨d0, d1, d2, d3, d4, d5⟩ := hY; go_simp <;> (try with_reducible rfl))
            try simp only [Act.put, List.setIfInBounds_toArray, List.set_cons_zero, List.set_cons_succ]
            refine wpAnyH_take (i := 6) (oi := ?pfy7o) (v := ?pfy7v) ?pfy7h (by kernel_rfl) (by kernel_rfl) (by kernel_rfl) ?pfy7q ?pfy7y hHeld ?pfy7r
            case pfy7h => (simp only [List.getElem?_toArray, List.getElem?_cons_succ, List.getElem?_cons_zero]; rfl)
            case pfy7q => exact fun _ _ _ h => h
            case pfy7y => (refine Or.inl ⟨by first | kernel_rfl | rfl, ?_⟩; intro w hSw; (try dsimp only at hSw); obtain ⟨c0', c1, c2', c3, c4, c5⟩ := hSw.x; have hY := HQ0.out.below hSw.bel HBQ.out; obtain ⟨d0, d1, d2, d3, d4, d5⟩ := hY; go_simp <;> (try with_reducible rfl))
            try simp only [Act.put, List.setIfInBounds_toArray, List.set_cons_zero, List.set_cons_succ]
            refine wpAnyH_take (i := 7) (oi := ?pfy8o) (v := ?pfy8v) ?pfy8h (by kernel_rfl) (by kernel_rfl) (by kernel_rfl) ?pfy8q ?pfy8y hHeld ?pfy8r
            case pfy8h => (simp only [List.getElem?_toArray, List.getElem?_cons_succ, List.getElem?_cons_zero]; rfl)
            case pfy8q => exact fun _ _ _ h => h
            case pfy8y => (refine Or.inl ⟨by first | kernel_rfl | rfl, ?_⟩; intro w hSw; (try dsimp only at hSw); obtain ⟨c0', c1, c2', c3, c4, c5⟩ := hSw.x; have hY := HQ0.out.below hSw.bel HBQ.out; obtain ⟨d0, d1, d2, d3, d4, d5⟩ := hY; go_simp <;> (try with_reducible rfl))
            try simp only [Act.put, List.setIfInBounds_toArray, List.set_cons_zero, List.set_cons_succ]
            refine wpAnyH_take (i := 8) (oi := ?pfy9o) (v := ?pfy9v) ?pfy9h (by kernel_rfl) (by kernel_rfl) (by kernel_rfl) ?pfy9q ?pfy9y hHeld ?pfy9r
            case pfy9h => (simp only [List.getElem?_toArray, List.getElem?_cons_succ, List.getElem?_cons_zero]; rfl)
            case pfy9q => exact fun _ _ _ h => h
            case pfy9y => (refine Or.inl ⟨by first | kernel_rfl | rfl, ?_⟩; intro w hSw; (try dsimp only at hSw); obtain ⟨c0', c1, c2', c3, c4, c5⟩ := hSw.x; have hY := HQ0.out.below hSw.bel HBQ.out; obtain ⟨d0, d1, d2, d3, d4, d5⟩ := hY; go_simp <;> (try with_reducible rfl))
            try simp only [Act.put, List.setIfInBounds_toArray, List.set_cons_zero, List.set_cons_succ]
            refine wpAnyH_take (i := 9) (oi := ?pfy10o) (v := ?pfy10v) ?pfy10h (by kernel_rfl) (by kernel_rfl) (by kernel_rfl) ?pfy10q ?pfy10y hHeld ?pfy10r
            case pfy10h => (simp only [List.getElem?_toArray, List.getElem?_cons_succ, List.getElem?_cons_zero]; rfl)
            case pfy10q => exact fun _ _ _ h => h
            case pfy10y => (refine Or.inl ⟨by first | kernel_rfl | rfl, ?_⟩; intro w hSw; (try dsimp only at hSw); obtain ⟨c0', c1, c2', c3, c4, c5⟩ := hSw.x; have hY := HQ0.out.below hSw.bel HBQ.out; obtain ⟨d0, d1, d2, d3, d4, d5⟩ := hY; go_simp <;> (try with_reducible rfl))
            try simp only [Act.put, List.setIfInBounds_toArray, List.set_cons_zero, List.set_cons_succ]
            refine wpAnyH_take (i := 10) (oi := ?pfy11o) (v := ?pfy11v) ?pfy11h (by kernel_rfl) (by kernel_rfl) (by kernel_rfl) ?pfy11q ?pfy11y hHeld ?pfy11r
            case pfy11h => (simp only [List.getElem?_toArray, List.getElem?_cons_succ, List.getElem?_cons_zero]; rfl)
            case pfy11q => exact fun _ _ _ h => h
            case pfy11y => (refine Or.inl ⟨by first | kernel_rfl | rfl, ?_⟩; intro w hSw; (try dsimp only at hSw); obtain ⟨c0', c1, c2', c3, c4, c5⟩ := hSw.x; have hY := HQ0.out.below hSw.bel HBQ.out; obtain ⟨d0, d1, d2, d3, d4, d5⟩ := hY; go_simp <;> (try with_reducible rfl))
            try simp only [Act.put, List.setIfInBounds_toArray, List.set_cons_zero, List.set_cons_succ]
            refine wpAnyH_take (i := 11) (oi := ?pfy12o) (v := ?pfy12v) ?pfy12h (by kernel_rfl) (by kernel_rfl) (by kernel_rfl) ?pfy12q ?pfy12y hHeld ?pfy12r
            case pfy12h => (simp only [List.getElem?_toArray, List.getElem?_cons_succ, List.getElem?_cons_zero]; rfl)
            case pfy12q => exact fun _ _ _ h => h
            case pfy12y => (refine Or.inl ⟨by first | kernel_rfl | rfl, ?_⟩; intro w hSw; (try dsimp only at hSw); obtain ⟨c0', c1, c2', c3, c4, c5⟩ := hSw.x; have hY := HQ0.out.below hSw.bel HBQ.out; obtain ⟨d0, d1, d2, d3, d4, d5⟩ := hY; go_simp <;> (try with_reducible rfl))
            try simp only [Act.put, List.setIfInBounds_toArray, List.set_cons_zero, List.set_cons_succ]
            refine wpAnyH_take (i := 12) (oi := ?pfy13o) (v := ?pfy13v) ?pfy13h (by kernel_rfl) (by kernel_rfl) (by kernel_rfl) ?pfy13q ?pfy13y hHeld ?pfy13r
            case pfy13h => (simp only [List.getElem?_toArray, List.getElem?_cons_succ, List.getElem?_cons_zero]; rfl)
            case pfy13q => exact fun _ _ _ h => h
            case pfy13y => (refine Or.inl ⟨by first | kernel_rfl | rfl, ?_⟩; intro w hSw; (try dsimp only at hSw); obtain ⟨c0', c1, c2', c3, c4, c5⟩ := hSw.x; have hY := HQ0.out.below hSw.bel HBQ.out; obtain ⟨d0, d1, d2, d3, d4, d5⟩ := hY; go_simp <;> (try with_reducible rfl))
            try simp only [Act.put, List.setIfInBounds_toArray, List.set_cons_zero, List.set_cons_succ]
            refine wpAnyH_take (i := 13) (oi := ?pfy14o) (v := ?pfy14v) ?pfy14h (by kernel_rfl) (by kernel_rfl) (by kernel_rfl) ?pfy14q ?pfy14y hHeld ?pfy14r
            case pfy14h => (simp only [List.getElem?_toArray, List.getElem?_cons_succ, List.getElem?_cons_zero]; rfl)
            case pfy14q => exact fun _ _ _ h => h
            case pfy14y => (refine Or.inl ⟨by first | kernel_rfl | rfl, ?_⟩; intro w hSw; (try dsimp only at hSw); obtain ⟨c0', c1, c2', c3, c4, c5⟩ := hSw.x; have hY := HQ0.out.below hSw.bel HBQ.out; obtain ⟨d0, d1, d2, d3, d4, d5⟩ := hY; go_simp <;> (try with_reducible rfl))
            try simp only [Act.put, List.setIfInBounds_toArray, List.set_cons_zero, List.set_cons_succ]
            refine wpAnyH_take (i := 14) (oi := ?pfy15o) (v := ?pfy15v) ?pfy15h (by kernel_rfl) (by kernel_rfl) (by kernel_rfl) ?pfy15q ?pfy15y hHeld ?pfy15r
            case pfy15h => (simp only [List.getElem?_toArray, List.getElem?_cons_succ, List.getElem?_cons_zero]; rfl)
            case pfy15q => exact fun _ _ _ h => h
            case pfy15y => (refine Or.inl ⟨by first | kernel_rfl | rfl, ?_⟩; intro w hSw; (try dsimp only at hSw); obtain ⟨c0', c1, c2', c3, c4, c5⟩ := hSw.x; have hY := HQ0.out.below hSw.bel HBQ.out; obtain ⟨d0, d1, d2, d3, d4, d5⟩ := hY; go_simp <;> (try with_reducible rfl))
            try simp only [Act.put, List.setIfInBounds_toArray, List.set_cons_zero, List.set_cons_succ]
            refine wpAnyH_take (i := 15) (oi := ?pfy16o) (v := undef) ?pfy16h (by kernel_rfl) (by kernel_rfl) (by kernel_rfl) ?pfy16q ?pfy16y hHeld ?pfy16r
            case pfy16h => (simp only [List.getElem?_toArray, List.getElem?_cons_succ, List.getElem?_cons_zero]; rfl)
            case pfy16q => exact fun _ _ _ h => h
            case pfy16y => exact Or.inr ⟨by first | kernel_rfl | rfl, rfl⟩
            try simp only [Act.put, List.setIfInBounds_toArray, List.set_cons_zero, List.set_cons_succ]
            refine wpAnyH_take (i := 16) (oi := ?pfy17o) (v := undef) ?pfy17h (by kernel_rfl) (by kernel_rfl) (by kernel_rfl) ?pfy17q ?pfy17y hHeld ?pfy17r
            case pfy17h => (simp only [List.getElem?_toArray, List.getElem?_cons_succ, List.getElem?_cons_zero]; rfl)
            case pfy17q => exact fun _ _ _ h => h
            case pfy17y => exact Or.inr ⟨by first | kernel_rfl | rfl, rfl⟩
            try simp only [Act.put, List.setIfInBounds_toArray, List.set_cons_zero, List.set_cons_succ]
            refine wpAnyH_take (i := 17) (oi := ?pfy18o) (v := undef) ?pfy18h (by kernel_rfl) (by kernel_rfl) (by kernel_rfl) ?pfy18q ?pfy18y hHeld ?pfy18r
            case pfy18h => (simp only [List.getElem?_toArray, List.getElem?_cons_succ, List.getElem?_cons_zero]; rfl)
            case pfy18q => exact fun _ _ _ h => h
            case pfy18y => exact Or.inr ⟨by first | kernel_rfl | rfl, rfl⟩
            try simp only [Act.put, List.setIfInBounds_toArray, List.set_cons_zero, List.set_cons_succ]
            refine wpAnyH_take (i := 18) (oi := ?pfy19o) (v := undef) ?pfy19h (by kernel_rfl) (by kernel_rfl) (by kernel_rfl) ?pfy19q ?pfy19y hHeld ?pfy19r
            case pfy19h => (simp only [List.getElem?_toArray, List.getElem?_cons_succ, List.getElem?_cons_zero]; rfl)
            case pfy19q => exact fun _ _ _ h => h
            case pfy19y => exact Or.inr ⟨by first | kernel_rfl | rfl, rfl⟩
            try simp only [Act.put, List.setIfInBounds_toArray, List.set_cons_zero, List.set_cons_succ]
            refine wpAnyH_take (i := 19) (oi := ?pfy20o) (v := undef) ?pfy20h (by kernel_rfl) (by kernel_rfl) (by kernel_rfl) ?pfy20q ?pfy20y hHeld ?pfy20r
            case pfy20h => (simp only [List.getElem?_toArray, List.getElem?_cons_succ, List.getElem?_cons_zero]; rfl)
            case pfy20q => exact fun _ _ _ h => h
            case pfy20y => exact Or.inr ⟨by first | kernel_rfl | rfl, rfl⟩
            try simp only [Act.put, List.setIfInBounds_toArray, List.set_cons_zero, List.set_cons_succ]
            refine wpAnyH_take (i := 20) (oi := ?pfy21o) (v := undef) ?pfy21h (by kernel_rfl) (by kernel_rfl) (by kernel_rfl) ?pfy21q ?pfy21y hHeld ?pfy21r
            case pfy21h => (simp only [List.getElem?_toArray, List.getElem?_cons_succ, List.getElem?_cons_zero]; rfl)
            case pfy21q => exact fun _ _ _ h => h
            case pfy21y => exact Or.inr ⟨by first | kernel_rfl | rfl, rfl⟩
            try simp only [Act.put, List.setIfInBounds_toArray, List.set_cons_zero, List.set_cons_succ]
            refine wpAnyH_take (i := 21) (oi := ?pfy22o) (v := undef) ?pfy22h (by kernel_rfl) (by kernel_rfl) (by kernel_rfl) ?pfy22q ?pfy22y hHeld ?pfy22r
            case pfy22h => (simp only [List.getElem?_toArray, List.getElem?_cons_succ, List.getElem?_cons_zero]; rfl)
            case pfy22q => exact fun _ _ _ h => h
            case pfy22y => exact Or.inr ⟨by first | kernel_rfl | rfl, rfl⟩
            try simp only [Act.put, List.setIfInBounds_toArray, List.set_cons_zero, List.set_cons_succ]
            refine wpAnyH_take (i := 22) (oi := ?pfy23o) (v := undef) ?pfy23h (by kernel_rfl) (by kernel_rfl) (by kernel_rfl) ?pfy23q ?pfy23y hHeld ?pfy23r
            case pfy23h => (simp only [List.getElem?_toArray, List.getElem?_cons_succ, List.getElem?_cons_zero]; rfl)
            case pfy23q => exact fun _ _ _ h => h
            case pfy23y => exact Or.inr ⟨by first | kernel_rfl | rfl, rfl⟩
            try simp only [Act.put, List.setIfInBounds_toArray, List.set_cons_zero, List.set_cons_succ]
            refine wpAnyH_take (i := 23) (oi := ?pfy24o) (v := ?pfy24v) ?pfy24h (by kernel_rfl) (by kernel_rfl) (by kernel_rfl) ?pfy24q ?pfy24y hHeld ?pfy24r
            case pfy24h => (simp only [List.getElem?_toArray, List.getElem?_cons_succ, List.getElem?_cons_zero]; rfl)
            case pfy24q => exact fun _ _ _ h => h
            case pfy24y => (refine Or.inl ⟨by first | kernel_rfl | rfl, ?_⟩; intro w hSw; (try dsimp only at hSw); obtain ⟨c0', c1, c2', c3, c4, c5⟩ := hSw.x; have hY := HQ0.out.below hSw.bel HBQ.out; obtain ⟨d0, d1, d2, d3, d4, d5⟩ := hY; go_simp <;> (try with_reducible rfl))
            try simp only [Act.put, List.setIfInBounds_toArray, List.set_cons_zero, List.set_cons_succ]
            refine wpAnyH_done (by kernel_rfl) ?_ _
            have HH6 := Lib.hid hHeld
            have hX6 := hHeld.x
            obtain ⟨x0, x1, x2', x3, x4, x5⟩ := hX6
            clear hHeld
            go_wp2_with (first | (at_builtin; refine wpList_appP (w := w6.drew) rfl _ _ rfl (T + 1) k (.slice a6 k c6) (l.take k) p (w6.drew).heap.size rfl rfl rfl HTK HH6.out.row (by omega) HH6.out.x.room ?_; intro a7 c7 w7 hrow7 _ hb7 _; have HR7 := Lib.hid (HH6.out.app HTW.out hb7 hrow7.out); clear hrow7 hb7) | (at_builtin; refine wpList_appN (w := w7) rfl _ _ rfl (T + 1) (k + 1) (.slice a7 (k + 1) c7) (l.take k ++ [p]) (l.drop k) x2 n2 c2 w.heap.size rfl rfl HN2.out (Lib.hid (by rw [List.length_append, HTK.out]; rfl)) HR7.out.row (HL2.out.below HR7.out.bel) (by omega) HR7.out.x.room ?_; intro a8 c8 w8 hrow8 _ hb8 _; have HR8 := Lib.hid (HR7.out.app HTW.out hb8 hrow8.out); clear hrow8 hb8))
            go_ret
            exact ⟨_, rfl, by rw [HE.out]; exact HR8.out.row.base (by have := HTW.out; omega), HR8.out.bel⟩
    · have hlti : ¬ (k : Int) < (n : Int) := by omega
      obtain rfl : k = n := by omega
      have HE := Lib.hid (show ins p l = l.take k ++ [p] ++ l.drop k by
        rw [ins_putAt, lowN_at (k := k) (by rw [HN.out]; omega) hall.out (fun h => absurd h (by rw [HN.out]; omega))]
        exact dif_neg (by rw [HN.out]; omega))
      obtain ⟨x2, hx2⟩ : ∃ x, cutP a0 (k) c0 = x := ⟨_, rfl⟩
      obtain ⟨n2, hn2⟩ : ∃ x, k - (k) = x := ⟨_, rfl⟩
      obtain ⟨c2, hc2⟩ : ∃ x, c0 - (k) = x := ⟨_, rfl⟩
      have kf := fun w => at_from a0 k c0 (k) (k : Int) (by omega) (by omega) w
      have kf2 := fun w => cut_from a0 k c0 (k) (k : Int) (by omega) (by omega) w
      rw [hx2, hn2, hc2] at kf kf2
      have HN2 := Lib.hid (show (l.drop (k)).length = n2 by rw [List.length_drop, HN.out]; exact hn2)
      have HL2 := Lib.hid (show Lst w w.heap.size x2 c2 (l.drop (k)) by rw [← hx2, ← hc2]; exact HS.out.from_ (by rw [HN.out]; omega))
      clear hx2 hc2
      go_wp2_with (first | (at_builtin; refine wpList_appN (w := w3) rfl _ _ rfl (T + 1) 0 (.slice none 0 0) [] (l.take k) a0 k c0 w.heap.size rfl rfl HTK.out (Lib.hid rfl) HR.out.row (HLK.out.below HR.out.bel) (by omega) HR.out.x.room ?_; intro a6 c6 w6 hrow6 _ hb6 _; have HR6 := Lib.hid (HR.out.app HTW.out hb6 (show PRow w6 (T + 1) (.slice a6 k c6) (l.take k) by simpa using hrow6.out)); clear hrow6 hb6))
      refine wp_region_held_drew (S := (RPu w T p (.slice a6 k c6) (l.take k))) (by kernel_rfl) HR6.out.drew (fun hHeld => ?_)
      refine wpAnyH_take (i := 0) (oi := ?pg1o) (v := ?pg1v) ?pg1h (by kernel_rfl) (by kernel_rfl) (by kernel_rfl) ?pg1q ?pg1y hHeld ?pg1r
      case pg1h => (simp only [List.getElem?_toArray, List.getElem?_cons_zero]; rfl)
      case pg1q => exact fun _ _ _ h => h
      case pg1y => (refine Or.inl ⟨by first | kernel_rfl | rfl, ?_⟩; intro w hSw; (try dsimp only at hSw); go_simp <;> (try with_reducible rfl))
      try simp only [Act.put, List.setIfInBounds_toArray, List.set_cons_zero, List.set_cons_succ]
      refine wpAnyH_take (i := 1) (oi := ?pg2o) (v := ?pg2v) ?pg2h (by kernel_rfl) (by kernel_rfl) (by kernel_rfl) ?pg2q ?pg2y hHeld ?pg2r
      case pg2h => (simp only [List.getElem?_toArray, List.getElem?_cons_succ, List.getElem?_cons_zero]; rfl)
      case pg2q => exact fun _ _ _ h => h
      case pg2y => (refine Or.inl ⟨by first | kernel_rfl | rfl, ?_⟩; intro w hSw; (try dsimp only at hSw); go_simp <;> (try with_reducible rfl))
      try simp only [Act.put, List.setIfInBounds_toArray, List.set_cons_zero, List.set_cons_succ]
      refine wpAnyH_take (i := 2) (oi := ?pg3o) (v := ?pg3v) ?pg3h (by kernel_rfl) (by kernel_rfl) (by kernel_rfl) ?pg3q ?pg3y hHeld ?pg3r
      case pg3h => (simp only [List.getElem?_toArray, List.getElem?_cons_succ, List.getElem?_cons_zero]; rfl)
      case pg3q => exact fun _ _ _ h => h
      case pg3y => (refine Or.inl ⟨by first | kernel_rfl | rfl, ?_⟩; intro w hSw; (try dsimp only at hSw); go_simp <;> (try with_reducible rfl))
      try simp only [Act.put, List.setIfInBounds_toArray, List.set_cons_zero, List.set_cons_succ]
      refine wpAnyH_take (i := 3) (oi := ?pg4o) (v := ?pg4v) ?pg4h (by kernel_rfl) (by kernel_rfl) (by kernel_rfl) ?pg4q ?pg4y hHeld ?pg4r
      case pg4h => (simp only [List.getElem?_toArray, List.getElem?_cons_succ, List.getElem?_cons_zero]; rfl)
      case pg4q => exact fun _ _ _ h => h
      case pg4y => (refine Or.inl ⟨by first | kernel_rfl | rfl, ?_⟩; intro w hSw; (try dsimp only at hSw); go_simp <;> (try with_reducible rfl))
      try simp only [Act.put, List.setIfInBounds_toArray, List.set_cons_zero, List.set_cons_succ]
      refine wpAnyH_take (i := 4) (oi := ?pg5o) (v := ?pg5v) ?pg5h (by kernel_rfl) (by kernel_rfl) (by kernel_rfl) ?pg5q ?pg5y hHeld ?pg5r
      case pg5h => (simp only [List.getElem?_toArray, List.getElem?_cons_succ, List.getElem?_cons_zero]; rfl)
      case pg5q => exact fun _ _ _ h => h
      case pg5y => (refine Or.inl ⟨by first | kernel_rfl | rfl, ?_⟩; intro w hSw; (try dsimp only at hSw); go_simp <;> (try with_reducible rfl))
      try simp only [Act.put, List.setIfInBounds_toArray, List.set_cons_zero, List.set_cons_succ]
      refine wpAnyH_take (i := 5) (oi := ?pg6o) (v := undef) ?pg6h (by kernel_rfl) (by kernel_rfl) (by kernel_rfl) ?pg6q ?pg6y hHeld ?pg6r
      case pg6h => (simp only [List.getElem?_toArray, List.getElem?_cons_succ, List.getElem?_cons_zero]; rfl)
      case pg6q => exact fun _ _ _ h => h
      case pg6y => exact Or.inr ⟨by first | kernel_rfl | rfl, rfl⟩
      try simp only [Act.put, List.setIfInBounds_toArray, List.set_cons_zero, List.set_cons_succ]
      refine wpAnyH_take (i := 6) (oi := ?pg7o) (v := undef) ?pg7h (by kernel_rfl) (by kernel_rfl) (by kernel_rfl) ?pg7q ?pg7y hHeld ?pg7r
      case pg7h => (simp only [List.getElem?_toArray, List.getElem?_cons_succ, List.getElem?_cons_zero]; rfl)
      case pg7q => exact fun _ _ _ h => h
      case pg7y => exact Or.inr ⟨by first | kernel_rfl | rfl, rfl⟩
      try simp only [Act.put, List.setIfInBounds_toArray, List.set_cons_zero, List.set_cons_succ]
      refine wpAnyH_take (i := 7) (oi := ?pg8o) (v := undef) ?pg8h (by kernel_rfl) (by kernel_rfl) (by kernel_rfl) ?pg8q ?pg8y hHeld ?pg8r
      case pg8h => (simp only [List.getElem?_toArray, List.getElem?_cons_succ, List.getElem?_cons_zero]; rfl)
      case pg8q => exact fun _ _ _ h => h
      case pg8y => exact Or.inr ⟨by first | kernel_rfl | rfl, rfl⟩
      try simp only [Act.put, List.setIfInBounds_toArray, List.set_cons_zero, List.set_cons_succ]
      refine wpAnyH_take (i := 8) (oi := ?pg9o) (v := undef) ?pg9h (by kernel_rfl) (by kernel_rfl) (by kernel_rfl) ?pg9q ?pg9y hHeld ?pg9r
      case pg9h => (simp only [List.getElem?_toArray, List.getElem?_cons_succ, List.getElem?_cons_zero]; rfl)
      case pg9q => exact fun _ _ _ h => h
      case pg9y => exact Or.inr ⟨by first | kernel_rfl | rfl, rfl⟩
      try simp only [Act.put, List.setIfInBounds_toArray, List.set_cons_zero, List.set_cons_succ]
      refine wpAnyH_take (i := 9) (oi := ?pg10o) (v := undef) ?pg10h (by kernel_rfl) (by kernel_rfl) (by kernel_rfl) ?pg10q ?pg10y hHeld ?pg10r
      case pg10h => (simp only [List.getElem?_toArray, List.getElem?_cons_succ, List.getElem?_cons_zero]; rfl)
      case pg10q => exact fun _ _ _ h => h
      case pg10y => exact Or.inr ⟨by first | kernel_rfl | rfl, rfl⟩
      try simp only [Act.put, List.setIfInBounds_toArray, List.set_cons_zero, List.set_cons_succ]
      refine wpAnyH_take (i := 10) (oi := ?pg11o) (v := undef) ?pg11h (by kernel_rfl) (by kernel_rfl) (by kernel_rfl) ?pg11q ?pg11y hHeld ?pg11r
      case pg11h => (simp only [List.getElem?_toArray, List.getElem?_cons_succ, List.getElem?_cons_zero]; rfl)
      case pg11q => exact fun _ _ _ h => h
      case pg11y => exact Or.inr ⟨by first | kernel_rfl | rfl, rfl⟩
      try simp only [Act.put, List.setIfInBounds_toArray, List.set_cons_zero, List.set_cons_succ]
      refine wpAnyH_take (i := 11) (oi := ?pg12o) (v := undef) ?pg12h (by kernel_rfl) (by kernel_rfl) (by kernel_rfl) ?pg12q ?pg12y hHeld ?pg12r
      case pg12h => (simp only [List.getElem?_toArray, List.getElem?_cons_succ, List.getElem?_cons_zero]; rfl)
      case pg12q => exact fun _ _ _ h => h
      case pg12y => exact Or.inr ⟨by first | kernel_rfl | rfl, rfl⟩
      try simp only [Act.put, List.setIfInBounds_toArray, List.set_cons_zero, List.set_cons_succ]
      refine wpAnyH_take (i := 12) (oi := ?pg13o) (v := undef) ?pg13h (by kernel_rfl) (by kernel_rfl) (by kernel_rfl) ?pg13q ?pg13y hHeld ?pg13r
      case pg13h => (simp only [List.getElem?_toArray, List.getElem?_cons_succ, List.getElem?_cons_zero]; rfl)
      case pg13q => exact fun _ _ _ h => h
      case pg13y => exact Or.inr ⟨by first | kernel_rfl | rfl, rfl⟩
      try simp only [Act.put, List.setIfInBounds_toArray, List.set_cons_zero, List.set_cons_succ]
      refine wpAnyH_take (i := 13) (oi := ?pg14o) (v := ?pg14v) ?pg14h (by kernel_rfl) (by kernel_rfl) (by kernel_rfl) ?pg14q ?pg14y hHeld ?pg14r
      case pg14h => (simp only [List.getElem?_toArray, List.getElem?_cons_succ, List.getElem?_cons_zero]; rfl)
      case pg14q => exact fun _ _ _ h => h
      case pg14y => (refine Or.inl ⟨by first | kernel_rfl | rfl, ?_⟩; intro w hSw; (try dsimp only at hSw); go_simp <;> (try with_reducible rfl))
      try simp only [Act.put, List.setIfInBounds_toArray, List.set_cons_zero, List.set_cons_succ]
      refine wpAnyH_take (i := 14) (oi := ?pg15o) (v := ?pg15v) ?pg15h (by kernel_rfl) (by kernel_rfl) (by kernel_rfl) ?pg15q ?pg15y hHeld ?pg15r
      case pg15h => (simp only [List.getElem?_toArray, List.getElem?_cons_succ, List.getElem?_cons_zero]; rfl)
      case pg15q => exact fun _ _ _ h => h
      case pg15y => (refine Or.inl ⟨by first | kernel_rfl | rfl, ?_⟩; intro w hSw; (try dsimp only at hSw); go_simp <;> (try with_reducible rfl))
      try simp only [Act.put, List.setIfInBounds_toArray, List.set_cons_zero, List.set_cons_succ]
      refine wpAnyH_take (i := 15) (oi := ?pg16o) (v := undef) ?pg16h (by kernel_rfl) (by kernel_rfl) (by kernel_rfl) ?pg16q ?pg16y hHeld ?pg16r
      case pg16h => (simp only [List.getElem?_toArray, List.getElem?_cons_succ, List.getElem?_cons_zero]; rfl)
      case pg16q => exact fun _ _ _ h => h
      case pg16y => exact Or.inr ⟨by first | kernel_rfl | rfl, rfl⟩
      try simp only [Act.put, List.setIfInBounds_toArray, List.set_cons_zero, List.set_cons_succ]
      refine wpAnyH_take (i := 16) (oi := ?pg17o) (v := undef) ?pg17h (by kernel_rfl) (by kernel_rfl) (by kernel_rfl) ?pg17q ?pg17y hHeld ?pg17r
      case pg17h => (simp only [List.getElem?_toArray, List.getElem?_cons_succ, List.getElem?_cons_zero]; rfl)
      case pg17q => exact fun _ _ _ h => h
      case pg17y => exact Or.inr ⟨by first | kernel_rfl | rfl, rfl⟩
      try simp only [Act.put, List.setIfInBounds_toArray, List.set_cons_zero, List.set_cons_succ]
      refine wpAnyH_take (i := 17) (oi := ?pg18o) (v := undef) ?pg18h (by kernel_rfl) (by kernel_rfl) (by kernel_rfl) ?pg18q ?pg18y hHeld ?pg18r
      case pg18h => (simp only [List.getElem?_toArray, List.getElem?_cons_succ, List.getElem?_cons_zero]; rfl)
      case pg18q => exact fun _ _ _ h => h
      case pg18y => exact Or.inr ⟨by first | kernel_rfl | rfl, rfl⟩
      try simp only [Act.put, List.setIfInBounds_toArray, List.set_cons_zero, List.set_cons_succ]
      refine wpAnyH_take (i := 18) (oi := ?pg19o) (v := undef) ?pg19h (by kernel_rfl) (by kernel_rfl) (by kernel_rfl) ?pg19q ?pg19y hHeld ?pg19r
      case pg19h => (simp only [List.getElem?_toArray, List.getElem?_cons_succ, List.getElem?_cons_zero]; rfl)
      case pg19q => exact fun _ _ _ h => h
      case pg19y => exact Or.inr ⟨by first | kernel_rfl | rfl, rfl⟩
      try simp only [Act.put, List.setIfInBounds_toArray, List.set_cons_zero, List.set_cons_succ]
      refine wpAnyH_take (i := 19) (oi := ?pg20o) (v := undef) ?pg20h (by kernel_rfl) (by kernel_rfl) (by kernel_rfl) ?pg20q ?pg20y hHeld ?pg20r
      case pg20h => (simp only [List.getElem?_toArray, List.getElem?_cons_succ, List.getElem?_cons_zero]; rfl)
      case pg20q => exact fun _ _ _ h => h
      case pg20y => exact Or.inr ⟨by first | kernel_rfl | rfl, rfl⟩
      try simp only [Act.put, List.setIfInBounds_toArray, List.set_cons_zero, List.set_cons_succ]
      refine wpAnyH_take (i := 20) (oi := ?pg21o) (v := undef) ?pg21h (by kernel_rfl) (by kernel_rfl) (by kernel_rfl) ?pg21q ?pg21y hHeld ?pg21r
      case pg21h => (simp only [List.getElem?_toArray, List.getElem?_cons_succ, List.getElem?_cons_zero]; rfl)
      case pg21q => exact fun _ _ _ h => h
      case pg21y => exact Or.inr ⟨by first | kernel_rfl | rfl, rfl⟩
      try simp only [Act.put, List.setIfInBounds_toArray, List.set_cons_zero, List.set_cons_succ]
      refine wpAnyH_take (i := 21) (oi := ?pg22o) (v := undef) ?pg22h (by kernel_rfl) (by kernel_rfl) (by kernel_rfl) ?pg22q ?pg22y hHeld ?pg22r
      case pg22h => (simp only [List.getElem?_toArray, List.getElem?_cons_succ, List.getElem?_cons_zero]; rfl)
      case pg22q => exact fun _ _ _ h => h
      case pg22y => exact Or.inr ⟨by first | kernel_rfl | rfl, rfl⟩
      try simp only [Act.put, List.setIfInBounds_toArray, List.set_cons_zero, List.set_cons_succ]
      refine wpAnyH_take (i := 22) (oi := ?pg23o) (v := undef) ?pg23h (by kernel_rfl) (by kernel_rfl) (by kernel_rfl) ?pg23q ?pg23y hHeld ?pg23r
      case pg23h => (simp only [List.getElem?_toArray, List.getElem?_cons_succ, List.getElem?_cons_zero]; rfl)
      case pg23q => exact fun _ _ _ h => h
      case pg23y => exact Or.inr ⟨by first | kernel_rfl | rfl, rfl⟩
      try simp only [Act.put, List.setIfInBounds_toArray, List.set_cons_zero, List.set_cons_succ]
      refine wpAnyH_take (i := 23) (oi := ?pg24o) (v := ?pg24v) ?pg24h (by kernel_rfl) (by kernel_rfl) (by kernel_rfl) ?pg24q ?pg24y hHeld ?pg24r
      case pg24h => (simp only [List.getElem?_toArray, List.getElem?_cons_succ, List.getElem?_cons_zero]; rfl)
      case pg24q => exact fun _ _ _ h => h
      case pg24y => (refine Or.inl ⟨by first | kernel_rfl | rfl, ?_⟩; intro w hSw; (try dsimp only at hSw); go_simp <;> (try with_reducible rfl))
      try simp only [Act.put, List.setIfInBounds_toArray, List.set_cons_zero, List.set_cons_succ]
      refine wpAnyH_done (by kernel_rfl) ?_ _
      have HH6 := Lib.hid hHeld
      have hX6 := hHeld.x
      obtain ⟨x0, x1, x2', x3, x4, x5⟩ := hX6
      clear hHeld
      go_wp2_with (first | (at_builtin; refine wpList_appP (w := w6.drew) rfl _ _ rfl (T + 1) k (.slice a6 k c6) (l.take k) p (w6.drew).heap.size rfl rfl rfl HTK HH6.out.row (by omega) HH6.out.x.room ?_; intro a7 c7 w7 hrow7 _ hb7 _; have HR7 := Lib.hid (HH6.out.app HTW.out hb7 hrow7.out); clear hrow7 hb7) | (at_builtin; refine wpList_appN (w := w7) rfl _ _ rfl (T + 1) (k + 1) (.slice a7 (k + 1) c7) (l.take k ++ [p]) (l.drop k) x2 n2 c2 w.heap.size rfl rfl HN2.out (Lib.hid (by rw [List.length_append, HTK.out]; rfl)) HR7.out.row (HL2.out.below HR7.out.bel) (by omega) HR7.out.x.room ?_; intro a8 c8 w8 hrow8 _ hb8 _; have HR8 := Lib.hid (HR7.out.app HTW.out hb8 hrow8.out); clear hrow8 hb8))
      go_ret
      exact ⟨_, rfl, by rw [HE.out]; exact HR8.out.row.base (by have := HTW.out; omega), HR8.out.bel⟩
set_option maxHeartbeats 4000000 in
theorem rsort_is (a0 : Option Addr) (c0 : Nat) (l : List Pt) (w : World) (hS : Lst w w.heap.size a0 c0 l) (hl : l.length ≤ 900000) : Calls Try.prog 33 #[.slice a0 l.length c0] w (OwnDone (srtR l) w) := by
  have HS := Lib.hid hS
  clear hS
  go_enter Try.func33, Try.ntmps33
  go_wp2
  go_loopw [3, 4] (fun s i wr => ∃ (k r : Nat) (a5 : Option Addr) (c5 : Nat) (o : List Pt), k ≤ l.length ∧ i = .int .i64 (k : Int) ∧ s = .slice a5 r c5 ∧ Hid (o = srtR (l.take k)) ∧ Hid (o.length = r) ∧ PRow wr w.heap.size (.slice a5 r c5) o ∧ Below w.heap.size w wr) (fun _ i _ => l.length - (intOf i).toNat)
  case atStart => exact ⟨0, 0, none, 0, [], by omega, rfl, rfl, Lib.hid rfl, Lib.hid rfl, PRow.nil _ _, Below.refl _ _⟩
  case round =>
    obtain ⟨k, r, a5, c5, o, hk, rfl, rfl, HO, HR, hrow, hB⟩ := hrel
    obtain ⟨w3, hw3⟩ : ∃ x, x = wr := ⟨_, rfl⟩
    subst hw3
    have HROW := Lib.hid hrow
    have HB := Lib.hid hB
    by_cases hlt : k < l.length
    · have hlti : (k : Int) < (l.length : Int) := by omega
      rcases HS.out.pts.at_ with rfl | ⟨b, off, rfl, hbw, hc⟩
      · simp at hlt
      · have hA := (hc k hlt).below hB hbw
        obtain ⟨x, hx⟩ : ∃ x, l[k] = x := ⟨_, rfl⟩
        rw [hx] at hA
        have HN := Lib.hid (show ins x o = srtR (l.take (k + 1)) by rw [List.take_succ_eq_append_getElem hlt, srtR_snoc, hx, HO.out])
        have hle := srtR_len (l.take (k + 1))
        rw [← HN.out, List.length_take] at hle
        have hol : o.length ≤ 900000 := by
          have := srtR_len (l.take k)
          rw [HO.out]
          rw [List.length_take] at this
          omega
        have kp := rput_is a5 c5 o x w3 hrow.lst hol
        rw [HR.out] at kp
        unfold ptV at kp
        obtain ⟨c0', c1, c2, c3, c4, c5'⟩ := hA
        obtain ⟨o2, ho2⟩ : ∃ o2, ins x o = o2 := ⟨_, rfl⟩
        rw [ho2] at HN kp
        clear hc hx hB hrow hle hol ho2
        go_wp2_with (go_at_call 32; (with_reducible refine kp.mono ?_); rintro e w4 ⟨v, rfl, hR4, hb4⟩; (have hsl := hR4.slice); (obtain ⟨a6, c6, rfl⟩ := hsl))
        go_roundw
        case rel => exact ⟨k + 1, o2.length, a6, c6, o2, by omega, by go_num, rfl, HN, Lib.hid rfl, hR4.base HB.out.size, bel_next HB.out hb4⟩
        case measure => simp [intOf]; omega
    · have hlti : ¬ (k : Int) < (l.length : Int) := by omega
      have HE := Lib.hid (show o = srtR l by rw [HO.out, List.take_of_length_le (by omega)])
      clear hrow hB
      go_wp2
      go_ret
      exact ⟨_, rfl, by rw [← HE.out]; exact HROW.out, HB.out⟩
end Go.Proofs.Ytcjcbbpolhpphaa
