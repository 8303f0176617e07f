/- The contract of the document's Each. -/
import Derived.Test.YtdkenokjdiamhaaDoorWindowRef4
set_option maxRecDepth 20000
namespace Go.Proofs.YtdkenokjdiamhaaDoor
open Go.RowKit

/-- The k-th window from c on. -/
def nthW (c : Sp) (W : Int) (k : Nat) : Sp := ⟨c.f + (k : Int) * W, cutI (c.f + (k : Int) * W + W)⟩
/-- The first windows of a span, at most so many. -/
def Sp.each (s : Sp) (tier : Int) (most : Nat) : List Sp := (List.range (min (s.count tier).toNat most)).map (nthW (s.cover tier) (wid tier))
theorem count_bounds (s : Sp) (tier : Int) : 0 ≤ s.count tier ∧ s.count tier ≤ 2000000000000 := by
  obtain ⟨b1, b2, b3, b4⟩ := cover_bounds s tier
  have hw := wid_bounds tier
  unfold Sp.count
  split
  · omega
  · rename_i h
    have := b4 h
    refine ⟨Int.ediv_nonneg (by omega) (by omega), ?_⟩
    have := Int.ediv_le_self (wid tier) (show 0 ≤ (s.cover tier).t - (s.cover tier).f + wid tier - 1 by omega)
    omega
theorem mul_bounds (k : Nat) (W : Int) (hk : k ≤ 1000) (hW : 0 ≤ W ∧ W ≤ 3600) : 0 ≤ (k : Int) * W ∧ (k : Int) * W ≤ 3600000 := by
  refine ⟨Int.mul_nonneg (by omega) hW.1, ?_⟩
  have h1 : (k : Int) * W ≤ 1000 * W := Int.mul_le_mul_of_nonneg_right (by omega) hW.1
  omega
structure EaR (w wr : World) (c : Sp) (W : Int) (d : Nat) (o : Value) (k : Nat) : Prop where
  row : SpRow wr (d + 1) o ((List.range k).map (nthW c W))
  at_ : SpAt wr d c
  bel : Below w.heap.size w wr
  far : w.heap.size ≤ d
theorem EaR.len {w wr : World} {c : Sp} {W : Int} {d : Nat} {o : Value} {k : Nat} (R : EaR w wr c W d o k) : ∃ a cc, o = .slice a k cc := by
  have := R.row.slice; rw [List.length_map, List.length_range] at this; exact this
theorem SpRow.lower {w : World} {B B' : Nat} {v : Value} {xs : List Sp} (h : SpRow w B v xs) (hB : B' ≤ B) : SpRow w B' v xs := by
  obtain ⟨h1, h2⟩ := h
  refine ⟨h1, ?_⟩
  rcases h2 with h2 | ⟨g, cap, cur, e1, e2, e3, rest⟩
  · exact Or.inl h2
  · exact Or.inr ⟨g, cap, cur, e1, by omega, e3, rest⟩
/-- What Each answers. -/
def EaDone (l : List Sp) (w : World) (e : Ending) (w' : World) : Prop := ∃ v, e = .returned v ∧ SpRow w' w.heap.size v l ∧ Below w.heap.size w w'
set_option maxHeartbeats 8000000 in
theorem reach_is (s : Sp) (tier : Int) (most : Nat) (w : World) (hm : most ≤ 1000) : Calls Tryd.prog 19 #[s.v, .int .i64 tier, .int .i64 (most : Int)] w (EaDone (s.each tier most) w) := by
  obtain ⟨i0, hi, hz0, hz1, hz2⟩ := info_parts infoSp
  have hB := (Below.refl w.heap.size w).alloc (Nat.le_refl _) (.cells #[.int .i64 s.f, .int .i64 s.t] 26)
  have hI := SpAt.new w s 26
  obtain ⟨n, hn⟩ : ∃ n, s.count tier = n := ⟨_, rfl⟩
  obtain ⟨c, hc⟩ : ∃ c, s.cover tier = c := ⟨_, rfl⟩
  obtain ⟨W, hW⟩ : ∃ W, wid tier = W := ⟨_, rfl⟩
  have kn := fun w => rcount_is s tier n w (Lib.hid hn)
  have kc := fun w => rcover_is s c tier w (Lib.hid hc)
  have kw := fun w => rwidth_is tier W w (Lib.hid hW)
  have hwb := wid_bounds tier
  have hcb := cover_bounds s tier
  have hnb := count_bounds s tier
  rw [hW] at hwb
  rw [hc, hW] at hcb
  rw [hn] at hnb
  obtain ⟨hcf, hcft, hct, -⟩ := hcb
  have HL := Lib.hid (show s.each tier most = (List.range (min n.toNat most)).map (nthW c W) by unfold Sp.each; rw [hn, hc, hW])
  unfold Sp.v at kn kc ⊢
  clear hn hc hW
  go_enter Tryd.func19, Tryd.ntmps19
  go_wp2_with (first
    | (go_at_call 30; (with_reducible refine (kn _).mono ?_); rintro e w1 ⟨rfl, hb1⟩; have hI1 := hI.below hb1; have B1 := bel_next hB hb1; obtain ⟨x0, x1⟩ := hI1)
    | (go_at_call 26; (with_reducible refine (kc _).mono ?_); rintro e w2 ⟨rfl, hb2⟩; have B2 := bel_next B1 hb2; have hC := SpAt.new w2 c 26; have B3 := bel_new B2 (.cells #[.int .i64 c.f, .int .i64 c.t] 26))
    | (go_at_call 12; (with_reducible refine (kw _).mono ?_); rintro e w3 ⟨rfl, rfl⟩))
  have R0 := Lib.hid (show EaR w (w2.alloc (.cells #[.int .i64 c.f, .int .i64 c.t] 26)) c W w2.heap.size (.slice none 0 0) 0 from ⟨SpRow.nil _ _, hC, B3, B2.size⟩)
  clear hC B3 B2 B1 hb1 hb2 kn kc kw hI hB x0 x1
  go_loopw [7, 11] (fun o i wr => ∃ k : Nat, k ≤ most ∧ (k : Int) ≤ n ∧ i = .int .i64 (k : Int) ∧ EaR w wr c W w2.heap.size o k) (fun _ i _ => most - (intOf i).toNat)
  case atStart => exact ⟨0, by omega, by omega, rfl, R0.out⟩
  case round =>
    obtain ⟨k, hk, hkn, rfl, R⟩ := hrel
    obtain ⟨a1, cc1, rfl⟩ := R.len
    clear R0
    by_cases hgo : (k : Int) < n ∧ (k : Int) < (most : Int)
    · obtain ⟨g1, g2⟩ := hgo
      have hmb := mul_bounds k W (by omega) hwb
      obtain ⟨m, hmm⟩ : ∃ m, (k : Int) * W = m := ⟨_, rfl⟩
      rw [hmm] at hmb
      obtain ⟨F, hF⟩ : ∃ F, c.f + m = F := ⟨_, rfl⟩
      obtain ⟨u, hu⟩ : ∃ u, F + W = u := ⟨_, rfl⟩
      obtain ⟨T, hT⟩ : ∃ T, cutI u = T := ⟨_, rfl⟩
      have kt := fun w => rcut_is u T w (Lib.hid hT)
      have hcfu : c.f ≤ 1099511627777 := by omega
      have h1 : IntKind.i64.wrap ((k : Int) * W) = m := by rw [IntKind.wrap_i64]; omega
      have h1' : IntKind.i64.wrap m = m := by rw [IntKind.wrap_i64]; omega
      have h2 : IntKind.i64.wrap (c.f + m) = F := by rw [IntKind.wrap_i64]; omega
      have h2' : IntKind.i64.wrap F = F := by rw [IntKind.wrap_i64]; omega
      have h3 : IntKind.i64.wrap (F + W) = u := by rw [IntKind.wrap_i64]; omega
      have h3' : IntKind.i64.wrap u = u := by rw [IntKind.wrap_i64]; omega
      have hnth : nthW c W k = ⟨F, T⟩ := by unfold nthW; rw [hmm, hF, hu, hT]
      have HNTH := Lib.hid hnth
      have hrow : wr.ownsRow (w2.heap.size + 1) 26 2 (.slice a1 k cc1) k (((List.range k).map (nthW c W)).flatMap cells2) := by have := R.row; unfold SpRow at this; rw [List.length_map, List.length_range] at this; exact this
      have hBr := R.bel.size
      have hrow2 := owns2_later hrow ((Below.refl _ _).drew.alloc (Nat.le_refl _) (.cells #[.int .i64 F, .int .i64 T] 26))
      have HROW := Lib.hid hrow2
      have HBEL := Lib.hid R.bel
      have HOWN := Lib.hid (fun q (hq : (Value.slice a1 k cc1).ownBlock = some q) => (World.ownsRow.lt hrow q hq).1)
      have HAT := Lib.hid R.at_
      have hroom := R.at_.room
      have hfar := R.far
      clear hrow hrow2 hnth hT R hmm
      go_wp2_with fail
      refine wp_region_held_drew (S := (SpAt · w2.heap.size c)) (by kernel_rfl) (HAT.out.below ((Below.refl _ _).drew)) (fun hHeld => ?_)
      refine wpAnyH_take (i := 0) (oi := ?oe1o) (v := ?oe1v) ?oe1h (by kernel_rfl) (by kernel_rfl) (by kernel_rfl) ?oe1q ?oe1y hHeld ?oe1r
      case oe1h => (simp only [List.getElem?_toArray, List.getElem?_cons_zero]; rfl)
      case oe1q => exact fun _ _ _ h => h
      case oe1y => (refine Or.inl ⟨by first | kernel_rfl | rfl, ?_⟩; intro w hSw; (try dsimp only at hSw); obtain ⟨y0, y1⟩ := hSw; go_simp <;> (try with_reducible rfl))
      try simp only [Act.put, List.setIfInBounds_toArray, List.set_cons_zero, List.set_cons_succ]
      refine wpAnyH_take (i := 1) (oi := ?oe2o) (v := ?oe2v) ?oe2h (by kernel_rfl) (by kernel_rfl) (by kernel_rfl) ?oe2q ?oe2y hHeld ?oe2r
      case oe2h => (simp only [List.getElem?_toArray, List.getElem?_cons_succ, List.getElem?_cons_zero]; rfl)
      case oe2q => exact fun _ _ _ h => h
      case oe2y => (refine Or.inl ⟨by first | kernel_rfl | rfl, ?_⟩; intro w hSw; (try dsimp only at hSw); obtain ⟨y0, y1⟩ := hSw; go_simp <;> (try with_reducible rfl))
      try simp only [Act.put, List.setIfInBounds_toArray, List.set_cons_zero, List.set_cons_succ]
      refine wpAnyH_take (i := 2) (oi := ?oe3o) (v := ?oe3v) ?oe3h (by kernel_rfl) (by kernel_rfl) (by kernel_rfl) ?oe3q ?oe3y hHeld ?oe3r
      case oe3h => (simp only [List.getElem?_toArray, List.getElem?_cons_succ, List.getElem?_cons_zero]; rfl)
      case oe3q => exact fun _ _ _ h => h
      case oe3y => (refine Or.inl ⟨by first | kernel_rfl | rfl, ?_⟩; intro w hSw; (try dsimp only at hSw); obtain ⟨y0, y1⟩ := hSw; go_simp <;> (try with_reducible rfl))
      try simp only [Act.put, List.setIfInBounds_toArray, List.set_cons_zero, List.set_cons_succ]
      refine wpAnyH_take (i := 3) (oi := ?oe4o) (v := ?oe4v) ?oe4h (by kernel_rfl) (by kernel_rfl) (by kernel_rfl) ?oe4q ?oe4y hHeld ?oe4r
      case oe4h => (simp only [List.getElem?_toArray, List.getElem?_cons_succ, List.getElem?_cons_zero]; rfl)
      case oe4q => exact fun _ _ _ h => h
      case oe4y => (refine Or.inl ⟨by first | kernel_rfl | rfl, ?_⟩; intro w hSw; (try dsimp only at hSw); obtain ⟨y0, y1⟩ := hSw; go_simp <;> (try with_reducible rfl))
      try simp only [Act.put, List.setIfInBounds_toArray, List.set_cons_zero, List.set_cons_succ]
      refine wpAnyH_take (i := 4) (oi := ?oe5o) (v := ?oe5v) ?oe5h (by kernel_rfl) (by kernel_rfl) (by kernel_rfl) ?oe5q ?oe5y hHeld ?oe5r
      case oe5h => (simp only [List.getElem?_toArray, List.getElem?_cons_succ, List.getElem?_cons_zero]; rfl)
      case oe5q => exact fun _ _ _ h => h
      case oe5y => (refine Or.inl ⟨by first | kernel_rfl | rfl, ?_⟩; intro w hSw; (try dsimp only at hSw); obtain ⟨y0, y1⟩ := hSw; go_simp <;> (try with_reducible rfl))
      try simp only [Act.put, List.setIfInBounds_toArray, List.set_cons_zero, List.set_cons_succ]
      refine wpAnyH_take (i := 5) (oi := ?oe6o) (v := ?oe6v) ?oe6h (by kernel_rfl) (by kernel_rfl) (by kernel_rfl) ?oe6q ?oe6y hHeld ?oe6r
      case oe6h => (simp only [List.getElem?_toArray, List.getElem?_cons_succ, List.getElem?_cons_zero]; rfl)
      case oe6q => exact fun _ _ _ h => h
      case oe6y => (refine Or.inl ⟨by first | kernel_rfl | rfl, ?_⟩; intro w hSw; (try dsimp only at hSw); obtain ⟨y0, y1⟩ := hSw; go_simp <;> (try with_reducible rfl))
      try simp only [Act.put, List.setIfInBounds_toArray, List.set_cons_zero, List.set_cons_succ]
      refine wpAnyH_take (i := 6) (oi := ?oe7o) (v := ?oe7v) ?oe7h (by kernel_rfl) (by kernel_rfl) (by kernel_rfl) ?oe7q ?oe7y hHeld ?oe7r
      case oe7h => (simp only [List.getElem?_toArray, List.getElem?_cons_succ, List.getElem?_cons_zero]; rfl)
      case oe7q => exact fun _ _ _ h => h
      case oe7y => (refine Or.inl ⟨by first | kernel_rfl | rfl, ?_⟩; intro w hSw; (try dsimp only at hSw); obtain ⟨y0, y1⟩ := hSw; go_simp <;> (try with_reducible rfl))
      try simp only [Act.put, List.setIfInBounds_toArray, List.set_cons_zero, List.set_cons_succ]
      refine wpAnyH_take (i := 7) (oi := ?oe8o) (v := ?oe8v) ?oe8h (by kernel_rfl) (by kernel_rfl) (by kernel_rfl) ?oe8q ?oe8y hHeld ?oe8r
      case oe8h => (simp only [List.getElem?_toArray, List.getElem?_cons_succ, List.getElem?_cons_zero]; rfl)
      case oe8q => exact fun _ _ _ h => h
      case oe8y => (refine Or.inl ⟨by first | kernel_rfl | rfl, ?_⟩; intro w hSw; (try dsimp only at hSw); obtain ⟨y0, y1⟩ := hSw; go_simp <;> (try with_reducible rfl))
      try simp only [Act.put, List.setIfInBounds_toArray, List.set_cons_zero, List.set_cons_succ]
      refine wpAnyH_take (i := 8) (oi := ?oe9o) (v := ?oe9v) ?oe9h (by kernel_rfl) (by kernel_rfl) (by kernel_rfl) ?oe9q ?oe9y hHeld ?oe9r
      case oe9h => (simp only [List.getElem?_toArray, List.getElem?_cons_succ, List.getElem?_cons_zero]; rfl)
      case oe9q => exact fun _ _ _ h => h
      case oe9y => (refine Or.inl ⟨by first | kernel_rfl | rfl, ?_⟩; intro w hSw; (try dsimp only at hSw); obtain ⟨y0, y1⟩ := hSw; go_simp <;> (try with_reducible rfl))
      try simp only [Act.put, List.setIfInBounds_toArray, List.set_cons_zero, List.set_cons_succ]
      refine wpAnyH_take (i := 9) (oi := ?oe10o) (v := ?oe10v) ?oe10h (by kernel_rfl) (by kernel_rfl) (by kernel_rfl) ?oe10q ?oe10y hHeld ?oe10r
      case oe10h => (simp only [List.getElem?_toArray, List.getElem?_cons_succ, List.getElem?_cons_zero]; rfl)
      case oe10q => exact fun _ _ _ h => h
      case oe10y => (refine Or.inl ⟨by first | kernel_rfl | rfl, ?_⟩; intro w hSw; (try dsimp only at hSw); obtain ⟨y0, y1⟩ := hSw; go_simp <;> (try with_reducible rfl))
      try simp only [Act.put, List.setIfInBounds_toArray, List.set_cons_zero, List.set_cons_succ]
      refine wpAnyH_take (i := 10) (oi := ?oe11o) (v := ?oe11v) ?oe11h (by kernel_rfl) (by kernel_rfl) (by kernel_rfl) ?oe11q ?oe11y hHeld ?oe11r
      case oe11h => (simp only [List.getElem?_toArray, List.getElem?_cons_succ, List.getElem?_cons_zero]; rfl)
      case oe11q => exact fun _ _ _ h => h
      case oe11y => (refine Or.inl ⟨by first | kernel_rfl | rfl, ?_⟩; intro w hSw; (try dsimp only at hSw); obtain ⟨y0, y1⟩ := hSw; go_simp <;> (try with_reducible rfl))
      try simp only [Act.put, List.setIfInBounds_toArray, List.set_cons_zero, List.set_cons_succ]
      refine wpAnyH_take (i := 11) (oi := ?oe12o) (v := ?oe12v) ?oe12h (by kernel_rfl) (by kernel_rfl) (by kernel_rfl) ?oe12q ?oe12y hHeld ?oe12r
      case oe12h => (simp only [List.getElem?_toArray, List.getElem?_cons_succ, List.getElem?_cons_zero]; rfl)
      case oe12q => exact fun _ _ _ h => h
      case oe12y => (refine Or.inl ⟨by first | kernel_rfl | rfl, ?_⟩; intro w hSw; (try dsimp only at hSw); obtain ⟨y0, y1⟩ := hSw; go_simp <;> (try with_reducible rfl))
      try simp only [Act.put, List.setIfInBounds_toArray, List.set_cons_zero, List.set_cons_succ]
      refine wpAnyH_take (i := 12) (oi := ?oe13o) (v := ?oe13v) ?oe13h (by kernel_rfl) (by kernel_rfl) (by kernel_rfl) ?oe13q ?oe13y hHeld ?oe13r
      case oe13h => (simp only [List.getElem?_toArray, List.getElem?_cons_succ, List.getElem?_cons_zero]; rfl)
      case oe13q => exact fun _ _ _ h => h
      case oe13y => (refine Or.inl ⟨by first | kernel_rfl | rfl, ?_⟩; intro w hSw; (try dsimp only at hSw); obtain ⟨y0, y1⟩ := hSw; go_simp <;> (try with_reducible rfl))
      try simp only [Act.put, List.setIfInBounds_toArray, List.set_cons_zero, List.set_cons_succ]
      refine wpAnyH_take (i := 13) (oi := ?oe14o) (v := ?oe14v) ?oe14h (by kernel_rfl) (by kernel_rfl) (by kernel_rfl) ?oe14q ?oe14y hHeld ?oe14r
      case oe14h => (simp only [List.getElem?_toArray, List.getElem?_cons_succ, List.getElem?_cons_zero]; rfl)
      case oe14q => exact fun _ _ _ h => h
      case oe14y => (refine Or.inl ⟨by first | kernel_rfl | rfl, ?_⟩; intro w hSw; (try dsimp only at hSw); obtain ⟨y0, y1⟩ := hSw; go_simp <;> (try with_reducible rfl))
      try simp only [Act.put, List.setIfInBounds_toArray, List.set_cons_zero, List.set_cons_succ]
      refine wpAnyH_take (i := 14) (oi := ?oe15o) (v := ?oe15v) ?oe15h (by kernel_rfl) (by kernel_rfl) (by kernel_rfl) ?oe15q ?oe15y hHeld ?oe15r
      case oe15h => (simp only [List.getElem?_toArray, List.getElem?_cons_succ, List.getElem?_cons_zero]; rfl)
      case oe15q => exact fun _ _ _ h => h
      case oe15y => (refine Or.inl ⟨by first | kernel_rfl | rfl, ?_⟩; intro w hSw; (try dsimp only at hSw); obtain ⟨y0, y1⟩ := hSw; go_simp <;> (try with_reducible rfl))
      try simp only [Act.put, List.setIfInBounds_toArray, List.set_cons_zero, List.set_cons_succ]
      refine wpAnyH_ready (rs := [15]) (by kernel_rfl) (by simp) ?_
      refine (AllReadyH.cons rfl (fun K hK => ?_) AllReadyH.nil)
      go_simp
      ((with_reducible refine (kt _).mono ?_); rintro e w5 ⟨rfl, rfl⟩)
      refine hK.out _ _ (hHeld) (fun hHeld => ?_)
      clear hK K
      try simp only [Act.put, List.setIfInBounds_toArray]
      refine wpAnyH_take (i := 16) (oi := ?oe16o) (v := ?oe16v) ?oe16h (by kernel_rfl) (by kernel_rfl) (by kernel_rfl) ?oe16q ?oe16y hHeld ?oe16r
      case oe16h => (simp only [List.getElem?_toArray, List.getElem?_cons_succ, List.getElem?_cons_zero]; rfl)
      case oe16q => exact fun _ _ _ h => h
      case oe16y => (refine Or.inl ⟨by first | kernel_rfl | rfl, ?_⟩; intro w hSw; (try dsimp only at hSw); obtain ⟨y0, y1⟩ := hSw; go_simp <;> (try with_reducible rfl))
      try simp only [Act.put, List.setIfInBounds_toArray, List.set_cons_zero, List.set_cons_succ]
      refine wpAnyH_ready (rs := [17]) (by kernel_rfl) (by simp) ?_
      refine (AllReadyH.cons rfl (fun K hK => ?_) AllReadyH.nil)
      go_simp
      skip
      refine hK.out _ _ (hHeld.below ((Below.refl _ _).alloc (Nat.le_refl _) _)) (fun hHeld => ?_)
      clear hK K
      try simp only [Act.put, List.setIfInBounds_toArray]
      refine wpAnyH_ready (rs := [18]) (by kernel_rfl) (by simp) ?_
      refine (AllReadyH.cons rfl (fun K hK => ?_) AllReadyH.nil)
      refine (if_pos (by kernel_rfl)).mpr ?_
      refine wp_append_own _ (.tmp 30) (.tmp 47) 29 rfl (w2.heap.size + 1) 26 i0 (.agg #[.int .i64 0, .int .i64 0]) 2 16 Tryd.underlying29 hi hz0 hz1 hz2 rfl (by decide) (.slice a1 k cc1) k _ (by first | rfl | simp [Act.eval, Act.put]) HROW.out ⟨wr.heap.size, 0, none⟩ 1 1 (cells2 ⟨F, T⟩) (by first | rfl | simp [Act.eval, Act.put]) rfl ?n1 ?n2 ?n3 ?n4 ?n5 ?_
      case n1 =>
        intro j x hj
        match j, hj with
        | 0, hj | 1, hj => simp [cells2] at hj; subst hj; first | (simp [Addr.add]; done) | (simp [go_sem, Addr.add]; done) | (simp; done)
      case n2 => intro x hx; simp [cells2] at hx; rcases hx with rfl | rfl <;> rfl
      case n3 => unfold maxLen; omega
      case n4 => omega
      case n5 => (try simp); omega
      intro v7 w7 hown hgrow _
      have hB0 : Below (w2.heap.size + 1) wr w7 := ((Below.refl _ _).drew.alloc (by simp; omega) (.cells #[.int .i64 F, .int .i64 T] 26)).grown hgrow (by simp; omega) HOWN.out
      have hB3 := HBEL.out.trans (hB0.mono (by omega))
      have hat7 : SpAt w7 w2.heap.size c := ⟨(hB0.cell (p := ⟨w2.heap.size, 0, none⟩) (Nat.lt_succ_self _)).trans HAT.out.c0, (hB0.cell (p := ⟨w2.heap.size, 1, none⟩) (Nat.lt_succ_self _)).trans HAT.out.c1⟩
      have HR3 := Lib.hid (show EaR w w7 c W w2.heap.size v7 (k + 1) from ⟨by
        unfold SpRow
        rw [List.range_succ, List.map_append, List.length_append, List.flatMap_append, List.length_map, List.length_range]
        simpa [HNTH.out, cells2] using hown, hat7, hB3, hfar⟩)
      refine hK.out _ _ (HR3.out.at_) (fun hHeld => ?_)
      clear hK K
      try simp only [Act.put, List.setIfInBounds_toArray]
      refine wpAnyH_take (i := 19) (oi := ?oe17o) (v := ?oe17v) ?oe17h (by kernel_rfl) (by kernel_rfl) (by kernel_rfl) ?oe17q ?oe17y hHeld ?oe17r
      case oe17h => (simp only [List.getElem?_toArray, List.getElem?_cons_succ, List.getElem?_cons_zero]; rfl)
      case oe17q => exact fun _ _ _ h => h
      case oe17y => (refine Or.inl ⟨by first | kernel_rfl | rfl, ?_⟩; intro w hSw; (try dsimp only at hSw); obtain ⟨y0, y1⟩ := hSw; go_simp <;> (try with_reducible rfl))
      try simp only [Act.put]
      refine wpAnyH_done (by kernel_rfl) ?_ _
      clear hHeld
      go_wp2
      go_roundw
      case rel => exact ⟨k + 1, by omega, by omega, by go_num, HR3.out⟩
      case measure => simp [intOf]; omega
    · have hend : min n.toNat most = k := by omega
      have hg2 : ((k : Int) < n ∧ ¬ (k : Int) < (most : Int)) ∨ ¬ (k : Int) < n := by omega
      have HR := Lib.hid R
      have HE := Lib.hid (show s.each tier most = (List.range k).map (nthW c W) by rw [HL.out, hend])
      clear R hgo hend
      rcases hg2 with ⟨hg2, hg3⟩ | hg2
      all_goals
        go_wp2
        go_ret
        exact ⟨_, rfl, by rw [HE.out]; exact HR.out.row.lower (by have := HR.out.far; omega), HR.out.bel⟩
end Go.Proofs.YtdkenokjdiamhaaDoor
