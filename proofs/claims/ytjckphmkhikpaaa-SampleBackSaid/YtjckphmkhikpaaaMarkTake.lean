/- Contracts of Bytes and Take, of package mark and of the document. -/
import Derived.Test.YtjckphmkhikpaaaMarkStamp
import Derived.Test.YtjckphmkhikpaaaMarkTell
namespace Go.Proofs.Ytjckphmkhikpaaa
open Go.RowKit Go.Proofs.Ytjckphmkhikpaaa.Vi Go.Proofs.Ytjckphmkhikpaaa.Mk

/-- A stamp's bytes. -/
def St.bytes (a : St) : List UInt8 := if a.ok then enc a.c.toNat ++ enc a.s.toNat ++ enc a.q.toNat else []
theorem St.bytes_yes {a : St} (h : a.ok = true) : a.bytes = enc a.c.toNat ++ enc a.s.toNat ++ enc a.q.toNat := if_pos h
theorem St.bytes_no {a : St} (h : a.ok = false) : a.bytes = [] := by unfold St.bytes; rw [if_neg]; simp [h]
theorem St.ok_iff {a : St} : a.ok = true ↔ 1 ≤ a.c ∧ a.c ≤ 1099511627776 ∧ 0 ≤ a.s ∧ a.s ≤ 7 ∧ 1 ≤ a.q ∧ a.q ≤ 1099511627776 := by unfold St.ok; simp
theorem checkV (a : St) (x : Int) (hx : Hid (a.err = x)) (w : World) : Calls Try.prog 47 #[.agg #[.int .i64 a.c, .int .i64 a.s, .int .i64 a.q]] w fun e w' => e = .returned (.int .i64 x) ∧ Below w.heap.size w w' := by
  have := check_is a w
  rw [hx.out] at this; exact this
theorem rcheckV (a : St) (x : Int) (hx : Hid (a.err = x)) (w : World) : Calls Try.prog 52 #[.agg #[.int .i64 a.c, .int .i64 a.s, .int .i64 a.q]] w fun e w' => e = .returned (.int .i64 x) ∧ Below w.heap.size w w' := by
  have := rcheck_is a w
  rw [hx.out] at this; exact this
/-- One stamp in its block. -/
structure Held1 (w : World) (b : Nat) (a : St) (w' : World) : Prop where
  h : StAt w' b a
  bel : Below w.heap.size w w'
theorem Held1.keep {w w1 w2 : World} {b : Nat} {a : St} (h : Held1 w b a w1) (k : Below w1.heap.size w1 w2) : Held1 w b a w2 := ⟨h.h.below k, bel_next h.bel k⟩
theorem Held1.drew {w w1 : World} {b : Nat} {a : St} (h : Held1 w b a w1) : Held1 w b a w1.drew := h.keep ((Below.refl _ _).drew)

set_option maxHeartbeats 4000000 in
theorem bytes_is (a : St) (S : ByteArray) (w : World) (hS : Hid (tx a.bytes = S)) : Calls Try.prog 37 #[.agg #[.int .i64 a.c, .int .i64 a.s, .int .i64 a.q]] w (TextDone S w) := by
  have HA := StAt.new w a
  obtain ⟨e0, e1, e2⟩ := HA
  cases hok : a.ok with
  | false =>
    have hk := fun w => checkV a 1 (Lib.hid (by unfold St.err; rw [hok]; rfl)) w
    have hS2 := hS.out
    rw [St.bytes_no hok] at hS2
    clear hS
    go_enter Try.func37, Try.ntmps37
    go_wp2_with (go_at_call 47; (with_reducible refine (hk _).mono ?_); rintro e w1 ⟨rfl, hb1⟩)
    go_ret
    exact ⟨by rw [← hS2]; rfl, by (repeat (first | exact Below.refl _ _ | refine below_drewN ?_ _ | refine Below.drew ?_ | (refine Below.setCell ?_ (by simp; try omega) _) | refine bel_new ?_ _ | (refine bel_next ?_ (by assumption))))⟩
  | true =>
    have hk := fun w => checkV a 0 (Lib.hid (by unfold St.err; rw [hok]; rfl)) w
    obtain ⟨b1, b2, b3, b4, b5, b6⟩ := St.ok_iff.1 hok
    obtain ⟨s1, hs1⟩ : ∃ s, tx (enc a.c.toNat) = s := ⟨_, rfl⟩
    obtain ⟨s2, hs2⟩ : ∃ s, tx (enc a.s.toNat) = s := ⟨_, rfl⟩
    obtain ⟨s3, hs3⟩ : ∃ s, tx (enc a.q.toNat) = s := ⟨_, rfl⟩
    have p1 := fun w => putInt a.c s1 w (by omega) (by omega) (Lib.hid hs1)
    have p2 := fun w => putInt a.s s2 w (by omega) (by omega) (Lib.hid hs2)
    have p3 := fun w => putInt a.q s3 w (by omega) (by omega) (Lib.hid hs3)
    have z1 : s1.size ≤ 10 := by rw [← hs1, tx_size]; exact enc_len10 _ (by omega)
    have z2 : s2.size ≤ 10 := by rw [← hs2, tx_size]; exact enc_len10 _ (by omega)
    have z3 : s3.size ≤ 10 := by rw [← hs3, tx_size]; exact enc_len10 _ (by omega)
    obtain ⟨x1, hx1⟩ : ∃ s, s1 ++ s2 = s := ⟨_, rfl⟩
    obtain ⟨x2, hx2⟩ : ∃ s, x1 ++ s3 = s := ⟨_, rfl⟩
    have hSx : x2 = S := by rw [← hS.out, St.bytes_yes hok, ← hx2, ← hx1, ← hs1, ← hs2, ← hs3, tx_app, tx_app]
    have hzx : x1.size = s1.size + s2.size := by rw [← hx1]; simp
    have hq1 : s1.size + s2.size ≤ 9223372036854775807 := by omega
    have hq2 : x1.size + s3.size ≤ 9223372036854775807 := by omega
    have hq3 : ¬ 9223372036854775807 < s1.size + s2.size := by omega
    have hq4 : ¬ 9223372036854775807 < x1.size + s3.size := by omega
    have w1 := u64_in a.c (by omega) (by omega)
    have w2 := u64_in a.s (by omega) (by omega)
    have w3 := u64_in a.q (by omega) (by omega)
    clear hS hs1 hs2 hs3 hzx z1 z2 z3 b1 b2 b3 b4 b5 b6
    go_enter Try.func37, Try.ntmps37
    go_wp2_with (go_at_call 47; (with_reducible refine (hk _).mono ?_); rintro e w1 ⟨rfl, hb1⟩)
    have hH : Held1 w w.heap.size a w1 := ⟨StAt.below ⟨e0, e1, e2⟩ hb1, by (repeat (first | exact Below.refl _ _ | refine below_drewN ?_ _ | refine Below.drew ?_ | (refine Below.setCell ?_ (by simp; try omega) _) | refine bel_new ?_ _ | (refine bel_next ?_ (by assumption))))⟩
    clear hb1 e0 e1 e2
    refine wp_region_held_drew (S := (Held1 w w.heap.size a)) (by kernel_rfl) hH.drew (fun hHeld => ?_)
    refine wpAnyH_take (i := 0) (oi := ?obytes1o) (v := ?obytes1v) ?obytes1h (by kernel_rfl) (by kernel_rfl) (by kernel_rfl) ?obytes1q ?obytes1y hHeld ?obytes1r
    case obytes1h => (simp only [List.getElem?_toArray, List.getElem?_cons_zero]; rfl)
    case obytes1q => exact fun _ _ _ h => h
    case obytes1y => (refine Or.inl ⟨by first | kernel_rfl | rfl, ?_⟩; intro w hSw; (try dsimp only at hSw); obtain ⟨⟨x0, y0, z0⟩, -⟩ := hSw; go_simp <;> (try with_reducible rfl))
    try simp only [Act.put, List.setIfInBounds_toArray, List.set_cons_zero, List.set_cons_succ]
    refine wpAnyH_take (i := 1) (oi := ?obytes2o) (v := ?obytes2v) ?obytes2h (by kernel_rfl) (by kernel_rfl) (by kernel_rfl) ?obytes2q ?obytes2y hHeld ?obytes2r
    case obytes2h => (simp only [List.getElem?_toArray, List.getElem?_cons_succ, List.getElem?_cons_zero]; rfl)
    case obytes2q => exact fun _ _ _ h => h
    case obytes2y => (refine Or.inl ⟨by first | kernel_rfl | rfl, ?_⟩; intro w hSw; (try dsimp only at hSw); obtain ⟨⟨x0, y0, z0⟩, -⟩ := hSw; go_simp <;> (try with_reducible rfl))
    try simp only [Act.put, List.setIfInBounds_toArray, List.set_cons_zero, List.set_cons_succ]
    refine wpAnyH_take (i := 2) (oi := ?obytes3o) (v := ?obytes3v) ?obytes3h (by kernel_rfl) (by kernel_rfl) (by kernel_rfl) ?obytes3q ?obytes3y hHeld ?obytes3r
    case obytes3h => (simp only [List.getElem?_toArray, List.getElem?_cons_succ, List.getElem?_cons_zero]; rfl)
    case obytes3q => exact fun _ _ _ h => h
    case obytes3y => (refine Or.inl ⟨by first | kernel_rfl | rfl, ?_⟩; intro w hSw; (try dsimp only at hSw); obtain ⟨⟨x0, y0, z0⟩, -⟩ := hSw; go_simp <;> (try with_reducible rfl))
    try simp only [Act.put, List.setIfInBounds_toArray, List.set_cons_zero, List.set_cons_succ]
    refine wpAnyH_take (i := 4) (oi := ?obytes4o) (v := ?obytes4v) ?obytes4h (by kernel_rfl) (by kernel_rfl) (by kernel_rfl) ?obytes4q ?obytes4y hHeld ?obytes4r
    case obytes4h => (simp only [List.getElem?_toArray, List.getElem?_cons_succ, List.getElem?_cons_zero]; rfl)
    case obytes4q => exact fun _ _ _ h => h
    case obytes4y => (refine Or.inl ⟨by first | kernel_rfl | rfl, ?_⟩; intro w hSw; (try dsimp only at hSw); obtain ⟨⟨x0, y0, z0⟩, -⟩ := hSw; go_simp <;> (try with_reducible rfl))
    try simp only [Act.put, List.setIfInBounds_toArray, List.set_cons_zero, List.set_cons_succ]
    refine wpAnyH_take (i := 5) (oi := ?obytes5o) (v := ?obytes5v) ?obytes5h (by kernel_rfl) (by kernel_rfl) (by kernel_rfl) ?obytes5q ?obytes5y hHeld ?obytes5r
    case obytes5h => (simp only [List.getElem?_toArray, List.getElem?_cons_succ, List.getElem?_cons_zero]; rfl)
    case obytes5q => exact fun _ _ _ h => h
    case obytes5y => (refine Or.inl ⟨by first | kernel_rfl | rfl, ?_⟩; intro w hSw; (try dsimp only at hSw); obtain ⟨⟨x0, y0, z0⟩, -⟩ := hSw; go_simp <;> (try with_reducible rfl))
    try simp only [Act.put, List.setIfInBounds_toArray, List.set_cons_zero, List.set_cons_succ]
    refine wpAnyH_take (i := 6) (oi := ?obytes6o) (v := ?obytes6v) ?obytes6h (by kernel_rfl) (by kernel_rfl) (by kernel_rfl) ?obytes6q ?obytes6y hHeld ?obytes6r
    case obytes6h => (simp only [List.getElem?_toArray, List.getElem?_cons_succ, List.getElem?_cons_zero]; rfl)
    case obytes6q => exact fun _ _ _ h => h
    case obytes6y => (refine Or.inl ⟨by first | kernel_rfl | rfl, ?_⟩; intro w hSw; (try dsimp only at hSw); obtain ⟨⟨x0, y0, z0⟩, -⟩ := hSw; go_simp <;> (try with_reducible rfl))
    try simp only [Act.put, List.setIfInBounds_toArray, List.set_cons_zero, List.set_cons_succ]
    refine wpAnyH_take (i := 9) (oi := ?obytes7o) (v := ?obytes7v) ?obytes7h (by kernel_rfl) (by kernel_rfl) (by kernel_rfl) ?obytes7q ?obytes7y hHeld ?obytes7r
    case obytes7h => (simp only [List.getElem?_toArray, List.getElem?_cons_succ, List.getElem?_cons_zero]; rfl)
    case obytes7q => exact fun _ _ _ h => h
    case obytes7y => (refine Or.inl ⟨by first | kernel_rfl | rfl, ?_⟩; intro w hSw; (try dsimp only at hSw); obtain ⟨⟨x0, y0, z0⟩, -⟩ := hSw; go_simp <;> (try with_reducible rfl))
    try simp only [Act.put, List.setIfInBounds_toArray, List.set_cons_zero, List.set_cons_succ]
    refine wpAnyH_take (i := 10) (oi := ?obytes8o) (v := ?obytes8v) ?obytes8h (by kernel_rfl) (by kernel_rfl) (by kernel_rfl) ?obytes8q ?obytes8y hHeld ?obytes8r
    case obytes8h => (simp only [List.getElem?_toArray, List.getElem?_cons_succ, List.getElem?_cons_zero]; rfl)
    case obytes8q => exact fun _ _ _ h => h
    case obytes8y => (refine Or.inl ⟨by first | kernel_rfl | rfl, ?_⟩; intro w hSw; (try dsimp only at hSw); obtain ⟨⟨x0, y0, z0⟩, -⟩ := hSw; go_simp <;> (try with_reducible rfl))
    try simp only [Act.put, List.setIfInBounds_toArray, List.set_cons_zero, List.set_cons_succ]
    refine wpAnyH_take (i := 11) (oi := ?obytes9o) (v := ?obytes9v) ?obytes9h (by kernel_rfl) (by kernel_rfl) (by kernel_rfl) ?obytes9q ?obytes9y hHeld ?obytes9r
    case obytes9h => (simp only [List.getElem?_toArray, List.getElem?_cons_succ, List.getElem?_cons_zero]; rfl)
    case obytes9q => exact fun _ _ _ h => h
    case obytes9y => (refine Or.inl ⟨by first | kernel_rfl | rfl, ?_⟩; intro w hSw; (try dsimp only at hSw); obtain ⟨⟨x0, y0, z0⟩, -⟩ := hSw; go_simp <;> (try with_reducible rfl))
    try simp only [Act.put, List.setIfInBounds_toArray, List.set_cons_zero, List.set_cons_succ]
    refine wpAnyH_ready (rs := [3]) (by kernel_rfl) (by simp) ?_
    refine (AllReadyH.cons rfl (fun K hK => ?_) AllReadyH.nil)
    go_simp
    ((with_reducible refine (p1 _).mono ?_); rintro e w' ⟨rfl, hb'⟩)
    refine hK.out _ _ (hHeld.keep hb') (fun hHeld => ?_)
    clear hK K
    try simp only [Act.put, List.setIfInBounds_toArray, List.set_cons_zero, List.set_cons_succ]
    refine wpAnyH_ready (rs := [7]) (by kernel_rfl) (by simp) ?_
    refine (AllReadyH.cons rfl (fun K hK => ?_) AllReadyH.nil)
    go_simp
    ((with_reducible refine (p2 _).mono ?_); rintro e w' ⟨rfl, hb'⟩)
    refine hK.out _ _ (hHeld.keep hb') (fun hHeld => ?_)
    clear hK K
    try simp only [Act.put, List.setIfInBounds_toArray, List.set_cons_zero, List.set_cons_succ]
    refine wpAnyH_take (i := 8) (oi := ?obytes10o) (v := ?obytes10v) ?obytes10h (by kernel_rfl) (by kernel_rfl) (by kernel_rfl) ?obytes10q ?obytes10y hHeld ?obytes10r
    case obytes10h => (simp only [List.getElem?_toArray, List.getElem?_cons_succ, List.getElem?_cons_zero]; rfl)
    case obytes10q => exact fun _ _ _ h => h
    case obytes10y => (refine Or.inl ⟨by first | kernel_rfl | rfl, ?_⟩; intro w hSw; (try dsimp only at hSw); obtain ⟨⟨x0, y0, z0⟩, -⟩ := hSw; go_simp <;> (try with_reducible rfl))
    try simp only [Act.put, List.setIfInBounds_toArray, List.set_cons_zero, List.set_cons_succ]
    refine wpAnyH_ready (rs := [12]) (by kernel_rfl) (by simp) ?_
    refine (AllReadyH.cons rfl (fun K hK => ?_) AllReadyH.nil)
    go_simp
    ((with_reducible refine (p3 _).mono ?_); rintro e w' ⟨rfl, hb'⟩)
    refine hK.out _ _ (hHeld.keep hb') (fun hHeld => ?_)
    clear hK K
    try simp only [Act.put, List.setIfInBounds_toArray, List.set_cons_zero, List.set_cons_succ]
    refine wpAnyH_take (i := 13) (oi := ?obytes11o) (v := ?obytes11v) ?obytes11h (by kernel_rfl) (by kernel_rfl) (by kernel_rfl) ?obytes11q ?obytes11y hHeld ?obytes11r
    case obytes11h => (simp only [List.getElem?_toArray, List.getElem?_cons_succ, List.getElem?_cons_zero]; rfl)
    case obytes11q => exact fun _ _ _ h => h
    case obytes11y => (refine Or.inl ⟨by first | kernel_rfl | rfl, ?_⟩; intro w hSw; (try dsimp only at hSw); obtain ⟨⟨x0, y0, z0⟩, -⟩ := hSw; go_simp <;> (try with_reducible rfl))
    try simp only [Act.put, List.setIfInBounds_toArray, List.set_cons_zero, List.set_cons_succ]
    refine wpAnyH_take (i := 14) (oi := ?obytes12o) (v := ?obytes12v) ?obytes12h (by kernel_rfl) (by kernel_rfl) (by kernel_rfl) ?obytes12q ?obytes12y hHeld ?obytes12r
    case obytes12h => (simp only [List.getElem?_toArray, List.getElem?_cons_succ, List.getElem?_cons_zero]; rfl)
    case obytes12q => exact fun _ _ _ h => h
    case obytes12y => (refine Or.inl ⟨by first | kernel_rfl | rfl, ?_⟩; intro w hSw; (try dsimp only at hSw); obtain ⟨⟨x0, y0, z0⟩, -⟩ := hSw; go_simp <;> (try with_reducible rfl))
    try simp only [Act.put, List.setIfInBounds_toArray, List.set_cons_zero, List.set_cons_succ]
    refine wpAnyH_done (by kernel_rfl) ?_ _
    have hbel := hHeld.bel
    go_wp2
    go_ret
    exact ⟨by rw [← hSx]; rfl, hbel⟩

set_option maxHeartbeats 4000000 in
theorem rbytes_is (a : St) (S : ByteArray) (w : World) (hS : Hid (tx a.bytes = S)) : Calls Try.prog 43 #[.agg #[.int .i64 a.c, .int .i64 a.s, .int .i64 a.q]] w (TextDone S w) := by
  have HA := StAt.new w a
  obtain ⟨e0, e1, e2⟩ := HA
  cases hok : a.ok with
  | false =>
    have hk := fun w => rcheckV a 1 (Lib.hid (by unfold St.err; rw [hok]; rfl)) w
    have hS2 := hS.out
    rw [St.bytes_no hok] at hS2
    clear hS
    go_enter Try.func43, Try.ntmps43
    go_wp2_with (go_at_call 52; (with_reducible refine (hk _).mono ?_); rintro e w1 ⟨rfl, hb1⟩)
    go_ret
    exact ⟨by rw [← hS2]; rfl, by (repeat (first | exact Below.refl _ _ | refine below_drewN ?_ _ | refine Below.drew ?_ | (refine Below.setCell ?_ (by simp; try omega) _) | refine bel_new ?_ _ | (refine bel_next ?_ (by assumption))))⟩
  | true =>
    have hk := fun w => rcheckV a 0 (Lib.hid (by unfold St.err; rw [hok]; rfl)) w
    obtain ⟨b1, b2, b3, b4, b5, b6⟩ := St.ok_iff.1 hok
    obtain ⟨s1, hs1⟩ : ∃ s, tx (enc a.c.toNat) = s := ⟨_, rfl⟩
    obtain ⟨s2, hs2⟩ : ∃ s, tx (enc a.s.toNat) = s := ⟨_, rfl⟩
    obtain ⟨s3, hs3⟩ : ∃ s, tx (enc a.q.toNat) = s := ⟨_, rfl⟩
    have p1 := fun w => putIntR a.c s1 w (by omega) (by omega) (Lib.hid hs1)
    have p2 := fun w => putIntR a.s s2 w (by omega) (by omega) (Lib.hid hs2)
    have p3 := fun w => putIntR a.q s3 w (by omega) (by omega) (Lib.hid hs3)
    have z1 : s1.size ≤ 10 := by rw [← hs1, tx_size]; exact enc_len10 _ (by omega)
    have z2 : s2.size ≤ 10 := by rw [← hs2, tx_size]; exact enc_len10 _ (by omega)
    have z3 : s3.size ≤ 10 := by rw [← hs3, tx_size]; exact enc_len10 _ (by omega)
    obtain ⟨x1, hx1⟩ : ∃ s, s1 ++ s2 = s := ⟨_, rfl⟩
    obtain ⟨x2, hx2⟩ : ∃ s, x1 ++ s3 = s := ⟨_, rfl⟩
    have hSx : x2 = S := by rw [← hS.out, St.bytes_yes hok, ← hx2, ← hx1, ← hs1, ← hs2, ← hs3, tx_app, tx_app]
    have hzx : x1.size = s1.size + s2.size := by rw [← hx1]; simp
    have hq1 : s1.size + s2.size ≤ 9223372036854775807 := by omega
    have hq2 : x1.size + s3.size ≤ 9223372036854775807 := by omega
    have hq3 : ¬ 9223372036854775807 < s1.size + s2.size := by omega
    have hq4 : ¬ 9223372036854775807 < x1.size + s3.size := by omega
    have w1 := u64_in a.c (by omega) (by omega)
    have w2 := u64_in a.s (by omega) (by omega)
    have w3 := u64_in a.q (by omega) (by omega)
    clear hS hs1 hs2 hs3 hzx z1 z2 z3 b1 b2 b3 b4 b5 b6
    go_enter Try.func43, Try.ntmps43
    go_wp2_with (go_at_call 52; (with_reducible refine (hk _).mono ?_); rintro e w1 ⟨rfl, hb1⟩)
    have hH : Held1 w w.heap.size a w1 := ⟨StAt.below ⟨e0, e1, e2⟩ hb1, by (repeat (first | exact Below.refl _ _ | refine below_drewN ?_ _ | refine Below.drew ?_ | (refine Below.setCell ?_ (by simp; try omega) _) | refine bel_new ?_ _ | (refine bel_next ?_ (by assumption))))⟩
    clear hb1 e0 e1 e2
    refine wp_region_held_drew (S := (Held1 w w.heap.size a)) (by kernel_rfl) hH.drew (fun hHeld => ?_)
    refine wpAnyH_take (i := 0) (oi := ?orbytes1o) (v := ?orbytes1v) ?orbytes1h (by kernel_rfl) (by kernel_rfl) (by kernel_rfl) ?orbytes1q ?orbytes1y hHeld ?orbytes1r
    case orbytes1h => (simp only [List.getElem?_toArray, List.getElem?_cons_zero]; rfl)
    case orbytes1q => exact fun _ _ _ h => h
    case orbytes1y => (refine Or.inl ⟨by first | kernel_rfl | rfl, ?_⟩; intro w hSw; (try dsimp only at hSw); obtain ⟨⟨x0, y0, z0⟩, -⟩ := hSw; go_simp <;> (try with_reducible rfl))
    try simp only [Act.put, List.setIfInBounds_toArray, List.set_cons_zero, List.set_cons_succ]
    refine wpAnyH_take (i := 1) (oi := ?orbytes2o) (v := ?orbytes2v) ?orbytes2h (by kernel_rfl) (by kernel_rfl) (by kernel_rfl) ?orbytes2q ?orbytes2y hHeld ?orbytes2r
    case orbytes2h => (simp only [List.getElem?_toArray, List.getElem?_cons_succ, List.getElem?_cons_zero]; rfl)
    case orbytes2q => exact fun _ _ _ h => h
    case orbytes2y => (refine Or.inl ⟨by first | kernel_rfl | rfl, ?_⟩; intro w hSw; (try dsimp only at hSw); obtain ⟨⟨x0, y0, z0⟩, -⟩ := hSw; go_simp <;> (try with_reducible rfl))
    try simp only [Act.put, List.setIfInBounds_toArray, List.set_cons_zero, List.set_cons_succ]
    refine wpAnyH_take (i := 2) (oi := ?orbytes3o) (v := ?orbytes3v) ?orbytes3h (by kernel_rfl) (by kernel_rfl) (by kernel_rfl) ?orbytes3q ?orbytes3y hHeld ?orbytes3r
    case orbytes3h => (simp only [List.getElem?_toArray, List.getElem?_cons_succ, List.getElem?_cons_zero]; rfl)
    case orbytes3q => exact fun _ _ _ h => h
    case orbytes3y => (refine Or.inl ⟨by first | kernel_rfl | rfl, ?_⟩; intro w hSw; (try dsimp only at hSw); obtain ⟨⟨x0, y0, z0⟩, -⟩ := hSw; go_simp <;> (try with_reducible rfl))
    try simp only [Act.put, List.setIfInBounds_toArray, List.set_cons_zero, List.set_cons_succ]
    refine wpAnyH_take (i := 4) (oi := ?orbytes4o) (v := ?orbytes4v) ?orbytes4h (by kernel_rfl) (by kernel_rfl) (by kernel_rfl) ?orbytes4q ?orbytes4y hHeld ?orbytes4r
    case orbytes4h => (simp only [List.getElem?_toArray, List.getElem?_cons_succ, List.getElem?_cons_zero]; rfl)
    case orbytes4q => exact fun _ _ _ h => h
    case orbytes4y => (refine Or.inl ⟨by first | kernel_rfl | rfl, ?_⟩; intro w hSw; (try dsimp only at hSw); obtain ⟨⟨x0, y0, z0⟩, -⟩ := hSw; go_simp <;> (try with_reducible rfl))
    try simp only [Act.put, List.setIfInBounds_toArray, List.set_cons_zero, List.set_cons_succ]
    refine wpAnyH_take (i := 5) (oi := ?orbytes5o) (v := ?orbytes5v) ?orbytes5h (by kernel_rfl) (by kernel_rfl) (by kernel_rfl) ?orbytes5q ?orbytes5y hHeld ?orbytes5r
    case orbytes5h => (simp only [List.getElem?_toArray, List.getElem?_cons_succ, List.getElem?_cons_zero]; rfl)
    case orbytes5q => exact fun _ _ _ h => h
    case orbytes5y => (refine Or.inl ⟨by first | kernel_rfl | rfl, ?_⟩; intro w hSw; (try dsimp only at hSw); obtain ⟨⟨x0, y0, z0⟩, -⟩ := hSw; go_simp <;> (try with_reducible rfl))
    try simp only [Act.put, List.setIfInBounds_toArray, List.set_cons_zero, List.set_cons_succ]
    refine wpAnyH_take (i := 6) (oi := ?orbytes6o) (v := ?orbytes6v) ?orbytes6h (by kernel_rfl) (by kernel_rfl) (by kernel_rfl) ?orbytes6q ?orbytes6y hHeld ?orbytes6r
    case orbytes6h => (simp only [List.getElem?_toArray, List.getElem?_cons_succ, List.getElem?_cons_zero]; rfl)
    case orbytes6q => exact fun _ _ _ h => h
    case orbytes6y => (refine Or.inl ⟨by first | kernel_rfl | rfl, ?_⟩; intro w hSw; (try dsimp only at hSw); obtain ⟨⟨x0, y0, z0⟩, -⟩ := hSw; go_simp <;> (try with_reducible rfl))
    try simp only [Act.put, List.setIfInBounds_toArray, List.set_cons_zero, List.set_cons_succ]
    refine wpAnyH_take (i := 9) (oi := ?orbytes7o) (v := ?orbytes7v) ?orbytes7h (by kernel_rfl) (by kernel_rfl) (by kernel_rfl) ?orbytes7q ?orbytes7y hHeld ?orbytes7r
    case orbytes7h => (simp only [List.getElem?_toArray, List.getElem?_cons_succ, List.getElem?_cons_zero]; rfl)
    case orbytes7q => exact fun _ _ _ h => h
    case orbytes7y => (refine Or.inl ⟨by first | kernel_rfl | rfl, ?_⟩; intro w hSw; (try dsimp only at hSw); obtain ⟨⟨x0, y0, z0⟩, -⟩ := hSw; go_simp <;> (try with_reducible rfl))
    try simp only [Act.put, List.setIfInBounds_toArray, List.set_cons_zero, List.set_cons_succ]
    refine wpAnyH_take (i := 10) (oi := ?orbytes8o) (v := ?orbytes8v) ?orbytes8h (by kernel_rfl) (by kernel_rfl) (by kernel_rfl) ?orbytes8q ?orbytes8y hHeld ?orbytes8r
    case orbytes8h => (simp only [List.getElem?_toArray, List.getElem?_cons_succ, List.getElem?_cons_zero]; rfl)
    case orbytes8q => exact fun _ _ _ h => h
    case orbytes8y => (refine Or.inl ⟨by first | kernel_rfl | rfl, ?_⟩; intro w hSw; (try dsimp only at hSw); obtain ⟨⟨x0, y0, z0⟩, -⟩ := hSw; go_simp <;> (try with_reducible rfl))
    try simp only [Act.put, List.setIfInBounds_toArray, List.set_cons_zero, List.set_cons_succ]
    refine wpAnyH_take (i := 11) (oi := ?orbytes9o) (v := ?orbytes9v) ?orbytes9h (by kernel_rfl) (by kernel_rfl) (by kernel_rfl) ?orbytes9q ?orbytes9y hHeld ?orbytes9r
    case orbytes9h => (simp only [List.getElem?_toArray, List.getElem?_cons_succ, List.getElem?_cons_zero]; rfl)
    case orbytes9q => exact fun _ _ _ h => h
    case orbytes9y => (refine Or.inl ⟨by first | kernel_rfl | rfl, ?_⟩; intro w hSw; (try dsimp only at hSw); obtain ⟨⟨x0, y0, z0⟩, -⟩ := hSw; go_simp <;> (try with_reducible rfl))
    try simp only [Act.put, List.setIfInBounds_toArray, List.set_cons_zero, List.set_cons_succ]
    refine wpAnyH_ready (rs := [3]) (by kernel_rfl) (by simp) ?_
    refine (AllReadyH.cons rfl (fun K hK => ?_) AllReadyH.nil)
    go_simp
    ((with_reducible refine (p1 _).mono ?_); rintro e w' ⟨rfl, hb'⟩)
    refine hK.out _ _ (hHeld.keep hb') (fun hHeld => ?_)
    clear hK K
    try simp only [Act.put, List.setIfInBounds_toArray, List.set_cons_zero, List.set_cons_succ]
    refine wpAnyH_ready (rs := [7]) (by kernel_rfl) (by simp) ?_
    refine (AllReadyH.cons rfl (fun K hK => ?_) AllReadyH.nil)
    go_simp
    ((with_reducible refine (p2 _).mono ?_); rintro e w' ⟨rfl, hb'⟩)
    refine hK.out _ _ (hHeld.keep hb') (fun hHeld => ?_)
    clear hK K
    try simp only [Act.put, List.setIfInBounds_toArray, List.set_cons_zero, List.set_cons_succ]
    refine wpAnyH_take (i := 8) (oi := ?orbytes10o) (v := ?orbytes10v) ?orbytes10h (by kernel_rfl) (by kernel_rfl) (by kernel_rfl) ?orbytes10q ?orbytes10y hHeld ?orbytes10r
    case orbytes10h => (simp only [List.getElem?_toArray, List.getElem?_cons_succ, List.getElem?_cons_zero]; rfl)
    case orbytes10q => exact fun _ _ _ h => h
    case orbytes10y => (refine Or.inl ⟨by first | kernel_rfl | rfl, ?_⟩; intro w hSw; (try dsimp only at hSw); obtain ⟨⟨x0, y0, z0⟩, -⟩ := hSw; go_simp <;> (try with_reducible rfl))
    try simp only [Act.put, List.setIfInBounds_toArray, List.set_cons_zero, List.set_cons_succ]
    refine wpAnyH_ready (rs := [12]) (by kernel_rfl) (by simp) ?_
    refine (AllReadyH.cons rfl (fun K hK => ?_) AllReadyH.nil)
    go_simp
    ((with_reducible refine (p3 _).mono ?_); rintro e w' ⟨rfl, hb'⟩)
    refine hK.out _ _ (hHeld.keep hb') (fun hHeld => ?_)
    clear hK K
    try simp only [Act.put, List.setIfInBounds_toArray, List.set_cons_zero, List.set_cons_succ]
    refine wpAnyH_take (i := 13) (oi := ?orbytes11o) (v := ?orbytes11v) ?orbytes11h (by kernel_rfl) (by kernel_rfl) (by kernel_rfl) ?orbytes11q ?orbytes11y hHeld ?orbytes11r
    case orbytes11h => (simp only [List.getElem?_toArray, List.getElem?_cons_succ, List.getElem?_cons_zero]; rfl)
    case orbytes11q => exact fun _ _ _ h => h
    case orbytes11y => (refine Or.inl ⟨by first | kernel_rfl | rfl, ?_⟩; intro w hSw; (try dsimp only at hSw); obtain ⟨⟨x0, y0, z0⟩, -⟩ := hSw; go_simp <;> (try with_reducible rfl))
    try simp only [Act.put, List.setIfInBounds_toArray, List.set_cons_zero, List.set_cons_succ]
    refine wpAnyH_take (i := 14) (oi := ?orbytes12o) (v := ?orbytes12v) ?orbytes12h (by kernel_rfl) (by kernel_rfl) (by kernel_rfl) ?orbytes12q ?orbytes12y hHeld ?orbytes12r
    case orbytes12h => (simp only [List.getElem?_toArray, List.getElem?_cons_succ, List.getElem?_cons_zero]; rfl)
    case orbytes12q => exact fun _ _ _ h => h
    case orbytes12y => (refine Or.inl ⟨by first | kernel_rfl | rfl, ?_⟩; intro w hSw; (try dsimp only at hSw); obtain ⟨⟨x0, y0, z0⟩, -⟩ := hSw; go_simp <;> (try with_reducible rfl))
    try simp only [Act.put, List.setIfInBounds_toArray, List.set_cons_zero, List.set_cons_succ]
    refine wpAnyH_done (by kernel_rfl) ?_ _
    have hbel := hHeld.bel
    go_wp2
    go_ret
    exact ⟨by rw [← hSx]; rfl, hbel⟩

theorem RA.other {w : World} {b : Nat} {r : ByteArray} {br : Bool} (h : RA w b r br) (a : Addr) (v : Value) (hne : a.block ≠ b) : RA (w.setCell a v) b r br :=
  ⟨by rw [World.cell?_setCell_far _ _ _ _ hne]; exact h.c0, by rw [World.cell?_setCell_far _ _ _ _ hne]; exact h.c1, by simp [go_sem, h.f0], by simp [go_sem, h.f1]⟩
theorem But.far {b : Nat} {u w : World} (h : But b u w) (a : Addr) (v : Value) (ha : u.heap.size ≤ a.block) : But b u (w.setCell a v) :=
  ⟨h.os, h.tape, h.output, by simpa [World.setCell] using h.size, fun k hk hb => by rw [← h.block k hk hb]; exact Below.heap_setCell _ _ _ _ (by omega)⟩
theorem Out.but {w w' : World} {b d : Nat} (h : Out w b) (k : But d w w') (hd : b ≠ d) : Out w' b :=
  ⟨(k.cell (p := ⟨b, 0, none⟩) hd h.room).trans h.z0, (k.cell (p := ⟨b, 1, none⟩) hd h.room).trans h.z1, (k.cell (p := ⟨b, 2, none⟩) hd h.room).trans h.z2, (k.frozen (p := ⟨b, 0, none⟩) hd h.room).trans h.y0, (k.frozen (p := ⟨b, 1, none⟩) hd h.room).trans h.y1, (k.frozen (p := ⟨b, 2, none⟩) hd h.room).trans h.y2⟩
theorem StAt.but {w w' : World} {b d : Nat} {a : St} (h : StAt w b a) (k : But d w w') (hd : b ≠ d) : StAt w' b a :=
  ⟨(k.cell (p := ⟨b, 0, none⟩) hd h.room).trans h.c0, (k.cell (p := ⟨b, 1, none⟩) hd h.room).trans h.c1, (k.cell (p := ⟨b, 2, none⟩) hd h.room).trans h.c2⟩
theorem StAt.other {w : World} {b : Nat} {a : St} (h : StAt w b a) (x : Addr) (v : Value) (hne : x.block ≠ b) : StAt (w.setCell x v) b a :=
  ⟨by rw [World.cell?_setCell_far _ _ _ _ hne]; exact h.c0, by rw [World.cell?_setCell_far _ _ _ _ hne]; exact h.c1, by rw [World.cell?_setCell_far _ _ _ _ hne]; exact h.c2⟩
theorem StAt.set {w : World} {b : Nat} {a : St} (h : StAt w b a) (z : St) : StAt (((w.setCell ⟨b, 0, none⟩ (.int .i64 z.c)).setCell ⟨b, 1, none⟩ (.int .i64 z.s)).setCell ⟨b, 2, none⟩ (.int .i64 z.q)) b z := by
  obtain ⟨c0, c1, c2⟩ := h
  exact ⟨by simp [go_sem, c0], by simp [go_sem, c1], by simp [go_sem, c2]⟩
theorem but_new {b : Nat} {w a : World} (h : But b w a) (o : Obj) : But b w (a.alloc o) := h.alloc o
theorem but_next {b : Nat} {w a c : World} (h : But b w a) (k : But b a c) : But b w c := h.trans k
theorem but_bel {b : Nat} {w a c : World} (h : But b w a) (k : Below a.heap.size a c) : But b w c := h.trans (But.of k)

/-- The stamp that three calls of Small answer, and what is left. -/
def takeQ (r : ByteArray) (br : Bool) : St × ByteArray × Bool :=
  let x1 := smallQ r br 1099511627776
  let x2 := smallQ x1.2.1 x1.2.2 7
  let x3 := smallQ x2.2.1 x2.2.2 1099511627776
  if (St.mk x1.1 x2.1 x3.1).ok then (St.mk x1.1 x2.1 x3.1, x3.2.1, x3.2.2) else (⟨0, 0, 0⟩, ⟨#[]⟩, true)
theorem smallQ_inv {r r' : ByteArray} {br br' : Bool} {m v : Int} (H : smallQ r br m = (v, r', br')) (h : br = true → r = ⟨#[]⟩) : (br' = true → r' = ⟨#[]⟩ ∧ v = 0) ∧ (br' = false → br = false) ∧ r'.size ≤ r.size := by
  unfold smallQ at H
  split at H
  · rename_i hb
    simp at H
    obtain ⟨rfl, rfl, rfl⟩ := H
    exact ⟨fun _ => ⟨h hb, rfl⟩, fun e => (by cases e), Nat.le_refl _⟩
  · split at H
    · simp at H
      obtain ⟨rfl, rfl, rfl⟩ := H
      exact ⟨fun _ => ⟨rfl, rfl⟩, fun e => (by cases e), Nat.zero_le _⟩
    · rename_i u r1 hf
      have := (numF_bounds hf).2
      split at H
      · rename_i hb _ _
        simp at H
        obtain ⟨rfl, rfl, rfl⟩ := H
        exact ⟨fun e => (by cases e), fun _ => (by simpa using hb), this⟩
      · simp at H
        obtain ⟨rfl, rfl, rfl⟩ := H
        exact ⟨fun _ => ⟨rfl, rfl⟩, fun e => (by cases e), Nat.zero_le _⟩
theorem smallQ_neg {r : ByteArray} {br : Bool} (h : br = true → r = ⟨#[]⟩) : smallQ r br (-1) = (0, ⟨#[]⟩, true) := by
  unfold smallQ
  cases br with
  | true => rw [if_pos rfl, h rfl]
  | false =>
    rw [if_neg (by simp)]
    split
    · rfl
    · rw [if_neg (by omega)]
/-- What Take's three calls answer, one by one, and what that makes. -/
theorem takeQ_parts {r r' : ByteArray} {br br' : Bool} {a : St} (H : takeQ r br = (a, r', br')) (h : br = true → r = ⟨#[]⟩) : ∃ v1 r1 b1 v2 r2 b2 v3 r3 b3,
    smallQ r br 1099511627776 = (v1, r1, b1) ∧ smallQ r1 b1 7 = (v2, r2, b2) ∧ smallQ r2 b2 1099511627776 = (v3, r3, b3) ∧ (b1 = true → r1 = ⟨#[]⟩) ∧ (b2 = true → r2 = ⟨#[]⟩) ∧ (b3 = true → r3 = ⟨#[]⟩) ∧
    r1.size ≤ r.size ∧ r2.size ≤ r.size ∧ r3.size ≤ r.size ∧
    (((St.mk v1 v2 v3).ok = true ∧ a = St.mk v1 v2 v3 ∧ r' = r3 ∧ br' = b3 ∧ b3 = false) ∨ ((St.mk v1 v2 v3).ok = false ∧ a = ⟨0, 0, 0⟩ ∧ r' = ⟨#[]⟩ ∧ br' = true)) := by
  unfold takeQ at H
  obtain ⟨⟨v1, r1, b1⟩, h1⟩ : ∃ x, smallQ r br 1099511627776 = x := ⟨_, rfl⟩
  obtain ⟨⟨v2, r2, b2⟩, h2⟩ : ∃ x, smallQ r1 b1 7 = x := ⟨_, rfl⟩
  obtain ⟨⟨v3, r3, b3⟩, h3⟩ : ∃ x, smallQ r2 b2 1099511627776 = x := ⟨_, rfl⟩
  simp only [h1, h2, h3] at H
  obtain ⟨i1, j1, s1⟩ := smallQ_inv h1 h
  obtain ⟨i2, j2, s2⟩ := smallQ_inv h2 fun e => (i1 e).1
  obtain ⟨i3, j3, s3⟩ := smallQ_inv h3 fun e => (i2 e).1
  refine ⟨v1, r1, b1, v2, r2, b2, v3, r3, b3, h1, h2, h3, fun e => (i1 e).1, fun e => (i2 e).1, fun e => (i3 e).1, s1, by omega, by omega, ?_⟩
  cases hok : (St.mk v1 v2 v3).ok with
  | true =>
    rw [hok, if_pos rfl] at H
    simp at H
    obtain ⟨rfl, rfl, rfl⟩ := H
    refine Or.inl ⟨rfl, rfl, rfl, rfl, ?_⟩
    cases b3 with
    | false => rfl
    | true =>
      have := (i3 rfl).2
      have := St.ok_iff.1 hok
      simp only at this
      omega
  | false =>
    rw [hok, if_neg (by simp)] at H
    simp at H
    obtain ⟨rfl, rfl, rfl⟩ := H
    exact Or.inr ⟨rfl, rfl, rfl, rfl⟩
theorem takeQ_inv {r r' : ByteArray} {br br' : Bool} {a : St} (H : takeQ r br = (a, r', br')) (h : br = true → r = ⟨#[]⟩) : (br' = true → r' = ⟨#[]⟩) ∧ r'.size ≤ r.size := by
  obtain ⟨v1, r1, b1, v2, r2, b2, v3, r3, b3, h1, h2, h3, i1, i2, i3, s1, s2, s3, ⟨_, _, rfl, rfl, rfl⟩ | ⟨_, _, rfl, rfl⟩⟩ := takeQ_parts H h
  · exact ⟨fun e => (by cases e), s3⟩
  · exact ⟨fun _ => rfl, Nat.zero_le _⟩

set_option maxHeartbeats 4000000 in
theorem take_is (b : Nat) (r r' : ByteArray) (br br' : Bool) (a : St) (w : World) (hr : r.size ≤ 100000) (H : Hid (takeQ r br = (a, r', br'))) (hi : br = true → r = ⟨#[]⟩) (h : RA w b r br) :
    Calls Try.prog 59 #[.pointer (some ⟨b, 0, none⟩)] w (Took b (.agg #[.int .i64 a.c, .int .i64 a.s, .int .i64 a.q]) r' br' w) := by
  have hmf := makeFunc_run
  obtain ⟨v1, r1, b1, v2, r2, b2, v3, r3, b3, h1, h2, h3, i1, i2, i3, s1, s2, s3, hend⟩ := takeQ_parts H.out hi
  have k1 := fun w hA => small_is b r r1 br b1 v1 1099511627776 w (by unfold maxLen; omega) (by omega) (Lib.hid h1) hA
  have k2 := fun w hA => small_is b r1 r2 b1 b2 v2 7 w (by unfold maxLen; omega) (by omega) (Lib.hid h2) hA
  have k3 := fun w hA => small_is b r2 r3 b2 b3 v3 1099511627776 w (by unfold maxLen; omega) (by omega) (Lib.hid h3) hA
  have k4 := fun w hA => small_is b r3 ⟨#[]⟩ b3 true 0 (-1) w (by unfold maxLen; omega) (by omega) (Lib.hid (smallQ_neg i3)) hA
  have hroom := h.room
  have hA0 := h.below ((Below.refl _ _).alloc (Nat.le_refl _) (.cells #[.int .i64 0, .int .i64 0, .int .i64 0] 23))
  have hO0 := Out.new w
  have hT0 := But.of (b := b) ((Below.refl _ w).alloc (Nat.le_refl _) (.cells #[.int .i64 0, .int .i64 0, .int .i64 0] 23))
  have hne : w.heap.size ≠ b := by omega
  clear H h1 h2 h3 i1 i2 i3 s1 s2 s3 hr hi
  rcases hend with ⟨hok, rfl, rfl, rfl, rfl⟩ | ⟨hok, rfl, rfl, rfl⟩
  · have hc := fun w => checkV ⟨v1, v2, v3⟩ 0 (Lib.hid (by unfold St.err; rw [hok]; rfl)) w
    simp only at hc
    clear hok
    go_enter Try.func59, Try.ntmps59
    go_wp2_with (first
      | (go_at_call 57; (with_reducible refine (k1 _ hA0).mono ?_); rintro e w1 ⟨rfl, hA1, hB1⟩; have hO1 := hO0.but hB1 hne; have hT1 := hT0.trans hB1)
      | (go_at_call 57; (with_reducible refine (k2 _ hA1).mono ?_); rintro e w2 ⟨rfl, hA2, hB2⟩; have hO2 := hO1.but hB2 hne; have hT2 := hT1.trans hB2)
      | (go_at_call 57; (with_reducible refine (k3 _ hA2).mono ?_); rintro e w3 ⟨rfl, hA3, hB3⟩; have hO3 := hO2.but hB3 hne; have hT3 := hT2.trans hB3; have hS3 := StAt.new w3 ⟨v1, v2, v3⟩)
      | (go_at_call 47; (with_reducible refine (hc _).mono ?_); rintro e w4 ⟨rfl, hb4⟩; have hS4 := hS3.below hb4; have hO4 := (hO3.alloc _).below hb4; have hA4 := (hA3.below ((Below.refl _ _).alloc (Nat.le_refl _) _)).below hb4; have hT4 := but_bel (but_new hT3 _) hb4; obtain ⟨x0, x1, x2⟩ := hS4; obtain ⟨z0, z1, z2, y0, y1, y2⟩ := hO4))
    refine bodyPost_ret (v := .agg #[.int .i64 v1, .int .i64 v2, .int .i64 v3]) (by simp [results, Try.results59, go_sem, z0, z1, z2]; try rfl) rfl ⟨rfl, ?_, ?_⟩
    · repeat refine RA.other ?_ _ _ hne
      exact hA4
    · repeat refine But.far ?_ _ _ (Nat.le_refl _)
      exact hT4
  · have hc := fun w => checkV ⟨v1, v2, v3⟩ 1 (Lib.hid (by unfold St.err; rw [hok]; rfl)) w
    simp only at hc
    clear hok
    go_enter Try.func59, Try.ntmps59
    go_wp2_with (first
      | (go_at_call 57; (with_reducible refine (k1 _ hA0).mono ?_); rintro e w1 ⟨rfl, hA1, hB1⟩; have hO1 := hO0.but hB1 hne; have hT1 := hT0.trans hB1)
      | (go_at_call 57; (with_reducible refine (k2 _ hA1).mono ?_); rintro e w2 ⟨rfl, hA2, hB2⟩; have hO2 := hO1.but hB2 hne; have hT2 := hT1.trans hB2)
      | (go_at_call 57; (with_reducible refine (k3 _ hA2).mono ?_); rintro e w3 ⟨rfl, hA3, hB3⟩; have hO3 := hO2.but hB3 hne; have hT3 := hT2.trans hB3)
      | (go_at_call 57; (with_reducible refine (k4 _ hA4).mono ?_); rintro e w5 ⟨rfl, hA5, hB5⟩; have hO5 := hO4.but hB5 hne; have hT5 := hT4.trans hB5; obtain ⟨z0, z1, z2, y0, y1, y2⟩ := hO5)
      | (go_at_call 47; (with_reducible refine (hc _).mono ?_); rintro e w4 ⟨rfl, hb4⟩; have hO4 := (hO3.alloc _).below hb4; have hA4 := (hA3.below ((Below.refl _ _).alloc (Nat.le_refl _) _)).below hb4; have hT4 := but_bel (but_new hT3 _) hb4))
    refine bodyPost_ret (v := .agg #[.int .i64 0, .int .i64 0, .int .i64 0]) (by simp [results, Try.results59, go_sem, z0, z1, z2]; try rfl) rfl ⟨rfl, ?_, ?_⟩
    · repeat refine RA.other ?_ _ _ hne
      exact hA5
    · repeat refine But.far ?_ _ _ (Nat.le_refl _)
      exact hT5

theorem RS.other {w : World} {d : Nat} {S r : ByteArray} {br : Bool} (h : RS w d S r br) (x : Addr) (v : Value) (hne : x.block ≠ d) : RS (w.setCell x v) d S r br := by
  obtain ⟨a, bad, ⟨c0, c1, c2, f0, f1, f2⟩, hs⟩ := h
  exact ⟨a, bad, ⟨by rw [World.cell?_setCell_far _ _ _ _ hne]; exact c0, by rw [World.cell?_setCell_far _ _ _ _ hne]; exact c1, by rw [World.cell?_setCell_far _ _ _ _ hne]; exact c2, by simp [go_sem, f0], by simp [go_sem, f1], by simp [go_sem, f2]⟩, hs⟩
theorem RS.below {w w' : World} {d : Nat} {S r : ByteArray} {br : Bool} (h : RS w d S r br) (k : Below w.heap.size w w') : RS w' d S r br := by
  obtain ⟨a, bad, h, s⟩ := h; exact ⟨a, bad, h.below k, s⟩
theorem RS.spoil {w : World} {d : Nat} {S r : ByteArray} {br : Bool} (h : RS w d S r br) : RS (w.setCell ⟨d, 2, none⟩ (.bool true)) d S ⟨#[]⟩ true := by
  obtain ⟨a, bad, h, hs⟩ := h
  exact ⟨a, true, h.spoil, rfl, hs.2.1, fun e => (by cases e), fun _ => rfl⟩

set_option maxHeartbeats 4000000 in
theorem rtake_is (d : Nat) (S r r' : ByteArray) (br br' : Bool) (a : St) (w : World) (hs : S.size ≤ 100000) (H : Hid (takeQ r br = (a, r', br'))) (hi : br = true → r = ⟨#[]⟩) (h : RS w d S r br) :
    Calls Try.prog 66 #[.pointer (some ⟨d, 0, none⟩)] w (RDone d (.agg #[.int .i64 a.c, .int .i64 a.s, .int .i64 a.q]) S r' br' w) := by
  obtain ⟨v1, r1, b1, v2, r2, b2, v3, r3, b3, h1, h2, h3, i1, i2, i3, s1, s2, s3, hend⟩ := takeQ_parts H.out hi
  have k1 := fun w hA => rsmall_is d S r r1 br b1 v1 1099511627776 w hs (by omega) (Lib.hid h1) hA
  have k2 := fun w hA => rsmall_is d S r1 r2 b1 b2 v2 7 w hs (by omega) (Lib.hid h2) hA
  have k3 := fun w hA => rsmall_is d S r2 r3 b2 b3 v3 1099511627776 w hs (by omega) (Lib.hid h3) hA
  have hroom := h.room
  have hA0 := h.below ((Below.refl _ _).alloc (Nat.le_refl _) (.cells #[.int .i64 0, .int .i64 0, .int .i64 0] 23))
  have hO0 := Out.new w
  have hT0 := But.of (b := d) ((Below.refl _ w).alloc (Nat.le_refl _) (.cells #[.int .i64 0, .int .i64 0, .int .i64 0] 23))
  have hne : w.heap.size ≠ d := by omega
  clear H h1 h2 h3 i1 i2 i3 s1 s2 s3 hs hi
  rcases hend with ⟨hok, rfl, rfl, rfl, rfl⟩ | ⟨hok, rfl, rfl, rfl⟩
  · have hc := fun w => rcheckV ⟨v1, v2, v3⟩ 0 (Lib.hid (by unfold St.err; rw [hok]; rfl)) w
    simp only at hc
    clear hok
    go_enter Try.func66, Try.ntmps66
    go_wp2_with (first
      | (go_at_call 63; (with_reducible refine (k1 _ hA0).mono ?_); rintro e w1 ⟨rfl, hA1, hB1⟩; have hO1 := hO0.but hB1 hne; have hT1 := hT0.trans hB1)
      | (go_at_call 63; (with_reducible refine (k2 _ hA1).mono ?_); rintro e w2 ⟨rfl, hA2, hB2⟩; have hO2 := hO1.but hB2 hne; have hT2 := hT1.trans hB2)
      | (go_at_call 63; (with_reducible refine (k3 _ hA2).mono ?_); rintro e w3 ⟨rfl, hA3, hB3⟩; have hO3 := hO2.but hB3 hne; have hT3 := hT2.trans hB3; have hS3 := StAt.new w3 ⟨v1, v2, v3⟩; have hA3s := hA3.below ((Below.refl _ _).alloc (Nat.le_refl _) (.cells #[.int .i64 v1, .int .i64 v2, .int .i64 v3] 23)); have hA3t := hA3s; obtain ⟨aa, bad, ⟨g0, g1, g2, g3, g4, g5⟩, rfl, -⟩ := hA3t)
      | (go_at_call 52; (with_reducible refine (hc _).mono ?_); rintro e w4 ⟨rfl, hb4⟩; have hS4 := hS3.below hb4; have hO4 := (hO3.alloc _).below hb4; have hA4 := hA3s.below hb4; have hT4 := but_bel (but_new hT3 _) hb4; obtain ⟨x0, x1, x2⟩ := hS4; obtain ⟨z0, z1, z2, y0, y1, y2⟩ := hO4))
    refine bodyPost_ret (v := .agg #[.int .i64 v1, .int .i64 v2, .int .i64 v3]) (by simp [results, Try.results66, go_sem, z0, z1, z2]; try rfl) rfl ⟨rfl, ?_, ?_⟩
    · repeat refine RS.other ?_ _ _ hne
      exact hA4
    · repeat refine But.far ?_ _ _ (Nat.le_refl _)
      exact hT4
  · have hc := fun w => rcheckV ⟨v1, v2, v3⟩ 1 (Lib.hid (by unfold St.err; rw [hok]; rfl)) w
    simp only at hc
    clear hok
    cases b3 with
    | true =>
      go_enter Try.func66, Try.ntmps66
      go_wp2_with (first
        | (go_at_call 63; (with_reducible refine (k1 _ hA0).mono ?_); rintro e w1 ⟨rfl, hA1, hB1⟩; have hO1 := hO0.but hB1 hne; have hT1 := hT0.trans hB1)
        | (go_at_call 63; (with_reducible refine (k2 _ hA1).mono ?_); rintro e w2 ⟨rfl, hA2, hB2⟩; have hO2 := hO1.but hB2 hne; have hT2 := hT1.trans hB2)
        | (go_at_call 63; (with_reducible refine (k3 _ hA2).mono ?_); rintro e w3 ⟨rfl, hA3, hB3⟩; have hO3 := (hO2.but hB3 hne).alloc (.cells #[.int .i64 v1, .int .i64 v2, .int .i64 v3] 23); have hT3 := but_new (hT2.trans hB3) (.cells #[.int .i64 v1, .int .i64 v2, .int .i64 v3] 23); have hA3s := hA3.below ((Below.refl _ _).alloc (Nat.le_refl _) (.cells #[.int .i64 v1, .int .i64 v2, .int .i64 v3] 23)); have hA3t := hA3s; obtain ⟨aa, bad, ⟨g0, g1, g2, g3, g4, g5⟩, rfl, -⟩ := hA3t; have hO3t := hO3; obtain ⟨z0, z1, z2, y0, y1, y2⟩ := hO3t))
      refine bodyPost_ret (v := .agg #[.int .i64 0, .int .i64 0, .int .i64 0]) (by simp [results, Try.results66, go_sem, z0, z1, z2]; try rfl) rfl ⟨rfl, ?_, ?_⟩
      · repeat refine RS.other ?_ _ _ hne
        exact hA3s.spoil
      · repeat refine But.far ?_ _ _ (Nat.le_refl _)
        exact hT3.setCell _ _
    | false =>
      go_enter Try.func66, Try.ntmps66
      go_wp2_with (first
        | (go_at_call 63; (with_reducible refine (k1 _ hA0).mono ?_); rintro e w1 ⟨rfl, hA1, hB1⟩; have hO1 := hO0.but hB1 hne; have hT1 := hT0.trans hB1)
        | (go_at_call 63; (with_reducible refine (k2 _ hA1).mono ?_); rintro e w2 ⟨rfl, hA2, hB2⟩; have hO2 := hO1.but hB2 hne; have hT2 := hT1.trans hB2)
        | (go_at_call 63; (with_reducible refine (k3 _ hA2).mono ?_); rintro e w3 ⟨rfl, hA3, hB3⟩; have hO3 := hO2.but hB3 hne; have hT3 := hT2.trans hB3; have hS3 := StAt.new w3 ⟨v1, v2, v3⟩; have hA3s := hA3.below ((Below.refl _ _).alloc (Nat.le_refl _) (.cells #[.int .i64 v1, .int .i64 v2, .int .i64 v3] 23)); have hA3t := hA3s; obtain ⟨aa, bad, ⟨g0, g1, g2, g3, g4, g5⟩, rfl, -⟩ := hA3t)
        | (go_at_call 52; (with_reducible refine (hc _).mono ?_); rintro e w4 ⟨rfl, hb4⟩; have hO4 := (hO3.alloc _).below hb4; have hA4 := hA3s.below hb4; have hT4 := but_bel (but_new hT3 _) hb4; have hA4t := hA4; obtain ⟨aa, bad, ⟨g0, g1, g2, g3, g4, g5⟩, -⟩ := hA4t; obtain ⟨z0, z1, z2, y0, y1, y2⟩ := hO4))
      refine bodyPost_ret (v := .agg #[.int .i64 0, .int .i64 0, .int .i64 0]) (by simp [results, Try.results66, go_sem, z0, z1, z2]; try rfl) rfl ⟨rfl, ?_, ?_⟩
      · repeat refine RS.other ?_ _ _ hne
        exact hA4.spoil
      · repeat refine But.far ?_ _ _ (Nat.le_refl _)
        exact hT4.setCell _ _
end Go.Proofs.Ytjckphmkhikpaaa
