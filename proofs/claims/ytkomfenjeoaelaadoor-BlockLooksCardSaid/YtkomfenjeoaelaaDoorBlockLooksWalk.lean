/- The walk of law BlockLooks: it returns true and turns nothing that was there. -/
import Derived.Test.YtkomfenjeoaelaaDoorBlockLive
import Derived.Test.YtkomfenjeoaelaaDoorBlockRLooks
set_option maxRecDepth 20000
set_option linter.unusedSimpArgs false
namespace Go.Proofs.YtkomfenjeoaelaaDoor.blockLooks
open Go.RowKit Go.Proofs.YtkomfenjeoaelaaDoor Go.Proofs.YtkomfenjeoaelaaDoor.Vi Go.Proofs.YtkomfenjeoaelaaDoor.Mk Go.Proofs.YtkomfenjeoaelaaDoor.Crc

/-- The point's box, the span's, the sorted points. -/
structure LK (w : World) (T : Nat) (p : Pt) (U : Nat) (f t : Int) (q : Option Addr) (c : Nat) (m : List Pt) (wr : World) : Prop where
  x : PtAt wr T p
  s : SpA wr U f t
  l : Lst wr wr.heap.size q c m
  bel : Below w.heap.size w wr
  tab : Tab wr
theorem LK.keep {w w1 w2 : World} {T : Nat} {p : Pt} {U : Nat} {f t : Int} {q : Option Addr} {c : Nat} {m : List Pt} (h : LK w T p U f t q c m w1) (k : Below w1.heap.size w1 w2) : LK w T p U f t q c m w2 :=
  ⟨h.x.later k, h.s.later k, h.l.later k, bel_next h.bel k, h.tab.next k⟩
/-- And what both have found. -/
structure LF (w : World) (T : Nat) (p : Pt) (U : Nat) (f t : Int) (q : Option Addr) (c : Nat) (m : List Pt) (A C : Nat) (x : Pt) (wr : World) : Prop where
  k : LK w T p U f t q c m wr
  a : PtAt wr A x
  b : PtAt wr C x
theorem LF.keep {w w1 w2 : World} {T : Nat} {p : Pt} {U : Nat} {f t : Int} {q : Option Addr} {c : Nat} {m : List Pt} {A C : Nat} {x : Pt} (h : LF w T p U f t q c m A C x w1) (k : Below w1.heap.size w1 w2) : LF w T p U f t q c m A C x w2 := ⟨h.k.keep k, h.a.later k, h.b.later k⟩
theorem LK.cut {w w3 : World} {T : Nat} {p : Pt} {U : Nat} {f t : Int} {q : Option Addr} {nm c B : Nat} {m : List Pt} (h : LK w T p U f t none 0 [] w3) (hr : PRow w3 B (.slice q nm c) m) (hTB : T < B) (hT : w.heap.size ≤ T) (hTU : T ≠ U) (ht : Tab w) (y : ByteArray) :
    LK w T ⟨y, p.t, p.v, p.st⟩ U f t q c m (w3.setCell ⟨T, 0, none⟩ (.string y)) := by
  have hb := h.bel.setCell (p := ⟨T, 0, none⟩) hT (.string y)
  refine ⟨⟨World.cell?_setCell_same _ _ _ h.x.c0, ?_, ?_, ?_, ?_, ?_⟩, ⟨?_, ?_⟩, (hr.but (But.self w3 T 0 _) hTB).lst, hb, ht.next hb⟩
  · rw [cell_off (by omega)]; exact h.x.c1
  · rw [cell_off (by omega)]; exact h.x.c2
  · rw [cell_off (by omega)]; exact h.x.c3
  · rw [cell_off (by omega)]; exact h.x.c4
  · rw [cell_off (by omega)]; exact h.x.c5
  · rw [cell_blk hTU]; exact h.s.c0
  · rw [cell_blk hTU]; exact h.s.c1
theorem LF.drew {w w1 : World} {T : Nat} {p : Pt} {U : Nat} {f t : Int} {q : Option Addr} {c : Nat} {m : List Pt} {A C : Nat} {x : Pt} (h : LF w T p U f t q c m A C x w1) : LF w T p U f t q c m A C x w1.drew := h.keep ((Below.refl _ _).drew)



set_option maxHeartbeats 32000000 in
theorem walk (a0 : Option Addr) (n0 c0 : Nat) (p : Pt) (f t : Int) (w : World) (ha : ArgPts w a0 n0 c0) (hp : p.fits) (_hf : -9223372036854775808 ≤ f ∧ f ≤ 9223372036854775807) (_ht : -9223372036854775808 ≤ t ∧ t ≤ 9223372036854775807) (ht : Tab w) : Calls Tryd.prog 4 #[.slice a0 n0 c0, ptV p, .agg #[.int .i64 f, .int .i64 t]] w fun e w' => e = .returned (.bool true) ∧ Below w.heap.size w w' := by
  obtain ⟨l, rfl, hP, hl, -⟩ := ha.has
  have kf1 := fun w h => few12_is a0 c0 l w h hl
  have hn1 := fewB_len l
  have hs1 : ∀ p ∈ fewB l, p.s.size ≤ 100000 := fun p hp => by have := fewB_short hp; omega
  obtain ⟨L, hL⟩ : ∃ L, fewB l = L := ⟨_, rfl⟩
  rw [hL] at kf1 hn1 hs1
  have kr := fun a c w h => rsort_is a c L w h (by omega)
  have hsr := srtR_srt L
  have hml := srtR_len L
  have hms : ∀ p ∈ srtR L, p.s.size ≤ 100000 := fun p hp => hs1 p (srtR_mem L hp)
  obtain ⟨n1, e1⟩ : ∃ n, L.length = n := ⟨_, rfl⟩
  rw [e1] at kr hml hn1
  obtain ⟨m, hm⟩ : ∃ m, srtR L = m := ⟨_, rfl⟩
  rw [hm] at kr hsr hml hms
  obtain ⟨nm, em⟩ : ∃ n, m.length = n := ⟨_, rfl⟩
  rw [em] at hml
  have E1 := Lib.hid e1
  have EM := Lib.hid em
  have kq := fun (X : List Pt) a b ca cb w h1 h2 (hx : X.length ≤ 1000) => rsamep_is a b ca cb X X true w h1 h2 (by omega) (by omega) (Lib.hid (decide_eq_true rfl))
  obtain ⟨y, hy⟩ : ∃ y, (Pt.short p).s = y := ⟨_, rfl⟩
  obtain ⟨p', hp'⟩ : ∃ p', Pt.short p = p' := ⟨_, rfl⟩
  have hpt : p'.t = p.t := by rw [← hp']; rfl
  have kfi := fun a c w h => find_is a c m p'.s p'.t w h (by omega) hsr hms
  have kri := fun a c w h => rfind_is a c m p'.s p'.t w h (by omega)
  have krg := fun a c w h => range_is a c m p'.s f t w h (by omega) hsr hms
  have krr := fun a c w h => rrange_is a c m p'.s f t w h (by omega)
  have kfr := fun a c w h => from6_is a c m p'.t w h (by omega) hms
  have krf := fun a c w h => rfrom_is a c m p'.t w h (by omega)
  have kse := fun a c w h => series_is a c m w h (by omega) hms
  have krs := fun a c w h => rseries_is a c m w h (by omega)
  have hX : (rangeL m p'.s f t).length ≤ 1000 := by
    unfold rangeL; split
    · have := rngL_len m p'.s f t; omega
    · simp
  have hY : (frmL m p'.t).length ≤ 1000 := by have := List.length_filter_le (fun x : Pt => decide (p'.t ≤ x.t)) m; unfold frmL; omega
  have hZ : (serL m).length ≤ 1000 := by have := serN_len m m.length; unfold serL; omega
  obtain ⟨X, hXe⟩ : ∃ X, rangeL m p'.s f t = X := ⟨_, rfl⟩
  obtain ⟨Y, hYe⟩ : ∃ Y, frmL m p'.t = Y := ⟨_, rfl⟩
  obtain ⟨Z, hZe⟩ : ∃ Z, serL m = Z := ⟨_, rfl⟩
  obtain ⟨⟨fx, fb⟩, hfe⟩ : ∃ z, findL m p'.s p'.t = z := ⟨_, rfl⟩
  rw [hXe] at hX krg krr
  rw [hYe] at hY kfr krf
  rw [hZe] at hZ kse krs
  rw [hfe] at kfi kri
  rw [em] at kfi kri krg krr kfr krf kse krs
  obtain ⟨nz, ez⟩ : ∃ n, Z.length = n := ⟨_, rfl⟩
  have EZ := Lib.hid ez
  rw [ez] at hZ
  have kst := fun a b c d w A B h1 h2 => same_texts a b c d A B nz Z w ez h1 h2 (by omega)
  have eqx : ∀ w, (binOp .eql 32 (.agg #[.string fx.s, .int .i64 fx.t, .int .i64 fx.v, .int .i64 fx.st.c, .int .i64 fx.st.s, .int .i64 fx.st.q]) (.agg #[.string fx.s, .int .i64 fx.t, .int .i64 fx.v, .int .i64 fx.st.c, .int .i64 fx.st.s, .int .i64 fx.st.q])).run Tryd.prog w = .ok (.bool true) w := fun w => by have := eql_run6 fx fx w; rwa [Pt.same_iff.2 rfl] at this
  unfold ptV at kfi kri ⊢
  dsimp only at kfi kri
  have HP := Lib.hid hP
  have ka := fun w h => awake_is w h
  have hB0 := bel_new ((Below.refl w.heap.size w).alloc (Nat.le_refl _) (.cells #[.string p.s, .int .i64 p.t, .int .i64 p.v, .int .i64 p.st.c, .int .i64 p.st.s, .int .i64 p.st.q] 32)) (.cells #[.int .i64 f, .int .i64 t] 34)
  have hpa := (PtAt.new w p).alloc (.cells #[.int .i64 f, .int .i64 t] 34)
  have hsa : SpA ((w.alloc (.cells #[.string p.s, .int .i64 p.t, .int .i64 p.v, .int .i64 p.st.c, .int .i64 p.st.s, .int .i64 p.st.q] 32)).alloc (.cells #[.int .i64 f, .int .i64 t] 34)) (w.heap.size + 1) f t := by have := SpA.new (w.alloc (.cells #[.string p.s, .int .i64 p.t, .int .i64 p.v, .int .i64 p.st.c, .int .i64 p.st.s, .int .i64 p.st.q] 32)) f t; simpa using this
  have hfz : ((w.alloc (.cells #[.string p.s, .int .i64 p.t, .int .i64 p.v, .int .i64 p.st.c, .int .i64 p.st.s, .int .i64 p.st.q] 32)).alloc (.cells #[.int .i64 f, .int .i64 t] 34)).frozen? ⟨w.heap.size, 0, none⟩ = false := by simp [go_sem]
  have HT0 := Lib.hid ht
  have K0 := Lib.hid (show LK w w.heap.size p (w.heap.size + 1) f t none 0 [] _ from ⟨hpa, hsa, Lst.nil _ _, hB0, ht.next hB0⟩)
  have HF0 := Lib.hid hfz
  have HB0 := Lib.hid hB0
  clear ha hP hL hm hXe hYe hZe hfe em ez e1 hB0 hpa hsa hfz ht hs1 hms hsr
  by_cases hs60 : 60 < p.s.size
  · have hcut : p.s.extract 0 60 = y := by rw [← hy]; unfold Pt.short cutB; rw [if_pos hs60]
    obtain rfl : p' = ⟨y, p.t, p.v, p.st⟩ := by rw [← hp', ← hy]; rfl
    have hsi60 : (60 : Int) < (p.s.size : Int) := by omega
    clear hy hp' hpt
    dsimp only at kfi kri krg krr kfr krf
    go_enter Tryd.func4, Tryd.ntmps4
    go_wp2_with (first
      | (go_at_call 10; (with_reducible refine (ka _ K0.out.tab).mono ?_); rintro e w1 ⟨rfl, hb1⟩; (have K1 := Lib.hid (K0.out.keep hb1)); (have HF1 := Lib.hid ((hb1.frozen (p := ⟨w.heap.size, 0, none⟩) K0.out.x.room).trans HF0.out)); (have HP1 := Lib.hid (((HP.out.below HB0.out).mono HB0.out.size |>.below hb1).mono hb1.size)); clear hb1 ka)
      | (go_at_call 11; (with_reducible refine (kf1 _ HP1.out).mono ?_); rintro e w2 ⟨v, rfl, hR, hb2⟩; (have hsl := hR.slice); (obtain ⟨p1, c1, rfl⟩ := hsl); (rw [E1.out] at hR ⊢); (have K2 := Lib.hid (K1.out.keep hb2)); (have HF2 := Lib.hid ((hb2.frozen (p := ⟨w.heap.size, 0, none⟩) K1.out.x.room).trans HF1.out)); (have HL2 := Lib.hid hR.lst); clear hR hb2 kf1)
      | (go_at_call 14; (with_reducible refine (kr _ _ _ HL2.out).mono ?_); rintro e w3 ⟨v, rfl, hR, hb3⟩; (have hsl := hR.slice); (obtain ⟨q, c, rfl⟩ := hsl); (rw [EM.out] at hR ⊢); (have K3 := Lib.hid (K2.out.keep hb3)); (have hf3 := (hb3.frozen (p := ⟨w.heap.size, 0, none⟩) K2.out.x.room).trans HF2.out); (have hx3 := K3.out.x); (have hTw2 := K2.out.x.room); (have K4 := Lib.hid (K3.out.cut hR hTw2 (Nat.le_refl _) (by omega) HT0.out y)); (obtain ⟨x0, x1, x2, x3, x4, x5⟩ := hx3); clear hR hb3 kr)
      | (go_at_call 18; (with_reducible refine (kfi _ _ _ K4.out.l).mono ?_); rintro e w4 ⟨rfl, hb4⟩; (have hal4 := hb4.alloc hb4.size (.cells #[.string fx.s, .int .i64 fx.t, .int .i64 fx.v, .int .i64 fx.st.c, .int .i64 fx.st.s, .int .i64 fx.st.q] 32)); (have K5 := Lib.hid (K4.out.keep hal4)); (have HA5 := Lib.hid (PtAt.new w4 fx)); clear x0 x1 x2 x3 x4 x5; (have hx9 := K5.out.x); (obtain ⟨x0, x1, x2, x3, x4, x5⟩ := hx9); clear hal4 hb4)
      | (go_at_call 19; (with_reducible refine (kri _ _ _ K5.out.l).mono ?_); rintro e w5 ⟨rfl, hb5⟩; (have hal5 := hb5.alloc hb5.size (.cells #[.string fx.s, .int .i64 fx.t, .int .i64 fx.v, .int .i64 fx.st.c, .int .i64 fx.st.s, .int .i64 fx.st.q] 32)); (have L6 := Lib.hid (show LF w w.heap.size ⟨y, p.t, p.v, p.st⟩ (w.heap.size + 1) f t q c m w4.heap.size w5.heap.size fx _ from ⟨K5.out.keep hal5, HA5.out.later hal5, PtAt.new w5 fx⟩)); clear x0 x1 x2 x3 x4 x5; clear hal5 hb5))
    refine wp_region_held_drew (S := (LF w w.heap.size ⟨y, p.t, p.v, p.st⟩ (w.heap.size + 1) f t q c m w4.heap.size w5.heap.size fx)) (by kernel_rfl) L6.out.drew (fun hHeld => ?_)
    refine wpAnyH_take (i := 0) (oi := ?laq1o) (v := ?laq1v) ?laq1h (by kernel_rfl) (by kernel_rfl) (by kernel_rfl) ?laq1q ?laq1y hHeld ?laq1r
    case laq1h => (simp only [List.getElem?_toArray, List.getElem?_cons_zero]; rfl)
    case laq1q => exact fun _ _ _ h => h
    case laq1y => (refine Or.inl ⟨by first | kernel_rfl | rfl, ?_⟩; intro w hSw; (try dsimp only at hSw); obtain ⟨⟨⟨x0, x1, x2, x3, x4, x5⟩, ⟨y0, y1⟩, -, -, -⟩, -, -⟩ := hSw; go_simp <;> (try with_reducible rfl))
    try simp only [Act.put, List.setIfInBounds_toArray, List.set_cons_zero, List.set_cons_succ]
    refine wpAnyH_take (i := 1) (oi := ?laq2o) (v := ?laq2v) ?laq2h (by kernel_rfl) (by kernel_rfl) (by kernel_rfl) ?laq2q ?laq2y hHeld ?laq2r
    case laq2h => (simp only [List.getElem?_toArray, List.getElem?_cons_succ, List.getElem?_cons_zero]; rfl)
    case laq2q => exact fun _ _ _ h => h
    case laq2y => (refine Or.inl ⟨by first | kernel_rfl | rfl, ?_⟩; intro w hSw; (try dsimp only at hSw); obtain ⟨⟨⟨x0, x1, x2, x3, x4, x5⟩, ⟨y0, y1⟩, -, -, -⟩, -, -⟩ := hSw; go_simp <;> (try with_reducible rfl))
    try simp only [Act.put, List.setIfInBounds_toArray, List.set_cons_zero, List.set_cons_succ]
    refine wpAnyH_take (i := 2) (oi := ?laq3o) (v := ?laq3v) ?laq3h (by kernel_rfl) (by kernel_rfl) (by kernel_rfl) ?laq3q ?laq3y hHeld ?laq3r
    case laq3h => (simp only [List.getElem?_toArray, List.getElem?_cons_succ, List.getElem?_cons_zero]; rfl)
    case laq3q => exact fun _ _ _ h => h
    case laq3y => (refine Or.inl ⟨by first | kernel_rfl | rfl, ?_⟩; intro w hSw; (try dsimp only at hSw); obtain ⟨⟨⟨x0, x1, x2, x3, x4, x5⟩, ⟨y0, y1⟩, -, -, -⟩, -, -⟩ := hSw; go_simp <;> (try with_reducible rfl))
    try simp only [Act.put, List.setIfInBounds_toArray, List.set_cons_zero, List.set_cons_succ]
    refine wpAnyH_take (i := 3) (oi := ?laq4o) (v := ?laq4v) ?laq4h (by kernel_rfl) (by kernel_rfl) (by kernel_rfl) ?laq4q ?laq4y hHeld ?laq4r
    case laq4h => (simp only [List.getElem?_toArray, List.getElem?_cons_succ, List.getElem?_cons_zero]; rfl)
    case laq4q => exact fun _ _ _ h => h
    case laq4y => (refine Or.inl ⟨by first | kernel_rfl | rfl, ?_⟩; intro w hSw; (try dsimp only at hSw); obtain ⟨⟨⟨x0, x1, x2, x3, x4, x5⟩, ⟨y0, y1⟩, -, -, -⟩, -, -⟩ := hSw; go_simp <;> (try with_reducible rfl))
    try simp only [Act.put, List.setIfInBounds_toArray, List.set_cons_zero, List.set_cons_succ]
    refine wpAnyH_take (i := 5) (oi := ?laq5o) (v := ?laq5v) ?laq5h (by kernel_rfl) (by kernel_rfl) (by kernel_rfl) ?laq5q ?laq5y hHeld ?laq5r
    case laq5h => (simp only [List.getElem?_toArray, List.getElem?_cons_succ, List.getElem?_cons_zero]; rfl)
    case laq5q => exact fun _ _ _ h => h
    case laq5y => (refine Or.inl ⟨by first | kernel_rfl | rfl, ?_⟩; intro w hSw; (try dsimp only at hSw); obtain ⟨⟨⟨x0, x1, x2, x3, x4, x5⟩, ⟨y0, y1⟩, -, -, -⟩, -, -⟩ := hSw; go_simp <;> (try with_reducible rfl))
    try simp only [Act.put, List.setIfInBounds_toArray, List.set_cons_zero, List.set_cons_succ]
    refine wpAnyH_take (i := 6) (oi := ?laq6o) (v := ?laq6v) ?laq6h (by kernel_rfl) (by kernel_rfl) (by kernel_rfl) ?laq6q ?laq6y hHeld ?laq6r
    case laq6h => (simp only [List.getElem?_toArray, List.getElem?_cons_succ, List.getElem?_cons_zero]; rfl)
    case laq6q => exact fun _ _ _ h => h
    case laq6y => (refine Or.inl ⟨by first | kernel_rfl | rfl, ?_⟩; intro w hSw; (try dsimp only at hSw); obtain ⟨⟨⟨x0, x1, x2, x3, x4, x5⟩, ⟨y0, y1⟩, -, -, -⟩, -, -⟩ := hSw; go_simp <;> (try with_reducible rfl))
    try simp only [Act.put, List.setIfInBounds_toArray, List.set_cons_zero, List.set_cons_succ]
    refine wpAnyH_take (i := 7) (oi := ?laq7o) (v := ?laq7v) ?laq7h (by kernel_rfl) (by kernel_rfl) (by kernel_rfl) ?laq7q ?laq7y hHeld ?laq7r
    case laq7h => (simp only [List.getElem?_toArray, List.getElem?_cons_succ, List.getElem?_cons_zero]; rfl)
    case laq7q => exact fun _ _ _ h => h
    case laq7y => (refine Or.inl ⟨by first | kernel_rfl | rfl, ?_⟩; intro w hSw; (try dsimp only at hSw); obtain ⟨⟨⟨x0, x1, x2, x3, x4, x5⟩, ⟨y0, y1⟩, -, -, -⟩, -, -⟩ := hSw; go_simp <;> (try with_reducible rfl))
    try simp only [Act.put, List.setIfInBounds_toArray, List.set_cons_zero, List.set_cons_succ]
    refine wpAnyH_take (i := 8) (oi := ?laq8o) (v := ?laq8v) ?laq8h (by kernel_rfl) (by kernel_rfl) (by kernel_rfl) ?laq8q ?laq8y hHeld ?laq8r
    case laq8h => (simp only [List.getElem?_toArray, List.getElem?_cons_succ, List.getElem?_cons_zero]; rfl)
    case laq8q => exact fun _ _ _ h => h
    case laq8y => (refine Or.inl ⟨by first | kernel_rfl | rfl, ?_⟩; intro w hSw; (try dsimp only at hSw); obtain ⟨⟨⟨x0, x1, x2, x3, x4, x5⟩, ⟨y0, y1⟩, -, -, -⟩, -, -⟩ := hSw; go_simp <;> (try with_reducible rfl))
    try simp only [Act.put, List.setIfInBounds_toArray, List.set_cons_zero, List.set_cons_succ]
    refine wpAnyH_ready (rs := [4]) (by kernel_rfl) (by simp) ?_
    refine (AllReadyH.cons rfl (fun K hK => ?_) AllReadyH.nil)
    go_simp
    ((with_reducible refine (krg _ _ _ hHeld.k.l).mono ?_); rintro e w7 ⟨v, rfl, hR7, hb7⟩; (have hsl := hR7.slice); (obtain ⟨a7, c7, rfl⟩ := hsl); (have HX7 := Lib.hid hR7.lst))
    refine hK.out _ _ (hHeld.keep hb7) (fun hHeld => ?_)
    clear hK K
    try simp only [Act.put, List.setIfInBounds_toArray, List.set_cons_zero, List.set_cons_succ]
    refine wpAnyH_ready (rs := [9]) (by kernel_rfl) (by simp) ?_
    refine (AllReadyH.cons rfl (fun K hK => ?_) AllReadyH.nil)
    go_simp
    ((with_reducible refine (krr _ _ _ hHeld.k.l).mono ?_); rintro e w8 ⟨v, rfl, hR8, hb8⟩; (have hsl := hR8.slice); (obtain ⟨a8, c8, rfl⟩ := hsl); (have HX8 := Lib.hid hR8.lst); (have HX7' := Lib.hid (HX7.out.later hb8)))
    refine hK.out _ _ (hHeld.keep hb8) (fun hHeld => ?_)
    clear hK K
    try simp only [Act.put, List.setIfInBounds_toArray, List.set_cons_zero, List.set_cons_succ]
    refine wpAnyH_ready (rs := [10]) (by kernel_rfl) (by simp) ?_
    refine (AllReadyH.cons rfl (fun K hK => ?_) AllReadyH.nil)
    go_simp
    ((with_reducible refine (kq X _ _ _ _ _ HX7'.out.pts HX8.out.pts hX).mono ?_); rintro e w9 ⟨rfl, hb9⟩)
    refine hK.out _ _ (hHeld.keep hb9) (fun hHeld => ?_)
    clear hK K
    try simp only [Act.put, List.setIfInBounds_toArray, List.set_cons_zero, List.set_cons_succ]
    refine wpAnyH_take (i := 11) (oi := ?laq9o) (v := ?laq9v) ?laq9h (by kernel_rfl) (by kernel_rfl) (by kernel_rfl) ?laq9q ?laq9y hHeld ?laq9r
    case laq9h => (simp only [List.getElem?_toArray, List.getElem?_cons_succ, List.getElem?_cons_zero]; rfl)
    case laq9q => exact fun _ _ _ h => h
    case laq9y => (refine Or.inl ⟨by first | kernel_rfl | rfl, ?_⟩; intro w hSw; (try dsimp only at hSw); obtain ⟨⟨⟨x0, x1, x2, x3, x4, x5⟩, ⟨y0, y1⟩, -, -, -⟩, -, -⟩ := hSw; go_simp <;> (try with_reducible rfl))
    try simp only [Act.put, List.setIfInBounds_toArray, List.set_cons_zero, List.set_cons_succ]
    refine wpAnyH_done (by kernel_rfl) ?_ _
    have L9 := Lib.hid hHeld
    clear hHeld
    go_wp2_with fail
    refine wp_region_held_drew (S := (LF w w.heap.size ⟨y, p.t, p.v, p.st⟩ (w.heap.size + 1) f t q c m w4.heap.size w5.heap.size fx)) (by kernel_rfl) L9.out.drew (fun hHeld => ?_)
    refine wpAnyH_take (i := 0) (oi := ?lar1o) (v := ?lar1v) ?lar1h (by kernel_rfl) (by kernel_rfl) (by kernel_rfl) ?lar1q ?lar1y hHeld ?lar1r
    case lar1h => (simp only [List.getElem?_toArray, List.getElem?_cons_zero]; rfl)
    case lar1q => exact fun _ _ _ h => h
    case lar1y => (refine Or.inl ⟨by first | kernel_rfl | rfl, ?_⟩; intro w hSw; (try dsimp only at hSw); obtain ⟨⟨⟨x0, x1, x2, x3, x4, x5⟩, ⟨y0, y1⟩, -, -, -⟩, -, -⟩ := hSw; go_simp <;> (try with_reducible rfl))
    try simp only [Act.put, List.setIfInBounds_toArray, List.set_cons_zero, List.set_cons_succ]
    refine wpAnyH_take (i := 1) (oi := ?lar2o) (v := ?lar2v) ?lar2h (by kernel_rfl) (by kernel_rfl) (by kernel_rfl) ?lar2q ?lar2y hHeld ?lar2r
    case lar2h => (simp only [List.getElem?_toArray, List.getElem?_cons_succ, List.getElem?_cons_zero]; rfl)
    case lar2q => exact fun _ _ _ h => h
    case lar2y => (refine Or.inl ⟨by first | kernel_rfl | rfl, ?_⟩; intro w hSw; (try dsimp only at hSw); obtain ⟨⟨⟨x0, x1, x2, x3, x4, x5⟩, ⟨y0, y1⟩, -, -, -⟩, -, -⟩ := hSw; go_simp <;> (try with_reducible rfl))
    try simp only [Act.put, List.setIfInBounds_toArray, List.set_cons_zero, List.set_cons_succ]
    refine wpAnyH_take (i := 2) (oi := ?lar3o) (v := ?lar3v) ?lar3h (by kernel_rfl) (by kernel_rfl) (by kernel_rfl) ?lar3q ?lar3y hHeld ?lar3r
    case lar3h => (simp only [List.getElem?_toArray, List.getElem?_cons_succ, List.getElem?_cons_zero]; rfl)
    case lar3q => exact fun _ _ _ h => h
    case lar3y => (refine Or.inl ⟨by first | kernel_rfl | rfl, ?_⟩; intro w hSw; (try dsimp only at hSw); obtain ⟨⟨⟨x0, x1, x2, x3, x4, x5⟩, ⟨y0, y1⟩, -, -, -⟩, -, -⟩ := hSw; go_simp <;> (try with_reducible rfl))
    try simp only [Act.put, List.setIfInBounds_toArray, List.set_cons_zero, List.set_cons_succ]
    refine wpAnyH_take (i := 4) (oi := ?lar4o) (v := ?lar4v) ?lar4h (by kernel_rfl) (by kernel_rfl) (by kernel_rfl) ?lar4q ?lar4y hHeld ?lar4r
    case lar4h => (simp only [List.getElem?_toArray, List.getElem?_cons_succ, List.getElem?_cons_zero]; rfl)
    case lar4q => exact fun _ _ _ h => h
    case lar4y => (refine Or.inl ⟨by first | kernel_rfl | rfl, ?_⟩; intro w hSw; (try dsimp only at hSw); obtain ⟨⟨⟨x0, x1, x2, x3, x4, x5⟩, ⟨y0, y1⟩, -, -, -⟩, -, -⟩ := hSw; go_simp <;> (try with_reducible rfl))
    try simp only [Act.put, List.setIfInBounds_toArray, List.set_cons_zero, List.set_cons_succ]
    refine wpAnyH_take (i := 5) (oi := ?lar5o) (v := ?lar5v) ?lar5h (by kernel_rfl) (by kernel_rfl) (by kernel_rfl) ?lar5q ?lar5y hHeld ?lar5r
    case lar5h => (simp only [List.getElem?_toArray, List.getElem?_cons_succ, List.getElem?_cons_zero]; rfl)
    case lar5q => exact fun _ _ _ h => h
    case lar5y => (refine Or.inl ⟨by first | kernel_rfl | rfl, ?_⟩; intro w hSw; (try dsimp only at hSw); obtain ⟨⟨⟨x0, x1, x2, x3, x4, x5⟩, ⟨y0, y1⟩, -, -, -⟩, -, -⟩ := hSw; go_simp <;> (try with_reducible rfl))
    try simp only [Act.put, List.setIfInBounds_toArray, List.set_cons_zero, List.set_cons_succ]
    refine wpAnyH_take (i := 6) (oi := ?lar6o) (v := ?lar6v) ?lar6h (by kernel_rfl) (by kernel_rfl) (by kernel_rfl) ?lar6q ?lar6y hHeld ?lar6r
    case lar6h => (simp only [List.getElem?_toArray, List.getElem?_cons_succ, List.getElem?_cons_zero]; rfl)
    case lar6q => exact fun _ _ _ h => h
    case lar6y => (refine Or.inl ⟨by first | kernel_rfl | rfl, ?_⟩; intro w hSw; (try dsimp only at hSw); obtain ⟨⟨⟨x0, x1, x2, x3, x4, x5⟩, ⟨y0, y1⟩, -, -, -⟩, -, -⟩ := hSw; go_simp <;> (try with_reducible rfl))
    try simp only [Act.put, List.setIfInBounds_toArray, List.set_cons_zero, List.set_cons_succ]
    refine wpAnyH_ready (rs := [3]) (by kernel_rfl) (by simp) ?_
    refine (AllReadyH.cons rfl (fun K hK => ?_) AllReadyH.nil)
    go_simp
    ((with_reducible refine (kfr _ _ _ hHeld.k.l).mono ?_); rintro e w10 ⟨a10, c10, rfl, hR10, hb10⟩; (have HY10 := Lib.hid hR10))
    refine hK.out _ _ (hHeld.keep hb10) (fun hHeld => ?_)
    clear hK K
    try simp only [Act.put, List.setIfInBounds_toArray, List.set_cons_zero, List.set_cons_succ]
    refine wpAnyH_ready (rs := [7]) (by kernel_rfl) (by simp) ?_
    refine (AllReadyH.cons rfl (fun K hK => ?_) AllReadyH.nil)
    go_simp
    ((with_reducible refine (krf _ _ _ hHeld.k.l).mono ?_); rintro e w11 ⟨v, rfl, hR11, hb11⟩; (have hsl := hR11.slice); (obtain ⟨a11, c11, rfl⟩ := hsl); (have HY11 := Lib.hid hR11.lst); (have HY10' := Lib.hid (HY10.out.later hb11)))
    refine hK.out _ _ (hHeld.keep hb11) (fun hHeld => ?_)
    clear hK K
    try simp only [Act.put, List.setIfInBounds_toArray, List.set_cons_zero, List.set_cons_succ]
    refine wpAnyH_ready (rs := [8]) (by kernel_rfl) (by simp) ?_
    refine (AllReadyH.cons rfl (fun K hK => ?_) AllReadyH.nil)
    go_simp
    ((with_reducible refine (kq Y _ _ _ _ _ HY10'.out.pts HY11.out.pts hY).mono ?_); rintro e w12 ⟨rfl, hb12⟩)
    refine hK.out _ _ (hHeld.keep hb12) (fun hHeld => ?_)
    clear hK K
    try simp only [Act.put, List.setIfInBounds_toArray, List.set_cons_zero, List.set_cons_succ]
    refine wpAnyH_take (i := 9) (oi := ?lar7o) (v := ?lar7v) ?lar7h (by kernel_rfl) (by kernel_rfl) (by kernel_rfl) ?lar7q ?lar7y hHeld ?lar7r
    case lar7h => (simp only [List.getElem?_toArray, List.getElem?_cons_succ, List.getElem?_cons_zero]; rfl)
    case lar7q => exact fun _ _ _ h => h
    case lar7y => (refine Or.inl ⟨by first | kernel_rfl | rfl, ?_⟩; intro w hSw; (try dsimp only at hSw); obtain ⟨⟨⟨x0, x1, x2, x3, x4, x5⟩, ⟨y0, y1⟩, -, -, -⟩, -, -⟩ := hSw; go_simp <;> (try with_reducible rfl))
    try simp only [Act.put, List.setIfInBounds_toArray, List.set_cons_zero, List.set_cons_succ]
    refine wpAnyH_done (by kernel_rfl) ?_ _
    have L12 := Lib.hid hHeld
    clear hHeld
    go_wp2_with (first
      | (go_at_call 25; (with_reducible refine (kse _ _ _ L12.out.k.l).mono ?_); rintro e w13 ⟨v, rfl, hR13, hb13⟩; (have hsl := hR13.slice); (obtain ⟨a13, c13, rfl⟩ := hsl); (rw [EZ.out] at hR13 ⊢); (have L13 := Lib.hid (L12.out.keep hb13)); (have HN13 := Lib.hid hR13); clear hb13 hR13)
      | (go_at_call 26; (with_reducible refine (krs _ _ _ L13.out.k.l).mono ?_); rintro e w14 ⟨v, rfl, hR14, hb14⟩; (have hsl := hR14.slice); (obtain ⟨a14, c14, rfl⟩ := hsl); (rw [EZ.out] at hR14 ⊢); (have L14 := Lib.hid (L13.out.keep hb14)); (have HN14 := Lib.hid hR14); (have HN13' := Lib.hid (HN13.out.later hb14)); clear hb14 hR14)
      | (go_at_call 24; (with_reducible refine (kst _ _ _ _ _ _ _ HN13'.out HN14.out).mono ?_); rintro e w15 ⟨rfl, hb15⟩; (have L15 := Lib.hid (L14.out.keep hb15)); (have ha15 := L15.out.a); (have hb15' := L15.out.b); (obtain ⟨u0, u1, u2, u3, u4, u5⟩ := ha15); (obtain ⟨v0, v1, v2, v3, v4, v5⟩ := hb15'); clear hb15))
    go_ret
    exact ⟨by first | rfl | simp, L15.out.k.bel⟩
  · have hsi60 : ¬ (60 : Int) < (p.s.size : Int) := by omega
    obtain rfl : p' = p := by rw [← hp']; unfold Pt.short cutB; rw [if_neg hs60]
    clear hy hp' hpt
    go_enter Tryd.func4, Tryd.ntmps4
    go_wp2_with (first
      | (go_at_call 10; (with_reducible refine (ka _ K0.out.tab).mono ?_); rintro e w1 ⟨rfl, hb1⟩; (have K1 := Lib.hid (K0.out.keep hb1)); (have HF1 := Lib.hid ((hb1.frozen (p := ⟨w.heap.size, 0, none⟩) K0.out.x.room).trans HF0.out)); (have HP1 := Lib.hid (((HP.out.below HB0.out).mono HB0.out.size |>.below hb1).mono hb1.size)); clear hb1 ka)
      | (go_at_call 11; (with_reducible refine (kf1 _ HP1.out).mono ?_); rintro e w2 ⟨v, rfl, hR, hb2⟩; (have hsl := hR.slice); (obtain ⟨p1, c1, rfl⟩ := hsl); (rw [E1.out] at hR ⊢); (have K2 := Lib.hid (K1.out.keep hb2)); (have HF2 := Lib.hid ((hb2.frozen (p := ⟨w.heap.size, 0, none⟩) K1.out.x.room).trans HF1.out)); (have HL2 := Lib.hid hR.lst); clear hR hb2 kf1)
      | (go_at_call 14; (with_reducible refine (kr _ _ _ HL2.out).mono ?_); rintro e w3 ⟨v, rfl, hR, hb3⟩; (have hsl := hR.slice); (obtain ⟨q, c, rfl⟩ := hsl); (rw [EM.out] at hR ⊢); (have K3 := Lib.hid (K2.out.keep hb3)); (have hf3 := (hb3.frozen (p := ⟨w.heap.size, 0, none⟩) K2.out.x.room).trans HF2.out); (have hx3 := K3.out.x); (have hTw2 := K2.out.x.room); (have K4 := Lib.hid (show LK w w.heap.size p' (w.heap.size + 1) f t q c m w3 from ⟨K3.out.x, K3.out.s, hR.lst, K3.out.bel, K3.out.tab⟩)); (obtain ⟨x0, x1, x2, x3, x4, x5⟩ := hx3); clear hR hb3 kr)
      | (go_at_call 18; (with_reducible refine (kfi _ _ _ K4.out.l).mono ?_); rintro e w4 ⟨rfl, hb4⟩; (have hal4 := hb4.alloc hb4.size (.cells #[.string fx.s, .int .i64 fx.t, .int .i64 fx.v, .int .i64 fx.st.c, .int .i64 fx.st.s, .int .i64 fx.st.q] 32)); (have K5 := Lib.hid (K4.out.keep hal4)); (have HA5 := Lib.hid (PtAt.new w4 fx)); clear x0 x1 x2 x3 x4 x5; (have hx9 := K5.out.x); (obtain ⟨x0, x1, x2, x3, x4, x5⟩ := hx9); clear hal4 hb4)
      | (go_at_call 19; (with_reducible refine (kri _ _ _ K5.out.l).mono ?_); rintro e w5 ⟨rfl, hb5⟩; (have hal5 := hb5.alloc hb5.size (.cells #[.string fx.s, .int .i64 fx.t, .int .i64 fx.v, .int .i64 fx.st.c, .int .i64 fx.st.s, .int .i64 fx.st.q] 32)); (have L6 := Lib.hid (show LF w w.heap.size p' (w.heap.size + 1) f t q c m w4.heap.size w5.heap.size fx _ from ⟨K5.out.keep hal5, HA5.out.later hal5, PtAt.new w5 fx⟩)); clear x0 x1 x2 x3 x4 x5; clear hal5 hb5))
    refine wp_region_held_drew (S := (LF w w.heap.size p' (w.heap.size + 1) f t q c m w4.heap.size w5.heap.size fx)) (by kernel_rfl) L6.out.drew (fun hHeld => ?_)
    refine wpAnyH_take (i := 0) (oi := ?lbq1o) (v := ?lbq1v) ?lbq1h (by kernel_rfl) (by kernel_rfl) (by kernel_rfl) ?lbq1q ?lbq1y hHeld ?lbq1r
    case lbq1h => (simp only [List.getElem?_toArray, List.getElem?_cons_zero]; rfl)
    case lbq1q => exact fun _ _ _ h => h
    case lbq1y => (refine Or.inl ⟨by first | kernel_rfl | rfl, ?_⟩; intro w hSw; (try dsimp only at hSw); obtain ⟨⟨⟨x0, x1, x2, x3, x4, x5⟩, ⟨y0, y1⟩, -, -, -⟩, -, -⟩ := hSw; go_simp <;> (try with_reducible rfl))
    try simp only [Act.put, List.setIfInBounds_toArray, List.set_cons_zero, List.set_cons_succ]
    refine wpAnyH_take (i := 1) (oi := ?lbq2o) (v := ?lbq2v) ?lbq2h (by kernel_rfl) (by kernel_rfl) (by kernel_rfl) ?lbq2q ?lbq2y hHeld ?lbq2r
    case lbq2h => (simp only [List.getElem?_toArray, List.getElem?_cons_succ, List.getElem?_cons_zero]; rfl)
    case lbq2q => exact fun _ _ _ h => h
    case lbq2y => (refine Or.inl ⟨by first | kernel_rfl | rfl, ?_⟩; intro w hSw; (try dsimp only at hSw); obtain ⟨⟨⟨x0, x1, x2, x3, x4, x5⟩, ⟨y0, y1⟩, -, -, -⟩, -, -⟩ := hSw; go_simp <;> (try with_reducible rfl))
    try simp only [Act.put, List.setIfInBounds_toArray, List.set_cons_zero, List.set_cons_succ]
    refine wpAnyH_take (i := 2) (oi := ?lbq3o) (v := ?lbq3v) ?lbq3h (by kernel_rfl) (by kernel_rfl) (by kernel_rfl) ?lbq3q ?lbq3y hHeld ?lbq3r
    case lbq3h => (simp only [List.getElem?_toArray, List.getElem?_cons_succ, List.getElem?_cons_zero]; rfl)
    case lbq3q => exact fun _ _ _ h => h
    case lbq3y => (refine Or.inl ⟨by first | kernel_rfl | rfl, ?_⟩; intro w hSw; (try dsimp only at hSw); obtain ⟨⟨⟨x0, x1, x2, x3, x4, x5⟩, ⟨y0, y1⟩, -, -, -⟩, -, -⟩ := hSw; go_simp <;> (try with_reducible rfl))
    try simp only [Act.put, List.setIfInBounds_toArray, List.set_cons_zero, List.set_cons_succ]
    refine wpAnyH_take (i := 3) (oi := ?lbq4o) (v := ?lbq4v) ?lbq4h (by kernel_rfl) (by kernel_rfl) (by kernel_rfl) ?lbq4q ?lbq4y hHeld ?lbq4r
    case lbq4h => (simp only [List.getElem?_toArray, List.getElem?_cons_succ, List.getElem?_cons_zero]; rfl)
    case lbq4q => exact fun _ _ _ h => h
    case lbq4y => (refine Or.inl ⟨by first | kernel_rfl | rfl, ?_⟩; intro w hSw; (try dsimp only at hSw); obtain ⟨⟨⟨x0, x1, x2, x3, x4, x5⟩, ⟨y0, y1⟩, -, -, -⟩, -, -⟩ := hSw; go_simp <;> (try with_reducible rfl))
    try simp only [Act.put, List.setIfInBounds_toArray, List.set_cons_zero, List.set_cons_succ]
    refine wpAnyH_take (i := 5) (oi := ?lbq5o) (v := ?lbq5v) ?lbq5h (by kernel_rfl) (by kernel_rfl) (by kernel_rfl) ?lbq5q ?lbq5y hHeld ?lbq5r
    case lbq5h => (simp only [List.getElem?_toArray, List.getElem?_cons_succ, List.getElem?_cons_zero]; rfl)
    case lbq5q => exact fun _ _ _ h => h
    case lbq5y => (refine Or.inl ⟨by first | kernel_rfl | rfl, ?_⟩; intro w hSw; (try dsimp only at hSw); obtain ⟨⟨⟨x0, x1, x2, x3, x4, x5⟩, ⟨y0, y1⟩, -, -, -⟩, -, -⟩ := hSw; go_simp <;> (try with_reducible rfl))
    try simp only [Act.put, List.setIfInBounds_toArray, List.set_cons_zero, List.set_cons_succ]
    refine wpAnyH_take (i := 6) (oi := ?lbq6o) (v := ?lbq6v) ?lbq6h (by kernel_rfl) (by kernel_rfl) (by kernel_rfl) ?lbq6q ?lbq6y hHeld ?lbq6r
    case lbq6h => (simp only [List.getElem?_toArray, List.getElem?_cons_succ, List.getElem?_cons_zero]; rfl)
    case lbq6q => exact fun _ _ _ h => h
    case lbq6y => (refine Or.inl ⟨by first | kernel_rfl | rfl, ?_⟩; intro w hSw; (try dsimp only at hSw); obtain ⟨⟨⟨x0, x1, x2, x3, x4, x5⟩, ⟨y0, y1⟩, -, -, -⟩, -, -⟩ := hSw; go_simp <;> (try with_reducible rfl))
    try simp only [Act.put, List.setIfInBounds_toArray, List.set_cons_zero, List.set_cons_succ]
    refine wpAnyH_take (i := 7) (oi := ?lbq7o) (v := ?lbq7v) ?lbq7h (by kernel_rfl) (by kernel_rfl) (by kernel_rfl) ?lbq7q ?lbq7y hHeld ?lbq7r
    case lbq7h => (simp only [List.getElem?_toArray, List.getElem?_cons_succ, List.getElem?_cons_zero]; rfl)
    case lbq7q => exact fun _ _ _ h => h
    case lbq7y => (refine Or.inl ⟨by first | kernel_rfl | rfl, ?_⟩; intro w hSw; (try dsimp only at hSw); obtain ⟨⟨⟨x0, x1, x2, x3, x4, x5⟩, ⟨y0, y1⟩, -, -, -⟩, -, -⟩ := hSw; go_simp <;> (try with_reducible rfl))
    try simp only [Act.put, List.setIfInBounds_toArray, List.set_cons_zero, List.set_cons_succ]
    refine wpAnyH_take (i := 8) (oi := ?lbq8o) (v := ?lbq8v) ?lbq8h (by kernel_rfl) (by kernel_rfl) (by kernel_rfl) ?lbq8q ?lbq8y hHeld ?lbq8r
    case lbq8h => (simp only [List.getElem?_toArray, List.getElem?_cons_succ, List.getElem?_cons_zero]; rfl)
    case lbq8q => exact fun _ _ _ h => h
    case lbq8y => (refine Or.inl ⟨by first | kernel_rfl | rfl, ?_⟩; intro w hSw; (try dsimp only at hSw); obtain ⟨⟨⟨x0, x1, x2, x3, x4, x5⟩, ⟨y0, y1⟩, -, -, -⟩, -, -⟩ := hSw; go_simp <;> (try with_reducible rfl))
    try simp only [Act.put, List.setIfInBounds_toArray, List.set_cons_zero, List.set_cons_succ]
    refine wpAnyH_ready (rs := [4]) (by kernel_rfl) (by simp) ?_
    refine (AllReadyH.cons rfl (fun K hK => ?_) AllReadyH.nil)
    go_simp
    ((with_reducible refine (krg _ _ _ hHeld.k.l).mono ?_); rintro e w7 ⟨v, rfl, hR7, hb7⟩; (have hsl := hR7.slice); (obtain ⟨a7, c7, rfl⟩ := hsl); (have HX7 := Lib.hid hR7.lst))
    refine hK.out _ _ (hHeld.keep hb7) (fun hHeld => ?_)
    clear hK K
    try simp only [Act.put, List.setIfInBounds_toArray, List.set_cons_zero, List.set_cons_succ]
    refine wpAnyH_ready (rs := [9]) (by kernel_rfl) (by simp) ?_
    refine (AllReadyH.cons rfl (fun K hK => ?_) AllReadyH.nil)
    go_simp
    ((with_reducible refine (krr _ _ _ hHeld.k.l).mono ?_); rintro e w8 ⟨v, rfl, hR8, hb8⟩; (have hsl := hR8.slice); (obtain ⟨a8, c8, rfl⟩ := hsl); (have HX8 := Lib.hid hR8.lst); (have HX7' := Lib.hid (HX7.out.later hb8)))
    refine hK.out _ _ (hHeld.keep hb8) (fun hHeld => ?_)
    clear hK K
    try simp only [Act.put, List.setIfInBounds_toArray, List.set_cons_zero, List.set_cons_succ]
    refine wpAnyH_ready (rs := [10]) (by kernel_rfl) (by simp) ?_
    refine (AllReadyH.cons rfl (fun K hK => ?_) AllReadyH.nil)
    go_simp
    ((with_reducible refine (kq X _ _ _ _ _ HX7'.out.pts HX8.out.pts hX).mono ?_); rintro e w9 ⟨rfl, hb9⟩)
    refine hK.out _ _ (hHeld.keep hb9) (fun hHeld => ?_)
    clear hK K
    try simp only [Act.put, List.setIfInBounds_toArray, List.set_cons_zero, List.set_cons_succ]
    refine wpAnyH_take (i := 11) (oi := ?lbq9o) (v := ?lbq9v) ?lbq9h (by kernel_rfl) (by kernel_rfl) (by kernel_rfl) ?lbq9q ?lbq9y hHeld ?lbq9r
    case lbq9h => (simp only [List.getElem?_toArray, List.getElem?_cons_succ, List.getElem?_cons_zero]; rfl)
    case lbq9q => exact fun _ _ _ h => h
    case lbq9y => (refine Or.inl ⟨by first | kernel_rfl | rfl, ?_⟩; intro w hSw; (try dsimp only at hSw); obtain ⟨⟨⟨x0, x1, x2, x3, x4, x5⟩, ⟨y0, y1⟩, -, -, -⟩, -, -⟩ := hSw; go_simp <;> (try with_reducible rfl))
    try simp only [Act.put, List.setIfInBounds_toArray, List.set_cons_zero, List.set_cons_succ]
    refine wpAnyH_done (by kernel_rfl) ?_ _
    have L9 := Lib.hid hHeld
    clear hHeld
    go_wp2_with fail
    refine wp_region_held_drew (S := (LF w w.heap.size p' (w.heap.size + 1) f t q c m w4.heap.size w5.heap.size fx)) (by kernel_rfl) L9.out.drew (fun hHeld => ?_)
    refine wpAnyH_take (i := 0) (oi := ?lbr1o) (v := ?lbr1v) ?lbr1h (by kernel_rfl) (by kernel_rfl) (by kernel_rfl) ?lbr1q ?lbr1y hHeld ?lbr1r
    case lbr1h => (simp only [List.getElem?_toArray, List.getElem?_cons_zero]; rfl)
    case lbr1q => exact fun _ _ _ h => h
    case lbr1y => (refine Or.inl ⟨by first | kernel_rfl | rfl, ?_⟩; intro w hSw; (try dsimp only at hSw); obtain ⟨⟨⟨x0, x1, x2, x3, x4, x5⟩, ⟨y0, y1⟩, -, -, -⟩, -, -⟩ := hSw; go_simp <;> (try with_reducible rfl))
    try simp only [Act.put, List.setIfInBounds_toArray, List.set_cons_zero, List.set_cons_succ]
    refine wpAnyH_take (i := 1) (oi := ?lbr2o) (v := ?lbr2v) ?lbr2h (by kernel_rfl) (by kernel_rfl) (by kernel_rfl) ?lbr2q ?lbr2y hHeld ?lbr2r
    case lbr2h => (simp only [List.getElem?_toArray, List.getElem?_cons_succ, List.getElem?_cons_zero]; rfl)
    case lbr2q => exact fun _ _ _ h => h
    case lbr2y => (refine Or.inl ⟨by first | kernel_rfl | rfl, ?_⟩; intro w hSw; (try dsimp only at hSw); obtain ⟨⟨⟨x0, x1, x2, x3, x4, x5⟩, ⟨y0, y1⟩, -, -, -⟩, -, -⟩ := hSw; go_simp <;> (try with_reducible rfl))
    try simp only [Act.put, List.setIfInBounds_toArray, List.set_cons_zero, List.set_cons_succ]
    refine wpAnyH_take (i := 2) (oi := ?lbr3o) (v := ?lbr3v) ?lbr3h (by kernel_rfl) (by kernel_rfl) (by kernel_rfl) ?lbr3q ?lbr3y hHeld ?lbr3r
    case lbr3h => (simp only [List.getElem?_toArray, List.getElem?_cons_succ, List.getElem?_cons_zero]; rfl)
    case lbr3q => exact fun _ _ _ h => h
    case lbr3y => (refine Or.inl ⟨by first | kernel_rfl | rfl, ?_⟩; intro w hSw; (try dsimp only at hSw); obtain ⟨⟨⟨x0, x1, x2, x3, x4, x5⟩, ⟨y0, y1⟩, -, -, -⟩, -, -⟩ := hSw; go_simp <;> (try with_reducible rfl))
    try simp only [Act.put, List.setIfInBounds_toArray, List.set_cons_zero, List.set_cons_succ]
    refine wpAnyH_take (i := 4) (oi := ?lbr4o) (v := ?lbr4v) ?lbr4h (by kernel_rfl) (by kernel_rfl) (by kernel_rfl) ?lbr4q ?lbr4y hHeld ?lbr4r
    case lbr4h => (simp only [List.getElem?_toArray, List.getElem?_cons_succ, List.getElem?_cons_zero]; rfl)
    case lbr4q => exact fun _ _ _ h => h
    case lbr4y => (refine Or.inl ⟨by first | kernel_rfl | rfl, ?_⟩; intro w hSw; (try dsimp only at hSw); obtain ⟨⟨⟨x0, x1, x2, x3, x4, x5⟩, ⟨y0, y1⟩, -, -, -⟩, -, -⟩ := hSw; go_simp <;> (try with_reducible rfl))
    try simp only [Act.put, List.setIfInBounds_toArray, List.set_cons_zero, List.set_cons_succ]
    refine wpAnyH_take (i := 5) (oi := ?lbr5o) (v := ?lbr5v) ?lbr5h (by kernel_rfl) (by kernel_rfl) (by kernel_rfl) ?lbr5q ?lbr5y hHeld ?lbr5r
    case lbr5h => (simp only [List.getElem?_toArray, List.getElem?_cons_succ, List.getElem?_cons_zero]; rfl)
    case lbr5q => exact fun _ _ _ h => h
    case lbr5y => (refine Or.inl ⟨by first | kernel_rfl | rfl, ?_⟩; intro w hSw; (try dsimp only at hSw); obtain ⟨⟨⟨x0, x1, x2, x3, x4, x5⟩, ⟨y0, y1⟩, -, -, -⟩, -, -⟩ := hSw; go_simp <;> (try with_reducible rfl))
    try simp only [Act.put, List.setIfInBounds_toArray, List.set_cons_zero, List.set_cons_succ]
    refine wpAnyH_take (i := 6) (oi := ?lbr6o) (v := ?lbr6v) ?lbr6h (by kernel_rfl) (by kernel_rfl) (by kernel_rfl) ?lbr6q ?lbr6y hHeld ?lbr6r
    case lbr6h => (simp only [List.getElem?_toArray, List.getElem?_cons_succ, List.getElem?_cons_zero]; rfl)
    case lbr6q => exact fun _ _ _ h => h
    case lbr6y => (refine Or.inl ⟨by first | kernel_rfl | rfl, ?_⟩; intro w hSw; (try dsimp only at hSw); obtain ⟨⟨⟨x0, x1, x2, x3, x4, x5⟩, ⟨y0, y1⟩, -, -, -⟩, -, -⟩ := hSw; go_simp <;> (try with_reducible rfl))
    try simp only [Act.put, List.setIfInBounds_toArray, List.set_cons_zero, List.set_cons_succ]
    refine wpAnyH_ready (rs := [3]) (by kernel_rfl) (by simp) ?_
    refine (AllReadyH.cons rfl (fun K hK => ?_) AllReadyH.nil)
    go_simp
    ((with_reducible refine (kfr _ _ _ hHeld.k.l).mono ?_); rintro e w10 ⟨a10, c10, rfl, hR10, hb10⟩; (have HY10 := Lib.hid hR10))
    refine hK.out _ _ (hHeld.keep hb10) (fun hHeld => ?_)
    clear hK K
    try simp only [Act.put, List.setIfInBounds_toArray, List.set_cons_zero, List.set_cons_succ]
    refine wpAnyH_ready (rs := [7]) (by kernel_rfl) (by simp) ?_
    refine (AllReadyH.cons rfl (fun K hK => ?_) AllReadyH.nil)
    go_simp
    ((with_reducible refine (krf _ _ _ hHeld.k.l).mono ?_); rintro e w11 ⟨v, rfl, hR11, hb11⟩; (have hsl := hR11.slice); (obtain ⟨a11, c11, rfl⟩ := hsl); (have HY11 := Lib.hid hR11.lst); (have HY10' := Lib.hid (HY10.out.later hb11)))
    refine hK.out _ _ (hHeld.keep hb11) (fun hHeld => ?_)
    clear hK K
    try simp only [Act.put, List.setIfInBounds_toArray, List.set_cons_zero, List.set_cons_succ]
    refine wpAnyH_ready (rs := [8]) (by kernel_rfl) (by simp) ?_
    refine (AllReadyH.cons rfl (fun K hK => ?_) AllReadyH.nil)
    go_simp
    ((with_reducible refine (kq Y _ _ _ _ _ HY10'.out.pts HY11.out.pts hY).mono ?_); rintro e w12 ⟨rfl, hb12⟩)
    refine hK.out _ _ (hHeld.keep hb12) (fun hHeld => ?_)
    clear hK K
    try simp only [Act.put, List.setIfInBounds_toArray, List.set_cons_zero, List.set_cons_succ]
    refine wpAnyH_take (i := 9) (oi := ?lbr7o) (v := ?lbr7v) ?lbr7h (by kernel_rfl) (by kernel_rfl) (by kernel_rfl) ?lbr7q ?lbr7y hHeld ?lbr7r
    case lbr7h => (simp only [List.getElem?_toArray, List.getElem?_cons_succ, List.getElem?_cons_zero]; rfl)
    case lbr7q => exact fun _ _ _ h => h
    case lbr7y => (refine Or.inl ⟨by first | kernel_rfl | rfl, ?_⟩; intro w hSw; (try dsimp only at hSw); obtain ⟨⟨⟨x0, x1, x2, x3, x4, x5⟩, ⟨y0, y1⟩, -, -, -⟩, -, -⟩ := hSw; go_simp <;> (try with_reducible rfl))
    try simp only [Act.put, List.setIfInBounds_toArray, List.set_cons_zero, List.set_cons_succ]
    refine wpAnyH_done (by kernel_rfl) ?_ _
    have L12 := Lib.hid hHeld
    clear hHeld
    go_wp2_with (first
      | (go_at_call 25; (with_reducible refine (kse _ _ _ L12.out.k.l).mono ?_); rintro e w13 ⟨v, rfl, hR13, hb13⟩; (have hsl := hR13.slice); (obtain ⟨a13, c13, rfl⟩ := hsl); (rw [EZ.out] at hR13 ⊢); (have L13 := Lib.hid (L12.out.keep hb13)); (have HN13 := Lib.hid hR13); clear hb13 hR13)
      | (go_at_call 26; (with_reducible refine (krs _ _ _ L13.out.k.l).mono ?_); rintro e w14 ⟨v, rfl, hR14, hb14⟩; (have hsl := hR14.slice); (obtain ⟨a14, c14, rfl⟩ := hsl); (rw [EZ.out] at hR14 ⊢); (have L14 := Lib.hid (L13.out.keep hb14)); (have HN14 := Lib.hid hR14); (have HN13' := Lib.hid (HN13.out.later hb14)); clear hb14 hR14)
      | (go_at_call 24; (with_reducible refine (kst _ _ _ _ _ _ _ HN13'.out HN14.out).mono ?_); rintro e w15 ⟨rfl, hb15⟩; (have L15 := Lib.hid (L14.out.keep hb15)); (have ha15 := L15.out.a); (have hb15' := L15.out.b); (obtain ⟨u0, u1, u2, u3, u4, u5⟩ := ha15); (obtain ⟨v0, v1, v2, v3, v4, v5⟩ := hb15'); clear hb15))
    go_ret
    exact ⟨by first | rfl | simp, L15.out.k.bel⟩
end Go.Proofs.YtkomfenjeoaelaaDoor.blockLooks
