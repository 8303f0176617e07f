/- The walk of law MarkStamps: it returns true and turns nothing that was there. -/
import Derived.Test.YtkgagedjjjaofaaMarkTake
import Derived.Test.YtkgagedjjjaofaaMarkAwake
namespace Go.Proofs.Ytkgagedjjjaofaa.markStamps
open Go.RowKit Go.Proofs.Ytkgagedjjjaofaa Go.Proofs.Ytkgagedjjjaofaa.Vi Go.Proofs.Ytkgagedjjjaofaa.Mk

theorem list_inj0 (S : ByteArray) : restB S 0 = S := list_inj (by rw [restB_list, List.drop_zero])
theorem rleft_b (d : Nat) (S r : ByteArray) (br : Bool) (w : World) (hs : S.size ≤ 100000) (h : RS w d S r br) :
    Calls Try.prog 22 #[.pointer (some ⟨d, 0, none⟩)] w fun e w' => e = .returned (.int .i64 (r.size : Int)) ∧ Below w.heap.size w w' :=
  (rleft_is d S r br w hs h).mono fun _ _ ⟨h1, n, h2⟩ => by subst h2; exact ⟨h1, below_drawn _ _⟩
theorem left_b (b : Nat) (r : ByteArray) (br : Bool) (w : World) (h : RA w b r br) : Calls Try.prog 21 #[.pointer (some ⟨b, 0, none⟩)] w fun e w' => e = .returned (.int .i64 (r.size : Int)) ∧ Below w.heap.size w w' :=
  (left_is b r br w h).mono fun _ _ ⟨h1, h2⟩ => ⟨h1, h2 ▸ Below.refl _ _⟩
theorem fz_new (w : World) (a : St) (j : Nat) : (w.alloc (.cells #[.int .i64 a.c, .int .i64 a.s, .int .i64 a.q] 23)).frozen? ⟨w.heap.size, j, none⟩ = false := by simp [go_sem]
/-- What lies in memory when all is held against each other. -/
structure HS (w : World) (ba bb bl bc bd pr px : Nat) (a b l c : St) (T r : ByteArray) (br : Bool) (w' : World) : Prop where
  ha : StAt w' ba a
  hb : StAt w' bb b
  hl : StAt w' bl l
  hf : ∀ j, w'.frozen? ⟨bl, j, none⟩ = false
  hc : StAt w' bc c
  hd : StAt w' bd c
  mine : RA w' pr r br
  theirs : RS w' px T r br
  bel : Below w.heap.size w w'
theorem HS.keep {w w1 w2 : World} {ba bb bl bc bd pr px : Nat} {a b l c : St} {T r : ByteArray} {br : Bool} (h : HS w ba bb bl bc bd pr px a b l c T r br w1) (k : Below w1.heap.size w1 w2) : HS w ba bb bl bc bd pr px a b l c T r br w2 :=
  ⟨h.ha.below k, h.hb.below k, h.hl.below k, fun j => (k.frozen (p := ⟨bl, j, none⟩) h.hl.room).trans (h.hf j), h.hc.below k, h.hd.below k, h.mine.below k, h.theirs.below k, bel_next h.bel k⟩
theorem HS.drew {w w1 : World} {ba bb bl bc bd pr px : Nat} {a b l c : St} {T r : ByteArray} {br : Bool} (h : HS w ba bb bl bc bd pr px a b l c T r br w1) : HS w ba bb bl bc bd pr px a b l c T r br w1.drew := h.keep ((Below.refl _ _).drew)
theorem HS.put {w w1 : World} {ba bb bl bc bd pr px : Nat} {a b l c : St} {T r : ByteArray} {br : Bool} (h : HS w ba bb bl bc bd pr px a b l c T r br w1) (z : St) (n1 : bl ≠ ba) (n2 : bl ≠ bb) (n3 : bl ≠ bc) (n4 : bl ≠ bd) (n5 : bl ≠ pr) (n6 : bl ≠ px) (hw : w.heap.size ≤ bl) :
    HS w ba bb bl bc bd pr px a b z c T r br (((w1.setCell ⟨bl, 0, none⟩ (.int .i64 z.c)).setCell ⟨bl, 1, none⟩ (.int .i64 z.s)).setCell ⟨bl, 2, none⟩ (.int .i64 z.q)) :=
  ⟨((h.ha.other _ _ n1).other _ _ n1).other _ _ n1, ((h.hb.other _ _ n2).other _ _ n2).other _ _ n2, h.hl.set z, fun j => by simp [go_sem, h.hf j], ((h.hc.other _ _ n3).other _ _ n3).other _ _ n3, ((h.hd.other _ _ n4).other _ _ n4).other _ _ n4,
    ((h.mine.other _ _ n5).other _ _ n5).other _ _ n5, ((h.theirs.other _ _ n6).other _ _ n6).other _ _ n6, ((h.bel.setCell hw _).setCell hw _).setCell hw _⟩

set_option maxHeartbeats 32000000 in
set_option maxRecDepth 20000 in
theorem core_00 (a b : St) (s T : ByteArray) (hx : a.lt b = false) (w : World) (hT : T.size ≤ 60) (h60 : 60 < s.size) (hTe : s.extract 0 60 = T) :
    Calls Try.prog 3 #[.agg #[.int .i64 a.c, .int .i64 a.s, .int .i64 a.q], .agg #[.int .i64 b.c, .int .i64 b.s, .int .i64 b.q], .string s] w fun e w' => e = .returned (.bool true) ∧ Below w.heap.size w w' := by
  obtain ⟨⟨c, r, br⟩, hq⟩ : ∃ y, takeQ T false = y := ⟨_, rfl⟩
  have t1 := fun pr w hA => take_is pr T r false br c w (by omega) (Lib.hid hq) (fun e => (by cases e)) hA
  have t2 := fun px w hA => rtake_is px T T r false br c w (by omega) (Lib.hid hq) (fun e => (by cases e)) hA
  obtain ⟨er, her⟩ : ∃ e, a.err = e := ⟨_, rfl⟩
  have c1 := fun w => checkV a er (Lib.hid her) w
  have c2 := fun w => rcheckV a er (Lib.hid her) w
  have l1 := fun w => lessV a b false (Lib.hid hx) w
  have l2 := fun w => rlessV a b false (Lib.hid hx) w
  obtain ⟨SB, hSB⟩ : ∃ S, tx a.bytes = S := ⟨_, rfl⟩
  have y1 := fun w => bytes_is a SB w (Lib.hid hSB)
  have y2 := fun w => rbytes_is a SB w (Lib.hid hSB)
  have f1 := fun pr w hA => left_b pr r br w hA
  have f2 := fun px w hA => rleft_b px T r br w (by omega) hA
  have q2 : ∀ w, (binOp .eql 23 (.agg #[.int .i64 c.c, .int .i64 c.s, .int .i64 c.q]) (.agg #[.int .i64 c.c, .int .i64 c.s, .int .i64 c.q])).run Try.prog w = .ok (.bool true) w := fun w => by rw [eql_run, decide_eq_true rfl]
  have A0 := (StAt.new w a).alloc (.cells #[.int .i64 b.c, .int .i64 b.s, .int .i64 b.q] 23)
  have B0 : StAt ((w.alloc (.cells #[.int .i64 a.c, .int .i64 a.s, .int .i64 a.q] 23)).alloc (.cells #[.int .i64 b.c, .int .i64 b.s, .int .i64 b.q] 23)) (w.heap.size + 1) b := by have := StAt.new (w.alloc (.cells #[.int .i64 a.c, .int .i64 a.s, .int .i64 a.q] 23)) b; simpa using this
  have bel0 : Below w.heap.size w ((w.alloc (.cells #[.int .i64 a.c, .int .i64 a.s, .int .i64 a.q] 23)).alloc (.cells #[.int .i64 b.c, .int .i64 b.s, .int .i64 b.q] 23)) := two_new _ _ _
  clear hq her hSB
  have l3 := fun w => laterV a b a (Lib.hid (by rw [if_neg]; simp [hx])) w
  have q3 : ∀ w, (binOp .eql 23 (.agg #[.int .i64 a.c, .int .i64 a.s, .int .i64 a.q]) (.agg #[.int .i64 a.c, .int .i64 a.s, .int .i64 a.q])).run Try.prog w = .ok (.bool true) w := fun w => by rw [eql_run, decide_eq_true rfl]
  clear hx
  go_enter Try.func3, Try.ntmps3
  go_wp2_with (first
    | (go_at_call 10; (with_reducible refine (awake_any _).mono ?_); rintro e w1 ⟨rfl, hb⟩; have A1 := A0.below hb; have B1 := B0.below hb; have bel1 := bel_next bel0 hb)
    | (go_at_call 11; (with_reducible refine (read_is _ _).mono ?_); rintro e w2 ⟨rfl, hA, hb2, hz2⟩; have A2 := (A1.below hb2).alloc (.cells #[.string T, .int .i64 0, .bool false] 29); have B2 := (B1.below hb2).alloc (.cells #[.string T, .int .i64 0, .bool false] 29); have bel2 := bel_new (bel_next bel1 hb2) (.cells #[.string T, .int .i64 0, .bool false] 29); have R2 := hA.below ((Below.refl _ _).alloc (Nat.le_refl _) (.cells #[.string T, .int .i64 0, .bool false] 29)); have hw1 := bel1.size; have ra := A1.room; have rb := B1.room; have X2 : RS (w2.alloc (.cells #[.string T, .int .i64 0, .bool false] 29)) w2.heap.size T T false := ⟨0, false, ⟨by simp [go_sem], by simp [go_sem], by simp [go_sem], by simp [go_sem], by simp [go_sem], by simp [go_sem]⟩, rfl, Nat.zero_le _, fun _ => (list_inj0 T).symm, fun e => (by cases e)⟩)
    | (go_at_call 12; (with_reducible refine (t1 _ _ R2).mono ?_); rintro e w3 ⟨rfl, R3, hB3⟩; have A3 := (A2.but hB3 (by omega)).alloc (.cells #[.int .i64 c.c, .int .i64 c.s, .int .i64 c.q] 23); have B3 := (B2.but hB3 (by omega)).alloc (.cells #[.int .i64 c.c, .int .i64 c.s, .int .i64 c.q] 23); have X3 := (X2.but hB3 (by omega)).below ((Below.refl _ _).alloc (Nat.le_refl _) (.cells #[.int .i64 c.c, .int .i64 c.s, .int .i64 c.q] 23)); have R3 := R3.below ((Below.refl _ _).alloc (Nat.le_refl _) (.cells #[.int .i64 c.c, .int .i64 c.s, .int .i64 c.q] 23)); have bel3 := bel_new (bel2.trans (hB3.below (by omega) (by have := bel2.size; omega))) (.cells #[.int .i64 c.c, .int .i64 c.s, .int .i64 c.q] 23); have C3 := StAt.new w3 c; have rx := X2.room; have rsz := hB3.size)
    | (go_at_call 13; (with_reducible refine (t2 _ _ X3).mono ?_); rintro e w4 ⟨rfl, X4, hB4⟩; have A4 := ((A3.but hB4 (by omega)).alloc (.cells #[.int .i64 c.c, .int .i64 c.s, .int .i64 c.q] 23)).alloc (.cells #[.int .i64 a.c, .int .i64 a.s, .int .i64 a.q] 23); have B4 := ((B3.but hB4 (by omega)).alloc (.cells #[.int .i64 c.c, .int .i64 c.s, .int .i64 c.q] 23)).alloc (.cells #[.int .i64 a.c, .int .i64 a.s, .int .i64 a.q] 23); have C4 := ((C3.but hB4 (by omega)).alloc (.cells #[.int .i64 c.c, .int .i64 c.s, .int .i64 c.q] 23)).alloc (.cells #[.int .i64 a.c, .int .i64 a.s, .int .i64 a.q] 23); have R4 := ((R3.but hB4 (by omega)).below ((Below.refl _ _).alloc (Nat.le_refl _) (.cells #[.int .i64 c.c, .int .i64 c.s, .int .i64 c.q] 23))).below ((Below.refl _ _).alloc (Nat.le_refl _) (.cells #[.int .i64 a.c, .int .i64 a.s, .int .i64 a.q] 23)); have X4 := (X4.below ((Below.refl _ _).alloc (Nat.le_refl _) (.cells #[.int .i64 c.c, .int .i64 c.s, .int .i64 c.q] 23))).below ((Below.refl _ _).alloc (Nat.le_refl _) (.cells #[.int .i64 a.c, .int .i64 a.s, .int .i64 a.q] 23)); have bel4 := bel_new (bel_new (bel3.trans (hB4.below (by omega) (by have := bel3.size; omega))) (.cells #[.int .i64 c.c, .int .i64 c.s, .int .i64 c.q] 23)) (.cells #[.int .i64 a.c, .int .i64 a.s, .int .i64 a.q] 23); have D4 := (StAt.new w4 c).alloc (.cells #[.int .i64 a.c, .int .i64 a.s, .int .i64 a.q] 23); have L4 := StAt.new (w4.alloc (.cells #[.int .i64 c.c, .int .i64 c.s, .int .i64 c.q] 23)) a; have F4 := fz_new (w4.alloc (.cells #[.int .i64 c.c, .int .i64 c.s, .int .i64 c.q] 23)) a; have s3 := C3.room; have s4 := hB4.size; (have H4 : HS w w.heap.size (w.heap.size + 1) (w4.alloc (.cells #[.int .i64 c.c, .int .i64 c.s, .int .i64 c.q] 23)).heap.size w3.heap.size w4.heap.size w1.heap.size w2.heap.size a b a c T r br _ := ⟨A4, B4, L4, F4, C4, D4, R4, X4, bel4⟩); simp only [World.size_alloc] at H4; (have G := (A3.but hB4 (by omega)).alloc (.cells #[.int .i64 c.c, .int .i64 c.s, .int .i64 c.q] 23); obtain ⟨p0, p1, p2⟩ := G); (have G := H4.ha; obtain ⟨x0, x1, x2⟩ := G); (have G := H4.hb; obtain ⟨y0, y1', y2'⟩ := G))
    | (go_at_call 14; (with_reducible refine (l2 _).mono ?_); rintro e w5 ⟨rfl, hb⟩; have H5 := H4.keep hb; (have G := H5.hb; obtain ⟨y0, y1', y2'⟩ := G); (have G := H5.hl; obtain ⟨z0, z1, z2⟩ := G); have fz := H5.hf 0; have fz1 := H5.hf 1; have fz2 := H5.hf 2))
  simp only [World.size_alloc] at s3 rsz s4 hz2 rx ra rb
  have HH := H5
  have HK := Lib.hid HH
  generalize w1.heap.size = pr at HK ⊢
  generalize w2.heap.size = px at HK ⊢
  generalize w3.heap.size = bc at HK ⊢
  generalize w4.heap.size = bd at HK ⊢
  clear A0 B0 A1 B1 A2 B2 A3 B3 A4 B4 R2 R3 R4 X2 X3 X4 C3 C4 D4 L4 H4 H5 HH bel0 bel1 bel2 bel3 bel4 t1 t2
  refine wp_region_held_drew (S := (HS w w.heap.size (w.heap.size + 1) (bd + 1) bc bd pr px a b a c T r br)) (by kernel_rfl) HK.out.drew (fun hHeld => ?_)
  refine wpAnyH_take (i := 0) (oi := ?o001o) (v := ?o001v) ?o001h (by kernel_rfl) (by kernel_rfl) (by kernel_rfl) ?o001q ?o001y hHeld ?o001r
  case o001h => (simp only [List.getElem?_toArray, List.getElem?_cons_zero]; rfl)
  case o001q => exact fun _ _ _ h => h
  case o001y => (refine Or.inl ⟨by first | kernel_rfl | rfl, ?_⟩; intro w hSw; (try dsimp only at hSw); obtain ⟨⟨x0, x1, x2⟩, ⟨y0, y1, y2⟩, ⟨z0, z1, z2⟩, -, ⟨u0, u1, u2⟩, ⟨v0, v1, v2⟩, -, -, -⟩ := hSw; go_simp <;> (try with_reducible rfl))
  try simp only [Act.put, List.setIfInBounds_toArray, List.set_cons_zero, List.set_cons_succ]
  refine wpAnyH_take (i := 1) (oi := ?o002o) (v := ?o002v) ?o002h (by kernel_rfl) (by kernel_rfl) (by kernel_rfl) ?o002q ?o002y hHeld ?o002r
  case o002h => (simp only [List.getElem?_toArray, List.getElem?_cons_succ, List.getElem?_cons_zero]; rfl)
  case o002q => exact fun _ _ _ h => h
  case o002y => (refine Or.inl ⟨by first | kernel_rfl | rfl, ?_⟩; intro w hSw; (try dsimp only at hSw); obtain ⟨⟨x0, x1, x2⟩, ⟨y0, y1, y2⟩, ⟨z0, z1, z2⟩, -, ⟨u0, u1, u2⟩, ⟨v0, v1, v2⟩, -, -, -⟩ := hSw; go_simp <;> (try with_reducible rfl))
  try simp only [Act.put, List.setIfInBounds_toArray, List.set_cons_zero, List.set_cons_succ]
  refine wpAnyH_take (i := 2) (oi := ?o003o) (v := ?o003v) ?o003h (by kernel_rfl) (by kernel_rfl) (by kernel_rfl) ?o003q ?o003y hHeld ?o003r
  case o003h => (simp only [List.getElem?_toArray, List.getElem?_cons_succ, List.getElem?_cons_zero]; rfl)
  case o003q => exact fun _ _ _ h => h
  case o003y => (refine Or.inl ⟨by first | kernel_rfl | rfl, ?_⟩; intro w hSw; (try dsimp only at hSw); obtain ⟨⟨x0, x1, x2⟩, ⟨y0, y1, y2⟩, ⟨z0, z1, z2⟩, -, ⟨u0, u1, u2⟩, ⟨v0, v1, v2⟩, -, -, -⟩ := hSw; go_simp <;> (try with_reducible rfl))
  try simp only [Act.put, List.setIfInBounds_toArray, List.set_cons_zero, List.set_cons_succ]
  refine wpAnyH_take (i := 4) (oi := ?o004o) (v := ?o004v) ?o004h (by kernel_rfl) (by kernel_rfl) (by kernel_rfl) ?o004q ?o004y hHeld ?o004r
  case o004h => (simp only [List.getElem?_toArray, List.getElem?_cons_succ, List.getElem?_cons_zero]; rfl)
  case o004q => exact fun _ _ _ h => h
  case o004y => (refine Or.inl ⟨by first | kernel_rfl | rfl, ?_⟩; intro w hSw; (try dsimp only at hSw); obtain ⟨⟨x0, x1, x2⟩, ⟨y0, y1, y2⟩, ⟨z0, z1, z2⟩, -, ⟨u0, u1, u2⟩, ⟨v0, v1, v2⟩, -, -, -⟩ := hSw; go_simp <;> (try with_reducible rfl))
  try simp only [Act.put, List.setIfInBounds_toArray, List.set_cons_zero, List.set_cons_succ]
  refine wpAnyH_ready (rs := [3]) (by kernel_rfl) (by simp) ?_
  refine (AllReadyH.cons rfl (fun K hK => ?_) AllReadyH.nil)
  go_simp
  ((with_reducible refine (c1 _).mono ?_); rintro e w' ⟨rfl, hb'⟩)
  refine hK.out _ _ (hHeld.keep hb') (fun hHeld => ?_)
  clear hK K
  try simp only [Act.put, List.setIfInBounds_toArray, List.set_cons_zero, List.set_cons_succ]
  refine wpAnyH_ready (rs := [5]) (by kernel_rfl) (by simp) ?_
  refine (AllReadyH.cons rfl (fun K hK => ?_) AllReadyH.nil)
  go_simp
  ((with_reducible refine (c2 _).mono ?_); rintro e w' ⟨rfl, hb'⟩)
  refine hK.out _ _ (hHeld.keep hb') (fun hHeld => ?_)
  clear hK K
  try simp only [Act.put, List.setIfInBounds_toArray, List.set_cons_zero, List.set_cons_succ]
  refine wpAnyH_take (i := 6) (oi := ?o005o) (v := ?o005v) ?o005h (by kernel_rfl) (by kernel_rfl) (by kernel_rfl) ?o005q ?o005y hHeld ?o005r
  case o005h => (simp only [List.getElem?_toArray, List.getElem?_cons_succ, List.getElem?_cons_zero]; rfl)
  case o005q => exact fun _ _ _ h => h
  case o005y => (refine Or.inl ⟨by first | kernel_rfl | rfl, ?_⟩; intro w hSw; (try dsimp only at hSw); obtain ⟨⟨x0, x1, x2⟩, ⟨y0, y1, y2⟩, ⟨z0, z1, z2⟩, -, ⟨u0, u1, u2⟩, ⟨v0, v1, v2⟩, -, -, -⟩ := hSw; go_simp <;> (try with_reducible rfl))
  try simp only [Act.put, List.setIfInBounds_toArray, List.set_cons_zero, List.set_cons_succ]
  refine wpAnyH_take (i := 7) (oi := ?o006o) (v := ?o006v) ?o006h (by kernel_rfl) (by kernel_rfl) (by kernel_rfl) ?o006q ?o006y hHeld ?o006r
  case o006h => (simp only [List.getElem?_toArray, List.getElem?_cons_succ, List.getElem?_cons_zero]; rfl)
  case o006q => exact fun _ _ _ h => h
  case o006y => (refine Or.inl ⟨by first | kernel_rfl | rfl, ?_⟩; intro w hSw; (try dsimp only at hSw); obtain ⟨⟨x0, x1, x2⟩, ⟨y0, y1, y2⟩, ⟨z0, z1, z2⟩, -, ⟨u0, u1, u2⟩, ⟨v0, v1, v2⟩, -, -, -⟩ := hSw; go_simp <;> (try with_reducible rfl))
  try simp only [Act.put, List.setIfInBounds_toArray, List.set_cons_zero, List.set_cons_succ]
  refine wpAnyH_take (i := 8) (oi := ?o007o) (v := ?o007v) ?o007h (by kernel_rfl) (by kernel_rfl) (by kernel_rfl) ?o007q ?o007y hHeld ?o007r
  case o007h => (simp only [List.getElem?_toArray, List.getElem?_cons_succ, List.getElem?_cons_zero]; rfl)
  case o007q => exact fun _ _ _ h => h
  case o007y => (refine Or.inl ⟨by first | kernel_rfl | rfl, ?_⟩; intro w hSw; (try dsimp only at hSw); obtain ⟨⟨x0, x1, x2⟩, ⟨y0, y1, y2⟩, ⟨z0, z1, z2⟩, -, ⟨u0, u1, u2⟩, ⟨v0, v1, v2⟩, -, -, -⟩ := hSw; go_simp <;> (try with_reducible rfl))
  try simp only [Act.put, List.setIfInBounds_toArray, List.set_cons_zero, List.set_cons_succ]
  refine wpAnyH_take (i := 9) (oi := ?o008o) (v := ?o008v) ?o008h (by kernel_rfl) (by kernel_rfl) (by kernel_rfl) ?o008q ?o008y hHeld ?o008r
  case o008h => (simp only [List.getElem?_toArray, List.getElem?_cons_succ, List.getElem?_cons_zero]; rfl)
  case o008q => exact fun _ _ _ h => h
  case o008y => (refine Or.inl ⟨by first | kernel_rfl | rfl, ?_⟩; intro w hSw; (try dsimp only at hSw); obtain ⟨⟨x0, x1, x2⟩, ⟨y0, y1, y2⟩, ⟨z0, z1, z2⟩, -, ⟨u0, u1, u2⟩, ⟨v0, v1, v2⟩, -, -, -⟩ := hSw; go_simp <;> (try with_reducible rfl))
  try simp only [Act.put, List.setIfInBounds_toArray, List.set_cons_zero, List.set_cons_succ]
  refine wpAnyH_take (i := 10) (oi := ?o009o) (v := ?o009v) ?o009h (by kernel_rfl) (by kernel_rfl) (by kernel_rfl) ?o009q ?o009y hHeld ?o009r
  case o009h => (simp only [List.getElem?_toArray, List.getElem?_cons_succ, List.getElem?_cons_zero]; rfl)
  case o009q => exact fun _ _ _ h => h
  case o009y => (refine Or.inl ⟨by first | kernel_rfl | rfl, ?_⟩; intro w hSw; (try dsimp only at hSw); obtain ⟨⟨x0, x1, x2⟩, ⟨y0, y1, y2⟩, ⟨z0, z1, z2⟩, -, ⟨u0, u1, u2⟩, ⟨v0, v1, v2⟩, -, -, -⟩ := hSw; go_simp <;> (try with_reducible rfl))
  try simp only [Act.put, List.setIfInBounds_toArray, List.set_cons_zero, List.set_cons_succ]
  refine wpAnyH_take (i := 12) (oi := ?o0010o) (v := ?o0010v) ?o0010h (by kernel_rfl) (by kernel_rfl) (by kernel_rfl) ?o0010q ?o0010y hHeld ?o0010r
  case o0010h => (simp only [List.getElem?_toArray, List.getElem?_cons_succ, List.getElem?_cons_zero]; rfl)
  case o0010q => exact fun _ _ _ h => h
  case o0010y => (refine Or.inl ⟨by first | kernel_rfl | rfl, ?_⟩; intro w hSw; (try dsimp only at hSw); obtain ⟨⟨x0, x1, x2⟩, ⟨y0, y1, y2⟩, ⟨z0, z1, z2⟩, -, ⟨u0, u1, u2⟩, ⟨v0, v1, v2⟩, -, -, -⟩ := hSw; go_simp <;> (try with_reducible rfl))
  try simp only [Act.put, List.setIfInBounds_toArray, List.set_cons_zero, List.set_cons_succ]
  refine wpAnyH_take (i := 13) (oi := ?o0011o) (v := ?o0011v) ?o0011h (by kernel_rfl) (by kernel_rfl) (by kernel_rfl) ?o0011q ?o0011y hHeld ?o0011r
  case o0011h => (simp only [List.getElem?_toArray, List.getElem?_cons_succ, List.getElem?_cons_zero]; rfl)
  case o0011q => exact fun _ _ _ h => h
  case o0011y => (refine Or.inl ⟨by first | kernel_rfl | rfl, ?_⟩; intro w hSw; (try dsimp only at hSw); obtain ⟨⟨x0, x1, x2⟩, ⟨y0, y1, y2⟩, ⟨z0, z1, z2⟩, -, ⟨u0, u1, u2⟩, ⟨v0, v1, v2⟩, -, -, -⟩ := hSw; go_simp <;> (try with_reducible rfl))
  try simp only [Act.put, List.setIfInBounds_toArray, List.set_cons_zero, List.set_cons_succ]
  refine wpAnyH_ready (rs := [11]) (by kernel_rfl) (by simp) ?_
  refine (AllReadyH.cons rfl (fun K hK => ?_) AllReadyH.nil)
  go_simp
  ((with_reducible refine (l1 _).mono ?_); rintro e w' ⟨rfl, hb'⟩)
  refine hK.out _ _ (hHeld.keep hb') (fun hHeld => ?_)
  clear hK K
  try simp only [Act.put, List.setIfInBounds_toArray, List.set_cons_zero, List.set_cons_succ]
  refine wpAnyH_ready (rs := [14]) (by kernel_rfl) (by simp) ?_
  refine (AllReadyH.cons rfl (fun K hK => ?_) AllReadyH.nil)
  go_simp
  ((with_reducible refine (l2 _).mono ?_); rintro e w' ⟨rfl, hb'⟩)
  refine hK.out _ _ (hHeld.keep hb') (fun hHeld => ?_)
  clear hK K
  try simp only [Act.put, List.setIfInBounds_toArray, List.set_cons_zero, List.set_cons_succ]
  refine wpAnyH_take (i := 15) (oi := ?o0012o) (v := ?o0012v) ?o0012h (by kernel_rfl) (by kernel_rfl) (by kernel_rfl) ?o0012q ?o0012y hHeld ?o0012r
  case o0012h => (simp only [List.getElem?_toArray, List.getElem?_cons_succ, List.getElem?_cons_zero]; rfl)
  case o0012q => exact fun _ _ _ h => h
  case o0012y => (refine Or.inl ⟨by first | kernel_rfl | rfl, ?_⟩; intro w hSw; (try dsimp only at hSw); obtain ⟨⟨x0, x1, x2⟩, ⟨y0, y1, y2⟩, ⟨z0, z1, z2⟩, -, ⟨u0, u1, u2⟩, ⟨v0, v1, v2⟩, -, -, -⟩ := hSw; go_simp <;> (try with_reducible rfl))
  try simp only [Act.put, List.setIfInBounds_toArray, List.set_cons_zero, List.set_cons_succ]
  refine wpAnyH_take (i := 16) (oi := ?o0013o) (v := ?o0013v) ?o0013h (by kernel_rfl) (by kernel_rfl) (by kernel_rfl) ?o0013q ?o0013y hHeld ?o0013r
  case o0013h => (simp only [List.getElem?_toArray, List.getElem?_cons_succ, List.getElem?_cons_zero]; rfl)
  case o0013q => exact fun _ _ _ h => h
  case o0013y => (refine Or.inl ⟨by first | kernel_rfl | rfl, ?_⟩; intro w hSw; (try dsimp only at hSw); obtain ⟨⟨x0, x1, x2⟩, ⟨y0, y1, y2⟩, ⟨z0, z1, z2⟩, -, ⟨u0, u1, u2⟩, ⟨v0, v1, v2⟩, -, -, -⟩ := hSw; go_simp <;> (try with_reducible rfl))
  try simp only [Act.put, List.setIfInBounds_toArray, List.set_cons_zero, List.set_cons_succ]
  refine wpAnyH_take (i := 17) (oi := ?o0014o) (v := ?o0014v) ?o0014h (by kernel_rfl) (by kernel_rfl) (by kernel_rfl) ?o0014q ?o0014y hHeld ?o0014r
  case o0014h => (simp only [List.getElem?_toArray, List.getElem?_cons_succ, List.getElem?_cons_zero]; rfl)
  case o0014q => exact fun _ _ _ h => h
  case o0014y => (refine Or.inl ⟨by first | kernel_rfl | rfl, ?_⟩; intro w hSw; (try dsimp only at hSw); obtain ⟨⟨x0, x1, x2⟩, ⟨y0, y1, y2⟩, ⟨z0, z1, z2⟩, -, ⟨u0, u1, u2⟩, ⟨v0, v1, v2⟩, -, -, -⟩ := hSw; go_simp <;> (try with_reducible rfl))
  try simp only [Act.put, List.setIfInBounds_toArray, List.set_cons_zero, List.set_cons_succ]
  refine wpAnyH_take (i := 18) (oi := ?o0015o) (v := ?o0015v) ?o0015h (by kernel_rfl) (by kernel_rfl) (by kernel_rfl) ?o0015q ?o0015y hHeld ?o0015r
  case o0015h => (simp only [List.getElem?_toArray, List.getElem?_cons_succ, List.getElem?_cons_zero]; rfl)
  case o0015q => exact fun _ _ _ h => h
  case o0015y => (refine Or.inl ⟨by first | kernel_rfl | rfl, ?_⟩; intro w hSw; (try dsimp only at hSw); obtain ⟨⟨x0, x1, x2⟩, ⟨y0, y1, y2⟩, ⟨z0, z1, z2⟩, -, ⟨u0, u1, u2⟩, ⟨v0, v1, v2⟩, -, -, -⟩ := hSw; go_simp <;> (try with_reducible rfl))
  try simp only [Act.put, List.setIfInBounds_toArray, List.set_cons_zero, List.set_cons_succ]
  refine wpAnyH_take (i := 19) (oi := ?o0016o) (v := ?o0016v) ?o0016h (by kernel_rfl) (by kernel_rfl) (by kernel_rfl) ?o0016q ?o0016y hHeld ?o0016r
  case o0016h => (simp only [List.getElem?_toArray, List.getElem?_cons_succ, List.getElem?_cons_zero]; rfl)
  case o0016q => exact fun _ _ _ h => h
  case o0016y => (refine Or.inl ⟨by first | kernel_rfl | rfl, ?_⟩; intro w hSw; (try dsimp only at hSw); obtain ⟨⟨x0, x1, x2⟩, ⟨y0, y1, y2⟩, ⟨z0, z1, z2⟩, -, ⟨u0, u1, u2⟩, ⟨v0, v1, v2⟩, -, -, -⟩ := hSw; go_simp <;> (try with_reducible rfl))
  try simp only [Act.put, List.setIfInBounds_toArray, List.set_cons_zero, List.set_cons_succ]
  refine wpAnyH_take (i := 21) (oi := ?o0017o) (v := ?o0017v) ?o0017h (by kernel_rfl) (by kernel_rfl) (by kernel_rfl) ?o0017q ?o0017y hHeld ?o0017r
  case o0017h => (simp only [List.getElem?_toArray, List.getElem?_cons_succ, List.getElem?_cons_zero]; rfl)
  case o0017q => exact fun _ _ _ h => h
  case o0017y => (refine Or.inl ⟨by first | kernel_rfl | rfl, ?_⟩; intro w hSw; (try dsimp only at hSw); obtain ⟨⟨x0, x1, x2⟩, ⟨y0, y1, y2⟩, ⟨z0, z1, z2⟩, -, ⟨u0, u1, u2⟩, ⟨v0, v1, v2⟩, -, -, -⟩ := hSw; go_simp <;> (try with_reducible rfl))
  try simp only [Act.put, List.setIfInBounds_toArray, List.set_cons_zero, List.set_cons_succ]
  refine wpAnyH_ready (rs := [20]) (by kernel_rfl) (by simp) ?_
  refine (AllReadyH.cons rfl (fun K hK => ?_) AllReadyH.nil)
  go_simp
  ((with_reducible refine (l3 _).mono ?_); rintro e w' ⟨rfl, hb'⟩)
  refine hK.out _ _ (hHeld.keep hb') (fun hHeld => ?_)
  clear hK K
  try simp only [Act.put, List.setIfInBounds_toArray, List.set_cons_zero, List.set_cons_succ]
  refine wpAnyH_take (i := 22) (oi := ?o0018o) (v := ?o0018v) ?o0018h (by kernel_rfl) (by kernel_rfl) (by kernel_rfl) ?o0018q ?o0018y hHeld ?o0018r
  case o0018h => (simp only [List.getElem?_toArray, List.getElem?_cons_succ, List.getElem?_cons_zero]; rfl)
  case o0018q => exact fun _ _ _ h => h
  case o0018y => (refine Or.inl ⟨by first | kernel_rfl | rfl, ?_⟩; intro w hSw; (try dsimp only at hSw); obtain ⟨⟨x0, x1, x2⟩, ⟨y0, y1, y2⟩, ⟨z0, z1, z2⟩, -, ⟨u0, u1, u2⟩, ⟨v0, v1, v2⟩, -, -, -⟩ := hSw; go_simp <;> (try with_reducible rfl))
  try simp only [Act.put, List.setIfInBounds_toArray, List.set_cons_zero, List.set_cons_succ]
  refine wpAnyH_take (i := 23) (oi := ?o0019o) (v := ?o0019v) ?o0019h (by kernel_rfl) (by kernel_rfl) (by kernel_rfl) ?o0019q ?o0019y hHeld ?o0019r
  case o0019h => (simp only [List.getElem?_toArray, List.getElem?_cons_succ, List.getElem?_cons_zero]; rfl)
  case o0019q => exact fun _ _ _ h => h
  case o0019y => (refine Or.inl ⟨by first | kernel_rfl | rfl, ?_⟩; intro w hSw; (try dsimp only at hSw); obtain ⟨⟨x0, x1, x2⟩, ⟨y0, y1, y2⟩, ⟨z0, z1, z2⟩, -, ⟨u0, u1, u2⟩, ⟨v0, v1, v2⟩, -, -, -⟩ := hSw; go_simp <;> (try with_reducible rfl))
  try simp only [Act.put, List.setIfInBounds_toArray, List.set_cons_zero, List.set_cons_succ]
  refine wpAnyH_take (i := 24) (oi := ?o0020o) (v := ?o0020v) ?o0020h (by kernel_rfl) (by kernel_rfl) (by kernel_rfl) ?o0020q ?o0020y hHeld ?o0020r
  case o0020h => (simp only [List.getElem?_toArray, List.getElem?_cons_succ, List.getElem?_cons_zero]; rfl)
  case o0020q => exact fun _ _ _ h => h
  case o0020y => (refine Or.inl ⟨by first | kernel_rfl | rfl, ?_⟩; intro w hSw; (try dsimp only at hSw); obtain ⟨⟨x0, x1, x2⟩, ⟨y0, y1, y2⟩, ⟨z0, z1, z2⟩, -, ⟨u0, u1, u2⟩, ⟨v0, v1, v2⟩, -, -, -⟩ := hSw; go_simp <;> (try with_reducible rfl))
  try simp only [Act.put, List.setIfInBounds_toArray, List.set_cons_zero, List.set_cons_succ]
  refine wpAnyH_take (i := 25) (oi := ?o0021o) (v := ?o0021v) ?o0021h (by kernel_rfl) (by kernel_rfl) (by kernel_rfl) ?o0021q ?o0021y hHeld ?o0021r
  case o0021h => (simp only [List.getElem?_toArray, List.getElem?_cons_succ, List.getElem?_cons_zero]; rfl)
  case o0021q => exact fun _ _ _ h => h
  case o0021y => (refine Or.inl ⟨by first | kernel_rfl | rfl, ?_⟩; intro w hSw; (try dsimp only at hSw); obtain ⟨⟨x0, x1, x2⟩, ⟨y0, y1, y2⟩, ⟨z0, z1, z2⟩, -, ⟨u0, u1, u2⟩, ⟨v0, v1, v2⟩, -, -, -⟩ := hSw; go_simp <;> (try with_reducible rfl))
  try simp only [Act.put, List.setIfInBounds_toArray, List.set_cons_zero, List.set_cons_succ]
  refine wpAnyH_take (i := 27) (oi := ?o0022o) (v := ?o0022v) ?o0022h (by kernel_rfl) (by kernel_rfl) (by kernel_rfl) ?o0022q ?o0022y hHeld ?o0022r
  case o0022h => (simp only [List.getElem?_toArray, List.getElem?_cons_succ, List.getElem?_cons_zero]; rfl)
  case o0022q => exact fun _ _ _ h => h
  case o0022y => (refine Or.inl ⟨by first | kernel_rfl | rfl, ?_⟩; intro w hSw; (try dsimp only at hSw); obtain ⟨⟨x0, x1, x2⟩, ⟨y0, y1, y2⟩, ⟨z0, z1, z2⟩, -, ⟨u0, u1, u2⟩, ⟨v0, v1, v2⟩, -, -, -⟩ := hSw; go_simp <;> (try with_reducible rfl))
  try simp only [Act.put, List.setIfInBounds_toArray, List.set_cons_zero, List.set_cons_succ]
  refine wpAnyH_ready (rs := [26]) (by kernel_rfl) (by simp) ?_
  refine (AllReadyH.cons rfl (fun K hK => ?_) AllReadyH.nil)
  go_simp
  ((with_reducible refine (y1 _).mono ?_); rintro e w' ⟨rfl, hb'⟩)
  refine hK.out _ _ (hHeld.keep hb') (fun hHeld => ?_)
  clear hK K
  try simp only [Act.put, List.setIfInBounds_toArray, List.set_cons_zero, List.set_cons_succ]
  refine wpAnyH_ready (rs := [28]) (by kernel_rfl) (by simp) ?_
  refine (AllReadyH.cons rfl (fun K hK => ?_) AllReadyH.nil)
  go_simp
  ((with_reducible refine (y2 _).mono ?_); rintro e w' ⟨rfl, hb'⟩)
  refine hK.out _ _ (hHeld.keep hb') (fun hHeld => ?_)
  clear hK K
  try simp only [Act.put, List.setIfInBounds_toArray, List.set_cons_zero, List.set_cons_succ]
  refine wpAnyH_take (i := 29) (oi := ?o0023o) (v := ?o0023v) ?o0023h (by kernel_rfl) (by kernel_rfl) (by kernel_rfl) ?o0023q ?o0023y hHeld ?o0023r
  case o0023h => (simp only [List.getElem?_toArray, List.getElem?_cons_succ, List.getElem?_cons_zero]; rfl)
  case o0023q => exact fun _ _ _ h => h
  case o0023y => (refine Or.inl ⟨by first | kernel_rfl | rfl, ?_⟩; intro w hSw; (try dsimp only at hSw); obtain ⟨⟨x0, x1, x2⟩, ⟨y0, y1, y2⟩, ⟨z0, z1, z2⟩, -, ⟨u0, u1, u2⟩, ⟨v0, v1, v2⟩, -, -, -⟩ := hSw; go_simp <;> (try with_reducible rfl))
  try simp only [Act.put, List.setIfInBounds_toArray, List.set_cons_zero, List.set_cons_succ]
  refine wpAnyH_take (i := 30) (oi := ?o0024o) (v := ?o0024v) ?o0024h (by kernel_rfl) (by kernel_rfl) (by kernel_rfl) ?o0024q ?o0024y hHeld ?o0024r
  case o0024h => (simp only [List.getElem?_toArray, List.getElem?_cons_succ, List.getElem?_cons_zero]; rfl)
  case o0024q => exact fun _ _ _ h => h
  case o0024y => (refine Or.inl ⟨by first | kernel_rfl | rfl, ?_⟩; intro w hSw; (try dsimp only at hSw); obtain ⟨⟨x0, x1, x2⟩, ⟨y0, y1, y2⟩, ⟨z0, z1, z2⟩, -, ⟨u0, u1, u2⟩, ⟨v0, v1, v2⟩, -, -, -⟩ := hSw; go_simp <;> (try with_reducible rfl))
  try simp only [Act.put, List.setIfInBounds_toArray, List.set_cons_zero, List.set_cons_succ]
  refine wpAnyH_take (i := 31) (oi := ?o0025o) (v := ?o0025v) ?o0025h (by kernel_rfl) (by kernel_rfl) (by kernel_rfl) ?o0025q ?o0025y hHeld ?o0025r
  case o0025h => (simp only [List.getElem?_toArray, List.getElem?_cons_succ, List.getElem?_cons_zero]; rfl)
  case o0025q => exact fun _ _ _ h => h
  case o0025y => (refine Or.inl ⟨by first | kernel_rfl | rfl, ?_⟩; intro w hSw; (try dsimp only at hSw); obtain ⟨⟨x0, x1, x2⟩, ⟨y0, y1, y2⟩, ⟨z0, z1, z2⟩, -, ⟨u0, u1, u2⟩, ⟨v0, v1, v2⟩, -, -, -⟩ := hSw; go_simp <;> (try with_reducible rfl))
  try simp only [Act.put, List.setIfInBounds_toArray, List.set_cons_zero, List.set_cons_succ]
  refine wpAnyH_take (i := 32) (oi := ?o0026o) (v := ?o0026v) ?o0026h (by kernel_rfl) (by kernel_rfl) (by kernel_rfl) ?o0026q ?o0026y hHeld ?o0026r
  case o0026h => (simp only [List.getElem?_toArray, List.getElem?_cons_succ, List.getElem?_cons_zero]; rfl)
  case o0026q => exact fun _ _ _ h => h
  case o0026y => (refine Or.inl ⟨by first | kernel_rfl | rfl, ?_⟩; intro w hSw; (try dsimp only at hSw); obtain ⟨⟨x0, x1, x2⟩, ⟨y0, y1, y2⟩, ⟨z0, z1, z2⟩, -, ⟨u0, u1, u2⟩, ⟨v0, v1, v2⟩, -, -, -⟩ := hSw; go_simp <;> (try with_reducible rfl))
  try simp only [Act.put, List.setIfInBounds_toArray, List.set_cons_zero, List.set_cons_succ]
  refine wpAnyH_take (i := 33) (oi := ?o0027o) (v := ?o0027v) ?o0027h (by kernel_rfl) (by kernel_rfl) (by kernel_rfl) ?o0027q ?o0027y hHeld ?o0027r
  case o0027h => (simp only [List.getElem?_toArray, List.getElem?_cons_succ, List.getElem?_cons_zero]; rfl)
  case o0027q => exact fun _ _ _ h => h
  case o0027y => (refine Or.inl ⟨by first | kernel_rfl | rfl, ?_⟩; intro w hSw; (try dsimp only at hSw); obtain ⟨⟨x0, x1, x2⟩, ⟨y0, y1, y2⟩, ⟨z0, z1, z2⟩, -, ⟨u0, u1, u2⟩, ⟨v0, v1, v2⟩, -, -, -⟩ := hSw; go_simp <;> (try with_reducible rfl))
  try simp only [Act.put, List.setIfInBounds_toArray, List.set_cons_zero, List.set_cons_succ]
  refine wpAnyH_take (i := 34) (oi := ?o0028o) (v := ?o0028v) ?o0028h (by kernel_rfl) (by kernel_rfl) (by kernel_rfl) ?o0028q ?o0028y hHeld ?o0028r
  case o0028h => (simp only [List.getElem?_toArray, List.getElem?_cons_succ, List.getElem?_cons_zero]; rfl)
  case o0028q => exact fun _ _ _ h => h
  case o0028y => (refine Or.inl ⟨by first | kernel_rfl | rfl, ?_⟩; intro w hSw; (try dsimp only at hSw); obtain ⟨⟨x0, x1, x2⟩, ⟨y0, y1, y2⟩, ⟨z0, z1, z2⟩, -, ⟨u0, u1, u2⟩, ⟨v0, v1, v2⟩, -, -, -⟩ := hSw; go_simp <;> (try with_reducible rfl))
  try simp only [Act.put, List.setIfInBounds_toArray, List.set_cons_zero, List.set_cons_succ]
  refine wpAnyH_take (i := 35) (oi := ?o0029o) (v := ?o0029v) ?o0029h (by kernel_rfl) (by kernel_rfl) (by kernel_rfl) ?o0029q ?o0029y hHeld ?o0029r
  case o0029h => (simp only [List.getElem?_toArray, List.getElem?_cons_succ, List.getElem?_cons_zero]; rfl)
  case o0029q => exact fun _ _ _ h => h
  case o0029y => (refine Or.inl ⟨by first | kernel_rfl | rfl, ?_⟩; intro w hSw; (try dsimp only at hSw); obtain ⟨⟨x0, x1, x2⟩, ⟨y0, y1, y2⟩, ⟨z0, z1, z2⟩, -, ⟨u0, u1, u2⟩, ⟨v0, v1, v2⟩, -, -, -⟩ := hSw; go_simp <;> (try with_reducible rfl))
  try simp only [Act.put, List.setIfInBounds_toArray, List.set_cons_zero, List.set_cons_succ]
  refine wpAnyH_take (i := 36) (oi := ?o0030o) (v := ?o0030v) ?o0030h (by kernel_rfl) (by kernel_rfl) (by kernel_rfl) ?o0030q ?o0030y hHeld ?o0030r
  case o0030h => (simp only [List.getElem?_toArray, List.getElem?_cons_succ, List.getElem?_cons_zero]; rfl)
  case o0030q => exact fun _ _ _ h => h
  case o0030y => (refine Or.inl ⟨by first | kernel_rfl | rfl, ?_⟩; intro w hSw; (try dsimp only at hSw); obtain ⟨⟨x0, x1, x2⟩, ⟨y0, y1, y2⟩, ⟨z0, z1, z2⟩, -, ⟨u0, u1, u2⟩, ⟨v0, v1, v2⟩, -, -, -⟩ := hSw; go_simp <;> (try with_reducible rfl))
  try simp only [Act.put, List.setIfInBounds_toArray, List.set_cons_zero, List.set_cons_succ]
  refine wpAnyH_take (i := 37) (oi := ?o0031o) (v := ?o0031v) ?o0031h (by kernel_rfl) (by kernel_rfl) (by kernel_rfl) ?o0031q ?o0031y hHeld ?o0031r
  case o0031h => (simp only [List.getElem?_toArray, List.getElem?_cons_succ, List.getElem?_cons_zero]; rfl)
  case o0031q => exact fun _ _ _ h => h
  case o0031y => (refine Or.inl ⟨by first | kernel_rfl | rfl, ?_⟩; intro w hSw; (try dsimp only at hSw); obtain ⟨⟨x0, x1, x2⟩, ⟨y0, y1, y2⟩, ⟨z0, z1, z2⟩, -, ⟨u0, u1, u2⟩, ⟨v0, v1, v2⟩, -, -, -⟩ := hSw; go_simp <;> (try with_reducible rfl))
  try simp only [Act.put, List.setIfInBounds_toArray, List.set_cons_zero, List.set_cons_succ]
  refine wpAnyH_take (i := 39) (oi := ?o0032o) (v := ?o0032v) ?o0032h (by kernel_rfl) (by kernel_rfl) (by kernel_rfl) ?o0032q ?o0032y hHeld ?o0032r
  case o0032h => (simp only [List.getElem?_toArray, List.getElem?_cons_succ, List.getElem?_cons_zero]; rfl)
  case o0032q => exact fun _ _ _ h => h
  case o0032y => (refine Or.inl ⟨by first | kernel_rfl | rfl, ?_⟩; intro w hSw; (try dsimp only at hSw); obtain ⟨⟨x0, x1, x2⟩, ⟨y0, y1, y2⟩, ⟨z0, z1, z2⟩, -, ⟨u0, u1, u2⟩, ⟨v0, v1, v2⟩, -, -, -⟩ := hSw; go_simp <;> (try with_reducible rfl))
  try simp only [Act.put, List.setIfInBounds_toArray, List.set_cons_zero, List.set_cons_succ]
  refine wpAnyH_ready (rs := [38]) (by kernel_rfl) (by simp) ?_
  refine (AllReadyH.cons rfl (fun K hK => ?_) AllReadyH.nil)
  go_simp
  ((with_reducible refine (f1 _ _ hHeld.mine).mono ?_); rintro e w' ⟨rfl, hb'⟩)
  refine hK.out _ _ (hHeld.keep hb') (fun hHeld => ?_)
  clear hK K
  try simp only [Act.put, List.setIfInBounds_toArray, List.set_cons_zero, List.set_cons_succ]
  refine wpAnyH_ready (rs := [40]) (by kernel_rfl) (by simp) ?_
  refine (AllReadyH.cons rfl (fun K hK => ?_) AllReadyH.nil)
  go_simp
  ((with_reducible refine (f2 _ _ hHeld.theirs).mono ?_); rintro e w' ⟨rfl, hb'⟩)
  refine hK.out _ _ (hHeld.keep hb') (fun hHeld => ?_)
  clear hK K
  try simp only [Act.put, List.setIfInBounds_toArray, List.set_cons_zero, List.set_cons_succ]
  refine wpAnyH_take (i := 41) (oi := ?o0033o) (v := ?o0033v) ?o0033h (by kernel_rfl) (by kernel_rfl) (by kernel_rfl) ?o0033q ?o0033y hHeld ?o0033r
  case o0033h => (simp only [List.getElem?_toArray, List.getElem?_cons_succ, List.getElem?_cons_zero]; rfl)
  case o0033q => exact fun _ _ _ h => h
  case o0033y => (refine Or.inl ⟨by first | kernel_rfl | rfl, ?_⟩; intro w hSw; (try dsimp only at hSw); obtain ⟨⟨x0, x1, x2⟩, ⟨y0, y1, y2⟩, ⟨z0, z1, z2⟩, -, ⟨u0, u1, u2⟩, ⟨v0, v1, v2⟩, -, -, -⟩ := hSw; go_simp <;> (try with_reducible rfl))
  try simp only [Act.put, List.setIfInBounds_toArray, List.set_cons_zero, List.set_cons_succ]
  refine wpAnyH_take (i := 42) (oi := ?o0034o) (v := ?o0034v) ?o0034h (by kernel_rfl) (by kernel_rfl) (by kernel_rfl) ?o0034q ?o0034y hHeld ?o0034r
  case o0034h => (simp only [List.getElem?_toArray, List.getElem?_cons_succ, List.getElem?_cons_zero]; rfl)
  case o0034q => exact fun _ _ _ h => h
  case o0034y => (refine Or.inl ⟨by first | kernel_rfl | rfl, ?_⟩; intro w hSw; (try dsimp only at hSw); obtain ⟨⟨x0, x1, x2⟩, ⟨y0, y1, y2⟩, ⟨z0, z1, z2⟩, -, ⟨u0, u1, u2⟩, ⟨v0, v1, v2⟩, -, -, -⟩ := hSw; go_simp <;> (try with_reducible rfl))
  try simp only [Act.put, List.setIfInBounds_toArray, List.set_cons_zero, List.set_cons_succ]
  refine wpAnyH_take (i := 43) (oi := ?o0035o) (v := ?o0035v) ?o0035h (by kernel_rfl) (by kernel_rfl) (by kernel_rfl) ?o0035q ?o0035y hHeld ?o0035r
  case o0035h => (simp only [List.getElem?_toArray, List.getElem?_cons_succ, List.getElem?_cons_zero]; rfl)
  case o0035q => exact fun _ _ _ h => h
  case o0035y => (refine Or.inl ⟨by first | kernel_rfl | rfl, ?_⟩; intro w hSw; (try dsimp only at hSw); obtain ⟨⟨x0, x1, x2⟩, ⟨y0, y1, y2⟩, ⟨z0, z1, z2⟩, -, ⟨u0, u1, u2⟩, ⟨v0, v1, v2⟩, -, -, -⟩ := hSw; go_simp <;> (try with_reducible rfl))
  try simp only [Act.put, List.setIfInBounds_toArray, List.set_cons_zero, List.set_cons_succ]
  refine wpAnyH_done (by kernel_rfl) ?_ _
  have hbel := hHeld.bel
  go_wp2
  go_ret
  exact ⟨rfl, hbel⟩

set_option maxHeartbeats 32000000 in
set_option maxRecDepth 20000 in
theorem core_01 (a b : St) (s T : ByteArray) (hx : a.lt b = false) (w : World) (hT : T.size ≤ 60) (h60 : ¬ 60 < s.size) (hTe : T = s) :
    Calls Try.prog 3 #[.agg #[.int .i64 a.c, .int .i64 a.s, .int .i64 a.q], .agg #[.int .i64 b.c, .int .i64 b.s, .int .i64 b.q], .string s] w fun e w' => e = .returned (.bool true) ∧ Below w.heap.size w w' := by
  obtain ⟨⟨c, r, br⟩, hq⟩ : ∃ y, takeQ T false = y := ⟨_, rfl⟩
  have t1 := fun pr w hA => take_is pr T r false br c w (by omega) (Lib.hid hq) (fun e => (by cases e)) hA
  have t2 := fun px w hA => rtake_is px T T r false br c w (by omega) (Lib.hid hq) (fun e => (by cases e)) hA
  obtain ⟨er, her⟩ : ∃ e, a.err = e := ⟨_, rfl⟩
  have c1 := fun w => checkV a er (Lib.hid her) w
  have c2 := fun w => rcheckV a er (Lib.hid her) w
  have l1 := fun w => lessV a b false (Lib.hid hx) w
  have l2 := fun w => rlessV a b false (Lib.hid hx) w
  obtain ⟨SB, hSB⟩ : ∃ S, tx a.bytes = S := ⟨_, rfl⟩
  have y1 := fun w => bytes_is a SB w (Lib.hid hSB)
  have y2 := fun w => rbytes_is a SB w (Lib.hid hSB)
  have f1 := fun pr w hA => left_b pr r br w hA
  have f2 := fun px w hA => rleft_b px T r br w (by omega) hA
  have q2 : ∀ w, (binOp .eql 23 (.agg #[.int .i64 c.c, .int .i64 c.s, .int .i64 c.q]) (.agg #[.int .i64 c.c, .int .i64 c.s, .int .i64 c.q])).run Try.prog w = .ok (.bool true) w := fun w => by rw [eql_run, decide_eq_true rfl]
  have A0 := (StAt.new w a).alloc (.cells #[.int .i64 b.c, .int .i64 b.s, .int .i64 b.q] 23)
  have B0 : StAt ((w.alloc (.cells #[.int .i64 a.c, .int .i64 a.s, .int .i64 a.q] 23)).alloc (.cells #[.int .i64 b.c, .int .i64 b.s, .int .i64 b.q] 23)) (w.heap.size + 1) b := by have := StAt.new (w.alloc (.cells #[.int .i64 a.c, .int .i64 a.s, .int .i64 a.q] 23)) b; simpa using this
  have bel0 : Below w.heap.size w ((w.alloc (.cells #[.int .i64 a.c, .int .i64 a.s, .int .i64 a.q] 23)).alloc (.cells #[.int .i64 b.c, .int .i64 b.s, .int .i64 b.q] 23)) := two_new _ _ _
  clear hq her hSB
  have l3 := fun w => laterV a b a (Lib.hid (by rw [if_neg]; simp [hx])) w
  have q3 : ∀ w, (binOp .eql 23 (.agg #[.int .i64 a.c, .int .i64 a.s, .int .i64 a.q]) (.agg #[.int .i64 a.c, .int .i64 a.s, .int .i64 a.q])).run Try.prog w = .ok (.bool true) w := fun w => by rw [eql_run, decide_eq_true rfl]
  clear hx
  subst hTe
  go_enter Try.func3, Try.ntmps3
  go_wp2_with (first
    | (go_at_call 10; (with_reducible refine (awake_any _).mono ?_); rintro e w1 ⟨rfl, hb⟩; have A1 := A0.below hb; have B1 := B0.below hb; have bel1 := bel_next bel0 hb)
    | (go_at_call 11; (with_reducible refine (read_is _ _).mono ?_); rintro e w2 ⟨rfl, hA, hb2, hz2⟩; have A2 := (A1.below hb2).alloc (.cells #[.string T, .int .i64 0, .bool false] 29); have B2 := (B1.below hb2).alloc (.cells #[.string T, .int .i64 0, .bool false] 29); have bel2 := bel_new (bel_next bel1 hb2) (.cells #[.string T, .int .i64 0, .bool false] 29); have R2 := hA.below ((Below.refl _ _).alloc (Nat.le_refl _) (.cells #[.string T, .int .i64 0, .bool false] 29)); have hw1 := bel1.size; have ra := A1.room; have rb := B1.room; have X2 : RS (w2.alloc (.cells #[.string T, .int .i64 0, .bool false] 29)) w2.heap.size T T false := ⟨0, false, ⟨by simp [go_sem], by simp [go_sem], by simp [go_sem], by simp [go_sem], by simp [go_sem], by simp [go_sem]⟩, rfl, Nat.zero_le _, fun _ => (list_inj0 T).symm, fun e => (by cases e)⟩)
    | (go_at_call 12; (with_reducible refine (t1 _ _ R2).mono ?_); rintro e w3 ⟨rfl, R3, hB3⟩; have A3 := (A2.but hB3 (by omega)).alloc (.cells #[.int .i64 c.c, .int .i64 c.s, .int .i64 c.q] 23); have B3 := (B2.but hB3 (by omega)).alloc (.cells #[.int .i64 c.c, .int .i64 c.s, .int .i64 c.q] 23); have X3 := (X2.but hB3 (by omega)).below ((Below.refl _ _).alloc (Nat.le_refl _) (.cells #[.int .i64 c.c, .int .i64 c.s, .int .i64 c.q] 23)); have R3 := R3.below ((Below.refl _ _).alloc (Nat.le_refl _) (.cells #[.int .i64 c.c, .int .i64 c.s, .int .i64 c.q] 23)); have bel3 := bel_new (bel2.trans (hB3.below (by omega) (by have := bel2.size; omega))) (.cells #[.int .i64 c.c, .int .i64 c.s, .int .i64 c.q] 23); have C3 := StAt.new w3 c; have rx := X2.room; have rsz := hB3.size)
    | (go_at_call 13; (with_reducible refine (t2 _ _ X3).mono ?_); rintro e w4 ⟨rfl, X4, hB4⟩; have A4 := ((A3.but hB4 (by omega)).alloc (.cells #[.int .i64 c.c, .int .i64 c.s, .int .i64 c.q] 23)).alloc (.cells #[.int .i64 a.c, .int .i64 a.s, .int .i64 a.q] 23); have B4 := ((B3.but hB4 (by omega)).alloc (.cells #[.int .i64 c.c, .int .i64 c.s, .int .i64 c.q] 23)).alloc (.cells #[.int .i64 a.c, .int .i64 a.s, .int .i64 a.q] 23); have C4 := ((C3.but hB4 (by omega)).alloc (.cells #[.int .i64 c.c, .int .i64 c.s, .int .i64 c.q] 23)).alloc (.cells #[.int .i64 a.c, .int .i64 a.s, .int .i64 a.q] 23); have R4 := ((R3.but hB4 (by omega)).below ((Below.refl _ _).alloc (Nat.le_refl _) (.cells #[.int .i64 c.c, .int .i64 c.s, .int .i64 c.q] 23))).below ((Below.refl _ _).alloc (Nat.le_refl _) (.cells #[.int .i64 a.c, .int .i64 a.s, .int .i64 a.q] 23)); have X4 := (X4.below ((Below.refl _ _).alloc (Nat.le_refl _) (.cells #[.int .i64 c.c, .int .i64 c.s, .int .i64 c.q] 23))).below ((Below.refl _ _).alloc (Nat.le_refl _) (.cells #[.int .i64 a.c, .int .i64 a.s, .int .i64 a.q] 23)); have bel4 := bel_new (bel_new (bel3.trans (hB4.below (by omega) (by have := bel3.size; omega))) (.cells #[.int .i64 c.c, .int .i64 c.s, .int .i64 c.q] 23)) (.cells #[.int .i64 a.c, .int .i64 a.s, .int .i64 a.q] 23); have D4 := (StAt.new w4 c).alloc (.cells #[.int .i64 a.c, .int .i64 a.s, .int .i64 a.q] 23); have L4 := StAt.new (w4.alloc (.cells #[.int .i64 c.c, .int .i64 c.s, .int .i64 c.q] 23)) a; have F4 := fz_new (w4.alloc (.cells #[.int .i64 c.c, .int .i64 c.s, .int .i64 c.q] 23)) a; have s3 := C3.room; have s4 := hB4.size; (have H4 : HS w w.heap.size (w.heap.size + 1) (w4.alloc (.cells #[.int .i64 c.c, .int .i64 c.s, .int .i64 c.q] 23)).heap.size w3.heap.size w4.heap.size w1.heap.size w2.heap.size a b a c T r br _ := ⟨A4, B4, L4, F4, C4, D4, R4, X4, bel4⟩); simp only [World.size_alloc] at H4; (have G := (A3.but hB4 (by omega)).alloc (.cells #[.int .i64 c.c, .int .i64 c.s, .int .i64 c.q] 23); obtain ⟨p0, p1, p2⟩ := G); (have G := H4.ha; obtain ⟨x0, x1, x2⟩ := G); (have G := H4.hb; obtain ⟨y0, y1', y2'⟩ := G))
    | (go_at_call 14; (with_reducible refine (l2 _).mono ?_); rintro e w5 ⟨rfl, hb⟩; have H5 := H4.keep hb; (have G := H5.hb; obtain ⟨y0, y1', y2'⟩ := G); (have G := H5.hl; obtain ⟨z0, z1, z2⟩ := G); have fz := H5.hf 0; have fz1 := H5.hf 1; have fz2 := H5.hf 2))
  simp only [World.size_alloc] at s3 rsz s4 hz2 rx ra rb
  have HH := H5
  have HK := Lib.hid HH
  generalize w1.heap.size = pr at HK ⊢
  generalize w2.heap.size = px at HK ⊢
  generalize w3.heap.size = bc at HK ⊢
  generalize w4.heap.size = bd at HK ⊢
  clear A0 B0 A1 B1 A2 B2 A3 B3 A4 B4 R2 R3 R4 X2 X3 X4 C3 C4 D4 L4 H4 H5 HH bel0 bel1 bel2 bel3 bel4 t1 t2
  refine wp_region_held_drew (S := (HS w w.heap.size (w.heap.size + 1) (bd + 1) bc bd pr px a b a c T r br)) (by kernel_rfl) HK.out.drew (fun hHeld => ?_)
  refine wpAnyH_take (i := 0) (oi := ?o011o) (v := ?o011v) ?o011h (by kernel_rfl) (by kernel_rfl) (by kernel_rfl) ?o011q ?o011y hHeld ?o011r
  case o011h => (simp only [List.getElem?_toArray, List.getElem?_cons_zero]; rfl)
  case o011q => exact fun _ _ _ h => h
  case o011y => (refine Or.inl ⟨by first | kernel_rfl | rfl, ?_⟩; intro w hSw; (try dsimp only at hSw); obtain ⟨⟨x0, x1, x2⟩, ⟨y0, y1, y2⟩, ⟨z0, z1, z2⟩, -, ⟨u0, u1, u2⟩, ⟨v0, v1, v2⟩, -, -, -⟩ := hSw; go_simp <;> (try with_reducible rfl))
  try simp only [Act.put, List.setIfInBounds_toArray, List.set_cons_zero, List.set_cons_succ]
  refine wpAnyH_take (i := 1) (oi := ?o012o) (v := ?o012v) ?o012h (by kernel_rfl) (by kernel_rfl) (by kernel_rfl) ?o012q ?o012y hHeld ?o012r
  case o012h => (simp only [List.getElem?_toArray, List.getElem?_cons_succ, List.getElem?_cons_zero]; rfl)
  case o012q => exact fun _ _ _ h => h
  case o012y => (refine Or.inl ⟨by first | kernel_rfl | rfl, ?_⟩; intro w hSw; (try dsimp only at hSw); obtain ⟨⟨x0, x1, x2⟩, ⟨y0, y1, y2⟩, ⟨z0, z1, z2⟩, -, ⟨u0, u1, u2⟩, ⟨v0, v1, v2⟩, -, -, -⟩ := hSw; go_simp <;> (try with_reducible rfl))
  try simp only [Act.put, List.setIfInBounds_toArray, List.set_cons_zero, List.set_cons_succ]
  refine wpAnyH_take (i := 2) (oi := ?o013o) (v := ?o013v) ?o013h (by kernel_rfl) (by kernel_rfl) (by kernel_rfl) ?o013q ?o013y hHeld ?o013r
  case o013h => (simp only [List.getElem?_toArray, List.getElem?_cons_succ, List.getElem?_cons_zero]; rfl)
  case o013q => exact fun _ _ _ h => h
  case o013y => (refine Or.inl ⟨by first | kernel_rfl | rfl, ?_⟩; intro w hSw; (try dsimp only at hSw); obtain ⟨⟨x0, x1, x2⟩, ⟨y0, y1, y2⟩, ⟨z0, z1, z2⟩, -, ⟨u0, u1, u2⟩, ⟨v0, v1, v2⟩, -, -, -⟩ := hSw; go_simp <;> (try with_reducible rfl))
  try simp only [Act.put, List.setIfInBounds_toArray, List.set_cons_zero, List.set_cons_succ]
  refine wpAnyH_take (i := 4) (oi := ?o014o) (v := ?o014v) ?o014h (by kernel_rfl) (by kernel_rfl) (by kernel_rfl) ?o014q ?o014y hHeld ?o014r
  case o014h => (simp only [List.getElem?_toArray, List.getElem?_cons_succ, List.getElem?_cons_zero]; rfl)
  case o014q => exact fun _ _ _ h => h
  case o014y => (refine Or.inl ⟨by first | kernel_rfl | rfl, ?_⟩; intro w hSw; (try dsimp only at hSw); obtain ⟨⟨x0, x1, x2⟩, ⟨y0, y1, y2⟩, ⟨z0, z1, z2⟩, -, ⟨u0, u1, u2⟩, ⟨v0, v1, v2⟩, -, -, -⟩ := hSw; go_simp <;> (try with_reducible rfl))
  try simp only [Act.put, List.setIfInBounds_toArray, List.set_cons_zero, List.set_cons_succ]
  refine wpAnyH_ready (rs := [3]) (by kernel_rfl) (by simp) ?_
  refine (AllReadyH.cons rfl (fun K hK => ?_) AllReadyH.nil)
  go_simp
  ((with_reducible refine (c1 _).mono ?_); rintro e w' ⟨rfl, hb'⟩)
  refine hK.out _ _ (hHeld.keep hb') (fun hHeld => ?_)
  clear hK K
  try simp only [Act.put, List.setIfInBounds_toArray, List.set_cons_zero, List.set_cons_succ]
  refine wpAnyH_ready (rs := [5]) (by kernel_rfl) (by simp) ?_
  refine (AllReadyH.cons rfl (fun K hK => ?_) AllReadyH.nil)
  go_simp
  ((with_reducible refine (c2 _).mono ?_); rintro e w' ⟨rfl, hb'⟩)
  refine hK.out _ _ (hHeld.keep hb') (fun hHeld => ?_)
  clear hK K
  try simp only [Act.put, List.setIfInBounds_toArray, List.set_cons_zero, List.set_cons_succ]
  refine wpAnyH_take (i := 6) (oi := ?o015o) (v := ?o015v) ?o015h (by kernel_rfl) (by kernel_rfl) (by kernel_rfl) ?o015q ?o015y hHeld ?o015r
  case o015h => (simp only [List.getElem?_toArray, List.getElem?_cons_succ, List.getElem?_cons_zero]; rfl)
  case o015q => exact fun _ _ _ h => h
  case o015y => (refine Or.inl ⟨by first | kernel_rfl | rfl, ?_⟩; intro w hSw; (try dsimp only at hSw); obtain ⟨⟨x0, x1, x2⟩, ⟨y0, y1, y2⟩, ⟨z0, z1, z2⟩, -, ⟨u0, u1, u2⟩, ⟨v0, v1, v2⟩, -, -, -⟩ := hSw; go_simp <;> (try with_reducible rfl))
  try simp only [Act.put, List.setIfInBounds_toArray, List.set_cons_zero, List.set_cons_succ]
  refine wpAnyH_take (i := 7) (oi := ?o016o) (v := ?o016v) ?o016h (by kernel_rfl) (by kernel_rfl) (by kernel_rfl) ?o016q ?o016y hHeld ?o016r
  case o016h => (simp only [List.getElem?_toArray, List.getElem?_cons_succ, List.getElem?_cons_zero]; rfl)
  case o016q => exact fun _ _ _ h => h
  case o016y => (refine Or.inl ⟨by first | kernel_rfl | rfl, ?_⟩; intro w hSw; (try dsimp only at hSw); obtain ⟨⟨x0, x1, x2⟩, ⟨y0, y1, y2⟩, ⟨z0, z1, z2⟩, -, ⟨u0, u1, u2⟩, ⟨v0, v1, v2⟩, -, -, -⟩ := hSw; go_simp <;> (try with_reducible rfl))
  try simp only [Act.put, List.setIfInBounds_toArray, List.set_cons_zero, List.set_cons_succ]
  refine wpAnyH_take (i := 8) (oi := ?o017o) (v := ?o017v) ?o017h (by kernel_rfl) (by kernel_rfl) (by kernel_rfl) ?o017q ?o017y hHeld ?o017r
  case o017h => (simp only [List.getElem?_toArray, List.getElem?_cons_succ, List.getElem?_cons_zero]; rfl)
  case o017q => exact fun _ _ _ h => h
  case o017y => (refine Or.inl ⟨by first | kernel_rfl | rfl, ?_⟩; intro w hSw; (try dsimp only at hSw); obtain ⟨⟨x0, x1, x2⟩, ⟨y0, y1, y2⟩, ⟨z0, z1, z2⟩, -, ⟨u0, u1, u2⟩, ⟨v0, v1, v2⟩, -, -, -⟩ := hSw; go_simp <;> (try with_reducible rfl))
  try simp only [Act.put, List.setIfInBounds_toArray, List.set_cons_zero, List.set_cons_succ]
  refine wpAnyH_take (i := 9) (oi := ?o018o) (v := ?o018v) ?o018h (by kernel_rfl) (by kernel_rfl) (by kernel_rfl) ?o018q ?o018y hHeld ?o018r
  case o018h => (simp only [List.getElem?_toArray, List.getElem?_cons_succ, List.getElem?_cons_zero]; rfl)
  case o018q => exact fun _ _ _ h => h
  case o018y => (refine Or.inl ⟨by first | kernel_rfl | rfl, ?_⟩; intro w hSw; (try dsimp only at hSw); obtain ⟨⟨x0, x1, x2⟩, ⟨y0, y1, y2⟩, ⟨z0, z1, z2⟩, -, ⟨u0, u1, u2⟩, ⟨v0, v1, v2⟩, -, -, -⟩ := hSw; go_simp <;> (try with_reducible rfl))
  try simp only [Act.put, List.setIfInBounds_toArray, List.set_cons_zero, List.set_cons_succ]
  refine wpAnyH_take (i := 10) (oi := ?o019o) (v := ?o019v) ?o019h (by kernel_rfl) (by kernel_rfl) (by kernel_rfl) ?o019q ?o019y hHeld ?o019r
  case o019h => (simp only [List.getElem?_toArray, List.getElem?_cons_succ, List.getElem?_cons_zero]; rfl)
  case o019q => exact fun _ _ _ h => h
  case o019y => (refine Or.inl ⟨by first | kernel_rfl | rfl, ?_⟩; intro w hSw; (try dsimp only at hSw); obtain ⟨⟨x0, x1, x2⟩, ⟨y0, y1, y2⟩, ⟨z0, z1, z2⟩, -, ⟨u0, u1, u2⟩, ⟨v0, v1, v2⟩, -, -, -⟩ := hSw; go_simp <;> (try with_reducible rfl))
  try simp only [Act.put, List.setIfInBounds_toArray, List.set_cons_zero, List.set_cons_succ]
  refine wpAnyH_take (i := 12) (oi := ?o0110o) (v := ?o0110v) ?o0110h (by kernel_rfl) (by kernel_rfl) (by kernel_rfl) ?o0110q ?o0110y hHeld ?o0110r
  case o0110h => (simp only [List.getElem?_toArray, List.getElem?_cons_succ, List.getElem?_cons_zero]; rfl)
  case o0110q => exact fun _ _ _ h => h
  case o0110y => (refine Or.inl ⟨by first | kernel_rfl | rfl, ?_⟩; intro w hSw; (try dsimp only at hSw); obtain ⟨⟨x0, x1, x2⟩, ⟨y0, y1, y2⟩, ⟨z0, z1, z2⟩, -, ⟨u0, u1, u2⟩, ⟨v0, v1, v2⟩, -, -, -⟩ := hSw; go_simp <;> (try with_reducible rfl))
  try simp only [Act.put, List.setIfInBounds_toArray, List.set_cons_zero, List.set_cons_succ]
  refine wpAnyH_take (i := 13) (oi := ?o0111o) (v := ?o0111v) ?o0111h (by kernel_rfl) (by kernel_rfl) (by kernel_rfl) ?o0111q ?o0111y hHeld ?o0111r
  case o0111h => (simp only [List.getElem?_toArray, List.getElem?_cons_succ, List.getElem?_cons_zero]; rfl)
  case o0111q => exact fun _ _ _ h => h
  case o0111y => (refine Or.inl ⟨by first | kernel_rfl | rfl, ?_⟩; intro w hSw; (try dsimp only at hSw); obtain ⟨⟨x0, x1, x2⟩, ⟨y0, y1, y2⟩, ⟨z0, z1, z2⟩, -, ⟨u0, u1, u2⟩, ⟨v0, v1, v2⟩, -, -, -⟩ := hSw; go_simp <;> (try with_reducible rfl))
  try simp only [Act.put, List.setIfInBounds_toArray, List.set_cons_zero, List.set_cons_succ]
  refine wpAnyH_ready (rs := [11]) (by kernel_rfl) (by simp) ?_
  refine (AllReadyH.cons rfl (fun K hK => ?_) AllReadyH.nil)
  go_simp
  ((with_reducible refine (l1 _).mono ?_); rintro e w' ⟨rfl, hb'⟩)
  refine hK.out _ _ (hHeld.keep hb') (fun hHeld => ?_)
  clear hK K
  try simp only [Act.put, List.setIfInBounds_toArray, List.set_cons_zero, List.set_cons_succ]
  refine wpAnyH_ready (rs := [14]) (by kernel_rfl) (by simp) ?_
  refine (AllReadyH.cons rfl (fun K hK => ?_) AllReadyH.nil)
  go_simp
  ((with_reducible refine (l2 _).mono ?_); rintro e w' ⟨rfl, hb'⟩)
  refine hK.out _ _ (hHeld.keep hb') (fun hHeld => ?_)
  clear hK K
  try simp only [Act.put, List.setIfInBounds_toArray, List.set_cons_zero, List.set_cons_succ]
  refine wpAnyH_take (i := 15) (oi := ?o0112o) (v := ?o0112v) ?o0112h (by kernel_rfl) (by kernel_rfl) (by kernel_rfl) ?o0112q ?o0112y hHeld ?o0112r
  case o0112h => (simp only [List.getElem?_toArray, List.getElem?_cons_succ, List.getElem?_cons_zero]; rfl)
  case o0112q => exact fun _ _ _ h => h
  case o0112y => (refine Or.inl ⟨by first | kernel_rfl | rfl, ?_⟩; intro w hSw; (try dsimp only at hSw); obtain ⟨⟨x0, x1, x2⟩, ⟨y0, y1, y2⟩, ⟨z0, z1, z2⟩, -, ⟨u0, u1, u2⟩, ⟨v0, v1, v2⟩, -, -, -⟩ := hSw; go_simp <;> (try with_reducible rfl))
  try simp only [Act.put, List.setIfInBounds_toArray, List.set_cons_zero, List.set_cons_succ]
  refine wpAnyH_take (i := 16) (oi := ?o0113o) (v := ?o0113v) ?o0113h (by kernel_rfl) (by kernel_rfl) (by kernel_rfl) ?o0113q ?o0113y hHeld ?o0113r
  case o0113h => (simp only [List.getElem?_toArray, List.getElem?_cons_succ, List.getElem?_cons_zero]; rfl)
  case o0113q => exact fun _ _ _ h => h
  case o0113y => (refine Or.inl ⟨by first | kernel_rfl | rfl, ?_⟩; intro w hSw; (try dsimp only at hSw); obtain ⟨⟨x0, x1, x2⟩, ⟨y0, y1, y2⟩, ⟨z0, z1, z2⟩, -, ⟨u0, u1, u2⟩, ⟨v0, v1, v2⟩, -, -, -⟩ := hSw; go_simp <;> (try with_reducible rfl))
  try simp only [Act.put, List.setIfInBounds_toArray, List.set_cons_zero, List.set_cons_succ]
  refine wpAnyH_take (i := 17) (oi := ?o0114o) (v := ?o0114v) ?o0114h (by kernel_rfl) (by kernel_rfl) (by kernel_rfl) ?o0114q ?o0114y hHeld ?o0114r
  case o0114h => (simp only [List.getElem?_toArray, List.getElem?_cons_succ, List.getElem?_cons_zero]; rfl)
  case o0114q => exact fun _ _ _ h => h
  case o0114y => (refine Or.inl ⟨by first | kernel_rfl | rfl, ?_⟩; intro w hSw; (try dsimp only at hSw); obtain ⟨⟨x0, x1, x2⟩, ⟨y0, y1, y2⟩, ⟨z0, z1, z2⟩, -, ⟨u0, u1, u2⟩, ⟨v0, v1, v2⟩, -, -, -⟩ := hSw; go_simp <;> (try with_reducible rfl))
  try simp only [Act.put, List.setIfInBounds_toArray, List.set_cons_zero, List.set_cons_succ]
  refine wpAnyH_take (i := 18) (oi := ?o0115o) (v := ?o0115v) ?o0115h (by kernel_rfl) (by kernel_rfl) (by kernel_rfl) ?o0115q ?o0115y hHeld ?o0115r
  case o0115h => (simp only [List.getElem?_toArray, List.getElem?_cons_succ, List.getElem?_cons_zero]; rfl)
  case o0115q => exact fun _ _ _ h => h
  case o0115y => (refine Or.inl ⟨by first | kernel_rfl | rfl, ?_⟩; intro w hSw; (try dsimp only at hSw); obtain ⟨⟨x0, x1, x2⟩, ⟨y0, y1, y2⟩, ⟨z0, z1, z2⟩, -, ⟨u0, u1, u2⟩, ⟨v0, v1, v2⟩, -, -, -⟩ := hSw; go_simp <;> (try with_reducible rfl))
  try simp only [Act.put, List.setIfInBounds_toArray, List.set_cons_zero, List.set_cons_succ]
  refine wpAnyH_take (i := 19) (oi := ?o0116o) (v := ?o0116v) ?o0116h (by kernel_rfl) (by kernel_rfl) (by kernel_rfl) ?o0116q ?o0116y hHeld ?o0116r
  case o0116h => (simp only [List.getElem?_toArray, List.getElem?_cons_succ, List.getElem?_cons_zero]; rfl)
  case o0116q => exact fun _ _ _ h => h
  case o0116y => (refine Or.inl ⟨by first | kernel_rfl | rfl, ?_⟩; intro w hSw; (try dsimp only at hSw); obtain ⟨⟨x0, x1, x2⟩, ⟨y0, y1, y2⟩, ⟨z0, z1, z2⟩, -, ⟨u0, u1, u2⟩, ⟨v0, v1, v2⟩, -, -, -⟩ := hSw; go_simp <;> (try with_reducible rfl))
  try simp only [Act.put, List.setIfInBounds_toArray, List.set_cons_zero, List.set_cons_succ]
  refine wpAnyH_take (i := 21) (oi := ?o0117o) (v := ?o0117v) ?o0117h (by kernel_rfl) (by kernel_rfl) (by kernel_rfl) ?o0117q ?o0117y hHeld ?o0117r
  case o0117h => (simp only [List.getElem?_toArray, List.getElem?_cons_succ, List.getElem?_cons_zero]; rfl)
  case o0117q => exact fun _ _ _ h => h
  case o0117y => (refine Or.inl ⟨by first | kernel_rfl | rfl, ?_⟩; intro w hSw; (try dsimp only at hSw); obtain ⟨⟨x0, x1, x2⟩, ⟨y0, y1, y2⟩, ⟨z0, z1, z2⟩, -, ⟨u0, u1, u2⟩, ⟨v0, v1, v2⟩, -, -, -⟩ := hSw; go_simp <;> (try with_reducible rfl))
  try simp only [Act.put, List.setIfInBounds_toArray, List.set_cons_zero, List.set_cons_succ]
  refine wpAnyH_ready (rs := [20]) (by kernel_rfl) (by simp) ?_
  refine (AllReadyH.cons rfl (fun K hK => ?_) AllReadyH.nil)
  go_simp
  ((with_reducible refine (l3 _).mono ?_); rintro e w' ⟨rfl, hb'⟩)
  refine hK.out _ _ (hHeld.keep hb') (fun hHeld => ?_)
  clear hK K
  try simp only [Act.put, List.setIfInBounds_toArray, List.set_cons_zero, List.set_cons_succ]
  refine wpAnyH_take (i := 22) (oi := ?o0118o) (v := ?o0118v) ?o0118h (by kernel_rfl) (by kernel_rfl) (by kernel_rfl) ?o0118q ?o0118y hHeld ?o0118r
  case o0118h => (simp only [List.getElem?_toArray, List.getElem?_cons_succ, List.getElem?_cons_zero]; rfl)
  case o0118q => exact fun _ _ _ h => h
  case o0118y => (refine Or.inl ⟨by first | kernel_rfl | rfl, ?_⟩; intro w hSw; (try dsimp only at hSw); obtain ⟨⟨x0, x1, x2⟩, ⟨y0, y1, y2⟩, ⟨z0, z1, z2⟩, -, ⟨u0, u1, u2⟩, ⟨v0, v1, v2⟩, -, -, -⟩ := hSw; go_simp <;> (try with_reducible rfl))
  try simp only [Act.put, List.setIfInBounds_toArray, List.set_cons_zero, List.set_cons_succ]
  refine wpAnyH_take (i := 23) (oi := ?o0119o) (v := ?o0119v) ?o0119h (by kernel_rfl) (by kernel_rfl) (by kernel_rfl) ?o0119q ?o0119y hHeld ?o0119r
  case o0119h => (simp only [List.getElem?_toArray, List.getElem?_cons_succ, List.getElem?_cons_zero]; rfl)
  case o0119q => exact fun _ _ _ h => h
  case o0119y => (refine Or.inl ⟨by first | kernel_rfl | rfl, ?_⟩; intro w hSw; (try dsimp only at hSw); obtain ⟨⟨x0, x1, x2⟩, ⟨y0, y1, y2⟩, ⟨z0, z1, z2⟩, -, ⟨u0, u1, u2⟩, ⟨v0, v1, v2⟩, -, -, -⟩ := hSw; go_simp <;> (try with_reducible rfl))
  try simp only [Act.put, List.setIfInBounds_toArray, List.set_cons_zero, List.set_cons_succ]
  refine wpAnyH_take (i := 24) (oi := ?o0120o) (v := ?o0120v) ?o0120h (by kernel_rfl) (by kernel_rfl) (by kernel_rfl) ?o0120q ?o0120y hHeld ?o0120r
  case o0120h => (simp only [List.getElem?_toArray, List.getElem?_cons_succ, List.getElem?_cons_zero]; rfl)
  case o0120q => exact fun _ _ _ h => h
  case o0120y => (refine Or.inl ⟨by first | kernel_rfl | rfl, ?_⟩; intro w hSw; (try dsimp only at hSw); obtain ⟨⟨x0, x1, x2⟩, ⟨y0, y1, y2⟩, ⟨z0, z1, z2⟩, -, ⟨u0, u1, u2⟩, ⟨v0, v1, v2⟩, -, -, -⟩ := hSw; go_simp <;> (try with_reducible rfl))
  try simp only [Act.put, List.setIfInBounds_toArray, List.set_cons_zero, List.set_cons_succ]
  refine wpAnyH_take (i := 25) (oi := ?o0121o) (v := ?o0121v) ?o0121h (by kernel_rfl) (by kernel_rfl) (by kernel_rfl) ?o0121q ?o0121y hHeld ?o0121r
  case o0121h => (simp only [List.getElem?_toArray, List.getElem?_cons_succ, List.getElem?_cons_zero]; rfl)
  case o0121q => exact fun _ _ _ h => h
  case o0121y => (refine Or.inl ⟨by first | kernel_rfl | rfl, ?_⟩; intro w hSw; (try dsimp only at hSw); obtain ⟨⟨x0, x1, x2⟩, ⟨y0, y1, y2⟩, ⟨z0, z1, z2⟩, -, ⟨u0, u1, u2⟩, ⟨v0, v1, v2⟩, -, -, -⟩ := hSw; go_simp <;> (try with_reducible rfl))
  try simp only [Act.put, List.setIfInBounds_toArray, List.set_cons_zero, List.set_cons_succ]
  refine wpAnyH_take (i := 27) (oi := ?o0122o) (v := ?o0122v) ?o0122h (by kernel_rfl) (by kernel_rfl) (by kernel_rfl) ?o0122q ?o0122y hHeld ?o0122r
  case o0122h => (simp only [List.getElem?_toArray, List.getElem?_cons_succ, List.getElem?_cons_zero]; rfl)
  case o0122q => exact fun _ _ _ h => h
  case o0122y => (refine Or.inl ⟨by first | kernel_rfl | rfl, ?_⟩; intro w hSw; (try dsimp only at hSw); obtain ⟨⟨x0, x1, x2⟩, ⟨y0, y1, y2⟩, ⟨z0, z1, z2⟩, -, ⟨u0, u1, u2⟩, ⟨v0, v1, v2⟩, -, -, -⟩ := hSw; go_simp <;> (try with_reducible rfl))
  try simp only [Act.put, List.setIfInBounds_toArray, List.set_cons_zero, List.set_cons_succ]
  refine wpAnyH_ready (rs := [26]) (by kernel_rfl) (by simp) ?_
  refine (AllReadyH.cons rfl (fun K hK => ?_) AllReadyH.nil)
  go_simp
  ((with_reducible refine (y1 _).mono ?_); rintro e w' ⟨rfl, hb'⟩)
  refine hK.out _ _ (hHeld.keep hb') (fun hHeld => ?_)
  clear hK K
  try simp only [Act.put, List.setIfInBounds_toArray, List.set_cons_zero, List.set_cons_succ]
  refine wpAnyH_ready (rs := [28]) (by kernel_rfl) (by simp) ?_
  refine (AllReadyH.cons rfl (fun K hK => ?_) AllReadyH.nil)
  go_simp
  ((with_reducible refine (y2 _).mono ?_); rintro e w' ⟨rfl, hb'⟩)
  refine hK.out _ _ (hHeld.keep hb') (fun hHeld => ?_)
  clear hK K
  try simp only [Act.put, List.setIfInBounds_toArray, List.set_cons_zero, List.set_cons_succ]
  refine wpAnyH_take (i := 29) (oi := ?o0123o) (v := ?o0123v) ?o0123h (by kernel_rfl) (by kernel_rfl) (by kernel_rfl) ?o0123q ?o0123y hHeld ?o0123r
  case o0123h => (simp only [List.getElem?_toArray, List.getElem?_cons_succ, List.getElem?_cons_zero]; rfl)
  case o0123q => exact fun _ _ _ h => h
  case o0123y => (refine Or.inl ⟨by first | kernel_rfl | rfl, ?_⟩; intro w hSw; (try dsimp only at hSw); obtain ⟨⟨x0, x1, x2⟩, ⟨y0, y1, y2⟩, ⟨z0, z1, z2⟩, -, ⟨u0, u1, u2⟩, ⟨v0, v1, v2⟩, -, -, -⟩ := hSw; go_simp <;> (try with_reducible rfl))
  try simp only [Act.put, List.setIfInBounds_toArray, List.set_cons_zero, List.set_cons_succ]
  refine wpAnyH_take (i := 30) (oi := ?o0124o) (v := ?o0124v) ?o0124h (by kernel_rfl) (by kernel_rfl) (by kernel_rfl) ?o0124q ?o0124y hHeld ?o0124r
  case o0124h => (simp only [List.getElem?_toArray, List.getElem?_cons_succ, List.getElem?_cons_zero]; rfl)
  case o0124q => exact fun _ _ _ h => h
  case o0124y => (refine Or.inl ⟨by first | kernel_rfl | rfl, ?_⟩; intro w hSw; (try dsimp only at hSw); obtain ⟨⟨x0, x1, x2⟩, ⟨y0, y1, y2⟩, ⟨z0, z1, z2⟩, -, ⟨u0, u1, u2⟩, ⟨v0, v1, v2⟩, -, -, -⟩ := hSw; go_simp <;> (try with_reducible rfl))
  try simp only [Act.put, List.setIfInBounds_toArray, List.set_cons_zero, List.set_cons_succ]
  refine wpAnyH_take (i := 31) (oi := ?o0125o) (v := ?o0125v) ?o0125h (by kernel_rfl) (by kernel_rfl) (by kernel_rfl) ?o0125q ?o0125y hHeld ?o0125r
  case o0125h => (simp only [List.getElem?_toArray, List.getElem?_cons_succ, List.getElem?_cons_zero]; rfl)
  case o0125q => exact fun _ _ _ h => h
  case o0125y => (refine Or.inl ⟨by first | kernel_rfl | rfl, ?_⟩; intro w hSw; (try dsimp only at hSw); obtain ⟨⟨x0, x1, x2⟩, ⟨y0, y1, y2⟩, ⟨z0, z1, z2⟩, -, ⟨u0, u1, u2⟩, ⟨v0, v1, v2⟩, -, -, -⟩ := hSw; go_simp <;> (try with_reducible rfl))
  try simp only [Act.put, List.setIfInBounds_toArray, List.set_cons_zero, List.set_cons_succ]
  refine wpAnyH_take (i := 32) (oi := ?o0126o) (v := ?o0126v) ?o0126h (by kernel_rfl) (by kernel_rfl) (by kernel_rfl) ?o0126q ?o0126y hHeld ?o0126r
  case o0126h => (simp only [List.getElem?_toArray, List.getElem?_cons_succ, List.getElem?_cons_zero]; rfl)
  case o0126q => exact fun _ _ _ h => h
  case o0126y => (refine Or.inl ⟨by first | kernel_rfl | rfl, ?_⟩; intro w hSw; (try dsimp only at hSw); obtain ⟨⟨x0, x1, x2⟩, ⟨y0, y1, y2⟩, ⟨z0, z1, z2⟩, -, ⟨u0, u1, u2⟩, ⟨v0, v1, v2⟩, -, -, -⟩ := hSw; go_simp <;> (try with_reducible rfl))
  try simp only [Act.put, List.setIfInBounds_toArray, List.set_cons_zero, List.set_cons_succ]
  refine wpAnyH_take (i := 33) (oi := ?o0127o) (v := ?o0127v) ?o0127h (by kernel_rfl) (by kernel_rfl) (by kernel_rfl) ?o0127q ?o0127y hHeld ?o0127r
  case o0127h => (simp only [List.getElem?_toArray, List.getElem?_cons_succ, List.getElem?_cons_zero]; rfl)
  case o0127q => exact fun _ _ _ h => h
  case o0127y => (refine Or.inl ⟨by first | kernel_rfl | rfl, ?_⟩; intro w hSw; (try dsimp only at hSw); obtain ⟨⟨x0, x1, x2⟩, ⟨y0, y1, y2⟩, ⟨z0, z1, z2⟩, -, ⟨u0, u1, u2⟩, ⟨v0, v1, v2⟩, -, -, -⟩ := hSw; go_simp <;> (try with_reducible rfl))
  try simp only [Act.put, List.setIfInBounds_toArray, List.set_cons_zero, List.set_cons_succ]
  refine wpAnyH_take (i := 34) (oi := ?o0128o) (v := ?o0128v) ?o0128h (by kernel_rfl) (by kernel_rfl) (by kernel_rfl) ?o0128q ?o0128y hHeld ?o0128r
  case o0128h => (simp only [List.getElem?_toArray, List.getElem?_cons_succ, List.getElem?_cons_zero]; rfl)
  case o0128q => exact fun _ _ _ h => h
  case o0128y => (refine Or.inl ⟨by first | kernel_rfl | rfl, ?_⟩; intro w hSw; (try dsimp only at hSw); obtain ⟨⟨x0, x1, x2⟩, ⟨y0, y1, y2⟩, ⟨z0, z1, z2⟩, -, ⟨u0, u1, u2⟩, ⟨v0, v1, v2⟩, -, -, -⟩ := hSw; go_simp <;> (try with_reducible rfl))
  try simp only [Act.put, List.setIfInBounds_toArray, List.set_cons_zero, List.set_cons_succ]
  refine wpAnyH_take (i := 35) (oi := ?o0129o) (v := ?o0129v) ?o0129h (by kernel_rfl) (by kernel_rfl) (by kernel_rfl) ?o0129q ?o0129y hHeld ?o0129r
  case o0129h => (simp only [List.getElem?_toArray, List.getElem?_cons_succ, List.getElem?_cons_zero]; rfl)
  case o0129q => exact fun _ _ _ h => h
  case o0129y => (refine Or.inl ⟨by first | kernel_rfl | rfl, ?_⟩; intro w hSw; (try dsimp only at hSw); obtain ⟨⟨x0, x1, x2⟩, ⟨y0, y1, y2⟩, ⟨z0, z1, z2⟩, -, ⟨u0, u1, u2⟩, ⟨v0, v1, v2⟩, -, -, -⟩ := hSw; go_simp <;> (try with_reducible rfl))
  try simp only [Act.put, List.setIfInBounds_toArray, List.set_cons_zero, List.set_cons_succ]
  refine wpAnyH_take (i := 36) (oi := ?o0130o) (v := ?o0130v) ?o0130h (by kernel_rfl) (by kernel_rfl) (by kernel_rfl) ?o0130q ?o0130y hHeld ?o0130r
  case o0130h => (simp only [List.getElem?_toArray, List.getElem?_cons_succ, List.getElem?_cons_zero]; rfl)
  case o0130q => exact fun _ _ _ h => h
  case o0130y => (refine Or.inl ⟨by first | kernel_rfl | rfl, ?_⟩; intro w hSw; (try dsimp only at hSw); obtain ⟨⟨x0, x1, x2⟩, ⟨y0, y1, y2⟩, ⟨z0, z1, z2⟩, -, ⟨u0, u1, u2⟩, ⟨v0, v1, v2⟩, -, -, -⟩ := hSw; go_simp <;> (try with_reducible rfl))
  try simp only [Act.put, List.setIfInBounds_toArray, List.set_cons_zero, List.set_cons_succ]
  refine wpAnyH_take (i := 37) (oi := ?o0131o) (v := ?o0131v) ?o0131h (by kernel_rfl) (by kernel_rfl) (by kernel_rfl) ?o0131q ?o0131y hHeld ?o0131r
  case o0131h => (simp only [List.getElem?_toArray, List.getElem?_cons_succ, List.getElem?_cons_zero]; rfl)
  case o0131q => exact fun _ _ _ h => h
  case o0131y => (refine Or.inl ⟨by first | kernel_rfl | rfl, ?_⟩; intro w hSw; (try dsimp only at hSw); obtain ⟨⟨x0, x1, x2⟩, ⟨y0, y1, y2⟩, ⟨z0, z1, z2⟩, -, ⟨u0, u1, u2⟩, ⟨v0, v1, v2⟩, -, -, -⟩ := hSw; go_simp <;> (try with_reducible rfl))
  try simp only [Act.put, List.setIfInBounds_toArray, List.set_cons_zero, List.set_cons_succ]
  refine wpAnyH_take (i := 39) (oi := ?o0132o) (v := ?o0132v) ?o0132h (by kernel_rfl) (by kernel_rfl) (by kernel_rfl) ?o0132q ?o0132y hHeld ?o0132r
  case o0132h => (simp only [List.getElem?_toArray, List.getElem?_cons_succ, List.getElem?_cons_zero]; rfl)
  case o0132q => exact fun _ _ _ h => h
  case o0132y => (refine Or.inl ⟨by first | kernel_rfl | rfl, ?_⟩; intro w hSw; (try dsimp only at hSw); obtain ⟨⟨x0, x1, x2⟩, ⟨y0, y1, y2⟩, ⟨z0, z1, z2⟩, -, ⟨u0, u1, u2⟩, ⟨v0, v1, v2⟩, -, -, -⟩ := hSw; go_simp <;> (try with_reducible rfl))
  try simp only [Act.put, List.setIfInBounds_toArray, List.set_cons_zero, List.set_cons_succ]
  refine wpAnyH_ready (rs := [38]) (by kernel_rfl) (by simp) ?_
  refine (AllReadyH.cons rfl (fun K hK => ?_) AllReadyH.nil)
  go_simp
  ((with_reducible refine (f1 _ _ hHeld.mine).mono ?_); rintro e w' ⟨rfl, hb'⟩)
  refine hK.out _ _ (hHeld.keep hb') (fun hHeld => ?_)
  clear hK K
  try simp only [Act.put, List.setIfInBounds_toArray, List.set_cons_zero, List.set_cons_succ]
  refine wpAnyH_ready (rs := [40]) (by kernel_rfl) (by simp) ?_
  refine (AllReadyH.cons rfl (fun K hK => ?_) AllReadyH.nil)
  go_simp
  ((with_reducible refine (f2 _ _ hHeld.theirs).mono ?_); rintro e w' ⟨rfl, hb'⟩)
  refine hK.out _ _ (hHeld.keep hb') (fun hHeld => ?_)
  clear hK K
  try simp only [Act.put, List.setIfInBounds_toArray, List.set_cons_zero, List.set_cons_succ]
  refine wpAnyH_take (i := 41) (oi := ?o0133o) (v := ?o0133v) ?o0133h (by kernel_rfl) (by kernel_rfl) (by kernel_rfl) ?o0133q ?o0133y hHeld ?o0133r
  case o0133h => (simp only [List.getElem?_toArray, List.getElem?_cons_succ, List.getElem?_cons_zero]; rfl)
  case o0133q => exact fun _ _ _ h => h
  case o0133y => (refine Or.inl ⟨by first | kernel_rfl | rfl, ?_⟩; intro w hSw; (try dsimp only at hSw); obtain ⟨⟨x0, x1, x2⟩, ⟨y0, y1, y2⟩, ⟨z0, z1, z2⟩, -, ⟨u0, u1, u2⟩, ⟨v0, v1, v2⟩, -, -, -⟩ := hSw; go_simp <;> (try with_reducible rfl))
  try simp only [Act.put, List.setIfInBounds_toArray, List.set_cons_zero, List.set_cons_succ]
  refine wpAnyH_take (i := 42) (oi := ?o0134o) (v := ?o0134v) ?o0134h (by kernel_rfl) (by kernel_rfl) (by kernel_rfl) ?o0134q ?o0134y hHeld ?o0134r
  case o0134h => (simp only [List.getElem?_toArray, List.getElem?_cons_succ, List.getElem?_cons_zero]; rfl)
  case o0134q => exact fun _ _ _ h => h
  case o0134y => (refine Or.inl ⟨by first | kernel_rfl | rfl, ?_⟩; intro w hSw; (try dsimp only at hSw); obtain ⟨⟨x0, x1, x2⟩, ⟨y0, y1, y2⟩, ⟨z0, z1, z2⟩, -, ⟨u0, u1, u2⟩, ⟨v0, v1, v2⟩, -, -, -⟩ := hSw; go_simp <;> (try with_reducible rfl))
  try simp only [Act.put, List.setIfInBounds_toArray, List.set_cons_zero, List.set_cons_succ]
  refine wpAnyH_take (i := 43) (oi := ?o0135o) (v := ?o0135v) ?o0135h (by kernel_rfl) (by kernel_rfl) (by kernel_rfl) ?o0135q ?o0135y hHeld ?o0135r
  case o0135h => (simp only [List.getElem?_toArray, List.getElem?_cons_succ, List.getElem?_cons_zero]; rfl)
  case o0135q => exact fun _ _ _ h => h
  case o0135y => (refine Or.inl ⟨by first | kernel_rfl | rfl, ?_⟩; intro w hSw; (try dsimp only at hSw); obtain ⟨⟨x0, x1, x2⟩, ⟨y0, y1, y2⟩, ⟨z0, z1, z2⟩, -, ⟨u0, u1, u2⟩, ⟨v0, v1, v2⟩, -, -, -⟩ := hSw; go_simp <;> (try with_reducible rfl))
  try simp only [Act.put, List.setIfInBounds_toArray, List.set_cons_zero, List.set_cons_succ]
  refine wpAnyH_done (by kernel_rfl) ?_ _
  have hbel := hHeld.bel
  go_wp2
  go_ret
  exact ⟨rfl, hbel⟩

set_option maxHeartbeats 32000000 in
set_option maxRecDepth 20000 in
theorem core_10 (a b : St) (s T : ByteArray) (hx : a.lt b = true) (w : World) (hT : T.size ≤ 60) (h60 : 60 < s.size) (hTe : s.extract 0 60 = T) :
    Calls Try.prog 3 #[.agg #[.int .i64 a.c, .int .i64 a.s, .int .i64 a.q], .agg #[.int .i64 b.c, .int .i64 b.s, .int .i64 b.q], .string s] w fun e w' => e = .returned (.bool true) ∧ Below w.heap.size w w' := by
  obtain ⟨⟨c, r, br⟩, hq⟩ : ∃ y, takeQ T false = y := ⟨_, rfl⟩
  have t1 := fun pr w hA => take_is pr T r false br c w (by omega) (Lib.hid hq) (fun e => (by cases e)) hA
  have t2 := fun px w hA => rtake_is px T T r false br c w (by omega) (Lib.hid hq) (fun e => (by cases e)) hA
  obtain ⟨er, her⟩ : ∃ e, a.err = e := ⟨_, rfl⟩
  have c1 := fun w => checkV a er (Lib.hid her) w
  have c2 := fun w => rcheckV a er (Lib.hid her) w
  have l1 := fun w => lessV a b true (Lib.hid hx) w
  have l2 := fun w => rlessV a b true (Lib.hid hx) w
  obtain ⟨SB, hSB⟩ : ∃ S, tx a.bytes = S := ⟨_, rfl⟩
  have y1 := fun w => bytes_is a SB w (Lib.hid hSB)
  have y2 := fun w => rbytes_is a SB w (Lib.hid hSB)
  have f1 := fun pr w hA => left_b pr r br w hA
  have f2 := fun px w hA => rleft_b px T r br w (by omega) hA
  have q2 : ∀ w, (binOp .eql 23 (.agg #[.int .i64 c.c, .int .i64 c.s, .int .i64 c.q]) (.agg #[.int .i64 c.c, .int .i64 c.s, .int .i64 c.q])).run Try.prog w = .ok (.bool true) w := fun w => by rw [eql_run, decide_eq_true rfl]
  have A0 := (StAt.new w a).alloc (.cells #[.int .i64 b.c, .int .i64 b.s, .int .i64 b.q] 23)
  have B0 : StAt ((w.alloc (.cells #[.int .i64 a.c, .int .i64 a.s, .int .i64 a.q] 23)).alloc (.cells #[.int .i64 b.c, .int .i64 b.s, .int .i64 b.q] 23)) (w.heap.size + 1) b := by have := StAt.new (w.alloc (.cells #[.int .i64 a.c, .int .i64 a.s, .int .i64 a.q] 23)) b; simpa using this
  have bel0 : Below w.heap.size w ((w.alloc (.cells #[.int .i64 a.c, .int .i64 a.s, .int .i64 a.q] 23)).alloc (.cells #[.int .i64 b.c, .int .i64 b.s, .int .i64 b.q] 23)) := two_new _ _ _
  clear hq her hSB
  have l3 := fun w => laterV a b b (Lib.hid (if_pos hx)) w
  have q3 : ∀ w, (binOp .eql 23 (.agg #[.int .i64 b.c, .int .i64 b.s, .int .i64 b.q]) (.agg #[.int .i64 b.c, .int .i64 b.s, .int .i64 b.q])).run Try.prog w = .ok (.bool true) w := fun w => by rw [eql_run, decide_eq_true rfl]
  clear hx
  go_enter Try.func3, Try.ntmps3
  go_wp2_with (first
    | (go_at_call 10; (with_reducible refine (awake_any _).mono ?_); rintro e w1 ⟨rfl, hb⟩; have A1 := A0.below hb; have B1 := B0.below hb; have bel1 := bel_next bel0 hb)
    | (go_at_call 11; (with_reducible refine (read_is _ _).mono ?_); rintro e w2 ⟨rfl, hA, hb2, hz2⟩; have A2 := (A1.below hb2).alloc (.cells #[.string T, .int .i64 0, .bool false] 29); have B2 := (B1.below hb2).alloc (.cells #[.string T, .int .i64 0, .bool false] 29); have bel2 := bel_new (bel_next bel1 hb2) (.cells #[.string T, .int .i64 0, .bool false] 29); have R2 := hA.below ((Below.refl _ _).alloc (Nat.le_refl _) (.cells #[.string T, .int .i64 0, .bool false] 29)); have hw1 := bel1.size; have ra := A1.room; have rb := B1.room; have X2 : RS (w2.alloc (.cells #[.string T, .int .i64 0, .bool false] 29)) w2.heap.size T T false := ⟨0, false, ⟨by simp [go_sem], by simp [go_sem], by simp [go_sem], by simp [go_sem], by simp [go_sem], by simp [go_sem]⟩, rfl, Nat.zero_le _, fun _ => (list_inj0 T).symm, fun e => (by cases e)⟩)
    | (go_at_call 12; (with_reducible refine (t1 _ _ R2).mono ?_); rintro e w3 ⟨rfl, R3, hB3⟩; have A3 := (A2.but hB3 (by omega)).alloc (.cells #[.int .i64 c.c, .int .i64 c.s, .int .i64 c.q] 23); have B3 := (B2.but hB3 (by omega)).alloc (.cells #[.int .i64 c.c, .int .i64 c.s, .int .i64 c.q] 23); have X3 := (X2.but hB3 (by omega)).below ((Below.refl _ _).alloc (Nat.le_refl _) (.cells #[.int .i64 c.c, .int .i64 c.s, .int .i64 c.q] 23)); have R3 := R3.below ((Below.refl _ _).alloc (Nat.le_refl _) (.cells #[.int .i64 c.c, .int .i64 c.s, .int .i64 c.q] 23)); have bel3 := bel_new (bel2.trans (hB3.below (by omega) (by have := bel2.size; omega))) (.cells #[.int .i64 c.c, .int .i64 c.s, .int .i64 c.q] 23); have C3 := StAt.new w3 c; have rx := X2.room; have rsz := hB3.size)
    | (go_at_call 13; (with_reducible refine (t2 _ _ X3).mono ?_); rintro e w4 ⟨rfl, X4, hB4⟩; have A4 := ((A3.but hB4 (by omega)).alloc (.cells #[.int .i64 c.c, .int .i64 c.s, .int .i64 c.q] 23)).alloc (.cells #[.int .i64 a.c, .int .i64 a.s, .int .i64 a.q] 23); have B4 := ((B3.but hB4 (by omega)).alloc (.cells #[.int .i64 c.c, .int .i64 c.s, .int .i64 c.q] 23)).alloc (.cells #[.int .i64 a.c, .int .i64 a.s, .int .i64 a.q] 23); have C4 := ((C3.but hB4 (by omega)).alloc (.cells #[.int .i64 c.c, .int .i64 c.s, .int .i64 c.q] 23)).alloc (.cells #[.int .i64 a.c, .int .i64 a.s, .int .i64 a.q] 23); have R4 := ((R3.but hB4 (by omega)).below ((Below.refl _ _).alloc (Nat.le_refl _) (.cells #[.int .i64 c.c, .int .i64 c.s, .int .i64 c.q] 23))).below ((Below.refl _ _).alloc (Nat.le_refl _) (.cells #[.int .i64 a.c, .int .i64 a.s, .int .i64 a.q] 23)); have X4 := (X4.below ((Below.refl _ _).alloc (Nat.le_refl _) (.cells #[.int .i64 c.c, .int .i64 c.s, .int .i64 c.q] 23))).below ((Below.refl _ _).alloc (Nat.le_refl _) (.cells #[.int .i64 a.c, .int .i64 a.s, .int .i64 a.q] 23)); have bel4 := bel_new (bel_new (bel3.trans (hB4.below (by omega) (by have := bel3.size; omega))) (.cells #[.int .i64 c.c, .int .i64 c.s, .int .i64 c.q] 23)) (.cells #[.int .i64 a.c, .int .i64 a.s, .int .i64 a.q] 23); have D4 := (StAt.new w4 c).alloc (.cells #[.int .i64 a.c, .int .i64 a.s, .int .i64 a.q] 23); have L4 := StAt.new (w4.alloc (.cells #[.int .i64 c.c, .int .i64 c.s, .int .i64 c.q] 23)) a; have F4 := fz_new (w4.alloc (.cells #[.int .i64 c.c, .int .i64 c.s, .int .i64 c.q] 23)) a; have s3 := C3.room; have s4 := hB4.size; (have H4 : HS w w.heap.size (w.heap.size + 1) (w4.alloc (.cells #[.int .i64 c.c, .int .i64 c.s, .int .i64 c.q] 23)).heap.size w3.heap.size w4.heap.size w1.heap.size w2.heap.size a b a c T r br _ := ⟨A4, B4, L4, F4, C4, D4, R4, X4, bel4⟩); simp only [World.size_alloc] at H4; (have G := (A3.but hB4 (by omega)).alloc (.cells #[.int .i64 c.c, .int .i64 c.s, .int .i64 c.q] 23); obtain ⟨p0, p1, p2⟩ := G); (have G := H4.ha; obtain ⟨x0, x1, x2⟩ := G); (have G := H4.hb; obtain ⟨y0, y1', y2'⟩ := G))
    | (go_at_call 14; (with_reducible refine (l2 _).mono ?_); rintro e w5 ⟨rfl, hb⟩; have H5 := H4.keep hb; (have G := H5.hb; obtain ⟨y0, y1', y2'⟩ := G); (have G := H5.hl; obtain ⟨z0, z1, z2⟩ := G); have fz := H5.hf 0; have fz1 := H5.hf 1; have fz2 := H5.hf 2))
  simp only [World.size_alloc] at s3 rsz s4 hz2 rx ra rb
  have HH := H5.put b (by omega) (by omega) (by omega) (by omega) (by omega) (by omega) (by omega)
  have HK := Lib.hid HH
  generalize w1.heap.size = pr at HK ⊢
  generalize w2.heap.size = px at HK ⊢
  generalize w3.heap.size = bc at HK ⊢
  generalize w4.heap.size = bd at HK ⊢
  clear A0 B0 A1 B1 A2 B2 A3 B3 A4 B4 R2 R3 R4 X2 X3 X4 C3 C4 D4 L4 H4 H5 HH bel0 bel1 bel2 bel3 bel4 t1 t2
  refine wp_region_held_drew (S := (HS w w.heap.size (w.heap.size + 1) (bd + 1) bc bd pr px a b b c T r br)) (by kernel_rfl) HK.out.drew (fun hHeld => ?_)
  refine wpAnyH_take (i := 0) (oi := ?o101o) (v := ?o101v) ?o101h (by kernel_rfl) (by kernel_rfl) (by kernel_rfl) ?o101q ?o101y hHeld ?o101r
  case o101h => (simp only [List.getElem?_toArray, List.getElem?_cons_zero]; rfl)
  case o101q => exact fun _ _ _ h => h
  case o101y => (refine Or.inl ⟨by first | kernel_rfl | rfl, ?_⟩; intro w hSw; (try dsimp only at hSw); obtain ⟨⟨x0, x1, x2⟩, ⟨y0, y1, y2⟩, ⟨z0, z1, z2⟩, -, ⟨u0, u1, u2⟩, ⟨v0, v1, v2⟩, -, -, -⟩ := hSw; go_simp <;> (try with_reducible rfl))
  try simp only [Act.put, List.setIfInBounds_toArray, List.set_cons_zero, List.set_cons_succ]
  refine wpAnyH_take (i := 1) (oi := ?o102o) (v := ?o102v) ?o102h (by kernel_rfl) (by kernel_rfl) (by kernel_rfl) ?o102q ?o102y hHeld ?o102r
  case o102h => (simp only [List.getElem?_toArray, List.getElem?_cons_succ, List.getElem?_cons_zero]; rfl)
  case o102q => exact fun _ _ _ h => h
  case o102y => (refine Or.inl ⟨by first | kernel_rfl | rfl, ?_⟩; intro w hSw; (try dsimp only at hSw); obtain ⟨⟨x0, x1, x2⟩, ⟨y0, y1, y2⟩, ⟨z0, z1, z2⟩, -, ⟨u0, u1, u2⟩, ⟨v0, v1, v2⟩, -, -, -⟩ := hSw; go_simp <;> (try with_reducible rfl))
  try simp only [Act.put, List.setIfInBounds_toArray, List.set_cons_zero, List.set_cons_succ]
  refine wpAnyH_take (i := 2) (oi := ?o103o) (v := ?o103v) ?o103h (by kernel_rfl) (by kernel_rfl) (by kernel_rfl) ?o103q ?o103y hHeld ?o103r
  case o103h => (simp only [List.getElem?_toArray, List.getElem?_cons_succ, List.getElem?_cons_zero]; rfl)
  case o103q => exact fun _ _ _ h => h
  case o103y => (refine Or.inl ⟨by first | kernel_rfl | rfl, ?_⟩; intro w hSw; (try dsimp only at hSw); obtain ⟨⟨x0, x1, x2⟩, ⟨y0, y1, y2⟩, ⟨z0, z1, z2⟩, -, ⟨u0, u1, u2⟩, ⟨v0, v1, v2⟩, -, -, -⟩ := hSw; go_simp <;> (try with_reducible rfl))
  try simp only [Act.put, List.setIfInBounds_toArray, List.set_cons_zero, List.set_cons_succ]
  refine wpAnyH_take (i := 4) (oi := ?o104o) (v := ?o104v) ?o104h (by kernel_rfl) (by kernel_rfl) (by kernel_rfl) ?o104q ?o104y hHeld ?o104r
  case o104h => (simp only [List.getElem?_toArray, List.getElem?_cons_succ, List.getElem?_cons_zero]; rfl)
  case o104q => exact fun _ _ _ h => h
  case o104y => (refine Or.inl ⟨by first | kernel_rfl | rfl, ?_⟩; intro w hSw; (try dsimp only at hSw); obtain ⟨⟨x0, x1, x2⟩, ⟨y0, y1, y2⟩, ⟨z0, z1, z2⟩, -, ⟨u0, u1, u2⟩, ⟨v0, v1, v2⟩, -, -, -⟩ := hSw; go_simp <;> (try with_reducible rfl))
  try simp only [Act.put, List.setIfInBounds_toArray, List.set_cons_zero, List.set_cons_succ]
  refine wpAnyH_ready (rs := [3]) (by kernel_rfl) (by simp) ?_
  refine (AllReadyH.cons rfl (fun K hK => ?_) AllReadyH.nil)
  go_simp
  ((with_reducible refine (c1 _).mono ?_); rintro e w' ⟨rfl, hb'⟩)
  refine hK.out _ _ (hHeld.keep hb') (fun hHeld => ?_)
  clear hK K
  try simp only [Act.put, List.setIfInBounds_toArray, List.set_cons_zero, List.set_cons_succ]
  refine wpAnyH_ready (rs := [5]) (by kernel_rfl) (by simp) ?_
  refine (AllReadyH.cons rfl (fun K hK => ?_) AllReadyH.nil)
  go_simp
  ((with_reducible refine (c2 _).mono ?_); rintro e w' ⟨rfl, hb'⟩)
  refine hK.out _ _ (hHeld.keep hb') (fun hHeld => ?_)
  clear hK K
  try simp only [Act.put, List.setIfInBounds_toArray, List.set_cons_zero, List.set_cons_succ]
  refine wpAnyH_take (i := 6) (oi := ?o105o) (v := ?o105v) ?o105h (by kernel_rfl) (by kernel_rfl) (by kernel_rfl) ?o105q ?o105y hHeld ?o105r
  case o105h => (simp only [List.getElem?_toArray, List.getElem?_cons_succ, List.getElem?_cons_zero]; rfl)
  case o105q => exact fun _ _ _ h => h
  case o105y => (refine Or.inl ⟨by first | kernel_rfl | rfl, ?_⟩; intro w hSw; (try dsimp only at hSw); obtain ⟨⟨x0, x1, x2⟩, ⟨y0, y1, y2⟩, ⟨z0, z1, z2⟩, -, ⟨u0, u1, u2⟩, ⟨v0, v1, v2⟩, -, -, -⟩ := hSw; go_simp <;> (try with_reducible rfl))
  try simp only [Act.put, List.setIfInBounds_toArray, List.set_cons_zero, List.set_cons_succ]
  refine wpAnyH_take (i := 7) (oi := ?o106o) (v := ?o106v) ?o106h (by kernel_rfl) (by kernel_rfl) (by kernel_rfl) ?o106q ?o106y hHeld ?o106r
  case o106h => (simp only [List.getElem?_toArray, List.getElem?_cons_succ, List.getElem?_cons_zero]; rfl)
  case o106q => exact fun _ _ _ h => h
  case o106y => (refine Or.inl ⟨by first | kernel_rfl | rfl, ?_⟩; intro w hSw; (try dsimp only at hSw); obtain ⟨⟨x0, x1, x2⟩, ⟨y0, y1, y2⟩, ⟨z0, z1, z2⟩, -, ⟨u0, u1, u2⟩, ⟨v0, v1, v2⟩, -, -, -⟩ := hSw; go_simp <;> (try with_reducible rfl))
  try simp only [Act.put, List.setIfInBounds_toArray, List.set_cons_zero, List.set_cons_succ]
  refine wpAnyH_take (i := 8) (oi := ?o107o) (v := ?o107v) ?o107h (by kernel_rfl) (by kernel_rfl) (by kernel_rfl) ?o107q ?o107y hHeld ?o107r
  case o107h => (simp only [List.getElem?_toArray, List.getElem?_cons_succ, List.getElem?_cons_zero]; rfl)
  case o107q => exact fun _ _ _ h => h
  case o107y => (refine Or.inl ⟨by first | kernel_rfl | rfl, ?_⟩; intro w hSw; (try dsimp only at hSw); obtain ⟨⟨x0, x1, x2⟩, ⟨y0, y1, y2⟩, ⟨z0, z1, z2⟩, -, ⟨u0, u1, u2⟩, ⟨v0, v1, v2⟩, -, -, -⟩ := hSw; go_simp <;> (try with_reducible rfl))
  try simp only [Act.put, List.setIfInBounds_toArray, List.set_cons_zero, List.set_cons_succ]
  refine wpAnyH_take (i := 9) (oi := ?o108o) (v := ?o108v) ?o108h (by kernel_rfl) (by kernel_rfl) (by kernel_rfl) ?o108q ?o108y hHeld ?o108r
  case o108h => (simp only [List.getElem?_toArray, List.getElem?_cons_succ, List.getElem?_cons_zero]; rfl)
  case o108q => exact fun _ _ _ h => h
  case o108y => (refine Or.inl ⟨by first | kernel_rfl | rfl, ?_⟩; intro w hSw; (try dsimp only at hSw); obtain ⟨⟨x0, x1, x2⟩, ⟨y0, y1, y2⟩, ⟨z0, z1, z2⟩, -, ⟨u0, u1, u2⟩, ⟨v0, v1, v2⟩, -, -, -⟩ := hSw; go_simp <;> (try with_reducible rfl))
  try simp only [Act.put, List.setIfInBounds_toArray, List.set_cons_zero, List.set_cons_succ]
  refine wpAnyH_take (i := 10) (oi := ?o109o) (v := ?o109v) ?o109h (by kernel_rfl) (by kernel_rfl) (by kernel_rfl) ?o109q ?o109y hHeld ?o109r
  case o109h => (simp only [List.getElem?_toArray, List.getElem?_cons_succ, List.getElem?_cons_zero]; rfl)
  case o109q => exact fun _ _ _ h => h
  case o109y => (refine Or.inl ⟨by first | kernel_rfl | rfl, ?_⟩; intro w hSw; (try dsimp only at hSw); obtain ⟨⟨x0, x1, x2⟩, ⟨y0, y1, y2⟩, ⟨z0, z1, z2⟩, -, ⟨u0, u1, u2⟩, ⟨v0, v1, v2⟩, -, -, -⟩ := hSw; go_simp <;> (try with_reducible rfl))
  try simp only [Act.put, List.setIfInBounds_toArray, List.set_cons_zero, List.set_cons_succ]
  refine wpAnyH_take (i := 12) (oi := ?o1010o) (v := ?o1010v) ?o1010h (by kernel_rfl) (by kernel_rfl) (by kernel_rfl) ?o1010q ?o1010y hHeld ?o1010r
  case o1010h => (simp only [List.getElem?_toArray, List.getElem?_cons_succ, List.getElem?_cons_zero]; rfl)
  case o1010q => exact fun _ _ _ h => h
  case o1010y => (refine Or.inl ⟨by first | kernel_rfl | rfl, ?_⟩; intro w hSw; (try dsimp only at hSw); obtain ⟨⟨x0, x1, x2⟩, ⟨y0, y1, y2⟩, ⟨z0, z1, z2⟩, -, ⟨u0, u1, u2⟩, ⟨v0, v1, v2⟩, -, -, -⟩ := hSw; go_simp <;> (try with_reducible rfl))
  try simp only [Act.put, List.setIfInBounds_toArray, List.set_cons_zero, List.set_cons_succ]
  refine wpAnyH_take (i := 13) (oi := ?o1011o) (v := ?o1011v) ?o1011h (by kernel_rfl) (by kernel_rfl) (by kernel_rfl) ?o1011q ?o1011y hHeld ?o1011r
  case o1011h => (simp only [List.getElem?_toArray, List.getElem?_cons_succ, List.getElem?_cons_zero]; rfl)
  case o1011q => exact fun _ _ _ h => h
  case o1011y => (refine Or.inl ⟨by first | kernel_rfl | rfl, ?_⟩; intro w hSw; (try dsimp only at hSw); obtain ⟨⟨x0, x1, x2⟩, ⟨y0, y1, y2⟩, ⟨z0, z1, z2⟩, -, ⟨u0, u1, u2⟩, ⟨v0, v1, v2⟩, -, -, -⟩ := hSw; go_simp <;> (try with_reducible rfl))
  try simp only [Act.put, List.setIfInBounds_toArray, List.set_cons_zero, List.set_cons_succ]
  refine wpAnyH_ready (rs := [11]) (by kernel_rfl) (by simp) ?_
  refine (AllReadyH.cons rfl (fun K hK => ?_) AllReadyH.nil)
  go_simp
  ((with_reducible refine (l1 _).mono ?_); rintro e w' ⟨rfl, hb'⟩)
  refine hK.out _ _ (hHeld.keep hb') (fun hHeld => ?_)
  clear hK K
  try simp only [Act.put, List.setIfInBounds_toArray, List.set_cons_zero, List.set_cons_succ]
  refine wpAnyH_ready (rs := [14]) (by kernel_rfl) (by simp) ?_
  refine (AllReadyH.cons rfl (fun K hK => ?_) AllReadyH.nil)
  go_simp
  ((with_reducible refine (l2 _).mono ?_); rintro e w' ⟨rfl, hb'⟩)
  refine hK.out _ _ (hHeld.keep hb') (fun hHeld => ?_)
  clear hK K
  try simp only [Act.put, List.setIfInBounds_toArray, List.set_cons_zero, List.set_cons_succ]
  refine wpAnyH_take (i := 15) (oi := ?o1012o) (v := ?o1012v) ?o1012h (by kernel_rfl) (by kernel_rfl) (by kernel_rfl) ?o1012q ?o1012y hHeld ?o1012r
  case o1012h => (simp only [List.getElem?_toArray, List.getElem?_cons_succ, List.getElem?_cons_zero]; rfl)
  case o1012q => exact fun _ _ _ h => h
  case o1012y => (refine Or.inl ⟨by first | kernel_rfl | rfl, ?_⟩; intro w hSw; (try dsimp only at hSw); obtain ⟨⟨x0, x1, x2⟩, ⟨y0, y1, y2⟩, ⟨z0, z1, z2⟩, -, ⟨u0, u1, u2⟩, ⟨v0, v1, v2⟩, -, -, -⟩ := hSw; go_simp <;> (try with_reducible rfl))
  try simp only [Act.put, List.setIfInBounds_toArray, List.set_cons_zero, List.set_cons_succ]
  refine wpAnyH_take (i := 16) (oi := ?o1013o) (v := ?o1013v) ?o1013h (by kernel_rfl) (by kernel_rfl) (by kernel_rfl) ?o1013q ?o1013y hHeld ?o1013r
  case o1013h => (simp only [List.getElem?_toArray, List.getElem?_cons_succ, List.getElem?_cons_zero]; rfl)
  case o1013q => exact fun _ _ _ h => h
  case o1013y => (refine Or.inl ⟨by first | kernel_rfl | rfl, ?_⟩; intro w hSw; (try dsimp only at hSw); obtain ⟨⟨x0, x1, x2⟩, ⟨y0, y1, y2⟩, ⟨z0, z1, z2⟩, -, ⟨u0, u1, u2⟩, ⟨v0, v1, v2⟩, -, -, -⟩ := hSw; go_simp <;> (try with_reducible rfl))
  try simp only [Act.put, List.setIfInBounds_toArray, List.set_cons_zero, List.set_cons_succ]
  refine wpAnyH_take (i := 17) (oi := ?o1014o) (v := ?o1014v) ?o1014h (by kernel_rfl) (by kernel_rfl) (by kernel_rfl) ?o1014q ?o1014y hHeld ?o1014r
  case o1014h => (simp only [List.getElem?_toArray, List.getElem?_cons_succ, List.getElem?_cons_zero]; rfl)
  case o1014q => exact fun _ _ _ h => h
  case o1014y => (refine Or.inl ⟨by first | kernel_rfl | rfl, ?_⟩; intro w hSw; (try dsimp only at hSw); obtain ⟨⟨x0, x1, x2⟩, ⟨y0, y1, y2⟩, ⟨z0, z1, z2⟩, -, ⟨u0, u1, u2⟩, ⟨v0, v1, v2⟩, -, -, -⟩ := hSw; go_simp <;> (try with_reducible rfl))
  try simp only [Act.put, List.setIfInBounds_toArray, List.set_cons_zero, List.set_cons_succ]
  refine wpAnyH_take (i := 18) (oi := ?o1015o) (v := ?o1015v) ?o1015h (by kernel_rfl) (by kernel_rfl) (by kernel_rfl) ?o1015q ?o1015y hHeld ?o1015r
  case o1015h => (simp only [List.getElem?_toArray, List.getElem?_cons_succ, List.getElem?_cons_zero]; rfl)
  case o1015q => exact fun _ _ _ h => h
  case o1015y => (refine Or.inl ⟨by first | kernel_rfl | rfl, ?_⟩; intro w hSw; (try dsimp only at hSw); obtain ⟨⟨x0, x1, x2⟩, ⟨y0, y1, y2⟩, ⟨z0, z1, z2⟩, -, ⟨u0, u1, u2⟩, ⟨v0, v1, v2⟩, -, -, -⟩ := hSw; go_simp <;> (try with_reducible rfl))
  try simp only [Act.put, List.setIfInBounds_toArray, List.set_cons_zero, List.set_cons_succ]
  refine wpAnyH_take (i := 19) (oi := ?o1016o) (v := ?o1016v) ?o1016h (by kernel_rfl) (by kernel_rfl) (by kernel_rfl) ?o1016q ?o1016y hHeld ?o1016r
  case o1016h => (simp only [List.getElem?_toArray, List.getElem?_cons_succ, List.getElem?_cons_zero]; rfl)
  case o1016q => exact fun _ _ _ h => h
  case o1016y => (refine Or.inl ⟨by first | kernel_rfl | rfl, ?_⟩; intro w hSw; (try dsimp only at hSw); obtain ⟨⟨x0, x1, x2⟩, ⟨y0, y1, y2⟩, ⟨z0, z1, z2⟩, -, ⟨u0, u1, u2⟩, ⟨v0, v1, v2⟩, -, -, -⟩ := hSw; go_simp <;> (try with_reducible rfl))
  try simp only [Act.put, List.setIfInBounds_toArray, List.set_cons_zero, List.set_cons_succ]
  refine wpAnyH_take (i := 21) (oi := ?o1017o) (v := ?o1017v) ?o1017h (by kernel_rfl) (by kernel_rfl) (by kernel_rfl) ?o1017q ?o1017y hHeld ?o1017r
  case o1017h => (simp only [List.getElem?_toArray, List.getElem?_cons_succ, List.getElem?_cons_zero]; rfl)
  case o1017q => exact fun _ _ _ h => h
  case o1017y => (refine Or.inl ⟨by first | kernel_rfl | rfl, ?_⟩; intro w hSw; (try dsimp only at hSw); obtain ⟨⟨x0, x1, x2⟩, ⟨y0, y1, y2⟩, ⟨z0, z1, z2⟩, -, ⟨u0, u1, u2⟩, ⟨v0, v1, v2⟩, -, -, -⟩ := hSw; go_simp <;> (try with_reducible rfl))
  try simp only [Act.put, List.setIfInBounds_toArray, List.set_cons_zero, List.set_cons_succ]
  refine wpAnyH_ready (rs := [20]) (by kernel_rfl) (by simp) ?_
  refine (AllReadyH.cons rfl (fun K hK => ?_) AllReadyH.nil)
  go_simp
  ((with_reducible refine (l3 _).mono ?_); rintro e w' ⟨rfl, hb'⟩)
  refine hK.out _ _ (hHeld.keep hb') (fun hHeld => ?_)
  clear hK K
  try simp only [Act.put, List.setIfInBounds_toArray, List.set_cons_zero, List.set_cons_succ]
  refine wpAnyH_take (i := 22) (oi := ?o1018o) (v := ?o1018v) ?o1018h (by kernel_rfl) (by kernel_rfl) (by kernel_rfl) ?o1018q ?o1018y hHeld ?o1018r
  case o1018h => (simp only [List.getElem?_toArray, List.getElem?_cons_succ, List.getElem?_cons_zero]; rfl)
  case o1018q => exact fun _ _ _ h => h
  case o1018y => (refine Or.inl ⟨by first | kernel_rfl | rfl, ?_⟩; intro w hSw; (try dsimp only at hSw); obtain ⟨⟨x0, x1, x2⟩, ⟨y0, y1, y2⟩, ⟨z0, z1, z2⟩, -, ⟨u0, u1, u2⟩, ⟨v0, v1, v2⟩, -, -, -⟩ := hSw; go_simp <;> (try with_reducible rfl))
  try simp only [Act.put, List.setIfInBounds_toArray, List.set_cons_zero, List.set_cons_succ]
  refine wpAnyH_take (i := 23) (oi := ?o1019o) (v := ?o1019v) ?o1019h (by kernel_rfl) (by kernel_rfl) (by kernel_rfl) ?o1019q ?o1019y hHeld ?o1019r
  case o1019h => (simp only [List.getElem?_toArray, List.getElem?_cons_succ, List.getElem?_cons_zero]; rfl)
  case o1019q => exact fun _ _ _ h => h
  case o1019y => (refine Or.inl ⟨by first | kernel_rfl | rfl, ?_⟩; intro w hSw; (try dsimp only at hSw); obtain ⟨⟨x0, x1, x2⟩, ⟨y0, y1, y2⟩, ⟨z0, z1, z2⟩, -, ⟨u0, u1, u2⟩, ⟨v0, v1, v2⟩, -, -, -⟩ := hSw; go_simp <;> (try with_reducible rfl))
  try simp only [Act.put, List.setIfInBounds_toArray, List.set_cons_zero, List.set_cons_succ]
  refine wpAnyH_take (i := 24) (oi := ?o1020o) (v := ?o1020v) ?o1020h (by kernel_rfl) (by kernel_rfl) (by kernel_rfl) ?o1020q ?o1020y hHeld ?o1020r
  case o1020h => (simp only [List.getElem?_toArray, List.getElem?_cons_succ, List.getElem?_cons_zero]; rfl)
  case o1020q => exact fun _ _ _ h => h
  case o1020y => (refine Or.inl ⟨by first | kernel_rfl | rfl, ?_⟩; intro w hSw; (try dsimp only at hSw); obtain ⟨⟨x0, x1, x2⟩, ⟨y0, y1, y2⟩, ⟨z0, z1, z2⟩, -, ⟨u0, u1, u2⟩, ⟨v0, v1, v2⟩, -, -, -⟩ := hSw; go_simp <;> (try with_reducible rfl))
  try simp only [Act.put, List.setIfInBounds_toArray, List.set_cons_zero, List.set_cons_succ]
  refine wpAnyH_take (i := 25) (oi := ?o1021o) (v := ?o1021v) ?o1021h (by kernel_rfl) (by kernel_rfl) (by kernel_rfl) ?o1021q ?o1021y hHeld ?o1021r
  case o1021h => (simp only [List.getElem?_toArray, List.getElem?_cons_succ, List.getElem?_cons_zero]; rfl)
  case o1021q => exact fun _ _ _ h => h
  case o1021y => (refine Or.inl ⟨by first | kernel_rfl | rfl, ?_⟩; intro w hSw; (try dsimp only at hSw); obtain ⟨⟨x0, x1, x2⟩, ⟨y0, y1, y2⟩, ⟨z0, z1, z2⟩, -, ⟨u0, u1, u2⟩, ⟨v0, v1, v2⟩, -, -, -⟩ := hSw; go_simp <;> (try with_reducible rfl))
  try simp only [Act.put, List.setIfInBounds_toArray, List.set_cons_zero, List.set_cons_succ]
  refine wpAnyH_take (i := 27) (oi := ?o1022o) (v := ?o1022v) ?o1022h (by kernel_rfl) (by kernel_rfl) (by kernel_rfl) ?o1022q ?o1022y hHeld ?o1022r
  case o1022h => (simp only [List.getElem?_toArray, List.getElem?_cons_succ, List.getElem?_cons_zero]; rfl)
  case o1022q => exact fun _ _ _ h => h
  case o1022y => (refine Or.inl ⟨by first | kernel_rfl | rfl, ?_⟩; intro w hSw; (try dsimp only at hSw); obtain ⟨⟨x0, x1, x2⟩, ⟨y0, y1, y2⟩, ⟨z0, z1, z2⟩, -, ⟨u0, u1, u2⟩, ⟨v0, v1, v2⟩, -, -, -⟩ := hSw; go_simp <;> (try with_reducible rfl))
  try simp only [Act.put, List.setIfInBounds_toArray, List.set_cons_zero, List.set_cons_succ]
  refine wpAnyH_ready (rs := [26]) (by kernel_rfl) (by simp) ?_
  refine (AllReadyH.cons rfl (fun K hK => ?_) AllReadyH.nil)
  go_simp
  ((with_reducible refine (y1 _).mono ?_); rintro e w' ⟨rfl, hb'⟩)
  refine hK.out _ _ (hHeld.keep hb') (fun hHeld => ?_)
  clear hK K
  try simp only [Act.put, List.setIfInBounds_toArray, List.set_cons_zero, List.set_cons_succ]
  refine wpAnyH_ready (rs := [28]) (by kernel_rfl) (by simp) ?_
  refine (AllReadyH.cons rfl (fun K hK => ?_) AllReadyH.nil)
  go_simp
  ((with_reducible refine (y2 _).mono ?_); rintro e w' ⟨rfl, hb'⟩)
  refine hK.out _ _ (hHeld.keep hb') (fun hHeld => ?_)
  clear hK K
  try simp only [Act.put, List.setIfInBounds_toArray, List.set_cons_zero, List.set_cons_succ]
  refine wpAnyH_take (i := 29) (oi := ?o1023o) (v := ?o1023v) ?o1023h (by kernel_rfl) (by kernel_rfl) (by kernel_rfl) ?o1023q ?o1023y hHeld ?o1023r
  case o1023h => (simp only [List.getElem?_toArray, List.getElem?_cons_succ, List.getElem?_cons_zero]; rfl)
  case o1023q => exact fun _ _ _ h => h
  case o1023y => (refine Or.inl ⟨by first | kernel_rfl | rfl, ?_⟩; intro w hSw; (try dsimp only at hSw); obtain ⟨⟨x0, x1, x2⟩, ⟨y0, y1, y2⟩, ⟨z0, z1, z2⟩, -, ⟨u0, u1, u2⟩, ⟨v0, v1, v2⟩, -, -, -⟩ := hSw; go_simp <;> (try with_reducible rfl))
  try simp only [Act.put, List.setIfInBounds_toArray, List.set_cons_zero, List.set_cons_succ]
  refine wpAnyH_take (i := 30) (oi := ?o1024o) (v := ?o1024v) ?o1024h (by kernel_rfl) (by kernel_rfl) (by kernel_rfl) ?o1024q ?o1024y hHeld ?o1024r
  case o1024h => (simp only [List.getElem?_toArray, List.getElem?_cons_succ, List.getElem?_cons_zero]; rfl)
  case o1024q => exact fun _ _ _ h => h
  case o1024y => (refine Or.inl ⟨by first | kernel_rfl | rfl, ?_⟩; intro w hSw; (try dsimp only at hSw); obtain ⟨⟨x0, x1, x2⟩, ⟨y0, y1, y2⟩, ⟨z0, z1, z2⟩, -, ⟨u0, u1, u2⟩, ⟨v0, v1, v2⟩, -, -, -⟩ := hSw; go_simp <;> (try with_reducible rfl))
  try simp only [Act.put, List.setIfInBounds_toArray, List.set_cons_zero, List.set_cons_succ]
  refine wpAnyH_take (i := 31) (oi := ?o1025o) (v := ?o1025v) ?o1025h (by kernel_rfl) (by kernel_rfl) (by kernel_rfl) ?o1025q ?o1025y hHeld ?o1025r
  case o1025h => (simp only [List.getElem?_toArray, List.getElem?_cons_succ, List.getElem?_cons_zero]; rfl)
  case o1025q => exact fun _ _ _ h => h
  case o1025y => (refine Or.inl ⟨by first | kernel_rfl | rfl, ?_⟩; intro w hSw; (try dsimp only at hSw); obtain ⟨⟨x0, x1, x2⟩, ⟨y0, y1, y2⟩, ⟨z0, z1, z2⟩, -, ⟨u0, u1, u2⟩, ⟨v0, v1, v2⟩, -, -, -⟩ := hSw; go_simp <;> (try with_reducible rfl))
  try simp only [Act.put, List.setIfInBounds_toArray, List.set_cons_zero, List.set_cons_succ]
  refine wpAnyH_take (i := 32) (oi := ?o1026o) (v := ?o1026v) ?o1026h (by kernel_rfl) (by kernel_rfl) (by kernel_rfl) ?o1026q ?o1026y hHeld ?o1026r
  case o1026h => (simp only [List.getElem?_toArray, List.getElem?_cons_succ, List.getElem?_cons_zero]; rfl)
  case o1026q => exact fun _ _ _ h => h
  case o1026y => (refine Or.inl ⟨by first | kernel_rfl | rfl, ?_⟩; intro w hSw; (try dsimp only at hSw); obtain ⟨⟨x0, x1, x2⟩, ⟨y0, y1, y2⟩, ⟨z0, z1, z2⟩, -, ⟨u0, u1, u2⟩, ⟨v0, v1, v2⟩, -, -, -⟩ := hSw; go_simp <;> (try with_reducible rfl))
  try simp only [Act.put, List.setIfInBounds_toArray, List.set_cons_zero, List.set_cons_succ]
  refine wpAnyH_take (i := 33) (oi := ?o1027o) (v := ?o1027v) ?o1027h (by kernel_rfl) (by kernel_rfl) (by kernel_rfl) ?o1027q ?o1027y hHeld ?o1027r
  case o1027h => (simp only [List.getElem?_toArray, List.getElem?_cons_succ, List.getElem?_cons_zero]; rfl)
  case o1027q => exact fun _ _ _ h => h
  case o1027y => (refine Or.inl ⟨by first | kernel_rfl | rfl, ?_⟩; intro w hSw; (try dsimp only at hSw); obtain ⟨⟨x0, x1, x2⟩, ⟨y0, y1, y2⟩, ⟨z0, z1, z2⟩, -, ⟨u0, u1, u2⟩, ⟨v0, v1, v2⟩, -, -, -⟩ := hSw; go_simp <;> (try with_reducible rfl))
  try simp only [Act.put, List.setIfInBounds_toArray, List.set_cons_zero, List.set_cons_succ]
  refine wpAnyH_take (i := 34) (oi := ?o1028o) (v := ?o1028v) ?o1028h (by kernel_rfl) (by kernel_rfl) (by kernel_rfl) ?o1028q ?o1028y hHeld ?o1028r
  case o1028h => (simp only [List.getElem?_toArray, List.getElem?_cons_succ, List.getElem?_cons_zero]; rfl)
  case o1028q => exact fun _ _ _ h => h
  case o1028y => (refine Or.inl ⟨by first | kernel_rfl | rfl, ?_⟩; intro w hSw; (try dsimp only at hSw); obtain ⟨⟨x0, x1, x2⟩, ⟨y0, y1, y2⟩, ⟨z0, z1, z2⟩, -, ⟨u0, u1, u2⟩, ⟨v0, v1, v2⟩, -, -, -⟩ := hSw; go_simp <;> (try with_reducible rfl))
  try simp only [Act.put, List.setIfInBounds_toArray, List.set_cons_zero, List.set_cons_succ]
  refine wpAnyH_take (i := 35) (oi := ?o1029o) (v := ?o1029v) ?o1029h (by kernel_rfl) (by kernel_rfl) (by kernel_rfl) ?o1029q ?o1029y hHeld ?o1029r
  case o1029h => (simp only [List.getElem?_toArray, List.getElem?_cons_succ, List.getElem?_cons_zero]; rfl)
  case o1029q => exact fun _ _ _ h => h
  case o1029y => (refine Or.inl ⟨by first | kernel_rfl | rfl, ?_⟩; intro w hSw; (try dsimp only at hSw); obtain ⟨⟨x0, x1, x2⟩, ⟨y0, y1, y2⟩, ⟨z0, z1, z2⟩, -, ⟨u0, u1, u2⟩, ⟨v0, v1, v2⟩, -, -, -⟩ := hSw; go_simp <;> (try with_reducible rfl))
  try simp only [Act.put, List.setIfInBounds_toArray, List.set_cons_zero, List.set_cons_succ]
  refine wpAnyH_take (i := 36) (oi := ?o1030o) (v := ?o1030v) ?o1030h (by kernel_rfl) (by kernel_rfl) (by kernel_rfl) ?o1030q ?o1030y hHeld ?o1030r
  case o1030h => (simp only [List.getElem?_toArray, List.getElem?_cons_succ, List.getElem?_cons_zero]; rfl)
  case o1030q => exact fun _ _ _ h => h
  case o1030y => (refine Or.inl ⟨by first | kernel_rfl | rfl, ?_⟩; intro w hSw; (try dsimp only at hSw); obtain ⟨⟨x0, x1, x2⟩, ⟨y0, y1, y2⟩, ⟨z0, z1, z2⟩, -, ⟨u0, u1, u2⟩, ⟨v0, v1, v2⟩, -, -, -⟩ := hSw; go_simp <;> (try with_reducible rfl))
  try simp only [Act.put, List.setIfInBounds_toArray, List.set_cons_zero, List.set_cons_succ]
  refine wpAnyH_take (i := 37) (oi := ?o1031o) (v := ?o1031v) ?o1031h (by kernel_rfl) (by kernel_rfl) (by kernel_rfl) ?o1031q ?o1031y hHeld ?o1031r
  case o1031h => (simp only [List.getElem?_toArray, List.getElem?_cons_succ, List.getElem?_cons_zero]; rfl)
  case o1031q => exact fun _ _ _ h => h
  case o1031y => (refine Or.inl ⟨by first | kernel_rfl | rfl, ?_⟩; intro w hSw; (try dsimp only at hSw); obtain ⟨⟨x0, x1, x2⟩, ⟨y0, y1, y2⟩, ⟨z0, z1, z2⟩, -, ⟨u0, u1, u2⟩, ⟨v0, v1, v2⟩, -, -, -⟩ := hSw; go_simp <;> (try with_reducible rfl))
  try simp only [Act.put, List.setIfInBounds_toArray, List.set_cons_zero, List.set_cons_succ]
  refine wpAnyH_take (i := 39) (oi := ?o1032o) (v := ?o1032v) ?o1032h (by kernel_rfl) (by kernel_rfl) (by kernel_rfl) ?o1032q ?o1032y hHeld ?o1032r
  case o1032h => (simp only [List.getElem?_toArray, List.getElem?_cons_succ, List.getElem?_cons_zero]; rfl)
  case o1032q => exact fun _ _ _ h => h
  case o1032y => (refine Or.inl ⟨by first | kernel_rfl | rfl, ?_⟩; intro w hSw; (try dsimp only at hSw); obtain ⟨⟨x0, x1, x2⟩, ⟨y0, y1, y2⟩, ⟨z0, z1, z2⟩, -, ⟨u0, u1, u2⟩, ⟨v0, v1, v2⟩, -, -, -⟩ := hSw; go_simp <;> (try with_reducible rfl))
  try simp only [Act.put, List.setIfInBounds_toArray, List.set_cons_zero, List.set_cons_succ]
  refine wpAnyH_ready (rs := [38]) (by kernel_rfl) (by simp) ?_
  refine (AllReadyH.cons rfl (fun K hK => ?_) AllReadyH.nil)
  go_simp
  ((with_reducible refine (f1 _ _ hHeld.mine).mono ?_); rintro e w' ⟨rfl, hb'⟩)
  refine hK.out _ _ (hHeld.keep hb') (fun hHeld => ?_)
  clear hK K
  try simp only [Act.put, List.setIfInBounds_toArray, List.set_cons_zero, List.set_cons_succ]
  refine wpAnyH_ready (rs := [40]) (by kernel_rfl) (by simp) ?_
  refine (AllReadyH.cons rfl (fun K hK => ?_) AllReadyH.nil)
  go_simp
  ((with_reducible refine (f2 _ _ hHeld.theirs).mono ?_); rintro e w' ⟨rfl, hb'⟩)
  refine hK.out _ _ (hHeld.keep hb') (fun hHeld => ?_)
  clear hK K
  try simp only [Act.put, List.setIfInBounds_toArray, List.set_cons_zero, List.set_cons_succ]
  refine wpAnyH_take (i := 41) (oi := ?o1033o) (v := ?o1033v) ?o1033h (by kernel_rfl) (by kernel_rfl) (by kernel_rfl) ?o1033q ?o1033y hHeld ?o1033r
  case o1033h => (simp only [List.getElem?_toArray, List.getElem?_cons_succ, List.getElem?_cons_zero]; rfl)
  case o1033q => exact fun _ _ _ h => h
  case o1033y => (refine Or.inl ⟨by first | kernel_rfl | rfl, ?_⟩; intro w hSw; (try dsimp only at hSw); obtain ⟨⟨x0, x1, x2⟩, ⟨y0, y1, y2⟩, ⟨z0, z1, z2⟩, -, ⟨u0, u1, u2⟩, ⟨v0, v1, v2⟩, -, -, -⟩ := hSw; go_simp <;> (try with_reducible rfl))
  try simp only [Act.put, List.setIfInBounds_toArray, List.set_cons_zero, List.set_cons_succ]
  refine wpAnyH_take (i := 42) (oi := ?o1034o) (v := ?o1034v) ?o1034h (by kernel_rfl) (by kernel_rfl) (by kernel_rfl) ?o1034q ?o1034y hHeld ?o1034r
  case o1034h => (simp only [List.getElem?_toArray, List.getElem?_cons_succ, List.getElem?_cons_zero]; rfl)
  case o1034q => exact fun _ _ _ h => h
  case o1034y => (refine Or.inl ⟨by first | kernel_rfl | rfl, ?_⟩; intro w hSw; (try dsimp only at hSw); obtain ⟨⟨x0, x1, x2⟩, ⟨y0, y1, y2⟩, ⟨z0, z1, z2⟩, -, ⟨u0, u1, u2⟩, ⟨v0, v1, v2⟩, -, -, -⟩ := hSw; go_simp <;> (try with_reducible rfl))
  try simp only [Act.put, List.setIfInBounds_toArray, List.set_cons_zero, List.set_cons_succ]
  refine wpAnyH_take (i := 43) (oi := ?o1035o) (v := ?o1035v) ?o1035h (by kernel_rfl) (by kernel_rfl) (by kernel_rfl) ?o1035q ?o1035y hHeld ?o1035r
  case o1035h => (simp only [List.getElem?_toArray, List.getElem?_cons_succ, List.getElem?_cons_zero]; rfl)
  case o1035q => exact fun _ _ _ h => h
  case o1035y => (refine Or.inl ⟨by first | kernel_rfl | rfl, ?_⟩; intro w hSw; (try dsimp only at hSw); obtain ⟨⟨x0, x1, x2⟩, ⟨y0, y1, y2⟩, ⟨z0, z1, z2⟩, -, ⟨u0, u1, u2⟩, ⟨v0, v1, v2⟩, -, -, -⟩ := hSw; go_simp <;> (try with_reducible rfl))
  try simp only [Act.put, List.setIfInBounds_toArray, List.set_cons_zero, List.set_cons_succ]
  refine wpAnyH_done (by kernel_rfl) ?_ _
  have hbel := hHeld.bel
  go_wp2
  go_ret
  exact ⟨rfl, hbel⟩

set_option maxHeartbeats 32000000 in
set_option maxRecDepth 20000 in
theorem core_11 (a b : St) (s T : ByteArray) (hx : a.lt b = true) (w : World) (hT : T.size ≤ 60) (h60 : ¬ 60 < s.size) (hTe : T = s) :
    Calls Try.prog 3 #[.agg #[.int .i64 a.c, .int .i64 a.s, .int .i64 a.q], .agg #[.int .i64 b.c, .int .i64 b.s, .int .i64 b.q], .string s] w fun e w' => e = .returned (.bool true) ∧ Below w.heap.size w w' := by
  obtain ⟨⟨c, r, br⟩, hq⟩ : ∃ y, takeQ T false = y := ⟨_, rfl⟩
  have t1 := fun pr w hA => take_is pr T r false br c w (by omega) (Lib.hid hq) (fun e => (by cases e)) hA
  have t2 := fun px w hA => rtake_is px T T r false br c w (by omega) (Lib.hid hq) (fun e => (by cases e)) hA
  obtain ⟨er, her⟩ : ∃ e, a.err = e := ⟨_, rfl⟩
  have c1 := fun w => checkV a er (Lib.hid her) w
  have c2 := fun w => rcheckV a er (Lib.hid her) w
  have l1 := fun w => lessV a b true (Lib.hid hx) w
  have l2 := fun w => rlessV a b true (Lib.hid hx) w
  obtain ⟨SB, hSB⟩ : ∃ S, tx a.bytes = S := ⟨_, rfl⟩
  have y1 := fun w => bytes_is a SB w (Lib.hid hSB)
  have y2 := fun w => rbytes_is a SB w (Lib.hid hSB)
  have f1 := fun pr w hA => left_b pr r br w hA
  have f2 := fun px w hA => rleft_b px T r br w (by omega) hA
  have q2 : ∀ w, (binOp .eql 23 (.agg #[.int .i64 c.c, .int .i64 c.s, .int .i64 c.q]) (.agg #[.int .i64 c.c, .int .i64 c.s, .int .i64 c.q])).run Try.prog w = .ok (.bool true) w := fun w => by rw [eql_run, decide_eq_true rfl]
  have A0 := (StAt.new w a).alloc (.cells #[.int .i64 b.c, .int .i64 b.s, .int .i64 b.q] 23)
  have B0 : StAt ((w.alloc (.cells #[.int .i64 a.c, .int .i64 a.s, .int .i64 a.q] 23)).alloc (.cells #[.int .i64 b.c, .int .i64 b.s, .int .i64 b.q] 23)) (w.heap.size + 1) b := by have := StAt.new (w.alloc (.cells #[.int .i64 a.c, .int .i64 a.s, .int .i64 a.q] 23)) b; simpa using this
  have bel0 : Below w.heap.size w ((w.alloc (.cells #[.int .i64 a.c, .int .i64 a.s, .int .i64 a.q] 23)).alloc (.cells #[.int .i64 b.c, .int .i64 b.s, .int .i64 b.q] 23)) := two_new _ _ _
  clear hq her hSB
  have l3 := fun w => laterV a b b (Lib.hid (if_pos hx)) w
  have q3 : ∀ w, (binOp .eql 23 (.agg #[.int .i64 b.c, .int .i64 b.s, .int .i64 b.q]) (.agg #[.int .i64 b.c, .int .i64 b.s, .int .i64 b.q])).run Try.prog w = .ok (.bool true) w := fun w => by rw [eql_run, decide_eq_true rfl]
  clear hx
  subst hTe
  go_enter Try.func3, Try.ntmps3
  go_wp2_with (first
    | (go_at_call 10; (with_reducible refine (awake_any _).mono ?_); rintro e w1 ⟨rfl, hb⟩; have A1 := A0.below hb; have B1 := B0.below hb; have bel1 := bel_next bel0 hb)
    | (go_at_call 11; (with_reducible refine (read_is _ _).mono ?_); rintro e w2 ⟨rfl, hA, hb2, hz2⟩; have A2 := (A1.below hb2).alloc (.cells #[.string T, .int .i64 0, .bool false] 29); have B2 := (B1.below hb2).alloc (.cells #[.string T, .int .i64 0, .bool false] 29); have bel2 := bel_new (bel_next bel1 hb2) (.cells #[.string T, .int .i64 0, .bool false] 29); have R2 := hA.below ((Below.refl _ _).alloc (Nat.le_refl _) (.cells #[.string T, .int .i64 0, .bool false] 29)); have hw1 := bel1.size; have ra := A1.room; have rb := B1.room; have X2 : RS (w2.alloc (.cells #[.string T, .int .i64 0, .bool false] 29)) w2.heap.size T T false := ⟨0, false, ⟨by simp [go_sem], by simp [go_sem], by simp [go_sem], by simp [go_sem], by simp [go_sem], by simp [go_sem]⟩, rfl, Nat.zero_le _, fun _ => (list_inj0 T).symm, fun e => (by cases e)⟩)
    | (go_at_call 12; (with_reducible refine (t1 _ _ R2).mono ?_); rintro e w3 ⟨rfl, R3, hB3⟩; have A3 := (A2.but hB3 (by omega)).alloc (.cells #[.int .i64 c.c, .int .i64 c.s, .int .i64 c.q] 23); have B3 := (B2.but hB3 (by omega)).alloc (.cells #[.int .i64 c.c, .int .i64 c.s, .int .i64 c.q] 23); have X3 := (X2.but hB3 (by omega)).below ((Below.refl _ _).alloc (Nat.le_refl _) (.cells #[.int .i64 c.c, .int .i64 c.s, .int .i64 c.q] 23)); have R3 := R3.below ((Below.refl _ _).alloc (Nat.le_refl _) (.cells #[.int .i64 c.c, .int .i64 c.s, .int .i64 c.q] 23)); have bel3 := bel_new (bel2.trans (hB3.below (by omega) (by have := bel2.size; omega))) (.cells #[.int .i64 c.c, .int .i64 c.s, .int .i64 c.q] 23); have C3 := StAt.new w3 c; have rx := X2.room; have rsz := hB3.size)
    | (go_at_call 13; (with_reducible refine (t2 _ _ X3).mono ?_); rintro e w4 ⟨rfl, X4, hB4⟩; have A4 := ((A3.but hB4 (by omega)).alloc (.cells #[.int .i64 c.c, .int .i64 c.s, .int .i64 c.q] 23)).alloc (.cells #[.int .i64 a.c, .int .i64 a.s, .int .i64 a.q] 23); have B4 := ((B3.but hB4 (by omega)).alloc (.cells #[.int .i64 c.c, .int .i64 c.s, .int .i64 c.q] 23)).alloc (.cells #[.int .i64 a.c, .int .i64 a.s, .int .i64 a.q] 23); have C4 := ((C3.but hB4 (by omega)).alloc (.cells #[.int .i64 c.c, .int .i64 c.s, .int .i64 c.q] 23)).alloc (.cells #[.int .i64 a.c, .int .i64 a.s, .int .i64 a.q] 23); have R4 := ((R3.but hB4 (by omega)).below ((Below.refl _ _).alloc (Nat.le_refl _) (.cells #[.int .i64 c.c, .int .i64 c.s, .int .i64 c.q] 23))).below ((Below.refl _ _).alloc (Nat.le_refl _) (.cells #[.int .i64 a.c, .int .i64 a.s, .int .i64 a.q] 23)); have X4 := (X4.below ((Below.refl _ _).alloc (Nat.le_refl _) (.cells #[.int .i64 c.c, .int .i64 c.s, .int .i64 c.q] 23))).below ((Below.refl _ _).alloc (Nat.le_refl _) (.cells #[.int .i64 a.c, .int .i64 a.s, .int .i64 a.q] 23)); have bel4 := bel_new (bel_new (bel3.trans (hB4.below (by omega) (by have := bel3.size; omega))) (.cells #[.int .i64 c.c, .int .i64 c.s, .int .i64 c.q] 23)) (.cells #[.int .i64 a.c, .int .i64 a.s, .int .i64 a.q] 23); have D4 := (StAt.new w4 c).alloc (.cells #[.int .i64 a.c, .int .i64 a.s, .int .i64 a.q] 23); have L4 := StAt.new (w4.alloc (.cells #[.int .i64 c.c, .int .i64 c.s, .int .i64 c.q] 23)) a; have F4 := fz_new (w4.alloc (.cells #[.int .i64 c.c, .int .i64 c.s, .int .i64 c.q] 23)) a; have s3 := C3.room; have s4 := hB4.size; (have H4 : HS w w.heap.size (w.heap.size + 1) (w4.alloc (.cells #[.int .i64 c.c, .int .i64 c.s, .int .i64 c.q] 23)).heap.size w3.heap.size w4.heap.size w1.heap.size w2.heap.size a b a c T r br _ := ⟨A4, B4, L4, F4, C4, D4, R4, X4, bel4⟩); simp only [World.size_alloc] at H4; (have G := (A3.but hB4 (by omega)).alloc (.cells #[.int .i64 c.c, .int .i64 c.s, .int .i64 c.q] 23); obtain ⟨p0, p1, p2⟩ := G); (have G := H4.ha; obtain ⟨x0, x1, x2⟩ := G); (have G := H4.hb; obtain ⟨y0, y1', y2'⟩ := G))
    | (go_at_call 14; (with_reducible refine (l2 _).mono ?_); rintro e w5 ⟨rfl, hb⟩; have H5 := H4.keep hb; (have G := H5.hb; obtain ⟨y0, y1', y2'⟩ := G); (have G := H5.hl; obtain ⟨z0, z1, z2⟩ := G); have fz := H5.hf 0; have fz1 := H5.hf 1; have fz2 := H5.hf 2))
  simp only [World.size_alloc] at s3 rsz s4 hz2 rx ra rb
  have HH := H5.put b (by omega) (by omega) (by omega) (by omega) (by omega) (by omega) (by omega)
  have HK := Lib.hid HH
  generalize w1.heap.size = pr at HK ⊢
  generalize w2.heap.size = px at HK ⊢
  generalize w3.heap.size = bc at HK ⊢
  generalize w4.heap.size = bd at HK ⊢
  clear A0 B0 A1 B1 A2 B2 A3 B3 A4 B4 R2 R3 R4 X2 X3 X4 C3 C4 D4 L4 H4 H5 HH bel0 bel1 bel2 bel3 bel4 t1 t2
  refine wp_region_held_drew (S := (HS w w.heap.size (w.heap.size + 1) (bd + 1) bc bd pr px a b b c T r br)) (by kernel_rfl) HK.out.drew (fun hHeld => ?_)
  refine wpAnyH_take (i := 0) (oi := ?o111o) (v := ?o111v) ?o111h (by kernel_rfl) (by kernel_rfl) (by kernel_rfl) ?o111q ?o111y hHeld ?o111r
  case o111h => (simp only [List.getElem?_toArray, List.getElem?_cons_zero]; rfl)
  case o111q => exact fun _ _ _ h => h
  case o111y => (refine Or.inl ⟨by first | kernel_rfl | rfl, ?_⟩; intro w hSw; (try dsimp only at hSw); obtain ⟨⟨x0, x1, x2⟩, ⟨y0, y1, y2⟩, ⟨z0, z1, z2⟩, -, ⟨u0, u1, u2⟩, ⟨v0, v1, v2⟩, -, -, -⟩ := hSw; go_simp <;> (try with_reducible rfl))
  try simp only [Act.put, List.setIfInBounds_toArray, List.set_cons_zero, List.set_cons_succ]
  refine wpAnyH_take (i := 1) (oi := ?o112o) (v := ?o112v) ?o112h (by kernel_rfl) (by kernel_rfl) (by kernel_rfl) ?o112q ?o112y hHeld ?o112r
  case o112h => (simp only [List.getElem?_toArray, List.getElem?_cons_succ, List.getElem?_cons_zero]; rfl)
  case o112q => exact fun _ _ _ h => h
  case o112y => (refine Or.inl ⟨by first | kernel_rfl | rfl, ?_⟩; intro w hSw; (try dsimp only at hSw); obtain ⟨⟨x0, x1, x2⟩, ⟨y0, y1, y2⟩, ⟨z0, z1, z2⟩, -, ⟨u0, u1, u2⟩, ⟨v0, v1, v2⟩, -, -, -⟩ := hSw; go_simp <;> (try with_reducible rfl))
  try simp only [Act.put, List.setIfInBounds_toArray, List.set_cons_zero, List.set_cons_succ]
  refine wpAnyH_take (i := 2) (oi := ?o113o) (v := ?o113v) ?o113h (by kernel_rfl) (by kernel_rfl) (by kernel_rfl) ?o113q ?o113y hHeld ?o113r
  case o113h => (simp only [List.getElem?_toArray, List.getElem?_cons_succ, List.getElem?_cons_zero]; rfl)
  case o113q => exact fun _ _ _ h => h
  case o113y => (refine Or.inl ⟨by first | kernel_rfl | rfl, ?_⟩; intro w hSw; (try dsimp only at hSw); obtain ⟨⟨x0, x1, x2⟩, ⟨y0, y1, y2⟩, ⟨z0, z1, z2⟩, -, ⟨u0, u1, u2⟩, ⟨v0, v1, v2⟩, -, -, -⟩ := hSw; go_simp <;> (try with_reducible rfl))
  try simp only [Act.put, List.setIfInBounds_toArray, List.set_cons_zero, List.set_cons_succ]
  refine wpAnyH_take (i := 4) (oi := ?o114o) (v := ?o114v) ?o114h (by kernel_rfl) (by kernel_rfl) (by kernel_rfl) ?o114q ?o114y hHeld ?o114r
  case o114h => (simp only [List.getElem?_toArray, List.getElem?_cons_succ, List.getElem?_cons_zero]; rfl)
  case o114q => exact fun _ _ _ h => h
  case o114y => (refine Or.inl ⟨by first | kernel_rfl | rfl, ?_⟩; intro w hSw; (try dsimp only at hSw); obtain ⟨⟨x0, x1, x2⟩, ⟨y0, y1, y2⟩, ⟨z0, z1, z2⟩, -, ⟨u0, u1, u2⟩, ⟨v0, v1, v2⟩, -, -, -⟩ := hSw; go_simp <;> (try with_reducible rfl))
  try simp only [Act.put, List.setIfInBounds_toArray, List.set_cons_zero, List.set_cons_succ]
  refine wpAnyH_ready (rs := [3]) (by kernel_rfl) (by simp) ?_
  refine (AllReadyH.cons rfl (fun K hK => ?_) AllReadyH.nil)
  go_simp
  ((with_reducible refine (c1 _).mono ?_); rintro e w' ⟨rfl, hb'⟩)
  refine hK.out _ _ (hHeld.keep hb') (fun hHeld => ?_)
  clear hK K
  try simp only [Act.put, List.setIfInBounds_toArray, List.set_cons_zero, List.set_cons_succ]
  refine wpAnyH_ready (rs := [5]) (by kernel_rfl) (by simp) ?_
  refine (AllReadyH.cons rfl (fun K hK => ?_) AllReadyH.nil)
  go_simp
  ((with_reducible refine (c2 _).mono ?_); rintro e w' ⟨rfl, hb'⟩)
  refine hK.out _ _ (hHeld.keep hb') (fun hHeld => ?_)
  clear hK K
  try simp only [Act.put, List.setIfInBounds_toArray, List.set_cons_zero, List.set_cons_succ]
  refine wpAnyH_take (i := 6) (oi := ?o115o) (v := ?o115v) ?o115h (by kernel_rfl) (by kernel_rfl) (by kernel_rfl) ?o115q ?o115y hHeld ?o115r
  case o115h => (simp only [List.getElem?_toArray, List.getElem?_cons_succ, List.getElem?_cons_zero]; rfl)
  case o115q => exact fun _ _ _ h => h
  case o115y => (refine Or.inl ⟨by first | kernel_rfl | rfl, ?_⟩; intro w hSw; (try dsimp only at hSw); obtain ⟨⟨x0, x1, x2⟩, ⟨y0, y1, y2⟩, ⟨z0, z1, z2⟩, -, ⟨u0, u1, u2⟩, ⟨v0, v1, v2⟩, -, -, -⟩ := hSw; go_simp <;> (try with_reducible rfl))
  try simp only [Act.put, List.setIfInBounds_toArray, List.set_cons_zero, List.set_cons_succ]
  refine wpAnyH_take (i := 7) (oi := ?o116o) (v := ?o116v) ?o116h (by kernel_rfl) (by kernel_rfl) (by kernel_rfl) ?o116q ?o116y hHeld ?o116r
  case o116h => (simp only [List.getElem?_toArray, List.getElem?_cons_succ, List.getElem?_cons_zero]; rfl)
  case o116q => exact fun _ _ _ h => h
  case o116y => (refine Or.inl ⟨by first | kernel_rfl | rfl, ?_⟩; intro w hSw; (try dsimp only at hSw); obtain ⟨⟨x0, x1, x2⟩, ⟨y0, y1, y2⟩, ⟨z0, z1, z2⟩, -, ⟨u0, u1, u2⟩, ⟨v0, v1, v2⟩, -, -, -⟩ := hSw; go_simp <;> (try with_reducible rfl))
  try simp only [Act.put, List.setIfInBounds_toArray, List.set_cons_zero, List.set_cons_succ]
  refine wpAnyH_take (i := 8) (oi := ?o117o) (v := ?o117v) ?o117h (by kernel_rfl) (by kernel_rfl) (by kernel_rfl) ?o117q ?o117y hHeld ?o117r
  case o117h => (simp only [List.getElem?_toArray, List.getElem?_cons_succ, List.getElem?_cons_zero]; rfl)
  case o117q => exact fun _ _ _ h => h
  case o117y => (refine Or.inl ⟨by first | kernel_rfl | rfl, ?_⟩; intro w hSw; (try dsimp only at hSw); obtain ⟨⟨x0, x1, x2⟩, ⟨y0, y1, y2⟩, ⟨z0, z1, z2⟩, -, ⟨u0, u1, u2⟩, ⟨v0, v1, v2⟩, -, -, -⟩ := hSw; go_simp <;> (try with_reducible rfl))
  try simp only [Act.put, List.setIfInBounds_toArray, List.set_cons_zero, List.set_cons_succ]
  refine wpAnyH_take (i := 9) (oi := ?o118o) (v := ?o118v) ?o118h (by kernel_rfl) (by kernel_rfl) (by kernel_rfl) ?o118q ?o118y hHeld ?o118r
  case o118h => (simp only [List.getElem?_toArray, List.getElem?_cons_succ, List.getElem?_cons_zero]; rfl)
  case o118q => exact fun _ _ _ h => h
  case o118y => (refine Or.inl ⟨by first | kernel_rfl | rfl, ?_⟩; intro w hSw; (try dsimp only at hSw); obtain ⟨⟨x0, x1, x2⟩, ⟨y0, y1, y2⟩, ⟨z0, z1, z2⟩, -, ⟨u0, u1, u2⟩, ⟨v0, v1, v2⟩, -, -, -⟩ := hSw; go_simp <;> (try with_reducible rfl))
  try simp only [Act.put, List.setIfInBounds_toArray, List.set_cons_zero, List.set_cons_succ]
  refine wpAnyH_take (i := 10) (oi := ?o119o) (v := ?o119v) ?o119h (by kernel_rfl) (by kernel_rfl) (by kernel_rfl) ?o119q ?o119y hHeld ?o119r
  case o119h => (simp only [List.getElem?_toArray, List.getElem?_cons_succ, List.getElem?_cons_zero]; rfl)
  case o119q => exact fun _ _ _ h => h
  case o119y => (refine Or.inl ⟨by first | kernel_rfl | rfl, ?_⟩; intro w hSw; (try dsimp only at hSw); obtain ⟨⟨x0, x1, x2⟩, ⟨y0, y1, y2⟩, ⟨z0, z1, z2⟩, -, ⟨u0, u1, u2⟩, ⟨v0, v1, v2⟩, -, -, -⟩ := hSw; go_simp <;> (try with_reducible rfl))
  try simp only [Act.put, List.setIfInBounds_toArray, List.set_cons_zero, List.set_cons_succ]
  refine wpAnyH_take (i := 12) (oi := ?o1110o) (v := ?o1110v) ?o1110h (by kernel_rfl) (by kernel_rfl) (by kernel_rfl) ?o1110q ?o1110y hHeld ?o1110r
  case o1110h => (simp only [List.getElem?_toArray, List.getElem?_cons_succ, List.getElem?_cons_zero]; rfl)
  case o1110q => exact fun _ _ _ h => h
  case o1110y => (refine Or.inl ⟨by first | kernel_rfl | rfl, ?_⟩; intro w hSw; (try dsimp only at hSw); obtain ⟨⟨x0, x1, x2⟩, ⟨y0, y1, y2⟩, ⟨z0, z1, z2⟩, -, ⟨u0, u1, u2⟩, ⟨v0, v1, v2⟩, -, -, -⟩ := hSw; go_simp <;> (try with_reducible rfl))
  try simp only [Act.put, List.setIfInBounds_toArray, List.set_cons_zero, List.set_cons_succ]
  refine wpAnyH_take (i := 13) (oi := ?o1111o) (v := ?o1111v) ?o1111h (by kernel_rfl) (by kernel_rfl) (by kernel_rfl) ?o1111q ?o1111y hHeld ?o1111r
  case o1111h => (simp only [List.getElem?_toArray, List.getElem?_cons_succ, List.getElem?_cons_zero]; rfl)
  case o1111q => exact fun _ _ _ h => h
  case o1111y => (refine Or.inl ⟨by first | kernel_rfl | rfl, ?_⟩; intro w hSw; (try dsimp only at hSw); obtain ⟨⟨x0, x1, x2⟩, ⟨y0, y1, y2⟩, ⟨z0, z1, z2⟩, -, ⟨u0, u1, u2⟩, ⟨v0, v1, v2⟩, -, -, -⟩ := hSw; go_simp <;> (try with_reducible rfl))
  try simp only [Act.put, List.setIfInBounds_toArray, List.set_cons_zero, List.set_cons_succ]
  refine wpAnyH_ready (rs := [11]) (by kernel_rfl) (by simp) ?_
  refine (AllReadyH.cons rfl (fun K hK => ?_) AllReadyH.nil)
  go_simp
  ((with_reducible refine (l1 _).mono ?_); rintro e w' ⟨rfl, hb'⟩)
  refine hK.out _ _ (hHeld.keep hb') (fun hHeld => ?_)
  clear hK K
  try simp only [Act.put, List.setIfInBounds_toArray, List.set_cons_zero, List.set_cons_succ]
  refine wpAnyH_ready (rs := [14]) (by kernel_rfl) (by simp) ?_
  refine (AllReadyH.cons rfl (fun K hK => ?_) AllReadyH.nil)
  go_simp
  ((with_reducible refine (l2 _).mono ?_); rintro e w' ⟨rfl, hb'⟩)
  refine hK.out _ _ (hHeld.keep hb') (fun hHeld => ?_)
  clear hK K
  try simp only [Act.put, List.setIfInBounds_toArray, List.set_cons_zero, List.set_cons_succ]
  refine wpAnyH_take (i := 15) (oi := ?o1112o) (v := ?o1112v) ?o1112h (by kernel_rfl) (by kernel_rfl) (by kernel_rfl) ?o1112q ?o1112y hHeld ?o1112r
  case o1112h => (simp only [List.getElem?_toArray, List.getElem?_cons_succ, List.getElem?_cons_zero]; rfl)
  case o1112q => exact fun _ _ _ h => h
  case o1112y => (refine Or.inl ⟨by first | kernel_rfl | rfl, ?_⟩; intro w hSw; (try dsimp only at hSw); obtain ⟨⟨x0, x1, x2⟩, ⟨y0, y1, y2⟩, ⟨z0, z1, z2⟩, -, ⟨u0, u1, u2⟩, ⟨v0, v1, v2⟩, -, -, -⟩ := hSw; go_simp <;> (try with_reducible rfl))
  try simp only [Act.put, List.setIfInBounds_toArray, List.set_cons_zero, List.set_cons_succ]
  refine wpAnyH_take (i := 16) (oi := ?o1113o) (v := ?o1113v) ?o1113h (by kernel_rfl) (by kernel_rfl) (by kernel_rfl) ?o1113q ?o1113y hHeld ?o1113r
  case o1113h => (simp only [List.getElem?_toArray, List.getElem?_cons_succ, List.getElem?_cons_zero]; rfl)
  case o1113q => exact fun _ _ _ h => h
  case o1113y => (refine Or.inl ⟨by first | kernel_rfl | rfl, ?_⟩; intro w hSw; (try dsimp only at hSw); obtain ⟨⟨x0, x1, x2⟩, ⟨y0, y1, y2⟩, ⟨z0, z1, z2⟩, -, ⟨u0, u1, u2⟩, ⟨v0, v1, v2⟩, -, -, -⟩ := hSw; go_simp <;> (try with_reducible rfl))
  try simp only [Act.put, List.setIfInBounds_toArray, List.set_cons_zero, List.set_cons_succ]
  refine wpAnyH_take (i := 17) (oi := ?o1114o) (v := ?o1114v) ?o1114h (by kernel_rfl) (by kernel_rfl) (by kernel_rfl) ?o1114q ?o1114y hHeld ?o1114r
  case o1114h => (simp only [List.getElem?_toArray, List.getElem?_cons_succ, List.getElem?_cons_zero]; rfl)
  case o1114q => exact fun _ _ _ h => h
  case o1114y => (refine Or.inl ⟨by first | kernel_rfl | rfl, ?_⟩; intro w hSw; (try dsimp only at hSw); obtain ⟨⟨x0, x1, x2⟩, ⟨y0, y1, y2⟩, ⟨z0, z1, z2⟩, -, ⟨u0, u1, u2⟩, ⟨v0, v1, v2⟩, -, -, -⟩ := hSw; go_simp <;> (try with_reducible rfl))
  try simp only [Act.put, List.setIfInBounds_toArray, List.set_cons_zero, List.set_cons_succ]
  refine wpAnyH_take (i := 18) (oi := ?o1115o) (v := ?o1115v) ?o1115h (by kernel_rfl) (by kernel_rfl) (by kernel_rfl) ?o1115q ?o1115y hHeld ?o1115r
  case o1115h => (simp only [List.getElem?_toArray, List.getElem?_cons_succ, List.getElem?_cons_zero]; rfl)
  case o1115q => exact fun _ _ _ h => h
  case o1115y => (refine Or.inl ⟨by first | kernel_rfl | rfl, ?_⟩; intro w hSw; (try dsimp only at hSw); obtain ⟨⟨x0, x1, x2⟩, ⟨y0, y1, y2⟩, ⟨z0, z1, z2⟩, -, ⟨u0, u1, u2⟩, ⟨v0, v1, v2⟩, -, -, -⟩ := hSw; go_simp <;> (try with_reducible rfl))
  try simp only [Act.put, List.setIfInBounds_toArray, List.set_cons_zero, List.set_cons_succ]
  refine wpAnyH_take (i := 19) (oi := ?o1116o) (v := ?o1116v) ?o1116h (by kernel_rfl) (by kernel_rfl) (by kernel_rfl) ?o1116q ?o1116y hHeld ?o1116r
  case o1116h => (simp only [List.getElem?_toArray, List.getElem?_cons_succ, List.getElem?_cons_zero]; rfl)
  case o1116q => exact fun _ _ _ h => h
  case o1116y => (refine Or.inl ⟨by first | kernel_rfl | rfl, ?_⟩; intro w hSw; (try dsimp only at hSw); obtain ⟨⟨x0, x1, x2⟩, ⟨y0, y1, y2⟩, ⟨z0, z1, z2⟩, -, ⟨u0, u1, u2⟩, ⟨v0, v1, v2⟩, -, -, -⟩ := hSw; go_simp <;> (try with_reducible rfl))
  try simp only [Act.put, List.setIfInBounds_toArray, List.set_cons_zero, List.set_cons_succ]
  refine wpAnyH_take (i := 21) (oi := ?o1117o) (v := ?o1117v) ?o1117h (by kernel_rfl) (by kernel_rfl) (by kernel_rfl) ?o1117q ?o1117y hHeld ?o1117r
  case o1117h => (simp only [List.getElem?_toArray, List.getElem?_cons_succ, List.getElem?_cons_zero]; rfl)
  case o1117q => exact fun _ _ _ h => h
  case o1117y => (refine Or.inl ⟨by first | kernel_rfl | rfl, ?_⟩; intro w hSw; (try dsimp only at hSw); obtain ⟨⟨x0, x1, x2⟩, ⟨y0, y1, y2⟩, ⟨z0, z1, z2⟩, -, ⟨u0, u1, u2⟩, ⟨v0, v1, v2⟩, -, -, -⟩ := hSw; go_simp <;> (try with_reducible rfl))
  try simp only [Act.put, List.setIfInBounds_toArray, List.set_cons_zero, List.set_cons_succ]
  refine wpAnyH_ready (rs := [20]) (by kernel_rfl) (by simp) ?_
  refine (AllReadyH.cons rfl (fun K hK => ?_) AllReadyH.nil)
  go_simp
  ((with_reducible refine (l3 _).mono ?_); rintro e w' ⟨rfl, hb'⟩)
  refine hK.out _ _ (hHeld.keep hb') (fun hHeld => ?_)
  clear hK K
  try simp only [Act.put, List.setIfInBounds_toArray, List.set_cons_zero, List.set_cons_succ]
  refine wpAnyH_take (i := 22) (oi := ?o1118o) (v := ?o1118v) ?o1118h (by kernel_rfl) (by kernel_rfl) (by kernel_rfl) ?o1118q ?o1118y hHeld ?o1118r
  case o1118h => (simp only [List.getElem?_toArray, List.getElem?_cons_succ, List.getElem?_cons_zero]; rfl)
  case o1118q => exact fun _ _ _ h => h
  case o1118y => (refine Or.inl ⟨by first | kernel_rfl | rfl, ?_⟩; intro w hSw; (try dsimp only at hSw); obtain ⟨⟨x0, x1, x2⟩, ⟨y0, y1, y2⟩, ⟨z0, z1, z2⟩, -, ⟨u0, u1, u2⟩, ⟨v0, v1, v2⟩, -, -, -⟩ := hSw; go_simp <;> (try with_reducible rfl))
  try simp only [Act.put, List.setIfInBounds_toArray, List.set_cons_zero, List.set_cons_succ]
  refine wpAnyH_take (i := 23) (oi := ?o1119o) (v := ?o1119v) ?o1119h (by kernel_rfl) (by kernel_rfl) (by kernel_rfl) ?o1119q ?o1119y hHeld ?o1119r
  case o1119h => (simp only [List.getElem?_toArray, List.getElem?_cons_succ, List.getElem?_cons_zero]; rfl)
  case o1119q => exact fun _ _ _ h => h
  case o1119y => (refine Or.inl ⟨by first | kernel_rfl | rfl, ?_⟩; intro w hSw; (try dsimp only at hSw); obtain ⟨⟨x0, x1, x2⟩, ⟨y0, y1, y2⟩, ⟨z0, z1, z2⟩, -, ⟨u0, u1, u2⟩, ⟨v0, v1, v2⟩, -, -, -⟩ := hSw; go_simp <;> (try with_reducible rfl))
  try simp only [Act.put, List.setIfInBounds_toArray, List.set_cons_zero, List.set_cons_succ]
  refine wpAnyH_take (i := 24) (oi := ?o1120o) (v := ?o1120v) ?o1120h (by kernel_rfl) (by kernel_rfl) (by kernel_rfl) ?o1120q ?o1120y hHeld ?o1120r
  case o1120h => (simp only [List.getElem?_toArray, List.getElem?_cons_succ, List.getElem?_cons_zero]; rfl)
  case o1120q => exact fun _ _ _ h => h
  case o1120y => (refine Or.inl ⟨by first | kernel_rfl | rfl, ?_⟩; intro w hSw; (try dsimp only at hSw); obtain ⟨⟨x0, x1, x2⟩, ⟨y0, y1, y2⟩, ⟨z0, z1, z2⟩, -, ⟨u0, u1, u2⟩, ⟨v0, v1, v2⟩, -, -, -⟩ := hSw; go_simp <;> (try with_reducible rfl))
  try simp only [Act.put, List.setIfInBounds_toArray, List.set_cons_zero, List.set_cons_succ]
  refine wpAnyH_take (i := 25) (oi := ?o1121o) (v := ?o1121v) ?o1121h (by kernel_rfl) (by kernel_rfl) (by kernel_rfl) ?o1121q ?o1121y hHeld ?o1121r
  case o1121h => (simp only [List.getElem?_toArray, List.getElem?_cons_succ, List.getElem?_cons_zero]; rfl)
  case o1121q => exact fun _ _ _ h => h
  case o1121y => (refine Or.inl ⟨by first | kernel_rfl | rfl, ?_⟩; intro w hSw; (try dsimp only at hSw); obtain ⟨⟨x0, x1, x2⟩, ⟨y0, y1, y2⟩, ⟨z0, z1, z2⟩, -, ⟨u0, u1, u2⟩, ⟨v0, v1, v2⟩, -, -, -⟩ := hSw; go_simp <;> (try with_reducible rfl))
  try simp only [Act.put, List.setIfInBounds_toArray, List.set_cons_zero, List.set_cons_succ]
  refine wpAnyH_take (i := 27) (oi := ?o1122o) (v := ?o1122v) ?o1122h (by kernel_rfl) (by kernel_rfl) (by kernel_rfl) ?o1122q ?o1122y hHeld ?o1122r
  case o1122h => (simp only [List.getElem?_toArray, List.getElem?_cons_succ, List.getElem?_cons_zero]; rfl)
  case o1122q => exact fun _ _ _ h => h
  case o1122y => (refine Or.inl ⟨by first | kernel_rfl | rfl, ?_⟩; intro w hSw; (try dsimp only at hSw); obtain ⟨⟨x0, x1, x2⟩, ⟨y0, y1, y2⟩, ⟨z0, z1, z2⟩, -, ⟨u0, u1, u2⟩, ⟨v0, v1, v2⟩, -, -, -⟩ := hSw; go_simp <;> (try with_reducible rfl))
  try simp only [Act.put, List.setIfInBounds_toArray, List.set_cons_zero, List.set_cons_succ]
  refine wpAnyH_ready (rs := [26]) (by kernel_rfl) (by simp) ?_
  refine (AllReadyH.cons rfl (fun K hK => ?_) AllReadyH.nil)
  go_simp
  ((with_reducible refine (y1 _).mono ?_); rintro e w' ⟨rfl, hb'⟩)
  refine hK.out _ _ (hHeld.keep hb') (fun hHeld => ?_)
  clear hK K
  try simp only [Act.put, List.setIfInBounds_toArray, List.set_cons_zero, List.set_cons_succ]
  refine wpAnyH_ready (rs := [28]) (by kernel_rfl) (by simp) ?_
  refine (AllReadyH.cons rfl (fun K hK => ?_) AllReadyH.nil)
  go_simp
  ((with_reducible refine (y2 _).mono ?_); rintro e w' ⟨rfl, hb'⟩)
  refine hK.out _ _ (hHeld.keep hb') (fun hHeld => ?_)
  clear hK K
  try simp only [Act.put, List.setIfInBounds_toArray, List.set_cons_zero, List.set_cons_succ]
  refine wpAnyH_take (i := 29) (oi := ?o1123o) (v := ?o1123v) ?o1123h (by kernel_rfl) (by kernel_rfl) (by kernel_rfl) ?o1123q ?o1123y hHeld ?o1123r
  case o1123h => (simp only [List.getElem?_toArray, List.getElem?_cons_succ, List.getElem?_cons_zero]; rfl)
  case o1123q => exact fun _ _ _ h => h
  case o1123y => (refine Or.inl ⟨by first | kernel_rfl | rfl, ?_⟩; intro w hSw; (try dsimp only at hSw); obtain ⟨⟨x0, x1, x2⟩, ⟨y0, y1, y2⟩, ⟨z0, z1, z2⟩, -, ⟨u0, u1, u2⟩, ⟨v0, v1, v2⟩, -, -, -⟩ := hSw; go_simp <;> (try with_reducible rfl))
  try simp only [Act.put, List.setIfInBounds_toArray, List.set_cons_zero, List.set_cons_succ]
  refine wpAnyH_take (i := 30) (oi := ?o1124o) (v := ?o1124v) ?o1124h (by kernel_rfl) (by kernel_rfl) (by kernel_rfl) ?o1124q ?o1124y hHeld ?o1124r
  case o1124h => (simp only [List.getElem?_toArray, List.getElem?_cons_succ, List.getElem?_cons_zero]; rfl)
  case o1124q => exact fun _ _ _ h => h
  case o1124y => (refine Or.inl ⟨by first | kernel_rfl | rfl, ?_⟩; intro w hSw; (try dsimp only at hSw); obtain ⟨⟨x0, x1, x2⟩, ⟨y0, y1, y2⟩, ⟨z0, z1, z2⟩, -, ⟨u0, u1, u2⟩, ⟨v0, v1, v2⟩, -, -, -⟩ := hSw; go_simp <;> (try with_reducible rfl))
  try simp only [Act.put, List.setIfInBounds_toArray, List.set_cons_zero, List.set_cons_succ]
  refine wpAnyH_take (i := 31) (oi := ?o1125o) (v := ?o1125v) ?o1125h (by kernel_rfl) (by kernel_rfl) (by kernel_rfl) ?o1125q ?o1125y hHeld ?o1125r
  case o1125h => (simp only [List.getElem?_toArray, List.getElem?_cons_succ, List.getElem?_cons_zero]; rfl)
  case o1125q => exact fun _ _ _ h => h
  case o1125y => (refine Or.inl ⟨by first | kernel_rfl | rfl, ?_⟩; intro w hSw; (try dsimp only at hSw); obtain ⟨⟨x0, x1, x2⟩, ⟨y0, y1, y2⟩, ⟨z0, z1, z2⟩, -, ⟨u0, u1, u2⟩, ⟨v0, v1, v2⟩, -, -, -⟩ := hSw; go_simp <;> (try with_reducible rfl))
  try simp only [Act.put, List.setIfInBounds_toArray, List.set_cons_zero, List.set_cons_succ]
  refine wpAnyH_take (i := 32) (oi := ?o1126o) (v := ?o1126v) ?o1126h (by kernel_rfl) (by kernel_rfl) (by kernel_rfl) ?o1126q ?o1126y hHeld ?o1126r
  case o1126h => (simp only [List.getElem?_toArray, List.getElem?_cons_succ, List.getElem?_cons_zero]; rfl)
  case o1126q => exact fun _ _ _ h => h
  case o1126y => (refine Or.inl ⟨by first | kernel_rfl | rfl, ?_⟩; intro w hSw; (try dsimp only at hSw); obtain ⟨⟨x0, x1, x2⟩, ⟨y0, y1, y2⟩, ⟨z0, z1, z2⟩, -, ⟨u0, u1, u2⟩, ⟨v0, v1, v2⟩, -, -, -⟩ := hSw; go_simp <;> (try with_reducible rfl))
  try simp only [Act.put, List.setIfInBounds_toArray, List.set_cons_zero, List.set_cons_succ]
  refine wpAnyH_take (i := 33) (oi := ?o1127o) (v := ?o1127v) ?o1127h (by kernel_rfl) (by kernel_rfl) (by kernel_rfl) ?o1127q ?o1127y hHeld ?o1127r
  case o1127h => (simp only [List.getElem?_toArray, List.getElem?_cons_succ, List.getElem?_cons_zero]; rfl)
  case o1127q => exact fun _ _ _ h => h
  case o1127y => (refine Or.inl ⟨by first | kernel_rfl | rfl, ?_⟩; intro w hSw; (try dsimp only at hSw); obtain ⟨⟨x0, x1, x2⟩, ⟨y0, y1, y2⟩, ⟨z0, z1, z2⟩, -, ⟨u0, u1, u2⟩, ⟨v0, v1, v2⟩, -, -, -⟩ := hSw; go_simp <;> (try with_reducible rfl))
  try simp only [Act.put, List.setIfInBounds_toArray, List.set_cons_zero, List.set_cons_succ]
  refine wpAnyH_take (i := 34) (oi := ?o1128o) (v := ?o1128v) ?o1128h (by kernel_rfl) (by kernel_rfl) (by kernel_rfl) ?o1128q ?o1128y hHeld ?o1128r
  case o1128h => (simp only [List.getElem?_toArray, List.getElem?_cons_succ, List.getElem?_cons_zero]; rfl)
  case o1128q => exact fun _ _ _ h => h
  case o1128y => (refine Or.inl ⟨by first | kernel_rfl | rfl, ?_⟩; intro w hSw; (try dsimp only at hSw); obtain ⟨⟨x0, x1, x2⟩, ⟨y0, y1, y2⟩, ⟨z0, z1, z2⟩, -, ⟨u0, u1, u2⟩, ⟨v0, v1, v2⟩, -, -, -⟩ := hSw; go_simp <;> (try with_reducible rfl))
  try simp only [Act.put, List.setIfInBounds_toArray, List.set_cons_zero, List.set_cons_succ]
  refine wpAnyH_take (i := 35) (oi := ?o1129o) (v := ?o1129v) ?o1129h (by kernel_rfl) (by kernel_rfl) (by kernel_rfl) ?o1129q ?o1129y hHeld ?o1129r
  case o1129h => (simp only [List.getElem?_toArray, List.getElem?_cons_succ, List.getElem?_cons_zero]; rfl)
  case o1129q => exact fun _ _ _ h => h
  case o1129y => (refine Or.inl ⟨by first | kernel_rfl | rfl, ?_⟩; intro w hSw; (try dsimp only at hSw); obtain ⟨⟨x0, x1, x2⟩, ⟨y0, y1, y2⟩, ⟨z0, z1, z2⟩, -, ⟨u0, u1, u2⟩, ⟨v0, v1, v2⟩, -, -, -⟩ := hSw; go_simp <;> (try with_reducible rfl))
  try simp only [Act.put, List.setIfInBounds_toArray, List.set_cons_zero, List.set_cons_succ]
  refine wpAnyH_take (i := 36) (oi := ?o1130o) (v := ?o1130v) ?o1130h (by kernel_rfl) (by kernel_rfl) (by kernel_rfl) ?o1130q ?o1130y hHeld ?o1130r
  case o1130h => (simp only [List.getElem?_toArray, List.getElem?_cons_succ, List.getElem?_cons_zero]; rfl)
  case o1130q => exact fun _ _ _ h => h
  case o1130y => (refine Or.inl ⟨by first | kernel_rfl | rfl, ?_⟩; intro w hSw; (try dsimp only at hSw); obtain ⟨⟨x0, x1, x2⟩, ⟨y0, y1, y2⟩, ⟨z0, z1, z2⟩, -, ⟨u0, u1, u2⟩, ⟨v0, v1, v2⟩, -, -, -⟩ := hSw; go_simp <;> (try with_reducible rfl))
  try simp only [Act.put, List.setIfInBounds_toArray, List.set_cons_zero, List.set_cons_succ]
  refine wpAnyH_take (i := 37) (oi := ?o1131o) (v := ?o1131v) ?o1131h (by kernel_rfl) (by kernel_rfl) (by kernel_rfl) ?o1131q ?o1131y hHeld ?o1131r
  case o1131h => (simp only [List.getElem?_toArray, List.getElem?_cons_succ, List.getElem?_cons_zero]; rfl)
  case o1131q => exact fun _ _ _ h => h
  case o1131y => (refine Or.inl ⟨by first | kernel_rfl | rfl, ?_⟩; intro w hSw; (try dsimp only at hSw); obtain ⟨⟨x0, x1, x2⟩, ⟨y0, y1, y2⟩, ⟨z0, z1, z2⟩, -, ⟨u0, u1, u2⟩, ⟨v0, v1, v2⟩, -, -, -⟩ := hSw; go_simp <;> (try with_reducible rfl))
  try simp only [Act.put, List.setIfInBounds_toArray, List.set_cons_zero, List.set_cons_succ]
  refine wpAnyH_take (i := 39) (oi := ?o1132o) (v := ?o1132v) ?o1132h (by kernel_rfl) (by kernel_rfl) (by kernel_rfl) ?o1132q ?o1132y hHeld ?o1132r
  case o1132h => (simp only [List.getElem?_toArray, List.getElem?_cons_succ, List.getElem?_cons_zero]; rfl)
  case o1132q => exact fun _ _ _ h => h
  case o1132y => (refine Or.inl ⟨by first | kernel_rfl | rfl, ?_⟩; intro w hSw; (try dsimp only at hSw); obtain ⟨⟨x0, x1, x2⟩, ⟨y0, y1, y2⟩, ⟨z0, z1, z2⟩, -, ⟨u0, u1, u2⟩, ⟨v0, v1, v2⟩, -, -, -⟩ := hSw; go_simp <;> (try with_reducible rfl))
  try simp only [Act.put, List.setIfInBounds_toArray, List.set_cons_zero, List.set_cons_succ]
  refine wpAnyH_ready (rs := [38]) (by kernel_rfl) (by simp) ?_
  refine (AllReadyH.cons rfl (fun K hK => ?_) AllReadyH.nil)
  go_simp
  ((with_reducible refine (f1 _ _ hHeld.mine).mono ?_); rintro e w' ⟨rfl, hb'⟩)
  refine hK.out _ _ (hHeld.keep hb') (fun hHeld => ?_)
  clear hK K
  try simp only [Act.put, List.setIfInBounds_toArray, List.set_cons_zero, List.set_cons_succ]
  refine wpAnyH_ready (rs := [40]) (by kernel_rfl) (by simp) ?_
  refine (AllReadyH.cons rfl (fun K hK => ?_) AllReadyH.nil)
  go_simp
  ((with_reducible refine (f2 _ _ hHeld.theirs).mono ?_); rintro e w' ⟨rfl, hb'⟩)
  refine hK.out _ _ (hHeld.keep hb') (fun hHeld => ?_)
  clear hK K
  try simp only [Act.put, List.setIfInBounds_toArray, List.set_cons_zero, List.set_cons_succ]
  refine wpAnyH_take (i := 41) (oi := ?o1133o) (v := ?o1133v) ?o1133h (by kernel_rfl) (by kernel_rfl) (by kernel_rfl) ?o1133q ?o1133y hHeld ?o1133r
  case o1133h => (simp only [List.getElem?_toArray, List.getElem?_cons_succ, List.getElem?_cons_zero]; rfl)
  case o1133q => exact fun _ _ _ h => h
  case o1133y => (refine Or.inl ⟨by first | kernel_rfl | rfl, ?_⟩; intro w hSw; (try dsimp only at hSw); obtain ⟨⟨x0, x1, x2⟩, ⟨y0, y1, y2⟩, ⟨z0, z1, z2⟩, -, ⟨u0, u1, u2⟩, ⟨v0, v1, v2⟩, -, -, -⟩ := hSw; go_simp <;> (try with_reducible rfl))
  try simp only [Act.put, List.setIfInBounds_toArray, List.set_cons_zero, List.set_cons_succ]
  refine wpAnyH_take (i := 42) (oi := ?o1134o) (v := ?o1134v) ?o1134h (by kernel_rfl) (by kernel_rfl) (by kernel_rfl) ?o1134q ?o1134y hHeld ?o1134r
  case o1134h => (simp only [List.getElem?_toArray, List.getElem?_cons_succ, List.getElem?_cons_zero]; rfl)
  case o1134q => exact fun _ _ _ h => h
  case o1134y => (refine Or.inl ⟨by first | kernel_rfl | rfl, ?_⟩; intro w hSw; (try dsimp only at hSw); obtain ⟨⟨x0, x1, x2⟩, ⟨y0, y1, y2⟩, ⟨z0, z1, z2⟩, -, ⟨u0, u1, u2⟩, ⟨v0, v1, v2⟩, -, -, -⟩ := hSw; go_simp <;> (try with_reducible rfl))
  try simp only [Act.put, List.setIfInBounds_toArray, List.set_cons_zero, List.set_cons_succ]
  refine wpAnyH_take (i := 43) (oi := ?o1135o) (v := ?o1135v) ?o1135h (by kernel_rfl) (by kernel_rfl) (by kernel_rfl) ?o1135q ?o1135y hHeld ?o1135r
  case o1135h => (simp only [List.getElem?_toArray, List.getElem?_cons_succ, List.getElem?_cons_zero]; rfl)
  case o1135q => exact fun _ _ _ h => h
  case o1135y => (refine Or.inl ⟨by first | kernel_rfl | rfl, ?_⟩; intro w hSw; (try dsimp only at hSw); obtain ⟨⟨x0, x1, x2⟩, ⟨y0, y1, y2⟩, ⟨z0, z1, z2⟩, -, ⟨u0, u1, u2⟩, ⟨v0, v1, v2⟩, -, -, -⟩ := hSw; go_simp <;> (try with_reducible rfl))
  try simp only [Act.put, List.setIfInBounds_toArray, List.set_cons_zero, List.set_cons_succ]
  refine wpAnyH_done (by kernel_rfl) ?_ _
  have hbel := hHeld.bel
  go_wp2
  go_ret
  exact ⟨rfl, hbel⟩


theorem walk (c0 s0 q0 c1 s1 q1 : Int) (s : ByteArray) (w : World) (_ : -9223372036854775808 ≤ c0 ∧ c0 ≤ 9223372036854775807) (_ : -9223372036854775808 ≤ s0 ∧ s0 ≤ 9223372036854775807) (_ : -9223372036854775808 ≤ q0 ∧ q0 ≤ 9223372036854775807)
    (_ : -9223372036854775808 ≤ c1 ∧ c1 ≤ 9223372036854775807) (_ : -9223372036854775808 ≤ s1 ∧ s1 ≤ 9223372036854775807) (_ : -9223372036854775808 ≤ q1 ∧ q1 ≤ 9223372036854775807) (_hs : s.size ≤ maxLen) :
    Calls Try.prog 3 #[.agg #[.int .i64 c0, .int .i64 s0, .int .i64 q0], .agg #[.int .i64 c1, .int .i64 s1, .int .i64 q1], .string s] w fun e w' => e = .returned (.bool true) ∧ Below w.heap.size w w' := by
  cases hx : (St.mk c0 s0 q0).lt (St.mk c1 s1 q1) with
  | false =>
    by_cases h : 60 < s.size
    · exact core_00 ⟨c0, s0, q0⟩ ⟨c1, s1, q1⟩ s _ hx w (by simp; omega) h rfl
    · exact core_01 ⟨c0, s0, q0⟩ ⟨c1, s1, q1⟩ s s hx w (by omega) h rfl
  | true =>
    by_cases h : 60 < s.size
    · exact core_10 ⟨c0, s0, q0⟩ ⟨c1, s1, q1⟩ s _ hx w (by simp; omega) h rfl
    · exact core_11 ⟨c0, s0, q0⟩ ⟨c1, s1, q1⟩ s s hx w (by omega) h rfl
end Go.Proofs.Ytkgagedjjjaofaa.markStamps
