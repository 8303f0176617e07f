/- The walk of AggMerges. -/
import Derived.Test.YtipjhlabcbkgjaaAggAwake
import Derived.Test.YtipjhlabcbkgjaaAggRMerge
import Derived.Test.YtipjhlabcbkgjaaAggArgs
import Derived.Test.YtipjhlabcbkgjaaAggYields
import Derived.Test.YtipjhlabcbkgjaaAggFold
set_option maxRecDepth 20000
namespace Go.Proofs.Ytipjhlabcbkgjaa.aggMerges
open Go.RowKit Go.Proofs.Ytipjhlabcbkgjaa Go.Proofs.Ytipjhlabcbkgjaa.Wd Go.Proofs.Ytipjhlabcbkgjaa.Vi Go.Proofs.Ytipjhlabcbkgjaa.Mk Go.Proofs.Ytipjhlabcbkgjaa.Ag

/-- The three arguments in their boxes. -/
structure H3 (w : World) (a c : Ag) (p : Pt) (W : World) : Prop where
  a : AgAt W w.heap.size a
  c : AgAt W (w.heap.size + 1) c
  p : PtO W (w.heap.size + 1 + 1) 0 p
  bel : Below w.heap.size w W
theorem H3.keep {w : World} {a c : Ag} {p : Pt} {W W' : World} (h : H3 w a c p W) (k : Below W.heap.size W W') : H3 w a c p W' := ⟨h.a.below k, h.c.below k, h.p.below k h.p.room, bel_next h.bel k⟩
theorem H3.drew {w : World} {a c : Ag} {p : Pt} {W : World} (h : H3 w a c p W) : H3 w a c p W.drew := h.keep ((Below.refl _ _).drew)
theorem H3.new (w : World) (a c : Ag) (p : Pt) : H3 w a c p (((w.alloc (.cells (cells18 a).toArray 29)).alloc (.cells (cells18 c).toArray 29)).alloc (.cells #[.string p.s, .int .i64 p.t, .int .i64 p.v, .int .i64 p.st.c, .int .i64 p.st.s, .int .i64 p.st.q] 31)) := by
  have h0 := AgW.new w a 29
  have h1 := AgW.new (w.alloc (.cells (cells18 a).toArray 29)) c 29
  have h2 := PtO.new ((w.alloc (.cells (cells18 a).toArray 29)).alloc (.cells (cells18 c).toArray 29)) p 31
  rw [World.size_alloc] at h1
  rw [World.size_alloc, World.size_alloc] at h2
  exact ⟨(h0.at_.below ((Below.refl _ _).alloc (Nat.le_refl _) _)).below ((Below.refl _ _).alloc (Nat.le_refl _) _), h1.at_.upto ((Below.refl _ _).alloc (Nat.le_refl _) _) (by simp), h2, bel_new (bel_new (bel_new (Below.refl w.heap.size w) _) _) _⟩
theorem H3.name {w : World} {a c : Ag} {p : Pt} {W : World} (h : H3 w a c p W) : ∃ x, x = W ∧ H3 w a c p x := ⟨W, rfl, h⟩
set_option maxHeartbeats 4000000 in
theorem walk (a c : Ag) (p : Pt) (w : World) (ha : a.fits) (hc : c.fits) (hp : p.fits) : Calls Try.prog 3 #[agV a, agV c, ptV p] w fun e w' => e = .returned (.bool true) ∧ Below w.heap.size w w' := by
  have hN := H3.new w a c p
  simp only [cells18] at hN
  have HN := Lib.hid hN
  obtain ⟨z, hz⟩ : ∃ z, mgA a c = z := ⟨_, rfl⟩
  obtain ⟨o, ho⟩ : ∃ o, oneA p.v p.st = o := ⟨_, rfl⟩
  obtain ⟨k, hk⟩ : ∃ k, bk p.v = k := ⟨_, rfl⟩
  have kb := fun W => bucket_is p.v W hp.v k (Lib.hid hk)
  have kr := fun W => rbucket_is p.v W hp.v k (Lib.hid hk)
  have ko := fun W => one_is p.s p.t p.v p.st W hp.v
  have kq := fun W => rone_is p.s p.t p.v p.st W hp.v
  have km := fun W => merge_is a c ha hc W
  have kn := fun W => rmerge_is a c ha hc W
  rw [ho] at ko kq
  rw [hz] at km kn
  have q0 := fun w => eqAg_self z w
  have g0 := fun x y w => guardAg x y z z w
  have q1 := fun w => eqAg_self o w
  have g1 := fun x y w => guardAg x y o o w
  clear hN hz ho hk
  rw [show agV a = .agg #[.int .i64 a.n, .int .i64 (wh a.s), .int .u64 (wl a.s), .int .i64 a.mn, .int .i64 a.mx, .int .i64 a.la, .int .i64 a.st.c, .int .i64 a.st.s, .int .i64 a.st.q, .int .i64 (a.b 0), .int .i64 (a.b 1), .int .i64 (a.b 2), .int .i64 (a.b 3), .int .i64 (a.b 4), .int .i64 (a.b 5), .int .i64 (a.b 6), .int .i64 (a.b 7), .int .i64 (a.b 8)] from rfl, show agV c = .agg #[.int .i64 c.n, .int .i64 (wh c.s), .int .u64 (wl c.s), .int .i64 c.mn, .int .i64 c.mx, .int .i64 c.la, .int .i64 c.st.c, .int .i64 c.st.s, .int .i64 c.st.q, .int .i64 (c.b 0), .int .i64 (c.b 1), .int .i64 (c.b 2), .int .i64 (c.b 3), .int .i64 (c.b 4), .int .i64 (c.b 5), .int .i64 (c.b 6), .int .i64 (c.b 7), .int .i64 (c.b 8)] from rfl]
  unfold ptV
  go_enter Try.func3, Try.ntmps3
  go_upto_region 1 with fail
  obtain ⟨w0, hw0, h0⟩ := HN.out.name
  rw [← hw0]
  have H0 := Lib.hid h0
  clear hw0 h0 HN
  go_upto_region 2 with (go_at_call 11; (with_reducible refine (awake_is _).mono ?_); rintro e w1 ⟨rfl, hb1⟩; (have H1 := Lib.hid (H0.out.keep hb1)); clear hb1)
  refine wp_region_held_drew (S := (H3 w a c p)) (by kernel_rfl) H1.out.drew (fun hHeld => ?_)
  refine wpAnyH_take (i := 0) (oi := ?o1o) (v := ?o1v) ?o1h (by kernel_rfl) (by kernel_rfl) (by kernel_rfl) ?o1q ?o1y hHeld ?o1r
  case o1h => (simp only [List.getElem?_toArray, List.getElem?_cons_zero]; rfl)
  case o1q => exact fun _ _ _ h => h
  case o1y => (refine Or.inl ⟨by first | kernel_rfl | rfl, ?_⟩; intro w hSw; (try dsimp only at hSw); obtain ⟨hA, hC, hP, _⟩ := hSw; obtain ⟨y0, y1, y2, y3, y4, y5⟩ := hP; go_simp <;> (try with_reducible rfl))
  try simp only [Act.put, List.setIfInBounds_toArray, List.set_cons_zero, List.set_cons_succ]
  refine wpAnyH_take (i := 1) (oi := ?o2o) (v := ?o2v) ?o2h (by kernel_rfl) (by kernel_rfl) (by kernel_rfl) ?o2q ?o2y hHeld ?o2r
  case o2h => (simp only [List.getElem?_toArray, List.getElem?_cons_succ, List.getElem?_cons_zero]; rfl)
  case o2q => exact fun _ _ _ h => h
  case o2y => (refine Or.inl ⟨by first | kernel_rfl | rfl, ?_⟩; intro w hSw; (try dsimp only at hSw); obtain ⟨hA, hC, hP, _⟩ := hSw; obtain ⟨y0, y1, y2, y3, y4, y5⟩ := hP; go_simp <;> (try with_reducible rfl))
  try simp only [Act.put, List.setIfInBounds_toArray, List.set_cons_zero, List.set_cons_succ]
  refine wpAnyH_take (i := 2) (oi := ?o3o) (v := ?o3v) ?o3h (by kernel_rfl) (by kernel_rfl) (by kernel_rfl) ?o3q ?o3y hHeld ?o3r
  case o3h => (simp only [List.getElem?_toArray, List.getElem?_cons_succ, List.getElem?_cons_zero]; rfl)
  case o3q => exact fun _ _ _ h => h
  case o3y => (refine Or.inl ⟨by first | kernel_rfl | rfl, ?_⟩; intro w hSw; (try dsimp only at hSw); obtain ⟨hA, hC, hP, _⟩ := hSw; obtain ⟨y0, y1, y2, y3, y4, y5⟩ := hP; go_simp <;> (try with_reducible rfl))
  try simp only [Act.put, List.setIfInBounds_toArray, List.set_cons_zero, List.set_cons_succ]
  refine wpAnyH_take (i := 3) (oi := ?o4o) (v := ?o4v) ?o4h (by kernel_rfl) (by kernel_rfl) (by kernel_rfl) ?o4q ?o4y hHeld ?o4r
  case o4h => (simp only [List.getElem?_toArray, List.getElem?_cons_succ, List.getElem?_cons_zero]; rfl)
  case o4q => exact fun _ _ _ h => h
  case o4y => (refine Or.inl ⟨by first | kernel_rfl | rfl, ?_⟩; intro w hSw; (try dsimp only at hSw); obtain ⟨hA, hC, hP, _⟩ := hSw; obtain ⟨y0, y1, y2, y3, y4, y5⟩ := hP; go_simp <;> (try with_reducible rfl))
  try simp only [Act.put, List.setIfInBounds_toArray, List.set_cons_zero, List.set_cons_succ]
  refine wpAnyH_take (i := 5) (oi := ?o5o) (v := ?o5v) ?o5h (by kernel_rfl) (by kernel_rfl) (by kernel_rfl) ?o5q ?o5y hHeld ?o5r
  case o5h => (simp only [List.getElem?_toArray, List.getElem?_cons_succ, List.getElem?_cons_zero]; rfl)
  case o5q => exact fun _ _ _ h => h
  case o5y => (refine Or.inl ⟨by first | kernel_rfl | rfl, ?_⟩; intro w hSw; (try dsimp only at hSw); obtain ⟨hA, hC, hP, _⟩ := hSw; obtain ⟨y0, y1, y2, y3, y4, y5⟩ := hP; go_simp <;> (try with_reducible rfl))
  try simp only [Act.put, List.setIfInBounds_toArray, List.set_cons_zero, List.set_cons_succ]
  refine wpAnyH_take (i := 6) (oi := ?o6o) (v := ?o6v) ?o6h (by kernel_rfl) (by kernel_rfl) (by kernel_rfl) ?o6q ?o6y hHeld ?o6r
  case o6h => (simp only [List.getElem?_toArray, List.getElem?_cons_succ, List.getElem?_cons_zero]; rfl)
  case o6q => exact fun _ _ _ h => h
  case o6y => (refine Or.inl ⟨by first | kernel_rfl | rfl, ?_⟩; intro w hSw; (try dsimp only at hSw); obtain ⟨hA, hC, hP, _⟩ := hSw; obtain ⟨y0, y1, y2, y3, y4, y5⟩ := hP; go_simp <;> (try with_reducible rfl))
  try simp only [Act.put, List.setIfInBounds_toArray, List.set_cons_zero, List.set_cons_succ]
  refine wpAnyH_ready (rs := [4]) (by kernel_rfl) (by simp) ?_
  refine (AllReadyH.cons rfl (fun K hK => ?_) AllReadyH.nil)
  go_simp
  ((with_reducible refine (kb _).mono ?_); rintro e w2 ⟨rfl, rfl⟩)
  refine hK.out _ _ (hHeld) (fun hHeld => ?_)
  clear hK K
  try simp only [Act.put, List.setIfInBounds_toArray, List.set_cons_zero, List.set_cons_succ]
  refine wpAnyH_ready (rs := [7]) (by kernel_rfl) (by simp) ?_
  refine (AllReadyH.cons rfl (fun K hK => ?_) AllReadyH.nil)
  go_simp
  ((with_reducible refine (kr _).mono ?_); rintro e w2 ⟨rfl, rfl⟩)
  refine hK.out _ _ (hHeld) (fun hHeld => ?_)
  clear hK K
  try simp only [Act.put, List.setIfInBounds_toArray, List.set_cons_zero, List.set_cons_succ]
  refine wpAnyH_take (i := 8) (oi := ?o7o) (v := ?o7v) ?o7h (by kernel_rfl) (by kernel_rfl) (by kernel_rfl) ?o7q ?o7y hHeld ?o7r
  case o7h => (simp only [List.getElem?_toArray, List.getElem?_cons_succ, List.getElem?_cons_zero]; rfl)
  case o7q => exact fun _ _ _ h => h
  case o7y => (refine Or.inl ⟨by first | kernel_rfl | rfl, ?_⟩; intro w hSw; (try dsimp only at hSw); obtain ⟨hA, hC, hP, _⟩ := hSw; obtain ⟨y0, y1, y2, y3, y4, y5⟩ := hP; go_simp <;> (try with_reducible rfl))
  try simp only [Act.put, List.setIfInBounds_toArray, List.set_cons_zero, List.set_cons_succ]
  refine wpAnyH_take (i := 9) (oi := ?o8o) (v := ?o8v) ?o8h (by kernel_rfl) (by kernel_rfl) (by kernel_rfl) ?o8q ?o8y hHeld ?o8r
  case o8h => (simp only [List.getElem?_toArray, List.getElem?_cons_succ, List.getElem?_cons_zero]; rfl)
  case o8q => exact fun _ _ _ h => h
  case o8y => (refine Or.inl ⟨by first | kernel_rfl | rfl, ?_⟩; intro w hSw; (try dsimp only at hSw); obtain ⟨hA, hC, hP, _⟩ := hSw; obtain ⟨y0, y1, y2, y3, y4, y5⟩ := hP; go_simp <;> (try with_reducible rfl))
  try simp only [Act.put, List.setIfInBounds_toArray, List.set_cons_zero, List.set_cons_succ]
  refine wpAnyH_take (i := 10) (oi := ?o9o) (v := ?o9v) ?o9h (by kernel_rfl) (by kernel_rfl) (by kernel_rfl) ?o9q ?o9y hHeld ?o9r
  case o9h => (simp only [List.getElem?_toArray, List.getElem?_cons_succ, List.getElem?_cons_zero]; rfl)
  case o9q => exact fun _ _ _ h => h
  case o9y => (refine Or.inl ⟨by first | kernel_rfl | rfl, ?_⟩; intro w hSw; (try dsimp only at hSw); obtain ⟨hA, hC, hP, _⟩ := hSw; obtain ⟨y0, y1, y2, y3, y4, y5⟩ := hP; go_simp <;> (try with_reducible rfl))
  try simp only [Act.put, List.setIfInBounds_toArray, List.set_cons_zero, List.set_cons_succ]
  refine wpAnyH_take (i := 11) (oi := ?o10o) (v := ?o10v) ?o10h (by kernel_rfl) (by kernel_rfl) (by kernel_rfl) ?o10q ?o10y hHeld ?o10r
  case o10h => (simp only [List.getElem?_toArray, List.getElem?_cons_succ, List.getElem?_cons_zero]; rfl)
  case o10q => exact fun _ _ _ h => h
  case o10y => (refine Or.inl ⟨by first | kernel_rfl | rfl, ?_⟩; intro w hSw; (try dsimp only at hSw); obtain ⟨hA, hC, hP, _⟩ := hSw; obtain ⟨y0, y1, y2, y3, y4, y5⟩ := hP; go_simp <;> (try with_reducible rfl))
  try simp only [Act.put, List.setIfInBounds_toArray, List.set_cons_zero, List.set_cons_succ]
  refine wpAnyH_take (i := 13) (oi := ?o11o) (v := ?o11v) ?o11h (by kernel_rfl) (by kernel_rfl) (by kernel_rfl) ?o11q ?o11y hHeld ?o11r
  case o11h => (simp only [List.getElem?_toArray, List.getElem?_cons_succ, List.getElem?_cons_zero]; rfl)
  case o11q => exact fun _ _ _ h => h
  case o11y => (refine Or.inl ⟨by first | kernel_rfl | rfl, ?_⟩; intro w hSw; (try dsimp only at hSw); obtain ⟨hA, hC, hP, _⟩ := hSw; obtain ⟨y0, y1, y2, y3, y4, y5⟩ := hP; go_simp <;> (try with_reducible rfl))
  try simp only [Act.put, List.setIfInBounds_toArray, List.set_cons_zero, List.set_cons_succ]
  refine wpAnyH_ready (rs := [12]) (by kernel_rfl) (by simp) ?_
  refine (AllReadyH.cons rfl (fun K hK => ?_) AllReadyH.nil)
  go_simp
  ((with_reducible refine (ko _).mono ?_); rintro e w2 ⟨rfl, hb⟩; (have H2 := Lib.hid (hHeld.keep hb)); clear hb)
  refine hK.out _ _ (H2.out) (fun hHeld => ?_)
  clear hK K
  try simp only [Act.put, List.setIfInBounds_toArray, List.set_cons_zero, List.set_cons_succ]
  refine wpAnyH_ready (rs := [14]) (by kernel_rfl) (by simp) ?_
  refine (AllReadyH.cons rfl (fun K hK => ?_) AllReadyH.nil)
  go_simp
  ((with_reducible refine (kq _).mono ?_); rintro e w2 ⟨rfl, hb⟩; (have H2 := Lib.hid (hHeld.keep hb)); clear hb)
  refine hK.out _ _ (H2.out) (fun hHeld => ?_)
  clear hK K
  try simp only [Act.put, List.setIfInBounds_toArray, List.set_cons_zero, List.set_cons_succ]
  refine wpAnyH_take (i := 15) (oi := ?o12o) (v := ?o12v) ?o12h (by kernel_rfl) (by kernel_rfl) (by kernel_rfl) ?o12q ?o12y hHeld ?o12r
  case o12h => (simp only [List.getElem?_toArray, List.getElem?_cons_succ, List.getElem?_cons_zero]; rfl)
  case o12q => exact fun _ _ _ h => h
  case o12y => (refine Or.inl ⟨by first | kernel_rfl | rfl, ?_⟩; intro w hSw; (try dsimp only at hSw); obtain ⟨hA, hC, hP, _⟩ := hSw; obtain ⟨y0, y1, y2, y3, y4, y5⟩ := hP; go_simp <;> (try with_reducible rfl))
  try simp only [Act.put, List.setIfInBounds_toArray, List.set_cons_zero, List.set_cons_succ]
  refine wpAnyH_take (i := 16) (oi := ?o13o) (v := ?o13v) ?o13h (by kernel_rfl) (by kernel_rfl) (by kernel_rfl) ?o13q ?o13y hHeld ?o13r
  case o13h => (simp only [List.getElem?_toArray, List.getElem?_cons_succ, List.getElem?_cons_zero]; rfl)
  case o13q => exact fun _ _ _ h => h
  case o13y => (refine Or.inl ⟨by first | kernel_rfl | rfl, ?_⟩; intro w hSw; (try dsimp only at hSw); obtain ⟨hA, hC, hP, _⟩ := hSw; obtain ⟨y0, y1, y2, y3, y4, y5⟩ := hP; go_simp <;> (try with_reducible rfl))
  try simp only [Act.put, List.setIfInBounds_toArray, List.set_cons_zero, List.set_cons_succ]
  refine wpAnyH_take (i := 17) (oi := ?o14o) (v := ?o14v) ?o14h (by kernel_rfl) (by kernel_rfl) (by kernel_rfl) ?o14q ?o14y hHeld ?o14r
  case o14h => (simp only [List.getElem?_toArray, List.getElem?_cons_succ, List.getElem?_cons_zero]; rfl)
  case o14q => exact fun _ _ _ h => h
  case o14y => (refine Or.inl ⟨by first | kernel_rfl | rfl, ?_⟩; intro w hSw; (try dsimp only at hSw); obtain ⟨hA, hC, hP, _⟩ := hSw; obtain ⟨y0, y1, y2, y3, y4, y5⟩ := hP; go_simp <;> (try with_reducible rfl))
  try simp only [Act.put, List.setIfInBounds_toArray, List.set_cons_zero, List.set_cons_succ]
  refine wpAnyH_take (i := 18) (oi := ?o15o) (v := agV a) ?o15h (by kernel_rfl) (by kernel_rfl) (by kernel_rfl) ?o15q ?o15y hHeld ?o15r
  case o15h => (simp only [List.getElem?_toArray, List.getElem?_cons_succ, List.getElem?_cons_zero]; rfl)
  case o15q => exact fun _ _ _ h => h
  case o15y => exact yields_ag (by kernel_rfl) _ rfl w.heap.size a rfl (fun _ h => h.a)
  try simp only [Act.put, List.setIfInBounds_toArray, List.set_cons_zero, List.set_cons_succ]
  refine wpAnyH_take (i := 19) (oi := ?o16o) (v := agV c) ?o16h (by kernel_rfl) (by kernel_rfl) (by kernel_rfl) ?o16q ?o16y hHeld ?o16r
  case o16h => (simp only [List.getElem?_toArray, List.getElem?_cons_succ, List.getElem?_cons_zero]; rfl)
  case o16q => exact fun _ _ _ h => h
  case o16y => exact yields_ag (by kernel_rfl) _ rfl (w.heap.size + 1) c rfl (fun _ h => h.c)
  try simp only [Act.put, List.setIfInBounds_toArray, List.set_cons_zero, List.set_cons_succ]
  refine wpAnyH_take (i := 21) (oi := ?o17o) (v := agV a) ?o17h (by kernel_rfl) (by kernel_rfl) (by kernel_rfl) ?o17q ?o17y hHeld ?o17r
  case o17h => (simp only [List.getElem?_toArray, List.getElem?_cons_succ, List.getElem?_cons_zero]; rfl)
  case o17q => exact fun _ _ _ h => h
  case o17y => exact yields_ag (by kernel_rfl) _ rfl w.heap.size a rfl (fun _ h => h.a)
  try simp only [Act.put, List.setIfInBounds_toArray, List.set_cons_zero, List.set_cons_succ]
  refine wpAnyH_take (i := 22) (oi := ?o18o) (v := agV c) ?o18h (by kernel_rfl) (by kernel_rfl) (by kernel_rfl) ?o18q ?o18y hHeld ?o18r
  case o18h => (simp only [List.getElem?_toArray, List.getElem?_cons_succ, List.getElem?_cons_zero]; rfl)
  case o18q => exact fun _ _ _ h => h
  case o18y => exact yields_ag (by kernel_rfl) _ rfl (w.heap.size + 1) c rfl (fun _ h => h.c)
  try simp only [Act.put, List.setIfInBounds_toArray, List.set_cons_zero, List.set_cons_succ]
  refine wpAnyH_ready (rs := [20]) (by kernel_rfl) (by simp) ?_
  refine (AllReadyH.cons rfl (fun K hK => ?_) AllReadyH.nil)
  go_simp
  ((with_reducible refine (km _).mono ?_); rintro e w2 ⟨rfl, hb⟩; (have H2 := Lib.hid (hHeld.keep hb)); clear hb)
  refine hK.out _ _ (H2.out) (fun hHeld => ?_)
  clear hK K
  try simp only [Act.put, List.setIfInBounds_toArray, List.set_cons_zero, List.set_cons_succ]
  refine wpAnyH_ready (rs := [23]) (by kernel_rfl) (by simp) ?_
  refine (AllReadyH.cons rfl (fun K hK => ?_) AllReadyH.nil)
  go_simp
  ((with_reducible refine (kn _).mono ?_); rintro e w2 ⟨rfl, hb⟩; (have H2 := Lib.hid (hHeld.keep hb)); clear hb)
  refine hK.out _ _ (H2.out) (fun hHeld => ?_)
  clear hK K
  try simp only [Act.put, List.setIfInBounds_toArray, List.set_cons_zero, List.set_cons_succ]
  refine wpAnyH_take (i := 24) (oi := ?o19o) (v := ?o19v) ?o19h (by kernel_rfl) (by kernel_rfl) (by kernel_rfl) ?o19q ?o19y hHeld ?o19r
  case o19h => (simp only [List.getElem?_toArray, List.getElem?_cons_succ, List.getElem?_cons_zero]; rfl)
  case o19q => exact fun _ _ _ h => h
  case o19y => (refine Or.inl ⟨by first | kernel_rfl | rfl, ?_⟩; intro w hSw; (try dsimp only at hSw); obtain ⟨hA, hC, hP, _⟩ := hSw; obtain ⟨y0, y1, y2, y3, y4, y5⟩ := hP; go_simp <;> (try with_reducible rfl))
  try simp only [Act.put, List.setIfInBounds_toArray, List.set_cons_zero, List.set_cons_succ]
  refine wpAnyH_take (i := 25) (oi := ?o20o) (v := ?o20v) ?o20h (by kernel_rfl) (by kernel_rfl) (by kernel_rfl) ?o20q ?o20y hHeld ?o20r
  case o20h => (simp only [List.getElem?_toArray, List.getElem?_cons_succ, List.getElem?_cons_zero]; rfl)
  case o20q => exact fun _ _ _ h => h
  case o20y => (refine Or.inl ⟨by first | kernel_rfl | rfl, ?_⟩; intro w hSw; (try dsimp only at hSw); obtain ⟨hA, hC, hP, _⟩ := hSw; obtain ⟨y0, y1, y2, y3, y4, y5⟩ := hP; go_simp <;> (try with_reducible rfl))
  try simp only [Act.put, List.setIfInBounds_toArray, List.set_cons_zero, List.set_cons_succ]
  refine wpAnyH_take (i := 26) (oi := ?o21o) (v := ?o21v) ?o21h (by kernel_rfl) (by kernel_rfl) (by kernel_rfl) ?o21q ?o21y hHeld ?o21r
  case o21h => (simp only [List.getElem?_toArray, List.getElem?_cons_succ, List.getElem?_cons_zero]; rfl)
  case o21q => exact fun _ _ _ h => h
  case o21y => (refine Or.inl ⟨by first | kernel_rfl | rfl, ?_⟩; intro w hSw; (try dsimp only at hSw); obtain ⟨hA, hC, hP, _⟩ := hSw; obtain ⟨y0, y1, y2, y3, y4, y5⟩ := hP; go_simp <;> (try with_reducible rfl))
  try simp only [Act.put, List.setIfInBounds_toArray, List.set_cons_zero, List.set_cons_succ]
  refine wpAnyH_done (by kernel_rfl) ?_ _
  have hbel := hHeld.bel
  go_wp2
  go_ret
  exact ⟨rfl, hbel⟩
end Go.Proofs.Ytipjhlabcbkgjaa.aggMerges
