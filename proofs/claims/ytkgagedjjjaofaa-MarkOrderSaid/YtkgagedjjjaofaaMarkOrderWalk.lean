/- The walk of law MarkOrder: it returns true and turns nothing that was there. -/
import Derived.Test.YtkgagedjjjaofaaMarkAwake
import Derived.Test.YtkgagedjjjaofaaMarkStamp
namespace Go.Proofs.Ytkgagedjjjaofaa.markOrder
open Go.RowKit Go.Proofs.Ytkgagedjjjaofaa Go.Proofs.Ytkgagedjjjaofaa.Vi Go.Proofs.Ytkgagedjjjaofaa.Mk


set_option maxHeartbeats 4000000 in
theorem caseA (a b c : St) (w : World) (h : a.lt b = true) (k : b.lt c = true) : Calls Try.prog 6 #[.agg #[.int .i64 a.c, .int .i64 a.s, .int .i64 a.q], .agg #[.int .i64 b.c, .int .i64 b.s, .int .i64 b.q], .agg #[.int .i64 c.c, .int .i64 c.s, .int .i64 c.q]] w fun e w' => e = .returned (.bool true) ∧ Below w.heap.size w w' := by
  have kab := lessV a b true (Lib.hid h)
  have kba := lessV b a false (Lib.hid (St.lt_not h))
  have kbc := lessV b c true (Lib.hid k)
  have kac := lessV a c true (Lib.hid (St.lt_trans h k))
  have kbb := lessV b b false (Lib.hid (St.lt_self b))
  have kl := laterV a b b (Lib.hid (if_pos h))
  have km := laterV b a b (Lib.hid (by rw [if_neg]; simp [St.lt_not h]))
  have hne : b ≠ a := fun e => by subst e; rw [St.lt_self] at h; cases h
  have q1 : ∀ w, (binOp .eql 23 (.agg #[.int .i64 b.c, .int .i64 b.s, .int .i64 b.q]) (.agg #[.int .i64 a.c, .int .i64 a.s, .int .i64 a.q])).run Try.prog w = .ok (.bool false) w := fun w => by rw [eql_run, decide_eq_false hne]
  have q2 : ∀ w, (binOp .eql 23 (.agg #[.int .i64 b.c, .int .i64 b.s, .int .i64 b.q]) (.agg #[.int .i64 b.c, .int .i64 b.s, .int .i64 b.q])).run Try.prog w = .ok (.bool true) w := fun w => by rw [eql_run, decide_eq_true rfl]
  clear h k hne
  skip
  have H0 : Held3 w w.heap.size (w.heap.size + 1) (w.heap.size + 1 + 1) a b c (((w.alloc (.cells #[.int .i64 a.c, .int .i64 a.s, .int .i64 a.q] 23)).alloc (.cells #[.int .i64 b.c, .int .i64 b.s, .int .i64 b.q] 23)).alloc (.cells #[.int .i64 c.c, .int .i64 c.s, .int .i64 c.q] 23)) :=
    ⟨((StAt.new w a).alloc _).alloc _, by have := (StAt.new (w.alloc (.cells #[.int .i64 a.c, .int .i64 a.s, .int .i64 a.q] 23)) b).alloc (.cells #[.int .i64 c.c, .int .i64 c.s, .int .i64 c.q] 23); simpa using this, by have := StAt.new ((w.alloc (.cells #[.int .i64 a.c, .int .i64 a.s, .int .i64 a.q] 23)).alloc (.cells #[.int .i64 b.c, .int .i64 b.s, .int .i64 b.q] 23)) c; simpa using this, by (repeat (first | exact Below.refl _ _ | refine below_drewN ?_ _ | refine Below.drew ?_ | (refine Below.setCell ?_ (by simp; try omega) _) | refine bel_new ?_ _ | (refine bel_next ?_ (by assumption))))⟩
  go_enter Try.func6, Try.ntmps6
  go_wp2_with (first
    | (go_at_call 10; (with_reducible refine (awake_any _).mono ?_); rintro e w1 ⟨rfl, hb⟩; have H1 := H0.keep hb; have G := H1; obtain ⟨⟨x0, x1, x2⟩, ⟨y0, y1, y2⟩, ⟨z0, z1, z2⟩, -⟩ := G)
    | (go_at_call 17; (with_reducible refine (kab _).mono ?_); rintro e w2 ⟨rfl, hb⟩; have H2 := H1.keep hb; have G := H2; obtain ⟨⟨x0, x1, x2⟩, ⟨y0, y1, y2⟩, ⟨z0, z1, z2⟩, -⟩ := G)
    | (go_at_call 17; (with_reducible refine (kba _).mono ?_); rintro e w3 ⟨rfl, hb⟩; have H3 := H2.keep hb; have G := H3; obtain ⟨⟨x0, x1, x2⟩, ⟨y0, y1, y2⟩, ⟨z0, z1, z2⟩, -⟩ := G)
    | (go_at_call 17; (with_reducible refine (kbc _).mono ?_); rintro e w4 ⟨rfl, hb⟩; have H4 := H3.keep hb; have G := H4; obtain ⟨⟨x0, x1, x2⟩, ⟨y0, y1, y2⟩, ⟨z0, z1, z2⟩, -⟩ := G)
    | (go_at_call 17; (with_reducible refine (kac _).mono ?_); rintro e w5 ⟨rfl, hb⟩; have H5 := H4.keep hb; have G := H5; obtain ⟨⟨x0, x1, x2⟩, ⟨y0, y1, y2⟩, ⟨z0, z1, z2⟩, -⟩ := G)
    | (go_at_call 18; (with_reducible refine (kl _).mono ?_); rintro e w8 ⟨rfl, hb⟩; have H8 := H5.keep hb; have G := H8; obtain ⟨⟨x0, x1, x2⟩, ⟨y0, y1, y2⟩, ⟨z0, z1, z2⟩, -⟩ := G))
  have HH : Held3 w w.heap.size (w.heap.size + 1) w8.heap.size a b b (w8.alloc (.cells #[.int .i64 b.c, .int .i64 b.s, .int .i64 b.q] 23)) := ⟨H8.h1.alloc _, H8.h2.alloc _, StAt.new w8 b, bel_new H8.bel _⟩
  generalize w8.heap.size = bl at HH ⊢
  clear H0 H1 H2 H3 H4 H5 H8
  refine wp_region_held_drew (S := (Held3 w w.heap.size (w.heap.size + 1) bl a b b)) (by kernel_rfl) HH.drew (fun hHeld => ?_)
  refine wpAnyH_take (i := 0) (oi := ?ocaseA1o) (v := ?ocaseA1v) ?ocaseA1h (by kernel_rfl) (by kernel_rfl) (by kernel_rfl) ?ocaseA1q ?ocaseA1y hHeld ?ocaseA1r
  case ocaseA1h => (simp only [List.getElem?_toArray, List.getElem?_cons_zero]; rfl)
  case ocaseA1q => exact fun _ _ _ h => h
  case ocaseA1y => (refine Or.inl ⟨by first | kernel_rfl | rfl, ?_⟩; intro w hSw; (try dsimp only at hSw); obtain ⟨⟨x0, x1, x2⟩, ⟨y0, y1, y2⟩, ⟨z0, z1, z2⟩, -⟩ := hSw; go_simp <;> (try with_reducible rfl))
  try simp only [Act.put, List.setIfInBounds_toArray, List.set_cons_zero, List.set_cons_succ]
  refine wpAnyH_take (i := 1) (oi := ?ocaseA2o) (v := ?ocaseA2v) ?ocaseA2h (by kernel_rfl) (by kernel_rfl) (by kernel_rfl) ?ocaseA2q ?ocaseA2y hHeld ?ocaseA2r
  case ocaseA2h => (simp only [List.getElem?_toArray, List.getElem?_cons_succ, List.getElem?_cons_zero]; rfl)
  case ocaseA2q => exact fun _ _ _ h => h
  case ocaseA2y => (refine Or.inl ⟨by first | kernel_rfl | rfl, ?_⟩; intro w hSw; (try dsimp only at hSw); obtain ⟨⟨x0, x1, x2⟩, ⟨y0, y1, y2⟩, ⟨z0, z1, z2⟩, -⟩ := hSw; go_simp <;> (try with_reducible rfl))
  try simp only [Act.put, List.setIfInBounds_toArray, List.set_cons_zero, List.set_cons_succ]
  refine wpAnyH_take (i := 2) (oi := ?ocaseA3o) (v := ?ocaseA3v) ?ocaseA3h (by kernel_rfl) (by kernel_rfl) (by kernel_rfl) ?ocaseA3q ?ocaseA3y hHeld ?ocaseA3r
  case ocaseA3h => (simp only [List.getElem?_toArray, List.getElem?_cons_succ, List.getElem?_cons_zero]; rfl)
  case ocaseA3q => exact fun _ _ _ h => h
  case ocaseA3y => (refine Or.inl ⟨by first | kernel_rfl | rfl, ?_⟩; intro w hSw; (try dsimp only at hSw); obtain ⟨⟨x0, x1, x2⟩, ⟨y0, y1, y2⟩, ⟨z0, z1, z2⟩, -⟩ := hSw; go_simp <;> (try with_reducible rfl))
  try simp only [Act.put, List.setIfInBounds_toArray, List.set_cons_zero, List.set_cons_succ]
  refine wpAnyH_take (i := 3) (oi := ?ocaseA4o) (v := ?ocaseA4v) ?ocaseA4h (by kernel_rfl) (by kernel_rfl) (by kernel_rfl) ?ocaseA4q ?ocaseA4y hHeld ?ocaseA4r
  case ocaseA4h => (simp only [List.getElem?_toArray, List.getElem?_cons_succ, List.getElem?_cons_zero]; rfl)
  case ocaseA4q => exact fun _ _ _ h => h
  case ocaseA4y => (refine Or.inl ⟨by first | kernel_rfl | rfl, ?_⟩; intro w hSw; (try dsimp only at hSw); obtain ⟨⟨x0, x1, x2⟩, ⟨y0, y1, y2⟩, ⟨z0, z1, z2⟩, -⟩ := hSw; go_simp <;> (try with_reducible rfl))
  try simp only [Act.put, List.setIfInBounds_toArray, List.set_cons_zero, List.set_cons_succ]
  refine wpAnyH_take (i := 4) (oi := ?ocaseA5o) (v := ?ocaseA5v) ?ocaseA5h (by kernel_rfl) (by kernel_rfl) (by kernel_rfl) ?ocaseA5q ?ocaseA5y hHeld ?ocaseA5r
  case ocaseA5h => (simp only [List.getElem?_toArray, List.getElem?_cons_succ, List.getElem?_cons_zero]; rfl)
  case ocaseA5q => exact fun _ _ _ h => h
  case ocaseA5y => (refine Or.inl ⟨by first | kernel_rfl | rfl, ?_⟩; intro w hSw; (try dsimp only at hSw); obtain ⟨⟨x0, x1, x2⟩, ⟨y0, y1, y2⟩, ⟨z0, z1, z2⟩, -⟩ := hSw; go_simp <;> (try with_reducible rfl))
  try simp only [Act.put, List.setIfInBounds_toArray, List.set_cons_zero, List.set_cons_succ]
  refine wpAnyH_take (i := 5) (oi := ?ocaseA6o) (v := ?ocaseA6v) ?ocaseA6h (by kernel_rfl) (by kernel_rfl) (by kernel_rfl) ?ocaseA6q ?ocaseA6y hHeld ?ocaseA6r
  case ocaseA6h => (simp only [List.getElem?_toArray, List.getElem?_cons_succ, List.getElem?_cons_zero]; rfl)
  case ocaseA6q => exact fun _ _ _ h => h
  case ocaseA6y => (refine Or.inl ⟨by first | kernel_rfl | rfl, ?_⟩; intro w hSw; (try dsimp only at hSw); obtain ⟨⟨x0, x1, x2⟩, ⟨y0, y1, y2⟩, ⟨z0, z1, z2⟩, -⟩ := hSw; go_simp <;> (try with_reducible rfl))
  try simp only [Act.put, List.setIfInBounds_toArray, List.set_cons_zero, List.set_cons_succ]
  refine wpAnyH_take (i := 6) (oi := ?ocaseA7o) (v := ?ocaseA7v) ?ocaseA7h (by kernel_rfl) (by kernel_rfl) (by kernel_rfl) ?ocaseA7q ?ocaseA7y hHeld ?ocaseA7r
  case ocaseA7h => (simp only [List.getElem?_toArray, List.getElem?_cons_succ, List.getElem?_cons_zero]; rfl)
  case ocaseA7q => exact fun _ _ _ h => h
  case ocaseA7y => (refine Or.inl ⟨by first | kernel_rfl | rfl, ?_⟩; intro w hSw; (try dsimp only at hSw); obtain ⟨⟨x0, x1, x2⟩, ⟨y0, y1, y2⟩, ⟨z0, z1, z2⟩, -⟩ := hSw; go_simp <;> (try with_reducible rfl))
  try simp only [Act.put, List.setIfInBounds_toArray, List.set_cons_zero, List.set_cons_succ]
  refine wpAnyH_take (i := 7) (oi := ?ocaseA8o) (v := ?ocaseA8v) ?ocaseA8h (by kernel_rfl) (by kernel_rfl) (by kernel_rfl) ?ocaseA8q ?ocaseA8y hHeld ?ocaseA8r
  case ocaseA8h => (simp only [List.getElem?_toArray, List.getElem?_cons_succ, List.getElem?_cons_zero]; rfl)
  case ocaseA8q => exact fun _ _ _ h => h
  case ocaseA8y => (refine Or.inl ⟨by first | kernel_rfl | rfl, ?_⟩; intro w hSw; (try dsimp only at hSw); obtain ⟨⟨x0, x1, x2⟩, ⟨y0, y1, y2⟩, ⟨z0, z1, z2⟩, -⟩ := hSw; go_simp <;> (try with_reducible rfl))
  try simp only [Act.put, List.setIfInBounds_toArray, List.set_cons_zero, List.set_cons_succ]
  refine wpAnyH_take (i := 8) (oi := ?ocaseA9o) (v := ?ocaseA9v) ?ocaseA9h (by kernel_rfl) (by kernel_rfl) (by kernel_rfl) ?ocaseA9q ?ocaseA9y hHeld ?ocaseA9r
  case ocaseA9h => (simp only [List.getElem?_toArray, List.getElem?_cons_succ, List.getElem?_cons_zero]; rfl)
  case ocaseA9q => exact fun _ _ _ h => h
  case ocaseA9y => (refine Or.inl ⟨by first | kernel_rfl | rfl, ?_⟩; intro w hSw; (try dsimp only at hSw); obtain ⟨⟨x0, x1, x2⟩, ⟨y0, y1, y2⟩, ⟨z0, z1, z2⟩, -⟩ := hSw; go_simp <;> (try with_reducible rfl))
  try simp only [Act.put, List.setIfInBounds_toArray, List.set_cons_zero, List.set_cons_succ]
  refine wpAnyH_take (i := 9) (oi := ?ocaseA10o) (v := ?ocaseA10v) ?ocaseA10h (by kernel_rfl) (by kernel_rfl) (by kernel_rfl) ?ocaseA10q ?ocaseA10y hHeld ?ocaseA10r
  case ocaseA10h => (simp only [List.getElem?_toArray, List.getElem?_cons_succ, List.getElem?_cons_zero]; rfl)
  case ocaseA10q => exact fun _ _ _ h => h
  case ocaseA10y => (refine Or.inl ⟨by first | kernel_rfl | rfl, ?_⟩; intro w hSw; (try dsimp only at hSw); obtain ⟨⟨x0, x1, x2⟩, ⟨y0, y1, y2⟩, ⟨z0, z1, z2⟩, -⟩ := hSw; go_simp <;> (try with_reducible rfl))
  try simp only [Act.put, List.setIfInBounds_toArray, List.set_cons_zero, List.set_cons_succ]
  refine wpAnyH_take (i := 10) (oi := ?ocaseA11o) (v := ?ocaseA11v) ?ocaseA11h (by kernel_rfl) (by kernel_rfl) (by kernel_rfl) ?ocaseA11q ?ocaseA11y hHeld ?ocaseA11r
  case ocaseA11h => (simp only [List.getElem?_toArray, List.getElem?_cons_succ, List.getElem?_cons_zero]; rfl)
  case ocaseA11q => exact fun _ _ _ h => h
  case ocaseA11y => (refine Or.inl ⟨by first | kernel_rfl | rfl, ?_⟩; intro w hSw; (try dsimp only at hSw); obtain ⟨⟨x0, x1, x2⟩, ⟨y0, y1, y2⟩, ⟨z0, z1, z2⟩, -⟩ := hSw; go_simp <;> (try with_reducible rfl))
  try simp only [Act.put, List.setIfInBounds_toArray, List.set_cons_zero, List.set_cons_succ]
  refine wpAnyH_take (i := 11) (oi := ?ocaseA12o) (v := ?ocaseA12v) ?ocaseA12h (by kernel_rfl) (by kernel_rfl) (by kernel_rfl) ?ocaseA12q ?ocaseA12y hHeld ?ocaseA12r
  case ocaseA12h => (simp only [List.getElem?_toArray, List.getElem?_cons_succ, List.getElem?_cons_zero]; rfl)
  case ocaseA12q => exact fun _ _ _ h => h
  case ocaseA12y => (refine Or.inl ⟨by first | kernel_rfl | rfl, ?_⟩; intro w hSw; (try dsimp only at hSw); obtain ⟨⟨x0, x1, x2⟩, ⟨y0, y1, y2⟩, ⟨z0, z1, z2⟩, -⟩ := hSw; go_simp <;> (try with_reducible rfl))
  try simp only [Act.put, List.setIfInBounds_toArray, List.set_cons_zero, List.set_cons_succ]
  refine wpAnyH_take (i := 12) (oi := ?ocaseA13o) (v := ?ocaseA13v) ?ocaseA13h (by kernel_rfl) (by kernel_rfl) (by kernel_rfl) ?ocaseA13q ?ocaseA13y hHeld ?ocaseA13r
  case ocaseA13h => (simp only [List.getElem?_toArray, List.getElem?_cons_succ, List.getElem?_cons_zero]; rfl)
  case ocaseA13q => exact fun _ _ _ h => h
  case ocaseA13y => (refine Or.inl ⟨by first | kernel_rfl | rfl, ?_⟩; intro w hSw; (try dsimp only at hSw); obtain ⟨⟨x0, x1, x2⟩, ⟨y0, y1, y2⟩, ⟨z0, z1, z2⟩, -⟩ := hSw; go_simp <;> (try with_reducible rfl))
  try simp only [Act.put, List.setIfInBounds_toArray, List.set_cons_zero, List.set_cons_succ]
  refine wpAnyH_take (i := 13) (oi := ?ocaseA14o) (v := ?ocaseA14v) ?ocaseA14h (by kernel_rfl) (by kernel_rfl) (by kernel_rfl) ?ocaseA14q ?ocaseA14y hHeld ?ocaseA14r
  case ocaseA14h => (simp only [List.getElem?_toArray, List.getElem?_cons_succ, List.getElem?_cons_zero]; rfl)
  case ocaseA14q => exact fun _ _ _ h => h
  case ocaseA14y => (refine Or.inl ⟨by first | kernel_rfl | rfl, ?_⟩; intro w hSw; (try dsimp only at hSw); obtain ⟨⟨x0, x1, x2⟩, ⟨y0, y1, y2⟩, ⟨z0, z1, z2⟩, -⟩ := hSw; go_simp <;> (try with_reducible rfl))
  try simp only [Act.put, List.setIfInBounds_toArray, List.set_cons_zero, List.set_cons_succ]
  refine wpAnyH_take (i := 14) (oi := ?ocaseA15o) (v := ?ocaseA15v) ?ocaseA15h (by kernel_rfl) (by kernel_rfl) (by kernel_rfl) ?ocaseA15q ?ocaseA15y hHeld ?ocaseA15r
  case ocaseA15h => (simp only [List.getElem?_toArray, List.getElem?_cons_succ, List.getElem?_cons_zero]; rfl)
  case ocaseA15q => exact fun _ _ _ h => h
  case ocaseA15y => (refine Or.inl ⟨by first | kernel_rfl | rfl, ?_⟩; intro w hSw; (try dsimp only at hSw); obtain ⟨⟨x0, x1, x2⟩, ⟨y0, y1, y2⟩, ⟨z0, z1, z2⟩, -⟩ := hSw; go_simp <;> (try with_reducible rfl))
  try simp only [Act.put, List.setIfInBounds_toArray, List.set_cons_zero, List.set_cons_succ]
  refine wpAnyH_take (i := 15) (oi := ?ocaseA16o) (v := ?ocaseA16v) ?ocaseA16h (by kernel_rfl) (by kernel_rfl) (by kernel_rfl) ?ocaseA16q ?ocaseA16y hHeld ?ocaseA16r
  case ocaseA16h => (simp only [List.getElem?_toArray, List.getElem?_cons_succ, List.getElem?_cons_zero]; rfl)
  case ocaseA16q => exact fun _ _ _ h => h
  case ocaseA16y => (refine Or.inl ⟨by first | kernel_rfl | rfl, ?_⟩; intro w hSw; (try dsimp only at hSw); obtain ⟨⟨x0, x1, x2⟩, ⟨y0, y1, y2⟩, ⟨z0, z1, z2⟩, -⟩ := hSw; go_simp <;> (try with_reducible rfl))
  try simp only [Act.put, List.setIfInBounds_toArray, List.set_cons_zero, List.set_cons_succ]
  refine wpAnyH_take (i := 16) (oi := ?ocaseA17o) (v := ?ocaseA17v) ?ocaseA17h (by kernel_rfl) (by kernel_rfl) (by kernel_rfl) ?ocaseA17q ?ocaseA17y hHeld ?ocaseA17r
  case ocaseA17h => (simp only [List.getElem?_toArray, List.getElem?_cons_succ, List.getElem?_cons_zero]; rfl)
  case ocaseA17q => exact fun _ _ _ h => h
  case ocaseA17y => (refine Or.inl ⟨by first | kernel_rfl | rfl, ?_⟩; intro w hSw; (try dsimp only at hSw); obtain ⟨⟨x0, x1, x2⟩, ⟨y0, y1, y2⟩, ⟨z0, z1, z2⟩, -⟩ := hSw; go_simp <;> (try with_reducible rfl))
  try simp only [Act.put, List.setIfInBounds_toArray, List.set_cons_zero, List.set_cons_succ]
  refine wpAnyH_take (i := 17) (oi := ?ocaseA18o) (v := ?ocaseA18v) ?ocaseA18h (by kernel_rfl) (by kernel_rfl) (by kernel_rfl) ?ocaseA18q ?ocaseA18y hHeld ?ocaseA18r
  case ocaseA18h => (simp only [List.getElem?_toArray, List.getElem?_cons_succ, List.getElem?_cons_zero]; rfl)
  case ocaseA18q => exact fun _ _ _ h => h
  case ocaseA18y => (refine Or.inl ⟨by first | kernel_rfl | rfl, ?_⟩; intro w hSw; (try dsimp only at hSw); obtain ⟨⟨x0, x1, x2⟩, ⟨y0, y1, y2⟩, ⟨z0, z1, z2⟩, -⟩ := hSw; go_simp <;> (try with_reducible rfl))
  try simp only [Act.put, List.setIfInBounds_toArray, List.set_cons_zero, List.set_cons_succ]
  refine wpAnyH_take (i := 18) (oi := ?ocaseA19o) (v := ?ocaseA19v) ?ocaseA19h (by kernel_rfl) (by kernel_rfl) (by kernel_rfl) ?ocaseA19q ?ocaseA19y hHeld ?ocaseA19r
  case ocaseA19h => (simp only [List.getElem?_toArray, List.getElem?_cons_succ, List.getElem?_cons_zero]; rfl)
  case ocaseA19q => exact fun _ _ _ h => h
  case ocaseA19y => (refine Or.inl ⟨by first | kernel_rfl | rfl, ?_⟩; intro w hSw; (try dsimp only at hSw); obtain ⟨⟨x0, x1, x2⟩, ⟨y0, y1, y2⟩, ⟨z0, z1, z2⟩, -⟩ := hSw; go_simp <;> (try with_reducible rfl))
  try simp only [Act.put, List.setIfInBounds_toArray, List.set_cons_zero, List.set_cons_succ]
  refine wpAnyH_take (i := 19) (oi := ?ocaseA20o) (v := ?ocaseA20v) ?ocaseA20h (by kernel_rfl) (by kernel_rfl) (by kernel_rfl) ?ocaseA20q ?ocaseA20y hHeld ?ocaseA20r
  case ocaseA20h => (simp only [List.getElem?_toArray, List.getElem?_cons_succ, List.getElem?_cons_zero]; rfl)
  case ocaseA20q => exact fun _ _ _ h => h
  case ocaseA20y => (refine Or.inl ⟨by first | kernel_rfl | rfl, ?_⟩; intro w hSw; (try dsimp only at hSw); obtain ⟨⟨x0, x1, x2⟩, ⟨y0, y1, y2⟩, ⟨z0, z1, z2⟩, -⟩ := hSw; go_simp <;> (try with_reducible rfl))
  try simp only [Act.put, List.setIfInBounds_toArray, List.set_cons_zero, List.set_cons_succ]
  refine wpAnyH_ready (rs := [20]) (by kernel_rfl) (by simp) ?_
  refine (AllReadyH.cons rfl (fun K hK => ?_) AllReadyH.nil)
  go_simp
  ((with_reducible refine (kba _).mono ?_); rintro e w' ⟨rfl, hb'⟩)
  refine hK.out _ _ (hHeld.keep hb') (fun hHeld => ?_)
  clear hK K
  try simp only [Act.put, List.setIfInBounds_toArray, List.set_cons_zero, List.set_cons_succ]
  refine wpAnyH_take (i := 21) (oi := ?ocaseA21o) (v := ?ocaseA21v) ?ocaseA21h (by kernel_rfl) (by kernel_rfl) (by kernel_rfl) ?ocaseA21q ?ocaseA21y hHeld ?ocaseA21r
  case ocaseA21h => (simp only [List.getElem?_toArray, List.getElem?_cons_succ, List.getElem?_cons_zero]; rfl)
  case ocaseA21q => exact fun _ _ _ h => h
  case ocaseA21y => (refine Or.inl ⟨by first | kernel_rfl | rfl, ?_⟩; intro w hSw; (try dsimp only at hSw); obtain ⟨⟨x0, x1, x2⟩, ⟨y0, y1, y2⟩, ⟨z0, z1, z2⟩, -⟩ := hSw; go_simp <;> (try with_reducible rfl))
  try simp only [Act.put, List.setIfInBounds_toArray, List.set_cons_zero, List.set_cons_succ]
  refine wpAnyH_take (i := 22) (oi := ?ocaseA22o) (v := ?ocaseA22v) ?ocaseA22h (by kernel_rfl) (by kernel_rfl) (by kernel_rfl) ?ocaseA22q ?ocaseA22y hHeld ?ocaseA22r
  case ocaseA22h => (simp only [List.getElem?_toArray, List.getElem?_cons_succ, List.getElem?_cons_zero]; rfl)
  case ocaseA22q => exact fun _ _ _ h => h
  case ocaseA22y => (refine Or.inl ⟨by first | kernel_rfl | rfl, ?_⟩; intro w hSw; (try dsimp only at hSw); obtain ⟨⟨x0, x1, x2⟩, ⟨y0, y1, y2⟩, ⟨z0, z1, z2⟩, -⟩ := hSw; go_simp <;> (try with_reducible rfl))
  try simp only [Act.put, List.setIfInBounds_toArray, List.set_cons_zero, List.set_cons_succ]
  refine wpAnyH_take (i := 23) (oi := ?ocaseA23o) (v := ?ocaseA23v) ?ocaseA23h (by kernel_rfl) (by kernel_rfl) (by kernel_rfl) ?ocaseA23q ?ocaseA23y hHeld ?ocaseA23r
  case ocaseA23h => (simp only [List.getElem?_toArray, List.getElem?_cons_succ, List.getElem?_cons_zero]; rfl)
  case ocaseA23q => exact fun _ _ _ h => h
  case ocaseA23y => (refine Or.inl ⟨by first | kernel_rfl | rfl, ?_⟩; intro w hSw; (try dsimp only at hSw); obtain ⟨⟨x0, x1, x2⟩, ⟨y0, y1, y2⟩, ⟨z0, z1, z2⟩, -⟩ := hSw; go_simp <;> (try with_reducible rfl))
  try simp only [Act.put, List.setIfInBounds_toArray, List.set_cons_zero, List.set_cons_succ]
  refine wpAnyH_take (i := 24) (oi := ?ocaseA24o) (v := ?ocaseA24v) ?ocaseA24h (by kernel_rfl) (by kernel_rfl) (by kernel_rfl) ?ocaseA24q ?ocaseA24y hHeld ?ocaseA24r
  case ocaseA24h => (simp only [List.getElem?_toArray, List.getElem?_cons_succ, List.getElem?_cons_zero]; rfl)
  case ocaseA24q => exact fun _ _ _ h => h
  case ocaseA24y => (refine Or.inl ⟨by first | kernel_rfl | rfl, ?_⟩; intro w hSw; (try dsimp only at hSw); obtain ⟨⟨x0, x1, x2⟩, ⟨y0, y1, y2⟩, ⟨z0, z1, z2⟩, -⟩ := hSw; go_simp <;> (try with_reducible rfl))
  try simp only [Act.put, List.setIfInBounds_toArray, List.set_cons_zero, List.set_cons_succ]
  refine wpAnyH_take (i := 25) (oi := ?ocaseA25o) (v := ?ocaseA25v) ?ocaseA25h (by kernel_rfl) (by kernel_rfl) (by kernel_rfl) ?ocaseA25q ?ocaseA25y hHeld ?ocaseA25r
  case ocaseA25h => (simp only [List.getElem?_toArray, List.getElem?_cons_succ, List.getElem?_cons_zero]; rfl)
  case ocaseA25q => exact fun _ _ _ h => h
  case ocaseA25y => (refine Or.inl ⟨by first | kernel_rfl | rfl, ?_⟩; intro w hSw; (try dsimp only at hSw); obtain ⟨⟨x0, x1, x2⟩, ⟨y0, y1, y2⟩, ⟨z0, z1, z2⟩, -⟩ := hSw; go_simp <;> (try with_reducible rfl))
  try simp only [Act.put, List.setIfInBounds_toArray, List.set_cons_zero, List.set_cons_succ]
  refine wpAnyH_ready (rs := [26]) (by kernel_rfl) (by simp) ?_
  refine (AllReadyH.cons rfl (fun K hK => ?_) AllReadyH.nil)
  go_simp
  ((with_reducible refine (kbb _).mono ?_); rintro e w' ⟨rfl, hb'⟩)
  refine hK.out _ _ (hHeld.keep hb') (fun hHeld => ?_)
  clear hK K
  try simp only [Act.put, List.setIfInBounds_toArray, List.set_cons_zero, List.set_cons_succ]
  refine wpAnyH_take (i := 27) (oi := ?ocaseA26o) (v := ?ocaseA26v) ?ocaseA26h (by kernel_rfl) (by kernel_rfl) (by kernel_rfl) ?ocaseA26q ?ocaseA26y hHeld ?ocaseA26r
  case ocaseA26h => (simp only [List.getElem?_toArray, List.getElem?_cons_succ, List.getElem?_cons_zero]; rfl)
  case ocaseA26q => exact fun _ _ _ h => h
  case ocaseA26y => (refine Or.inl ⟨by first | kernel_rfl | rfl, ?_⟩; intro w hSw; (try dsimp only at hSw); obtain ⟨⟨x0, x1, x2⟩, ⟨y0, y1, y2⟩, ⟨z0, z1, z2⟩, -⟩ := hSw; go_simp <;> (try with_reducible rfl))
  try simp only [Act.put, List.setIfInBounds_toArray, List.set_cons_zero, List.set_cons_succ]
  refine wpAnyH_take (i := 28) (oi := ?ocaseA27o) (v := ?ocaseA27v) ?ocaseA27h (by kernel_rfl) (by kernel_rfl) (by kernel_rfl) ?ocaseA27q ?ocaseA27y hHeld ?ocaseA27r
  case ocaseA27h => (simp only [List.getElem?_toArray, List.getElem?_cons_succ, List.getElem?_cons_zero]; rfl)
  case ocaseA27q => exact fun _ _ _ h => h
  case ocaseA27y => (refine Or.inl ⟨by first | kernel_rfl | rfl, ?_⟩; intro w hSw; (try dsimp only at hSw); obtain ⟨⟨x0, x1, x2⟩, ⟨y0, y1, y2⟩, ⟨z0, z1, z2⟩, -⟩ := hSw; go_simp <;> (try with_reducible rfl))
  try simp only [Act.put, List.setIfInBounds_toArray, List.set_cons_zero, List.set_cons_succ]
  refine wpAnyH_take (i := 29) (oi := ?ocaseA28o) (v := ?ocaseA28v) ?ocaseA28h (by kernel_rfl) (by kernel_rfl) (by kernel_rfl) ?ocaseA28q ?ocaseA28y hHeld ?ocaseA28r
  case ocaseA28h => (simp only [List.getElem?_toArray, List.getElem?_cons_succ, List.getElem?_cons_zero]; rfl)
  case ocaseA28q => exact fun _ _ _ h => h
  case ocaseA28y => (refine Or.inl ⟨by first | kernel_rfl | rfl, ?_⟩; intro w hSw; (try dsimp only at hSw); obtain ⟨⟨x0, x1, x2⟩, ⟨y0, y1, y2⟩, ⟨z0, z1, z2⟩, -⟩ := hSw; go_simp <;> (try with_reducible rfl))
  try simp only [Act.put, List.setIfInBounds_toArray, List.set_cons_zero, List.set_cons_succ]
  refine wpAnyH_take (i := 30) (oi := ?ocaseA29o) (v := ?ocaseA29v) ?ocaseA29h (by kernel_rfl) (by kernel_rfl) (by kernel_rfl) ?ocaseA29q ?ocaseA29y hHeld ?ocaseA29r
  case ocaseA29h => (simp only [List.getElem?_toArray, List.getElem?_cons_succ, List.getElem?_cons_zero]; rfl)
  case ocaseA29q => exact fun _ _ _ h => h
  case ocaseA29y => (refine Or.inl ⟨by first | kernel_rfl | rfl, ?_⟩; intro w hSw; (try dsimp only at hSw); obtain ⟨⟨x0, x1, x2⟩, ⟨y0, y1, y2⟩, ⟨z0, z1, z2⟩, -⟩ := hSw; go_simp <;> (try with_reducible rfl))
  try simp only [Act.put, List.setIfInBounds_toArray, List.set_cons_zero, List.set_cons_succ]
  refine wpAnyH_take (i := 31) (oi := ?ocaseA30o) (v := ?ocaseA30v) ?ocaseA30h (by kernel_rfl) (by kernel_rfl) (by kernel_rfl) ?ocaseA30q ?ocaseA30y hHeld ?ocaseA30r
  case ocaseA30h => (simp only [List.getElem?_toArray, List.getElem?_cons_succ, List.getElem?_cons_zero]; rfl)
  case ocaseA30q => exact fun _ _ _ h => h
  case ocaseA30y => (refine Or.inl ⟨by first | kernel_rfl | rfl, ?_⟩; intro w hSw; (try dsimp only at hSw); obtain ⟨⟨x0, x1, x2⟩, ⟨y0, y1, y2⟩, ⟨z0, z1, z2⟩, -⟩ := hSw; go_simp <;> (try with_reducible rfl))
  try simp only [Act.put, List.setIfInBounds_toArray, List.set_cons_zero, List.set_cons_succ]
  refine wpAnyH_take (i := 32) (oi := ?ocaseA31o) (v := ?ocaseA31v) ?ocaseA31h (by kernel_rfl) (by kernel_rfl) (by kernel_rfl) ?ocaseA31q ?ocaseA31y hHeld ?ocaseA31r
  case ocaseA31h => (simp only [List.getElem?_toArray, List.getElem?_cons_succ, List.getElem?_cons_zero]; rfl)
  case ocaseA31q => exact fun _ _ _ h => h
  case ocaseA31y => (refine Or.inl ⟨by first | kernel_rfl | rfl, ?_⟩; intro w hSw; (try dsimp only at hSw); obtain ⟨⟨x0, x1, x2⟩, ⟨y0, y1, y2⟩, ⟨z0, z1, z2⟩, -⟩ := hSw; go_simp <;> (try with_reducible rfl))
  try simp only [Act.put, List.setIfInBounds_toArray, List.set_cons_zero, List.set_cons_succ]
  refine wpAnyH_ready (rs := [33]) (by kernel_rfl) (by simp) ?_
  refine (AllReadyH.cons rfl (fun K hK => ?_) AllReadyH.nil)
  go_simp
  ((with_reducible refine (km _).mono ?_); rintro e w' ⟨rfl, hb'⟩)
  refine hK.out _ _ (hHeld.keep hb') (fun hHeld => ?_)
  clear hK K
  try simp only [Act.put, List.setIfInBounds_toArray, List.set_cons_zero, List.set_cons_succ]
  refine wpAnyH_take (i := 34) (oi := ?ocaseA32o) (v := ?ocaseA32v) ?ocaseA32h (by kernel_rfl) (by kernel_rfl) (by kernel_rfl) ?ocaseA32q ?ocaseA32y hHeld ?ocaseA32r
  case ocaseA32h => (simp only [List.getElem?_toArray, List.getElem?_cons_succ, List.getElem?_cons_zero]; rfl)
  case ocaseA32q => exact fun _ _ _ h => h
  case ocaseA32y => (refine Or.inl ⟨by first | kernel_rfl | rfl, ?_⟩; intro w hSw; (try dsimp only at hSw); obtain ⟨⟨x0, x1, x2⟩, ⟨y0, y1, y2⟩, ⟨z0, z1, z2⟩, -⟩ := hSw; go_simp <;> (try with_reducible rfl))
  try simp only [Act.put, List.setIfInBounds_toArray, List.set_cons_zero, List.set_cons_succ]
  refine wpAnyH_take (i := 35) (oi := ?ocaseA33o) (v := ?ocaseA33v) ?ocaseA33h (by kernel_rfl) (by kernel_rfl) (by kernel_rfl) ?ocaseA33q ?ocaseA33y hHeld ?ocaseA33r
  case ocaseA33h => (simp only [List.getElem?_toArray, List.getElem?_cons_succ, List.getElem?_cons_zero]; rfl)
  case ocaseA33q => exact fun _ _ _ h => h
  case ocaseA33y => (refine Or.inl ⟨by first | kernel_rfl | rfl, ?_⟩; intro w hSw; (try dsimp only at hSw); obtain ⟨⟨x0, x1, x2⟩, ⟨y0, y1, y2⟩, ⟨z0, z1, z2⟩, -⟩ := hSw; go_simp <;> (try with_reducible rfl))
  try simp only [Act.put, List.setIfInBounds_toArray, List.set_cons_zero, List.set_cons_succ]
  refine wpAnyH_take (i := 36) (oi := ?ocaseA34o) (v := ?ocaseA34v) ?ocaseA34h (by kernel_rfl) (by kernel_rfl) (by kernel_rfl) ?ocaseA34q ?ocaseA34y hHeld ?ocaseA34r
  case ocaseA34h => (simp only [List.getElem?_toArray, List.getElem?_cons_succ, List.getElem?_cons_zero]; rfl)
  case ocaseA34q => exact fun _ _ _ h => h
  case ocaseA34y => (refine Or.inl ⟨by first | kernel_rfl | rfl, ?_⟩; intro w hSw; (try dsimp only at hSw); obtain ⟨⟨x0, x1, x2⟩, ⟨y0, y1, y2⟩, ⟨z0, z1, z2⟩, -⟩ := hSw; go_simp <;> (try with_reducible rfl))
  try simp only [Act.put, List.setIfInBounds_toArray, List.set_cons_zero, List.set_cons_succ]
  refine wpAnyH_done (by kernel_rfl) ?_ _
  have hbel := hHeld.bel
  go_wp2
  go_ret
  exact ⟨rfl, hbel⟩

set_option maxHeartbeats 4000000 in
theorem caseB (a b c : St) (w : World) (h : a.lt b = true) (k : b.lt c = false) : Calls Try.prog 6 #[.agg #[.int .i64 a.c, .int .i64 a.s, .int .i64 a.q], .agg #[.int .i64 b.c, .int .i64 b.s, .int .i64 b.q], .agg #[.int .i64 c.c, .int .i64 c.s, .int .i64 c.q]] w fun e w' => e = .returned (.bool true) ∧ Below w.heap.size w w' := by
  have kab := lessV a b true (Lib.hid h)
  have kba := lessV b a false (Lib.hid (St.lt_not h))
  have kbc := lessV b c false (Lib.hid k)
  have kbb := lessV b b false (Lib.hid (St.lt_self b))
  have kl := laterV a b b (Lib.hid (if_pos h))
  have km := laterV b a b (Lib.hid (by rw [if_neg]; simp [St.lt_not h]))
  have hne : b ≠ a := fun e => by subst e; rw [St.lt_self] at h; cases h
  have q1 : ∀ w, (binOp .eql 23 (.agg #[.int .i64 b.c, .int .i64 b.s, .int .i64 b.q]) (.agg #[.int .i64 a.c, .int .i64 a.s, .int .i64 a.q])).run Try.prog w = .ok (.bool false) w := fun w => by rw [eql_run, decide_eq_false hne]
  have q2 : ∀ w, (binOp .eql 23 (.agg #[.int .i64 b.c, .int .i64 b.s, .int .i64 b.q]) (.agg #[.int .i64 b.c, .int .i64 b.s, .int .i64 b.q])).run Try.prog w = .ok (.bool true) w := fun w => by rw [eql_run, decide_eq_true rfl]
  clear h k hne
  skip
  have H0 : Held3 w w.heap.size (w.heap.size + 1) (w.heap.size + 1 + 1) a b c (((w.alloc (.cells #[.int .i64 a.c, .int .i64 a.s, .int .i64 a.q] 23)).alloc (.cells #[.int .i64 b.c, .int .i64 b.s, .int .i64 b.q] 23)).alloc (.cells #[.int .i64 c.c, .int .i64 c.s, .int .i64 c.q] 23)) :=
    ⟨((StAt.new w a).alloc _).alloc _, by have := (StAt.new (w.alloc (.cells #[.int .i64 a.c, .int .i64 a.s, .int .i64 a.q] 23)) b).alloc (.cells #[.int .i64 c.c, .int .i64 c.s, .int .i64 c.q] 23); simpa using this, by have := StAt.new ((w.alloc (.cells #[.int .i64 a.c, .int .i64 a.s, .int .i64 a.q] 23)).alloc (.cells #[.int .i64 b.c, .int .i64 b.s, .int .i64 b.q] 23)) c; simpa using this, by (repeat (first | exact Below.refl _ _ | refine below_drewN ?_ _ | refine Below.drew ?_ | (refine Below.setCell ?_ (by simp; try omega) _) | refine bel_new ?_ _ | (refine bel_next ?_ (by assumption))))⟩
  go_enter Try.func6, Try.ntmps6
  go_wp2_with (first
    | (go_at_call 10; (with_reducible refine (awake_any _).mono ?_); rintro e w1 ⟨rfl, hb⟩; have H1 := H0.keep hb; have G := H1; obtain ⟨⟨x0, x1, x2⟩, ⟨y0, y1, y2⟩, ⟨z0, z1, z2⟩, -⟩ := G)
    | (go_at_call 17; (with_reducible refine (kab _).mono ?_); rintro e w2 ⟨rfl, hb⟩; have H2 := H1.keep hb; have G := H2; obtain ⟨⟨x0, x1, x2⟩, ⟨y0, y1, y2⟩, ⟨z0, z1, z2⟩, -⟩ := G)
    | (go_at_call 17; (with_reducible refine (kba _).mono ?_); rintro e w3 ⟨rfl, hb⟩; have H3 := H2.keep hb; have G := H3; obtain ⟨⟨x0, x1, x2⟩, ⟨y0, y1, y2⟩, ⟨z0, z1, z2⟩, -⟩ := G)
    | (go_at_call 17; (with_reducible refine (kbc _).mono ?_); rintro e w4 ⟨rfl, hb⟩; have H4 := H3.keep hb; have G := H4; obtain ⟨⟨x0, x1, x2⟩, ⟨y0, y1, y2⟩, ⟨z0, z1, z2⟩, -⟩ := G)
    | (go_at_call 18; (with_reducible refine (kl _).mono ?_); rintro e w8 ⟨rfl, hb⟩; have H8 := H4.keep hb; have G := H8; obtain ⟨⟨x0, x1, x2⟩, ⟨y0, y1, y2⟩, ⟨z0, z1, z2⟩, -⟩ := G))
  have HH : Held3 w w.heap.size (w.heap.size + 1) w8.heap.size a b b (w8.alloc (.cells #[.int .i64 b.c, .int .i64 b.s, .int .i64 b.q] 23)) := ⟨H8.h1.alloc _, H8.h2.alloc _, StAt.new w8 b, bel_new H8.bel _⟩
  generalize w8.heap.size = bl at HH ⊢
  clear H0 H1 H2 H3 H4 H8
  refine wp_region_held_drew (S := (Held3 w w.heap.size (w.heap.size + 1) bl a b b)) (by kernel_rfl) HH.drew (fun hHeld => ?_)
  refine wpAnyH_take (i := 0) (oi := ?ocaseB1o) (v := ?ocaseB1v) ?ocaseB1h (by kernel_rfl) (by kernel_rfl) (by kernel_rfl) ?ocaseB1q ?ocaseB1y hHeld ?ocaseB1r
  case ocaseB1h => (simp only [List.getElem?_toArray, List.getElem?_cons_zero]; rfl)
  case ocaseB1q => exact fun _ _ _ h => h
  case ocaseB1y => (refine Or.inl ⟨by first | kernel_rfl | rfl, ?_⟩; intro w hSw; (try dsimp only at hSw); obtain ⟨⟨x0, x1, x2⟩, ⟨y0, y1, y2⟩, ⟨z0, z1, z2⟩, -⟩ := hSw; go_simp <;> (try with_reducible rfl))
  try simp only [Act.put, List.setIfInBounds_toArray, List.set_cons_zero, List.set_cons_succ]
  refine wpAnyH_take (i := 1) (oi := ?ocaseB2o) (v := ?ocaseB2v) ?ocaseB2h (by kernel_rfl) (by kernel_rfl) (by kernel_rfl) ?ocaseB2q ?ocaseB2y hHeld ?ocaseB2r
  case ocaseB2h => (simp only [List.getElem?_toArray, List.getElem?_cons_succ, List.getElem?_cons_zero]; rfl)
  case ocaseB2q => exact fun _ _ _ h => h
  case ocaseB2y => (refine Or.inl ⟨by first | kernel_rfl | rfl, ?_⟩; intro w hSw; (try dsimp only at hSw); obtain ⟨⟨x0, x1, x2⟩, ⟨y0, y1, y2⟩, ⟨z0, z1, z2⟩, -⟩ := hSw; go_simp <;> (try with_reducible rfl))
  try simp only [Act.put, List.setIfInBounds_toArray, List.set_cons_zero, List.set_cons_succ]
  refine wpAnyH_take (i := 2) (oi := ?ocaseB3o) (v := ?ocaseB3v) ?ocaseB3h (by kernel_rfl) (by kernel_rfl) (by kernel_rfl) ?ocaseB3q ?ocaseB3y hHeld ?ocaseB3r
  case ocaseB3h => (simp only [List.getElem?_toArray, List.getElem?_cons_succ, List.getElem?_cons_zero]; rfl)
  case ocaseB3q => exact fun _ _ _ h => h
  case ocaseB3y => (refine Or.inl ⟨by first | kernel_rfl | rfl, ?_⟩; intro w hSw; (try dsimp only at hSw); obtain ⟨⟨x0, x1, x2⟩, ⟨y0, y1, y2⟩, ⟨z0, z1, z2⟩, -⟩ := hSw; go_simp <;> (try with_reducible rfl))
  try simp only [Act.put, List.setIfInBounds_toArray, List.set_cons_zero, List.set_cons_succ]
  refine wpAnyH_take (i := 3) (oi := ?ocaseB4o) (v := ?ocaseB4v) ?ocaseB4h (by kernel_rfl) (by kernel_rfl) (by kernel_rfl) ?ocaseB4q ?ocaseB4y hHeld ?ocaseB4r
  case ocaseB4h => (simp only [List.getElem?_toArray, List.getElem?_cons_succ, List.getElem?_cons_zero]; rfl)
  case ocaseB4q => exact fun _ _ _ h => h
  case ocaseB4y => (refine Or.inl ⟨by first | kernel_rfl | rfl, ?_⟩; intro w hSw; (try dsimp only at hSw); obtain ⟨⟨x0, x1, x2⟩, ⟨y0, y1, y2⟩, ⟨z0, z1, z2⟩, -⟩ := hSw; go_simp <;> (try with_reducible rfl))
  try simp only [Act.put, List.setIfInBounds_toArray, List.set_cons_zero, List.set_cons_succ]
  refine wpAnyH_take (i := 4) (oi := ?ocaseB5o) (v := ?ocaseB5v) ?ocaseB5h (by kernel_rfl) (by kernel_rfl) (by kernel_rfl) ?ocaseB5q ?ocaseB5y hHeld ?ocaseB5r
  case ocaseB5h => (simp only [List.getElem?_toArray, List.getElem?_cons_succ, List.getElem?_cons_zero]; rfl)
  case ocaseB5q => exact fun _ _ _ h => h
  case ocaseB5y => (refine Or.inl ⟨by first | kernel_rfl | rfl, ?_⟩; intro w hSw; (try dsimp only at hSw); obtain ⟨⟨x0, x1, x2⟩, ⟨y0, y1, y2⟩, ⟨z0, z1, z2⟩, -⟩ := hSw; go_simp <;> (try with_reducible rfl))
  try simp only [Act.put, List.setIfInBounds_toArray, List.set_cons_zero, List.set_cons_succ]
  refine wpAnyH_take (i := 5) (oi := ?ocaseB6o) (v := ?ocaseB6v) ?ocaseB6h (by kernel_rfl) (by kernel_rfl) (by kernel_rfl) ?ocaseB6q ?ocaseB6y hHeld ?ocaseB6r
  case ocaseB6h => (simp only [List.getElem?_toArray, List.getElem?_cons_succ, List.getElem?_cons_zero]; rfl)
  case ocaseB6q => exact fun _ _ _ h => h
  case ocaseB6y => (refine Or.inl ⟨by first | kernel_rfl | rfl, ?_⟩; intro w hSw; (try dsimp only at hSw); obtain ⟨⟨x0, x1, x2⟩, ⟨y0, y1, y2⟩, ⟨z0, z1, z2⟩, -⟩ := hSw; go_simp <;> (try with_reducible rfl))
  try simp only [Act.put, List.setIfInBounds_toArray, List.set_cons_zero, List.set_cons_succ]
  refine wpAnyH_take (i := 6) (oi := ?ocaseB7o) (v := ?ocaseB7v) ?ocaseB7h (by kernel_rfl) (by kernel_rfl) (by kernel_rfl) ?ocaseB7q ?ocaseB7y hHeld ?ocaseB7r
  case ocaseB7h => (simp only [List.getElem?_toArray, List.getElem?_cons_succ, List.getElem?_cons_zero]; rfl)
  case ocaseB7q => exact fun _ _ _ h => h
  case ocaseB7y => (refine Or.inl ⟨by first | kernel_rfl | rfl, ?_⟩; intro w hSw; (try dsimp only at hSw); obtain ⟨⟨x0, x1, x2⟩, ⟨y0, y1, y2⟩, ⟨z0, z1, z2⟩, -⟩ := hSw; go_simp <;> (try with_reducible rfl))
  try simp only [Act.put, List.setIfInBounds_toArray, List.set_cons_zero, List.set_cons_succ]
  refine wpAnyH_take (i := 7) (oi := ?ocaseB8o) (v := ?ocaseB8v) ?ocaseB8h (by kernel_rfl) (by kernel_rfl) (by kernel_rfl) ?ocaseB8q ?ocaseB8y hHeld ?ocaseB8r
  case ocaseB8h => (simp only [List.getElem?_toArray, List.getElem?_cons_succ, List.getElem?_cons_zero]; rfl)
  case ocaseB8q => exact fun _ _ _ h => h
  case ocaseB8y => (refine Or.inl ⟨by first | kernel_rfl | rfl, ?_⟩; intro w hSw; (try dsimp only at hSw); obtain ⟨⟨x0, x1, x2⟩, ⟨y0, y1, y2⟩, ⟨z0, z1, z2⟩, -⟩ := hSw; go_simp <;> (try with_reducible rfl))
  try simp only [Act.put, List.setIfInBounds_toArray, List.set_cons_zero, List.set_cons_succ]
  refine wpAnyH_take (i := 8) (oi := ?ocaseB9o) (v := ?ocaseB9v) ?ocaseB9h (by kernel_rfl) (by kernel_rfl) (by kernel_rfl) ?ocaseB9q ?ocaseB9y hHeld ?ocaseB9r
  case ocaseB9h => (simp only [List.getElem?_toArray, List.getElem?_cons_succ, List.getElem?_cons_zero]; rfl)
  case ocaseB9q => exact fun _ _ _ h => h
  case ocaseB9y => (refine Or.inl ⟨by first | kernel_rfl | rfl, ?_⟩; intro w hSw; (try dsimp only at hSw); obtain ⟨⟨x0, x1, x2⟩, ⟨y0, y1, y2⟩, ⟨z0, z1, z2⟩, -⟩ := hSw; go_simp <;> (try with_reducible rfl))
  try simp only [Act.put, List.setIfInBounds_toArray, List.set_cons_zero, List.set_cons_succ]
  refine wpAnyH_take (i := 9) (oi := ?ocaseB10o) (v := ?ocaseB10v) ?ocaseB10h (by kernel_rfl) (by kernel_rfl) (by kernel_rfl) ?ocaseB10q ?ocaseB10y hHeld ?ocaseB10r
  case ocaseB10h => (simp only [List.getElem?_toArray, List.getElem?_cons_succ, List.getElem?_cons_zero]; rfl)
  case ocaseB10q => exact fun _ _ _ h => h
  case ocaseB10y => (refine Or.inl ⟨by first | kernel_rfl | rfl, ?_⟩; intro w hSw; (try dsimp only at hSw); obtain ⟨⟨x0, x1, x2⟩, ⟨y0, y1, y2⟩, ⟨z0, z1, z2⟩, -⟩ := hSw; go_simp <;> (try with_reducible rfl))
  try simp only [Act.put, List.setIfInBounds_toArray, List.set_cons_zero, List.set_cons_succ]
  refine wpAnyH_take (i := 10) (oi := ?ocaseB11o) (v := ?ocaseB11v) ?ocaseB11h (by kernel_rfl) (by kernel_rfl) (by kernel_rfl) ?ocaseB11q ?ocaseB11y hHeld ?ocaseB11r
  case ocaseB11h => (simp only [List.getElem?_toArray, List.getElem?_cons_succ, List.getElem?_cons_zero]; rfl)
  case ocaseB11q => exact fun _ _ _ h => h
  case ocaseB11y => (refine Or.inl ⟨by first | kernel_rfl | rfl, ?_⟩; intro w hSw; (try dsimp only at hSw); obtain ⟨⟨x0, x1, x2⟩, ⟨y0, y1, y2⟩, ⟨z0, z1, z2⟩, -⟩ := hSw; go_simp <;> (try with_reducible rfl))
  try simp only [Act.put, List.setIfInBounds_toArray, List.set_cons_zero, List.set_cons_succ]
  refine wpAnyH_take (i := 11) (oi := ?ocaseB12o) (v := ?ocaseB12v) ?ocaseB12h (by kernel_rfl) (by kernel_rfl) (by kernel_rfl) ?ocaseB12q ?ocaseB12y hHeld ?ocaseB12r
  case ocaseB12h => (simp only [List.getElem?_toArray, List.getElem?_cons_succ, List.getElem?_cons_zero]; rfl)
  case ocaseB12q => exact fun _ _ _ h => h
  case ocaseB12y => (refine Or.inl ⟨by first | kernel_rfl | rfl, ?_⟩; intro w hSw; (try dsimp only at hSw); obtain ⟨⟨x0, x1, x2⟩, ⟨y0, y1, y2⟩, ⟨z0, z1, z2⟩, -⟩ := hSw; go_simp <;> (try with_reducible rfl))
  try simp only [Act.put, List.setIfInBounds_toArray, List.set_cons_zero, List.set_cons_succ]
  refine wpAnyH_take (i := 12) (oi := ?ocaseB13o) (v := ?ocaseB13v) ?ocaseB13h (by kernel_rfl) (by kernel_rfl) (by kernel_rfl) ?ocaseB13q ?ocaseB13y hHeld ?ocaseB13r
  case ocaseB13h => (simp only [List.getElem?_toArray, List.getElem?_cons_succ, List.getElem?_cons_zero]; rfl)
  case ocaseB13q => exact fun _ _ _ h => h
  case ocaseB13y => (refine Or.inl ⟨by first | kernel_rfl | rfl, ?_⟩; intro w hSw; (try dsimp only at hSw); obtain ⟨⟨x0, x1, x2⟩, ⟨y0, y1, y2⟩, ⟨z0, z1, z2⟩, -⟩ := hSw; go_simp <;> (try with_reducible rfl))
  try simp only [Act.put, List.setIfInBounds_toArray, List.set_cons_zero, List.set_cons_succ]
  refine wpAnyH_take (i := 13) (oi := ?ocaseB14o) (v := ?ocaseB14v) ?ocaseB14h (by kernel_rfl) (by kernel_rfl) (by kernel_rfl) ?ocaseB14q ?ocaseB14y hHeld ?ocaseB14r
  case ocaseB14h => (simp only [List.getElem?_toArray, List.getElem?_cons_succ, List.getElem?_cons_zero]; rfl)
  case ocaseB14q => exact fun _ _ _ h => h
  case ocaseB14y => (refine Or.inl ⟨by first | kernel_rfl | rfl, ?_⟩; intro w hSw; (try dsimp only at hSw); obtain ⟨⟨x0, x1, x2⟩, ⟨y0, y1, y2⟩, ⟨z0, z1, z2⟩, -⟩ := hSw; go_simp <;> (try with_reducible rfl))
  try simp only [Act.put, List.setIfInBounds_toArray, List.set_cons_zero, List.set_cons_succ]
  refine wpAnyH_take (i := 14) (oi := ?ocaseB15o) (v := ?ocaseB15v) ?ocaseB15h (by kernel_rfl) (by kernel_rfl) (by kernel_rfl) ?ocaseB15q ?ocaseB15y hHeld ?ocaseB15r
  case ocaseB15h => (simp only [List.getElem?_toArray, List.getElem?_cons_succ, List.getElem?_cons_zero]; rfl)
  case ocaseB15q => exact fun _ _ _ h => h
  case ocaseB15y => (refine Or.inl ⟨by first | kernel_rfl | rfl, ?_⟩; intro w hSw; (try dsimp only at hSw); obtain ⟨⟨x0, x1, x2⟩, ⟨y0, y1, y2⟩, ⟨z0, z1, z2⟩, -⟩ := hSw; go_simp <;> (try with_reducible rfl))
  try simp only [Act.put, List.setIfInBounds_toArray, List.set_cons_zero, List.set_cons_succ]
  refine wpAnyH_take (i := 15) (oi := ?ocaseB16o) (v := ?ocaseB16v) ?ocaseB16h (by kernel_rfl) (by kernel_rfl) (by kernel_rfl) ?ocaseB16q ?ocaseB16y hHeld ?ocaseB16r
  case ocaseB16h => (simp only [List.getElem?_toArray, List.getElem?_cons_succ, List.getElem?_cons_zero]; rfl)
  case ocaseB16q => exact fun _ _ _ h => h
  case ocaseB16y => (refine Or.inl ⟨by first | kernel_rfl | rfl, ?_⟩; intro w hSw; (try dsimp only at hSw); obtain ⟨⟨x0, x1, x2⟩, ⟨y0, y1, y2⟩, ⟨z0, z1, z2⟩, -⟩ := hSw; go_simp <;> (try with_reducible rfl))
  try simp only [Act.put, List.setIfInBounds_toArray, List.set_cons_zero, List.set_cons_succ]
  refine wpAnyH_take (i := 16) (oi := ?ocaseB17o) (v := ?ocaseB17v) ?ocaseB17h (by kernel_rfl) (by kernel_rfl) (by kernel_rfl) ?ocaseB17q ?ocaseB17y hHeld ?ocaseB17r
  case ocaseB17h => (simp only [List.getElem?_toArray, List.getElem?_cons_succ, List.getElem?_cons_zero]; rfl)
  case ocaseB17q => exact fun _ _ _ h => h
  case ocaseB17y => (refine Or.inl ⟨by first | kernel_rfl | rfl, ?_⟩; intro w hSw; (try dsimp only at hSw); obtain ⟨⟨x0, x1, x2⟩, ⟨y0, y1, y2⟩, ⟨z0, z1, z2⟩, -⟩ := hSw; go_simp <;> (try with_reducible rfl))
  try simp only [Act.put, List.setIfInBounds_toArray, List.set_cons_zero, List.set_cons_succ]
  refine wpAnyH_take (i := 17) (oi := ?ocaseB18o) (v := ?ocaseB18v) ?ocaseB18h (by kernel_rfl) (by kernel_rfl) (by kernel_rfl) ?ocaseB18q ?ocaseB18y hHeld ?ocaseB18r
  case ocaseB18h => (simp only [List.getElem?_toArray, List.getElem?_cons_succ, List.getElem?_cons_zero]; rfl)
  case ocaseB18q => exact fun _ _ _ h => h
  case ocaseB18y => (refine Or.inl ⟨by first | kernel_rfl | rfl, ?_⟩; intro w hSw; (try dsimp only at hSw); obtain ⟨⟨x0, x1, x2⟩, ⟨y0, y1, y2⟩, ⟨z0, z1, z2⟩, -⟩ := hSw; go_simp <;> (try with_reducible rfl))
  try simp only [Act.put, List.setIfInBounds_toArray, List.set_cons_zero, List.set_cons_succ]
  refine wpAnyH_take (i := 18) (oi := ?ocaseB19o) (v := ?ocaseB19v) ?ocaseB19h (by kernel_rfl) (by kernel_rfl) (by kernel_rfl) ?ocaseB19q ?ocaseB19y hHeld ?ocaseB19r
  case ocaseB19h => (simp only [List.getElem?_toArray, List.getElem?_cons_succ, List.getElem?_cons_zero]; rfl)
  case ocaseB19q => exact fun _ _ _ h => h
  case ocaseB19y => (refine Or.inl ⟨by first | kernel_rfl | rfl, ?_⟩; intro w hSw; (try dsimp only at hSw); obtain ⟨⟨x0, x1, x2⟩, ⟨y0, y1, y2⟩, ⟨z0, z1, z2⟩, -⟩ := hSw; go_simp <;> (try with_reducible rfl))
  try simp only [Act.put, List.setIfInBounds_toArray, List.set_cons_zero, List.set_cons_succ]
  refine wpAnyH_take (i := 19) (oi := ?ocaseB20o) (v := ?ocaseB20v) ?ocaseB20h (by kernel_rfl) (by kernel_rfl) (by kernel_rfl) ?ocaseB20q ?ocaseB20y hHeld ?ocaseB20r
  case ocaseB20h => (simp only [List.getElem?_toArray, List.getElem?_cons_succ, List.getElem?_cons_zero]; rfl)
  case ocaseB20q => exact fun _ _ _ h => h
  case ocaseB20y => (refine Or.inl ⟨by first | kernel_rfl | rfl, ?_⟩; intro w hSw; (try dsimp only at hSw); obtain ⟨⟨x0, x1, x2⟩, ⟨y0, y1, y2⟩, ⟨z0, z1, z2⟩, -⟩ := hSw; go_simp <;> (try with_reducible rfl))
  try simp only [Act.put, List.setIfInBounds_toArray, List.set_cons_zero, List.set_cons_succ]
  refine wpAnyH_ready (rs := [20]) (by kernel_rfl) (by simp) ?_
  refine (AllReadyH.cons rfl (fun K hK => ?_) AllReadyH.nil)
  go_simp
  ((with_reducible refine (kba _).mono ?_); rintro e w' ⟨rfl, hb'⟩)
  refine hK.out _ _ (hHeld.keep hb') (fun hHeld => ?_)
  clear hK K
  try simp only [Act.put, List.setIfInBounds_toArray, List.set_cons_zero, List.set_cons_succ]
  refine wpAnyH_take (i := 21) (oi := ?ocaseB21o) (v := ?ocaseB21v) ?ocaseB21h (by kernel_rfl) (by kernel_rfl) (by kernel_rfl) ?ocaseB21q ?ocaseB21y hHeld ?ocaseB21r
  case ocaseB21h => (simp only [List.getElem?_toArray, List.getElem?_cons_succ, List.getElem?_cons_zero]; rfl)
  case ocaseB21q => exact fun _ _ _ h => h
  case ocaseB21y => (refine Or.inl ⟨by first | kernel_rfl | rfl, ?_⟩; intro w hSw; (try dsimp only at hSw); obtain ⟨⟨x0, x1, x2⟩, ⟨y0, y1, y2⟩, ⟨z0, z1, z2⟩, -⟩ := hSw; go_simp <;> (try with_reducible rfl))
  try simp only [Act.put, List.setIfInBounds_toArray, List.set_cons_zero, List.set_cons_succ]
  refine wpAnyH_take (i := 22) (oi := ?ocaseB22o) (v := ?ocaseB22v) ?ocaseB22h (by kernel_rfl) (by kernel_rfl) (by kernel_rfl) ?ocaseB22q ?ocaseB22y hHeld ?ocaseB22r
  case ocaseB22h => (simp only [List.getElem?_toArray, List.getElem?_cons_succ, List.getElem?_cons_zero]; rfl)
  case ocaseB22q => exact fun _ _ _ h => h
  case ocaseB22y => (refine Or.inl ⟨by first | kernel_rfl | rfl, ?_⟩; intro w hSw; (try dsimp only at hSw); obtain ⟨⟨x0, x1, x2⟩, ⟨y0, y1, y2⟩, ⟨z0, z1, z2⟩, -⟩ := hSw; go_simp <;> (try with_reducible rfl))
  try simp only [Act.put, List.setIfInBounds_toArray, List.set_cons_zero, List.set_cons_succ]
  refine wpAnyH_take (i := 23) (oi := ?ocaseB23o) (v := ?ocaseB23v) ?ocaseB23h (by kernel_rfl) (by kernel_rfl) (by kernel_rfl) ?ocaseB23q ?ocaseB23y hHeld ?ocaseB23r
  case ocaseB23h => (simp only [List.getElem?_toArray, List.getElem?_cons_succ, List.getElem?_cons_zero]; rfl)
  case ocaseB23q => exact fun _ _ _ h => h
  case ocaseB23y => (refine Or.inl ⟨by first | kernel_rfl | rfl, ?_⟩; intro w hSw; (try dsimp only at hSw); obtain ⟨⟨x0, x1, x2⟩, ⟨y0, y1, y2⟩, ⟨z0, z1, z2⟩, -⟩ := hSw; go_simp <;> (try with_reducible rfl))
  try simp only [Act.put, List.setIfInBounds_toArray, List.set_cons_zero, List.set_cons_succ]
  refine wpAnyH_take (i := 24) (oi := ?ocaseB24o) (v := ?ocaseB24v) ?ocaseB24h (by kernel_rfl) (by kernel_rfl) (by kernel_rfl) ?ocaseB24q ?ocaseB24y hHeld ?ocaseB24r
  case ocaseB24h => (simp only [List.getElem?_toArray, List.getElem?_cons_succ, List.getElem?_cons_zero]; rfl)
  case ocaseB24q => exact fun _ _ _ h => h
  case ocaseB24y => (refine Or.inl ⟨by first | kernel_rfl | rfl, ?_⟩; intro w hSw; (try dsimp only at hSw); obtain ⟨⟨x0, x1, x2⟩, ⟨y0, y1, y2⟩, ⟨z0, z1, z2⟩, -⟩ := hSw; go_simp <;> (try with_reducible rfl))
  try simp only [Act.put, List.setIfInBounds_toArray, List.set_cons_zero, List.set_cons_succ]
  refine wpAnyH_take (i := 25) (oi := ?ocaseB25o) (v := ?ocaseB25v) ?ocaseB25h (by kernel_rfl) (by kernel_rfl) (by kernel_rfl) ?ocaseB25q ?ocaseB25y hHeld ?ocaseB25r
  case ocaseB25h => (simp only [List.getElem?_toArray, List.getElem?_cons_succ, List.getElem?_cons_zero]; rfl)
  case ocaseB25q => exact fun _ _ _ h => h
  case ocaseB25y => (refine Or.inl ⟨by first | kernel_rfl | rfl, ?_⟩; intro w hSw; (try dsimp only at hSw); obtain ⟨⟨x0, x1, x2⟩, ⟨y0, y1, y2⟩, ⟨z0, z1, z2⟩, -⟩ := hSw; go_simp <;> (try with_reducible rfl))
  try simp only [Act.put, List.setIfInBounds_toArray, List.set_cons_zero, List.set_cons_succ]
  refine wpAnyH_ready (rs := [26]) (by kernel_rfl) (by simp) ?_
  refine (AllReadyH.cons rfl (fun K hK => ?_) AllReadyH.nil)
  go_simp
  ((with_reducible refine (kbb _).mono ?_); rintro e w' ⟨rfl, hb'⟩)
  refine hK.out _ _ (hHeld.keep hb') (fun hHeld => ?_)
  clear hK K
  try simp only [Act.put, List.setIfInBounds_toArray, List.set_cons_zero, List.set_cons_succ]
  refine wpAnyH_take (i := 27) (oi := ?ocaseB26o) (v := ?ocaseB26v) ?ocaseB26h (by kernel_rfl) (by kernel_rfl) (by kernel_rfl) ?ocaseB26q ?ocaseB26y hHeld ?ocaseB26r
  case ocaseB26h => (simp only [List.getElem?_toArray, List.getElem?_cons_succ, List.getElem?_cons_zero]; rfl)
  case ocaseB26q => exact fun _ _ _ h => h
  case ocaseB26y => (refine Or.inl ⟨by first | kernel_rfl | rfl, ?_⟩; intro w hSw; (try dsimp only at hSw); obtain ⟨⟨x0, x1, x2⟩, ⟨y0, y1, y2⟩, ⟨z0, z1, z2⟩, -⟩ := hSw; go_simp <;> (try with_reducible rfl))
  try simp only [Act.put, List.setIfInBounds_toArray, List.set_cons_zero, List.set_cons_succ]
  refine wpAnyH_take (i := 28) (oi := ?ocaseB27o) (v := ?ocaseB27v) ?ocaseB27h (by kernel_rfl) (by kernel_rfl) (by kernel_rfl) ?ocaseB27q ?ocaseB27y hHeld ?ocaseB27r
  case ocaseB27h => (simp only [List.getElem?_toArray, List.getElem?_cons_succ, List.getElem?_cons_zero]; rfl)
  case ocaseB27q => exact fun _ _ _ h => h
  case ocaseB27y => (refine Or.inl ⟨by first | kernel_rfl | rfl, ?_⟩; intro w hSw; (try dsimp only at hSw); obtain ⟨⟨x0, x1, x2⟩, ⟨y0, y1, y2⟩, ⟨z0, z1, z2⟩, -⟩ := hSw; go_simp <;> (try with_reducible rfl))
  try simp only [Act.put, List.setIfInBounds_toArray, List.set_cons_zero, List.set_cons_succ]
  refine wpAnyH_take (i := 29) (oi := ?ocaseB28o) (v := ?ocaseB28v) ?ocaseB28h (by kernel_rfl) (by kernel_rfl) (by kernel_rfl) ?ocaseB28q ?ocaseB28y hHeld ?ocaseB28r
  case ocaseB28h => (simp only [List.getElem?_toArray, List.getElem?_cons_succ, List.getElem?_cons_zero]; rfl)
  case ocaseB28q => exact fun _ _ _ h => h
  case ocaseB28y => (refine Or.inl ⟨by first | kernel_rfl | rfl, ?_⟩; intro w hSw; (try dsimp only at hSw); obtain ⟨⟨x0, x1, x2⟩, ⟨y0, y1, y2⟩, ⟨z0, z1, z2⟩, -⟩ := hSw; go_simp <;> (try with_reducible rfl))
  try simp only [Act.put, List.setIfInBounds_toArray, List.set_cons_zero, List.set_cons_succ]
  refine wpAnyH_take (i := 30) (oi := ?ocaseB29o) (v := ?ocaseB29v) ?ocaseB29h (by kernel_rfl) (by kernel_rfl) (by kernel_rfl) ?ocaseB29q ?ocaseB29y hHeld ?ocaseB29r
  case ocaseB29h => (simp only [List.getElem?_toArray, List.getElem?_cons_succ, List.getElem?_cons_zero]; rfl)
  case ocaseB29q => exact fun _ _ _ h => h
  case ocaseB29y => (refine Or.inl ⟨by first | kernel_rfl | rfl, ?_⟩; intro w hSw; (try dsimp only at hSw); obtain ⟨⟨x0, x1, x2⟩, ⟨y0, y1, y2⟩, ⟨z0, z1, z2⟩, -⟩ := hSw; go_simp <;> (try with_reducible rfl))
  try simp only [Act.put, List.setIfInBounds_toArray, List.set_cons_zero, List.set_cons_succ]
  refine wpAnyH_take (i := 31) (oi := ?ocaseB30o) (v := ?ocaseB30v) ?ocaseB30h (by kernel_rfl) (by kernel_rfl) (by kernel_rfl) ?ocaseB30q ?ocaseB30y hHeld ?ocaseB30r
  case ocaseB30h => (simp only [List.getElem?_toArray, List.getElem?_cons_succ, List.getElem?_cons_zero]; rfl)
  case ocaseB30q => exact fun _ _ _ h => h
  case ocaseB30y => (refine Or.inl ⟨by first | kernel_rfl | rfl, ?_⟩; intro w hSw; (try dsimp only at hSw); obtain ⟨⟨x0, x1, x2⟩, ⟨y0, y1, y2⟩, ⟨z0, z1, z2⟩, -⟩ := hSw; go_simp <;> (try with_reducible rfl))
  try simp only [Act.put, List.setIfInBounds_toArray, List.set_cons_zero, List.set_cons_succ]
  refine wpAnyH_take (i := 32) (oi := ?ocaseB31o) (v := ?ocaseB31v) ?ocaseB31h (by kernel_rfl) (by kernel_rfl) (by kernel_rfl) ?ocaseB31q ?ocaseB31y hHeld ?ocaseB31r
  case ocaseB31h => (simp only [List.getElem?_toArray, List.getElem?_cons_succ, List.getElem?_cons_zero]; rfl)
  case ocaseB31q => exact fun _ _ _ h => h
  case ocaseB31y => (refine Or.inl ⟨by first | kernel_rfl | rfl, ?_⟩; intro w hSw; (try dsimp only at hSw); obtain ⟨⟨x0, x1, x2⟩, ⟨y0, y1, y2⟩, ⟨z0, z1, z2⟩, -⟩ := hSw; go_simp <;> (try with_reducible rfl))
  try simp only [Act.put, List.setIfInBounds_toArray, List.set_cons_zero, List.set_cons_succ]
  refine wpAnyH_ready (rs := [33]) (by kernel_rfl) (by simp) ?_
  refine (AllReadyH.cons rfl (fun K hK => ?_) AllReadyH.nil)
  go_simp
  ((with_reducible refine (km _).mono ?_); rintro e w' ⟨rfl, hb'⟩)
  refine hK.out _ _ (hHeld.keep hb') (fun hHeld => ?_)
  clear hK K
  try simp only [Act.put, List.setIfInBounds_toArray, List.set_cons_zero, List.set_cons_succ]
  refine wpAnyH_take (i := 34) (oi := ?ocaseB32o) (v := ?ocaseB32v) ?ocaseB32h (by kernel_rfl) (by kernel_rfl) (by kernel_rfl) ?ocaseB32q ?ocaseB32y hHeld ?ocaseB32r
  case ocaseB32h => (simp only [List.getElem?_toArray, List.getElem?_cons_succ, List.getElem?_cons_zero]; rfl)
  case ocaseB32q => exact fun _ _ _ h => h
  case ocaseB32y => (refine Or.inl ⟨by first | kernel_rfl | rfl, ?_⟩; intro w hSw; (try dsimp only at hSw); obtain ⟨⟨x0, x1, x2⟩, ⟨y0, y1, y2⟩, ⟨z0, z1, z2⟩, -⟩ := hSw; go_simp <;> (try with_reducible rfl))
  try simp only [Act.put, List.setIfInBounds_toArray, List.set_cons_zero, List.set_cons_succ]
  refine wpAnyH_take (i := 35) (oi := ?ocaseB33o) (v := ?ocaseB33v) ?ocaseB33h (by kernel_rfl) (by kernel_rfl) (by kernel_rfl) ?ocaseB33q ?ocaseB33y hHeld ?ocaseB33r
  case ocaseB33h => (simp only [List.getElem?_toArray, List.getElem?_cons_succ, List.getElem?_cons_zero]; rfl)
  case ocaseB33q => exact fun _ _ _ h => h
  case ocaseB33y => (refine Or.inl ⟨by first | kernel_rfl | rfl, ?_⟩; intro w hSw; (try dsimp only at hSw); obtain ⟨⟨x0, x1, x2⟩, ⟨y0, y1, y2⟩, ⟨z0, z1, z2⟩, -⟩ := hSw; go_simp <;> (try with_reducible rfl))
  try simp only [Act.put, List.setIfInBounds_toArray, List.set_cons_zero, List.set_cons_succ]
  refine wpAnyH_take (i := 36) (oi := ?ocaseB34o) (v := ?ocaseB34v) ?ocaseB34h (by kernel_rfl) (by kernel_rfl) (by kernel_rfl) ?ocaseB34q ?ocaseB34y hHeld ?ocaseB34r
  case ocaseB34h => (simp only [List.getElem?_toArray, List.getElem?_cons_succ, List.getElem?_cons_zero]; rfl)
  case ocaseB34q => exact fun _ _ _ h => h
  case ocaseB34y => (refine Or.inl ⟨by first | kernel_rfl | rfl, ?_⟩; intro w hSw; (try dsimp only at hSw); obtain ⟨⟨x0, x1, x2⟩, ⟨y0, y1, y2⟩, ⟨z0, z1, z2⟩, -⟩ := hSw; go_simp <;> (try with_reducible rfl))
  try simp only [Act.put, List.setIfInBounds_toArray, List.set_cons_zero, List.set_cons_succ]
  refine wpAnyH_done (by kernel_rfl) ?_ _
  have hbel := hHeld.bel
  go_wp2
  go_ret
  exact ⟨rfl, hbel⟩

set_option maxHeartbeats 4000000 in
theorem caseC (a b c : St) (w : World) (h : a.lt b = false) (k : b.lt a = true) : Calls Try.prog 6 #[.agg #[.int .i64 a.c, .int .i64 a.s, .int .i64 a.q], .agg #[.int .i64 b.c, .int .i64 b.s, .int .i64 b.q], .agg #[.int .i64 c.c, .int .i64 c.s, .int .i64 c.q]] w fun e w' => e = .returned (.bool true) ∧ Below w.heap.size w w' := by
  have kab := lessV a b false (Lib.hid h)
  have kba := lessV b a true (Lib.hid k)
  have kaa := lessV a a false (Lib.hid (St.lt_self a))
  have kl := laterV a b a (Lib.hid (by rw [if_neg]; simp [h]))
  have km := laterV b a a (Lib.hid (if_pos k))
  have q2 : ∀ w, (binOp .eql 23 (.agg #[.int .i64 a.c, .int .i64 a.s, .int .i64 a.q]) (.agg #[.int .i64 a.c, .int .i64 a.s, .int .i64 a.q])).run Try.prog w = .ok (.bool true) w := fun w => by rw [eql_run, decide_eq_true rfl]
  clear h k
  skip
  have H0 : Held3 w w.heap.size (w.heap.size + 1) (w.heap.size + 1 + 1) a b c (((w.alloc (.cells #[.int .i64 a.c, .int .i64 a.s, .int .i64 a.q] 23)).alloc (.cells #[.int .i64 b.c, .int .i64 b.s, .int .i64 b.q] 23)).alloc (.cells #[.int .i64 c.c, .int .i64 c.s, .int .i64 c.q] 23)) :=
    ⟨((StAt.new w a).alloc _).alloc _, by have := (StAt.new (w.alloc (.cells #[.int .i64 a.c, .int .i64 a.s, .int .i64 a.q] 23)) b).alloc (.cells #[.int .i64 c.c, .int .i64 c.s, .int .i64 c.q] 23); simpa using this, by have := StAt.new ((w.alloc (.cells #[.int .i64 a.c, .int .i64 a.s, .int .i64 a.q] 23)).alloc (.cells #[.int .i64 b.c, .int .i64 b.s, .int .i64 b.q] 23)) c; simpa using this, by (repeat (first | exact Below.refl _ _ | refine below_drewN ?_ _ | refine Below.drew ?_ | (refine Below.setCell ?_ (by simp; try omega) _) | refine bel_new ?_ _ | (refine bel_next ?_ (by assumption))))⟩
  go_enter Try.func6, Try.ntmps6
  go_wp2_with (first
    | (go_at_call 10; (with_reducible refine (awake_any _).mono ?_); rintro e w1 ⟨rfl, hb⟩; have H1 := H0.keep hb; have G := H1; obtain ⟨⟨x0, x1, x2⟩, ⟨y0, y1, y2⟩, ⟨z0, z1, z2⟩, -⟩ := G)
    | (go_at_call 17; (with_reducible refine (kab _).mono ?_); rintro e w2 ⟨rfl, hb⟩; have H2 := H1.keep hb; have G := H2; obtain ⟨⟨x0, x1, x2⟩, ⟨y0, y1, y2⟩, ⟨z0, z1, z2⟩, -⟩ := G)
    | (go_at_call 17; (with_reducible refine (kba _).mono ?_); rintro e w3 ⟨rfl, hb⟩; have H3 := H2.keep hb; have G := H3; obtain ⟨⟨x0, x1, x2⟩, ⟨y0, y1, y2⟩, ⟨z0, z1, z2⟩, -⟩ := G)
    | (go_at_call 18; (with_reducible refine (kl _).mono ?_); rintro e w8 ⟨rfl, hb⟩; have H8 := H3.keep hb; have G := H8; obtain ⟨⟨x0, x1, x2⟩, ⟨y0, y1, y2⟩, ⟨z0, z1, z2⟩, -⟩ := G))
  have HH : Held3 w w.heap.size (w.heap.size + 1) w8.heap.size a b a (w8.alloc (.cells #[.int .i64 a.c, .int .i64 a.s, .int .i64 a.q] 23)) := ⟨H8.h1.alloc _, H8.h2.alloc _, StAt.new w8 a, bel_new H8.bel _⟩
  generalize w8.heap.size = bl at HH ⊢
  clear H0 H1 H2 H3 H8
  refine wp_region_held_drew (S := (Held3 w w.heap.size (w.heap.size + 1) bl a b a)) (by kernel_rfl) HH.drew (fun hHeld => ?_)
  refine wpAnyH_take (i := 0) (oi := ?ocaseC1o) (v := ?ocaseC1v) ?ocaseC1h (by kernel_rfl) (by kernel_rfl) (by kernel_rfl) ?ocaseC1q ?ocaseC1y hHeld ?ocaseC1r
  case ocaseC1h => (simp only [List.getElem?_toArray, List.getElem?_cons_zero]; rfl)
  case ocaseC1q => exact fun _ _ _ h => h
  case ocaseC1y => (refine Or.inl ⟨by first | kernel_rfl | rfl, ?_⟩; intro w hSw; (try dsimp only at hSw); obtain ⟨⟨x0, x1, x2⟩, ⟨y0, y1, y2⟩, ⟨z0, z1, z2⟩, -⟩ := hSw; go_simp <;> (try with_reducible rfl))
  try simp only [Act.put, List.setIfInBounds_toArray, List.set_cons_zero, List.set_cons_succ]
  refine wpAnyH_take (i := 1) (oi := ?ocaseC2o) (v := ?ocaseC2v) ?ocaseC2h (by kernel_rfl) (by kernel_rfl) (by kernel_rfl) ?ocaseC2q ?ocaseC2y hHeld ?ocaseC2r
  case ocaseC2h => (simp only [List.getElem?_toArray, List.getElem?_cons_succ, List.getElem?_cons_zero]; rfl)
  case ocaseC2q => exact fun _ _ _ h => h
  case ocaseC2y => (refine Or.inl ⟨by first | kernel_rfl | rfl, ?_⟩; intro w hSw; (try dsimp only at hSw); obtain ⟨⟨x0, x1, x2⟩, ⟨y0, y1, y2⟩, ⟨z0, z1, z2⟩, -⟩ := hSw; go_simp <;> (try with_reducible rfl))
  try simp only [Act.put, List.setIfInBounds_toArray, List.set_cons_zero, List.set_cons_succ]
  refine wpAnyH_take (i := 2) (oi := ?ocaseC3o) (v := ?ocaseC3v) ?ocaseC3h (by kernel_rfl) (by kernel_rfl) (by kernel_rfl) ?ocaseC3q ?ocaseC3y hHeld ?ocaseC3r
  case ocaseC3h => (simp only [List.getElem?_toArray, List.getElem?_cons_succ, List.getElem?_cons_zero]; rfl)
  case ocaseC3q => exact fun _ _ _ h => h
  case ocaseC3y => (refine Or.inl ⟨by first | kernel_rfl | rfl, ?_⟩; intro w hSw; (try dsimp only at hSw); obtain ⟨⟨x0, x1, x2⟩, ⟨y0, y1, y2⟩, ⟨z0, z1, z2⟩, -⟩ := hSw; go_simp <;> (try with_reducible rfl))
  try simp only [Act.put, List.setIfInBounds_toArray, List.set_cons_zero, List.set_cons_succ]
  refine wpAnyH_take (i := 3) (oi := ?ocaseC4o) (v := ?ocaseC4v) ?ocaseC4h (by kernel_rfl) (by kernel_rfl) (by kernel_rfl) ?ocaseC4q ?ocaseC4y hHeld ?ocaseC4r
  case ocaseC4h => (simp only [List.getElem?_toArray, List.getElem?_cons_succ, List.getElem?_cons_zero]; rfl)
  case ocaseC4q => exact fun _ _ _ h => h
  case ocaseC4y => (refine Or.inl ⟨by first | kernel_rfl | rfl, ?_⟩; intro w hSw; (try dsimp only at hSw); obtain ⟨⟨x0, x1, x2⟩, ⟨y0, y1, y2⟩, ⟨z0, z1, z2⟩, -⟩ := hSw; go_simp <;> (try with_reducible rfl))
  try simp only [Act.put, List.setIfInBounds_toArray, List.set_cons_zero, List.set_cons_succ]
  refine wpAnyH_take (i := 4) (oi := ?ocaseC5o) (v := ?ocaseC5v) ?ocaseC5h (by kernel_rfl) (by kernel_rfl) (by kernel_rfl) ?ocaseC5q ?ocaseC5y hHeld ?ocaseC5r
  case ocaseC5h => (simp only [List.getElem?_toArray, List.getElem?_cons_succ, List.getElem?_cons_zero]; rfl)
  case ocaseC5q => exact fun _ _ _ h => h
  case ocaseC5y => (refine Or.inl ⟨by first | kernel_rfl | rfl, ?_⟩; intro w hSw; (try dsimp only at hSw); obtain ⟨⟨x0, x1, x2⟩, ⟨y0, y1, y2⟩, ⟨z0, z1, z2⟩, -⟩ := hSw; go_simp <;> (try with_reducible rfl))
  try simp only [Act.put, List.setIfInBounds_toArray, List.set_cons_zero, List.set_cons_succ]
  refine wpAnyH_take (i := 5) (oi := ?ocaseC6o) (v := ?ocaseC6v) ?ocaseC6h (by kernel_rfl) (by kernel_rfl) (by kernel_rfl) ?ocaseC6q ?ocaseC6y hHeld ?ocaseC6r
  case ocaseC6h => (simp only [List.getElem?_toArray, List.getElem?_cons_succ, List.getElem?_cons_zero]; rfl)
  case ocaseC6q => exact fun _ _ _ h => h
  case ocaseC6y => (refine Or.inl ⟨by first | kernel_rfl | rfl, ?_⟩; intro w hSw; (try dsimp only at hSw); obtain ⟨⟨x0, x1, x2⟩, ⟨y0, y1, y2⟩, ⟨z0, z1, z2⟩, -⟩ := hSw; go_simp <;> (try with_reducible rfl))
  try simp only [Act.put, List.setIfInBounds_toArray, List.set_cons_zero, List.set_cons_succ]
  refine wpAnyH_take (i := 6) (oi := ?ocaseC7o) (v := ?ocaseC7v) ?ocaseC7h (by kernel_rfl) (by kernel_rfl) (by kernel_rfl) ?ocaseC7q ?ocaseC7y hHeld ?ocaseC7r
  case ocaseC7h => (simp only [List.getElem?_toArray, List.getElem?_cons_succ, List.getElem?_cons_zero]; rfl)
  case ocaseC7q => exact fun _ _ _ h => h
  case ocaseC7y => (refine Or.inl ⟨by first | kernel_rfl | rfl, ?_⟩; intro w hSw; (try dsimp only at hSw); obtain ⟨⟨x0, x1, x2⟩, ⟨y0, y1, y2⟩, ⟨z0, z1, z2⟩, -⟩ := hSw; go_simp <;> (try with_reducible rfl))
  try simp only [Act.put, List.setIfInBounds_toArray, List.set_cons_zero, List.set_cons_succ]
  refine wpAnyH_take (i := 7) (oi := ?ocaseC8o) (v := ?ocaseC8v) ?ocaseC8h (by kernel_rfl) (by kernel_rfl) (by kernel_rfl) ?ocaseC8q ?ocaseC8y hHeld ?ocaseC8r
  case ocaseC8h => (simp only [List.getElem?_toArray, List.getElem?_cons_succ, List.getElem?_cons_zero]; rfl)
  case ocaseC8q => exact fun _ _ _ h => h
  case ocaseC8y => (refine Or.inl ⟨by first | kernel_rfl | rfl, ?_⟩; intro w hSw; (try dsimp only at hSw); obtain ⟨⟨x0, x1, x2⟩, ⟨y0, y1, y2⟩, ⟨z0, z1, z2⟩, -⟩ := hSw; go_simp <;> (try with_reducible rfl))
  try simp only [Act.put, List.setIfInBounds_toArray, List.set_cons_zero, List.set_cons_succ]
  refine wpAnyH_take (i := 8) (oi := ?ocaseC9o) (v := ?ocaseC9v) ?ocaseC9h (by kernel_rfl) (by kernel_rfl) (by kernel_rfl) ?ocaseC9q ?ocaseC9y hHeld ?ocaseC9r
  case ocaseC9h => (simp only [List.getElem?_toArray, List.getElem?_cons_succ, List.getElem?_cons_zero]; rfl)
  case ocaseC9q => exact fun _ _ _ h => h
  case ocaseC9y => (refine Or.inl ⟨by first | kernel_rfl | rfl, ?_⟩; intro w hSw; (try dsimp only at hSw); obtain ⟨⟨x0, x1, x2⟩, ⟨y0, y1, y2⟩, ⟨z0, z1, z2⟩, -⟩ := hSw; go_simp <;> (try with_reducible rfl))
  try simp only [Act.put, List.setIfInBounds_toArray, List.set_cons_zero, List.set_cons_succ]
  refine wpAnyH_take (i := 9) (oi := ?ocaseC10o) (v := ?ocaseC10v) ?ocaseC10h (by kernel_rfl) (by kernel_rfl) (by kernel_rfl) ?ocaseC10q ?ocaseC10y hHeld ?ocaseC10r
  case ocaseC10h => (simp only [List.getElem?_toArray, List.getElem?_cons_succ, List.getElem?_cons_zero]; rfl)
  case ocaseC10q => exact fun _ _ _ h => h
  case ocaseC10y => (refine Or.inl ⟨by first | kernel_rfl | rfl, ?_⟩; intro w hSw; (try dsimp only at hSw); obtain ⟨⟨x0, x1, x2⟩, ⟨y0, y1, y2⟩, ⟨z0, z1, z2⟩, -⟩ := hSw; go_simp <;> (try with_reducible rfl))
  try simp only [Act.put, List.setIfInBounds_toArray, List.set_cons_zero, List.set_cons_succ]
  refine wpAnyH_take (i := 10) (oi := ?ocaseC11o) (v := ?ocaseC11v) ?ocaseC11h (by kernel_rfl) (by kernel_rfl) (by kernel_rfl) ?ocaseC11q ?ocaseC11y hHeld ?ocaseC11r
  case ocaseC11h => (simp only [List.getElem?_toArray, List.getElem?_cons_succ, List.getElem?_cons_zero]; rfl)
  case ocaseC11q => exact fun _ _ _ h => h
  case ocaseC11y => (refine Or.inl ⟨by first | kernel_rfl | rfl, ?_⟩; intro w hSw; (try dsimp only at hSw); obtain ⟨⟨x0, x1, x2⟩, ⟨y0, y1, y2⟩, ⟨z0, z1, z2⟩, -⟩ := hSw; go_simp <;> (try with_reducible rfl))
  try simp only [Act.put, List.setIfInBounds_toArray, List.set_cons_zero, List.set_cons_succ]
  refine wpAnyH_take (i := 11) (oi := ?ocaseC12o) (v := ?ocaseC12v) ?ocaseC12h (by kernel_rfl) (by kernel_rfl) (by kernel_rfl) ?ocaseC12q ?ocaseC12y hHeld ?ocaseC12r
  case ocaseC12h => (simp only [List.getElem?_toArray, List.getElem?_cons_succ, List.getElem?_cons_zero]; rfl)
  case ocaseC12q => exact fun _ _ _ h => h
  case ocaseC12y => (refine Or.inl ⟨by first | kernel_rfl | rfl, ?_⟩; intro w hSw; (try dsimp only at hSw); obtain ⟨⟨x0, x1, x2⟩, ⟨y0, y1, y2⟩, ⟨z0, z1, z2⟩, -⟩ := hSw; go_simp <;> (try with_reducible rfl))
  try simp only [Act.put, List.setIfInBounds_toArray, List.set_cons_zero, List.set_cons_succ]
  refine wpAnyH_take (i := 12) (oi := ?ocaseC13o) (v := undef) ?ocaseC13h (by kernel_rfl) (by kernel_rfl) (by kernel_rfl) ?ocaseC13q ?ocaseC13y hHeld ?ocaseC13r
  case ocaseC13h => (simp only [List.getElem?_toArray, List.getElem?_cons_succ, List.getElem?_cons_zero]; rfl)
  case ocaseC13q => exact fun _ _ _ h => h
  case ocaseC13y => exact Or.inr ⟨by first | kernel_rfl | rfl, rfl⟩
  try simp only [Act.put, List.setIfInBounds_toArray, List.set_cons_zero, List.set_cons_succ]
  refine wpAnyH_take (i := 13) (oi := ?ocaseC14o) (v := undef) ?ocaseC14h (by kernel_rfl) (by kernel_rfl) (by kernel_rfl) ?ocaseC14q ?ocaseC14y hHeld ?ocaseC14r
  case ocaseC14h => (simp only [List.getElem?_toArray, List.getElem?_cons_succ, List.getElem?_cons_zero]; rfl)
  case ocaseC14q => exact fun _ _ _ h => h
  case ocaseC14y => exact Or.inr ⟨by first | kernel_rfl | rfl, rfl⟩
  try simp only [Act.put, List.setIfInBounds_toArray, List.set_cons_zero, List.set_cons_succ]
  refine wpAnyH_take (i := 14) (oi := ?ocaseC15o) (v := undef) ?ocaseC15h (by kernel_rfl) (by kernel_rfl) (by kernel_rfl) ?ocaseC15q ?ocaseC15y hHeld ?ocaseC15r
  case ocaseC15h => (simp only [List.getElem?_toArray, List.getElem?_cons_succ, List.getElem?_cons_zero]; rfl)
  case ocaseC15q => exact fun _ _ _ h => h
  case ocaseC15y => exact Or.inr ⟨by first | kernel_rfl | rfl, rfl⟩
  try simp only [Act.put, List.setIfInBounds_toArray, List.set_cons_zero, List.set_cons_succ]
  refine wpAnyH_take (i := 15) (oi := ?ocaseC16o) (v := ?ocaseC16v) ?ocaseC16h (by kernel_rfl) (by kernel_rfl) (by kernel_rfl) ?ocaseC16q ?ocaseC16y hHeld ?ocaseC16r
  case ocaseC16h => (simp only [List.getElem?_toArray, List.getElem?_cons_succ, List.getElem?_cons_zero]; rfl)
  case ocaseC16q => exact fun _ _ _ h => h
  case ocaseC16y => (refine Or.inl ⟨by first | kernel_rfl | rfl, ?_⟩; intro w hSw; (try dsimp only at hSw); obtain ⟨⟨x0, x1, x2⟩, ⟨y0, y1, y2⟩, ⟨z0, z1, z2⟩, -⟩ := hSw; go_simp <;> (try with_reducible rfl))
  try simp only [Act.put, List.setIfInBounds_toArray, List.set_cons_zero, List.set_cons_succ]
  refine wpAnyH_take (i := 16) (oi := ?ocaseC17o) (v := ?ocaseC17v) ?ocaseC17h (by kernel_rfl) (by kernel_rfl) (by kernel_rfl) ?ocaseC17q ?ocaseC17y hHeld ?ocaseC17r
  case ocaseC17h => (simp only [List.getElem?_toArray, List.getElem?_cons_succ, List.getElem?_cons_zero]; rfl)
  case ocaseC17q => exact fun _ _ _ h => h
  case ocaseC17y => (refine Or.inl ⟨by first | kernel_rfl | rfl, ?_⟩; intro w hSw; (try dsimp only at hSw); obtain ⟨⟨x0, x1, x2⟩, ⟨y0, y1, y2⟩, ⟨z0, z1, z2⟩, -⟩ := hSw; go_simp <;> (try with_reducible rfl))
  try simp only [Act.put, List.setIfInBounds_toArray, List.set_cons_zero, List.set_cons_succ]
  refine wpAnyH_take (i := 17) (oi := ?ocaseC18o) (v := ?ocaseC18v) ?ocaseC18h (by kernel_rfl) (by kernel_rfl) (by kernel_rfl) ?ocaseC18q ?ocaseC18y hHeld ?ocaseC18r
  case ocaseC18h => (simp only [List.getElem?_toArray, List.getElem?_cons_succ, List.getElem?_cons_zero]; rfl)
  case ocaseC18q => exact fun _ _ _ h => h
  case ocaseC18y => (refine Or.inl ⟨by first | kernel_rfl | rfl, ?_⟩; intro w hSw; (try dsimp only at hSw); obtain ⟨⟨x0, x1, x2⟩, ⟨y0, y1, y2⟩, ⟨z0, z1, z2⟩, -⟩ := hSw; go_simp <;> (try with_reducible rfl))
  try simp only [Act.put, List.setIfInBounds_toArray, List.set_cons_zero, List.set_cons_succ]
  refine wpAnyH_take (i := 18) (oi := ?ocaseC19o) (v := ?ocaseC19v) ?ocaseC19h (by kernel_rfl) (by kernel_rfl) (by kernel_rfl) ?ocaseC19q ?ocaseC19y hHeld ?ocaseC19r
  case ocaseC19h => (simp only [List.getElem?_toArray, List.getElem?_cons_succ, List.getElem?_cons_zero]; rfl)
  case ocaseC19q => exact fun _ _ _ h => h
  case ocaseC19y => (refine Or.inl ⟨by first | kernel_rfl | rfl, ?_⟩; intro w hSw; (try dsimp only at hSw); obtain ⟨⟨x0, x1, x2⟩, ⟨y0, y1, y2⟩, ⟨z0, z1, z2⟩, -⟩ := hSw; go_simp <;> (try with_reducible rfl))
  try simp only [Act.put, List.setIfInBounds_toArray, List.set_cons_zero, List.set_cons_succ]
  refine wpAnyH_take (i := 19) (oi := ?ocaseC20o) (v := ?ocaseC20v) ?ocaseC20h (by kernel_rfl) (by kernel_rfl) (by kernel_rfl) ?ocaseC20q ?ocaseC20y hHeld ?ocaseC20r
  case ocaseC20h => (simp only [List.getElem?_toArray, List.getElem?_cons_succ, List.getElem?_cons_zero]; rfl)
  case ocaseC20q => exact fun _ _ _ h => h
  case ocaseC20y => (refine Or.inl ⟨by first | kernel_rfl | rfl, ?_⟩; intro w hSw; (try dsimp only at hSw); obtain ⟨⟨x0, x1, x2⟩, ⟨y0, y1, y2⟩, ⟨z0, z1, z2⟩, -⟩ := hSw; go_simp <;> (try with_reducible rfl))
  try simp only [Act.put, List.setIfInBounds_toArray, List.set_cons_zero, List.set_cons_succ]
  refine wpAnyH_ready (rs := [20]) (by kernel_rfl) (by simp) ?_
  refine (AllReadyH.cons rfl (fun K hK => ?_) AllReadyH.nil)
  go_simp
  ((with_reducible refine (kaa _).mono ?_); rintro e w' ⟨rfl, hb'⟩)
  refine hK.out _ _ (hHeld.keep hb') (fun hHeld => ?_)
  clear hK K
  try simp only [Act.put, List.setIfInBounds_toArray, List.set_cons_zero, List.set_cons_succ]
  refine wpAnyH_take (i := 21) (oi := ?ocaseC21o) (v := ?ocaseC21v) ?ocaseC21h (by kernel_rfl) (by kernel_rfl) (by kernel_rfl) ?ocaseC21q ?ocaseC21y hHeld ?ocaseC21r
  case ocaseC21h => (simp only [List.getElem?_toArray, List.getElem?_cons_succ, List.getElem?_cons_zero]; rfl)
  case ocaseC21q => exact fun _ _ _ h => h
  case ocaseC21y => (refine Or.inl ⟨by first | kernel_rfl | rfl, ?_⟩; intro w hSw; (try dsimp only at hSw); obtain ⟨⟨x0, x1, x2⟩, ⟨y0, y1, y2⟩, ⟨z0, z1, z2⟩, -⟩ := hSw; go_simp <;> (try with_reducible rfl))
  try simp only [Act.put, List.setIfInBounds_toArray, List.set_cons_zero, List.set_cons_succ]
  refine wpAnyH_take (i := 22) (oi := ?ocaseC22o) (v := ?ocaseC22v) ?ocaseC22h (by kernel_rfl) (by kernel_rfl) (by kernel_rfl) ?ocaseC22q ?ocaseC22y hHeld ?ocaseC22r
  case ocaseC22h => (simp only [List.getElem?_toArray, List.getElem?_cons_succ, List.getElem?_cons_zero]; rfl)
  case ocaseC22q => exact fun _ _ _ h => h
  case ocaseC22y => (refine Or.inl ⟨by first | kernel_rfl | rfl, ?_⟩; intro w hSw; (try dsimp only at hSw); obtain ⟨⟨x0, x1, x2⟩, ⟨y0, y1, y2⟩, ⟨z0, z1, z2⟩, -⟩ := hSw; go_simp <;> (try with_reducible rfl))
  try simp only [Act.put, List.setIfInBounds_toArray, List.set_cons_zero, List.set_cons_succ]
  refine wpAnyH_take (i := 23) (oi := ?ocaseC23o) (v := ?ocaseC23v) ?ocaseC23h (by kernel_rfl) (by kernel_rfl) (by kernel_rfl) ?ocaseC23q ?ocaseC23y hHeld ?ocaseC23r
  case ocaseC23h => (simp only [List.getElem?_toArray, List.getElem?_cons_succ, List.getElem?_cons_zero]; rfl)
  case ocaseC23q => exact fun _ _ _ h => h
  case ocaseC23y => (refine Or.inl ⟨by first | kernel_rfl | rfl, ?_⟩; intro w hSw; (try dsimp only at hSw); obtain ⟨⟨x0, x1, x2⟩, ⟨y0, y1, y2⟩, ⟨z0, z1, z2⟩, -⟩ := hSw; go_simp <;> (try with_reducible rfl))
  try simp only [Act.put, List.setIfInBounds_toArray, List.set_cons_zero, List.set_cons_succ]
  refine wpAnyH_take (i := 24) (oi := ?ocaseC24o) (v := ?ocaseC24v) ?ocaseC24h (by kernel_rfl) (by kernel_rfl) (by kernel_rfl) ?ocaseC24q ?ocaseC24y hHeld ?ocaseC24r
  case ocaseC24h => (simp only [List.getElem?_toArray, List.getElem?_cons_succ, List.getElem?_cons_zero]; rfl)
  case ocaseC24q => exact fun _ _ _ h => h
  case ocaseC24y => (refine Or.inl ⟨by first | kernel_rfl | rfl, ?_⟩; intro w hSw; (try dsimp only at hSw); obtain ⟨⟨x0, x1, x2⟩, ⟨y0, y1, y2⟩, ⟨z0, z1, z2⟩, -⟩ := hSw; go_simp <;> (try with_reducible rfl))
  try simp only [Act.put, List.setIfInBounds_toArray, List.set_cons_zero, List.set_cons_succ]
  refine wpAnyH_take (i := 25) (oi := ?ocaseC25o) (v := ?ocaseC25v) ?ocaseC25h (by kernel_rfl) (by kernel_rfl) (by kernel_rfl) ?ocaseC25q ?ocaseC25y hHeld ?ocaseC25r
  case ocaseC25h => (simp only [List.getElem?_toArray, List.getElem?_cons_succ, List.getElem?_cons_zero]; rfl)
  case ocaseC25q => exact fun _ _ _ h => h
  case ocaseC25y => (refine Or.inl ⟨by first | kernel_rfl | rfl, ?_⟩; intro w hSw; (try dsimp only at hSw); obtain ⟨⟨x0, x1, x2⟩, ⟨y0, y1, y2⟩, ⟨z0, z1, z2⟩, -⟩ := hSw; go_simp <;> (try with_reducible rfl))
  try simp only [Act.put, List.setIfInBounds_toArray, List.set_cons_zero, List.set_cons_succ]
  refine wpAnyH_ready (rs := [26]) (by kernel_rfl) (by simp) ?_
  refine (AllReadyH.cons rfl (fun K hK => ?_) AllReadyH.nil)
  go_simp
  ((with_reducible refine (kab _).mono ?_); rintro e w' ⟨rfl, hb'⟩)
  refine hK.out _ _ (hHeld.keep hb') (fun hHeld => ?_)
  clear hK K
  try simp only [Act.put, List.setIfInBounds_toArray, List.set_cons_zero, List.set_cons_succ]
  refine wpAnyH_take (i := 27) (oi := ?ocaseC26o) (v := ?ocaseC26v) ?ocaseC26h (by kernel_rfl) (by kernel_rfl) (by kernel_rfl) ?ocaseC26q ?ocaseC26y hHeld ?ocaseC26r
  case ocaseC26h => (simp only [List.getElem?_toArray, List.getElem?_cons_succ, List.getElem?_cons_zero]; rfl)
  case ocaseC26q => exact fun _ _ _ h => h
  case ocaseC26y => (refine Or.inl ⟨by first | kernel_rfl | rfl, ?_⟩; intro w hSw; (try dsimp only at hSw); obtain ⟨⟨x0, x1, x2⟩, ⟨y0, y1, y2⟩, ⟨z0, z1, z2⟩, -⟩ := hSw; go_simp <;> (try with_reducible rfl))
  try simp only [Act.put, List.setIfInBounds_toArray, List.set_cons_zero, List.set_cons_succ]
  refine wpAnyH_take (i := 28) (oi := ?ocaseC27o) (v := ?ocaseC27v) ?ocaseC27h (by kernel_rfl) (by kernel_rfl) (by kernel_rfl) ?ocaseC27q ?ocaseC27y hHeld ?ocaseC27r
  case ocaseC27h => (simp only [List.getElem?_toArray, List.getElem?_cons_succ, List.getElem?_cons_zero]; rfl)
  case ocaseC27q => exact fun _ _ _ h => h
  case ocaseC27y => (refine Or.inl ⟨by first | kernel_rfl | rfl, ?_⟩; intro w hSw; (try dsimp only at hSw); obtain ⟨⟨x0, x1, x2⟩, ⟨y0, y1, y2⟩, ⟨z0, z1, z2⟩, -⟩ := hSw; go_simp <;> (try with_reducible rfl))
  try simp only [Act.put, List.setIfInBounds_toArray, List.set_cons_zero, List.set_cons_succ]
  refine wpAnyH_take (i := 29) (oi := ?ocaseC28o) (v := ?ocaseC28v) ?ocaseC28h (by kernel_rfl) (by kernel_rfl) (by kernel_rfl) ?ocaseC28q ?ocaseC28y hHeld ?ocaseC28r
  case ocaseC28h => (simp only [List.getElem?_toArray, List.getElem?_cons_succ, List.getElem?_cons_zero]; rfl)
  case ocaseC28q => exact fun _ _ _ h => h
  case ocaseC28y => (refine Or.inl ⟨by first | kernel_rfl | rfl, ?_⟩; intro w hSw; (try dsimp only at hSw); obtain ⟨⟨x0, x1, x2⟩, ⟨y0, y1, y2⟩, ⟨z0, z1, z2⟩, -⟩ := hSw; go_simp <;> (try with_reducible rfl))
  try simp only [Act.put, List.setIfInBounds_toArray, List.set_cons_zero, List.set_cons_succ]
  refine wpAnyH_take (i := 30) (oi := ?ocaseC29o) (v := ?ocaseC29v) ?ocaseC29h (by kernel_rfl) (by kernel_rfl) (by kernel_rfl) ?ocaseC29q ?ocaseC29y hHeld ?ocaseC29r
  case ocaseC29h => (simp only [List.getElem?_toArray, List.getElem?_cons_succ, List.getElem?_cons_zero]; rfl)
  case ocaseC29q => exact fun _ _ _ h => h
  case ocaseC29y => (refine Or.inl ⟨by first | kernel_rfl | rfl, ?_⟩; intro w hSw; (try dsimp only at hSw); obtain ⟨⟨x0, x1, x2⟩, ⟨y0, y1, y2⟩, ⟨z0, z1, z2⟩, -⟩ := hSw; go_simp <;> (try with_reducible rfl))
  try simp only [Act.put, List.setIfInBounds_toArray, List.set_cons_zero, List.set_cons_succ]
  refine wpAnyH_take (i := 31) (oi := ?ocaseC30o) (v := ?ocaseC30v) ?ocaseC30h (by kernel_rfl) (by kernel_rfl) (by kernel_rfl) ?ocaseC30q ?ocaseC30y hHeld ?ocaseC30r
  case ocaseC30h => (simp only [List.getElem?_toArray, List.getElem?_cons_succ, List.getElem?_cons_zero]; rfl)
  case ocaseC30q => exact fun _ _ _ h => h
  case ocaseC30y => (refine Or.inl ⟨by first | kernel_rfl | rfl, ?_⟩; intro w hSw; (try dsimp only at hSw); obtain ⟨⟨x0, x1, x2⟩, ⟨y0, y1, y2⟩, ⟨z0, z1, z2⟩, -⟩ := hSw; go_simp <;> (try with_reducible rfl))
  try simp only [Act.put, List.setIfInBounds_toArray, List.set_cons_zero, List.set_cons_succ]
  refine wpAnyH_take (i := 32) (oi := ?ocaseC31o) (v := ?ocaseC31v) ?ocaseC31h (by kernel_rfl) (by kernel_rfl) (by kernel_rfl) ?ocaseC31q ?ocaseC31y hHeld ?ocaseC31r
  case ocaseC31h => (simp only [List.getElem?_toArray, List.getElem?_cons_succ, List.getElem?_cons_zero]; rfl)
  case ocaseC31q => exact fun _ _ _ h => h
  case ocaseC31y => (refine Or.inl ⟨by first | kernel_rfl | rfl, ?_⟩; intro w hSw; (try dsimp only at hSw); obtain ⟨⟨x0, x1, x2⟩, ⟨y0, y1, y2⟩, ⟨z0, z1, z2⟩, -⟩ := hSw; go_simp <;> (try with_reducible rfl))
  try simp only [Act.put, List.setIfInBounds_toArray, List.set_cons_zero, List.set_cons_succ]
  refine wpAnyH_ready (rs := [33]) (by kernel_rfl) (by simp) ?_
  refine (AllReadyH.cons rfl (fun K hK => ?_) AllReadyH.nil)
  go_simp
  ((with_reducible refine (km _).mono ?_); rintro e w' ⟨rfl, hb'⟩)
  refine hK.out _ _ (hHeld.keep hb') (fun hHeld => ?_)
  clear hK K
  try simp only [Act.put, List.setIfInBounds_toArray, List.set_cons_zero, List.set_cons_succ]
  refine wpAnyH_take (i := 34) (oi := ?ocaseC32o) (v := ?ocaseC32v) ?ocaseC32h (by kernel_rfl) (by kernel_rfl) (by kernel_rfl) ?ocaseC32q ?ocaseC32y hHeld ?ocaseC32r
  case ocaseC32h => (simp only [List.getElem?_toArray, List.getElem?_cons_succ, List.getElem?_cons_zero]; rfl)
  case ocaseC32q => exact fun _ _ _ h => h
  case ocaseC32y => (refine Or.inl ⟨by first | kernel_rfl | rfl, ?_⟩; intro w hSw; (try dsimp only at hSw); obtain ⟨⟨x0, x1, x2⟩, ⟨y0, y1, y2⟩, ⟨z0, z1, z2⟩, -⟩ := hSw; go_simp <;> (try with_reducible rfl))
  try simp only [Act.put, List.setIfInBounds_toArray, List.set_cons_zero, List.set_cons_succ]
  refine wpAnyH_take (i := 35) (oi := ?ocaseC33o) (v := ?ocaseC33v) ?ocaseC33h (by kernel_rfl) (by kernel_rfl) (by kernel_rfl) ?ocaseC33q ?ocaseC33y hHeld ?ocaseC33r
  case ocaseC33h => (simp only [List.getElem?_toArray, List.getElem?_cons_succ, List.getElem?_cons_zero]; rfl)
  case ocaseC33q => exact fun _ _ _ h => h
  case ocaseC33y => (refine Or.inl ⟨by first | kernel_rfl | rfl, ?_⟩; intro w hSw; (try dsimp only at hSw); obtain ⟨⟨x0, x1, x2⟩, ⟨y0, y1, y2⟩, ⟨z0, z1, z2⟩, -⟩ := hSw; go_simp <;> (try with_reducible rfl))
  try simp only [Act.put, List.setIfInBounds_toArray, List.set_cons_zero, List.set_cons_succ]
  refine wpAnyH_take (i := 36) (oi := ?ocaseC34o) (v := ?ocaseC34v) ?ocaseC34h (by kernel_rfl) (by kernel_rfl) (by kernel_rfl) ?ocaseC34q ?ocaseC34y hHeld ?ocaseC34r
  case ocaseC34h => (simp only [List.getElem?_toArray, List.getElem?_cons_succ, List.getElem?_cons_zero]; rfl)
  case ocaseC34q => exact fun _ _ _ h => h
  case ocaseC34y => (refine Or.inl ⟨by first | kernel_rfl | rfl, ?_⟩; intro w hSw; (try dsimp only at hSw); obtain ⟨⟨x0, x1, x2⟩, ⟨y0, y1, y2⟩, ⟨z0, z1, z2⟩, -⟩ := hSw; go_simp <;> (try with_reducible rfl))
  try simp only [Act.put, List.setIfInBounds_toArray, List.set_cons_zero, List.set_cons_succ]
  refine wpAnyH_done (by kernel_rfl) ?_ _
  have hbel := hHeld.bel
  go_wp2
  go_ret
  exact ⟨rfl, hbel⟩

set_option maxHeartbeats 4000000 in
theorem caseD (a c : St) (w : World)  : Calls Try.prog 6 #[.agg #[.int .i64 a.c, .int .i64 a.s, .int .i64 a.q], .agg #[.int .i64 a.c, .int .i64 a.s, .int .i64 a.q], .agg #[.int .i64 c.c, .int .i64 c.s, .int .i64 c.q]] w fun e w' => e = .returned (.bool true) ∧ Below w.heap.size w w' := by
  have kab := lessV a a false (Lib.hid (St.lt_self a))
  have kba := kab
  have kl := laterV a a a (Lib.hid (by split <;> rfl))
  have q2 : ∀ w, (binOp .eql 23 (.agg #[.int .i64 a.c, .int .i64 a.s, .int .i64 a.q]) (.agg #[.int .i64 a.c, .int .i64 a.s, .int .i64 a.q])).run Try.prog w = .ok (.bool true) w := fun w => by rw [eql_run, decide_eq_true rfl]
  skip
  have H0 : Held3 w w.heap.size (w.heap.size + 1) (w.heap.size + 1 + 1) a a c (((w.alloc (.cells #[.int .i64 a.c, .int .i64 a.s, .int .i64 a.q] 23)).alloc (.cells #[.int .i64 a.c, .int .i64 a.s, .int .i64 a.q] 23)).alloc (.cells #[.int .i64 c.c, .int .i64 c.s, .int .i64 c.q] 23)) :=
    ⟨((StAt.new w a).alloc _).alloc _, by have := (StAt.new (w.alloc (.cells #[.int .i64 a.c, .int .i64 a.s, .int .i64 a.q] 23)) a).alloc (.cells #[.int .i64 c.c, .int .i64 c.s, .int .i64 c.q] 23); simpa using this, by have := StAt.new ((w.alloc (.cells #[.int .i64 a.c, .int .i64 a.s, .int .i64 a.q] 23)).alloc (.cells #[.int .i64 a.c, .int .i64 a.s, .int .i64 a.q] 23)) c; simpa using this, by (repeat (first | exact Below.refl _ _ | refine below_drewN ?_ _ | refine Below.drew ?_ | (refine Below.setCell ?_ (by simp; try omega) _) | refine bel_new ?_ _ | (refine bel_next ?_ (by assumption))))⟩
  go_enter Try.func6, Try.ntmps6
  go_wp2_with (first
    | (go_at_call 10; (with_reducible refine (awake_any _).mono ?_); rintro e w1 ⟨rfl, hb⟩; have H1 := H0.keep hb; have G := H1; obtain ⟨⟨x0, x1, x2⟩, ⟨y0, y1, y2⟩, ⟨z0, z1, z2⟩, -⟩ := G)
    | (go_at_call 17; (with_reducible refine (kab _).mono ?_); rintro e w2 ⟨rfl, hb⟩; have H2 := H1.keep hb; clear H1; have G := H2; obtain ⟨⟨x0, x1, x2⟩, ⟨y0, y1, y2⟩, ⟨z0, z1, z2⟩, -⟩ := G)
    | (go_at_call 17; (with_reducible refine (kba _).mono ?_); rintro e w3 ⟨rfl, hb⟩; have H3 := H2.keep hb; have G := H3; obtain ⟨⟨x0, x1, x2⟩, ⟨y0, y1, y2⟩, ⟨z0, z1, z2⟩, -⟩ := G)
    | (go_at_call 18; (with_reducible refine (kl _).mono ?_); rintro e w8 ⟨rfl, hb⟩; have H8 := H3.keep hb; have G := H8; obtain ⟨⟨x0, x1, x2⟩, ⟨y0, y1, y2⟩, ⟨z0, z1, z2⟩, -⟩ := G))
  have HH : Held3 w w.heap.size (w.heap.size + 1) w8.heap.size a a a (w8.alloc (.cells #[.int .i64 a.c, .int .i64 a.s, .int .i64 a.q] 23)) := ⟨H8.h1.alloc _, H8.h2.alloc _, StAt.new w8 a, bel_new H8.bel _⟩
  generalize w8.heap.size = bl at HH ⊢
  clear H0 H2 H3 H8
  refine wp_region_held_drew (S := (Held3 w w.heap.size (w.heap.size + 1) bl a a a)) (by kernel_rfl) HH.drew (fun hHeld => ?_)
  refine wpAnyH_take (i := 0) (oi := ?ocaseD1o) (v := ?ocaseD1v) ?ocaseD1h (by kernel_rfl) (by kernel_rfl) (by kernel_rfl) ?ocaseD1q ?ocaseD1y hHeld ?ocaseD1r
  case ocaseD1h => (simp only [List.getElem?_toArray, List.getElem?_cons_zero]; rfl)
  case ocaseD1q => exact fun _ _ _ h => h
  case ocaseD1y => (refine Or.inl ⟨by first | kernel_rfl | rfl, ?_⟩; intro w hSw; (try dsimp only at hSw); obtain ⟨⟨x0, x1, x2⟩, ⟨y0, y1, y2⟩, ⟨z0, z1, z2⟩, -⟩ := hSw; go_simp <;> (try with_reducible rfl))
  try simp only [Act.put, List.setIfInBounds_toArray, List.set_cons_zero, List.set_cons_succ]
  refine wpAnyH_take (i := 1) (oi := ?ocaseD2o) (v := ?ocaseD2v) ?ocaseD2h (by kernel_rfl) (by kernel_rfl) (by kernel_rfl) ?ocaseD2q ?ocaseD2y hHeld ?ocaseD2r
  case ocaseD2h => (simp only [List.getElem?_toArray, List.getElem?_cons_succ, List.getElem?_cons_zero]; rfl)
  case ocaseD2q => exact fun _ _ _ h => h
  case ocaseD2y => (refine Or.inl ⟨by first | kernel_rfl | rfl, ?_⟩; intro w hSw; (try dsimp only at hSw); obtain ⟨⟨x0, x1, x2⟩, ⟨y0, y1, y2⟩, ⟨z0, z1, z2⟩, -⟩ := hSw; go_simp <;> (try with_reducible rfl))
  try simp only [Act.put, List.setIfInBounds_toArray, List.set_cons_zero, List.set_cons_succ]
  refine wpAnyH_take (i := 2) (oi := ?ocaseD3o) (v := ?ocaseD3v) ?ocaseD3h (by kernel_rfl) (by kernel_rfl) (by kernel_rfl) ?ocaseD3q ?ocaseD3y hHeld ?ocaseD3r
  case ocaseD3h => (simp only [List.getElem?_toArray, List.getElem?_cons_succ, List.getElem?_cons_zero]; rfl)
  case ocaseD3q => exact fun _ _ _ h => h
  case ocaseD3y => (refine Or.inl ⟨by first | kernel_rfl | rfl, ?_⟩; intro w hSw; (try dsimp only at hSw); obtain ⟨⟨x0, x1, x2⟩, ⟨y0, y1, y2⟩, ⟨z0, z1, z2⟩, -⟩ := hSw; go_simp <;> (try with_reducible rfl))
  try simp only [Act.put, List.setIfInBounds_toArray, List.set_cons_zero, List.set_cons_succ]
  refine wpAnyH_take (i := 3) (oi := ?ocaseD4o) (v := ?ocaseD4v) ?ocaseD4h (by kernel_rfl) (by kernel_rfl) (by kernel_rfl) ?ocaseD4q ?ocaseD4y hHeld ?ocaseD4r
  case ocaseD4h => (simp only [List.getElem?_toArray, List.getElem?_cons_succ, List.getElem?_cons_zero]; rfl)
  case ocaseD4q => exact fun _ _ _ h => h
  case ocaseD4y => (refine Or.inl ⟨by first | kernel_rfl | rfl, ?_⟩; intro w hSw; (try dsimp only at hSw); obtain ⟨⟨x0, x1, x2⟩, ⟨y0, y1, y2⟩, ⟨z0, z1, z2⟩, -⟩ := hSw; go_simp <;> (try with_reducible rfl))
  try simp only [Act.put, List.setIfInBounds_toArray, List.set_cons_zero, List.set_cons_succ]
  refine wpAnyH_take (i := 4) (oi := ?ocaseD5o) (v := ?ocaseD5v) ?ocaseD5h (by kernel_rfl) (by kernel_rfl) (by kernel_rfl) ?ocaseD5q ?ocaseD5y hHeld ?ocaseD5r
  case ocaseD5h => (simp only [List.getElem?_toArray, List.getElem?_cons_succ, List.getElem?_cons_zero]; rfl)
  case ocaseD5q => exact fun _ _ _ h => h
  case ocaseD5y => (refine Or.inl ⟨by first | kernel_rfl | rfl, ?_⟩; intro w hSw; (try dsimp only at hSw); obtain ⟨⟨x0, x1, x2⟩, ⟨y0, y1, y2⟩, ⟨z0, z1, z2⟩, -⟩ := hSw; go_simp <;> (try with_reducible rfl))
  try simp only [Act.put, List.setIfInBounds_toArray, List.set_cons_zero, List.set_cons_succ]
  refine wpAnyH_take (i := 5) (oi := ?ocaseD6o) (v := ?ocaseD6v) ?ocaseD6h (by kernel_rfl) (by kernel_rfl) (by kernel_rfl) ?ocaseD6q ?ocaseD6y hHeld ?ocaseD6r
  case ocaseD6h => (simp only [List.getElem?_toArray, List.getElem?_cons_succ, List.getElem?_cons_zero]; rfl)
  case ocaseD6q => exact fun _ _ _ h => h
  case ocaseD6y => (refine Or.inl ⟨by first | kernel_rfl | rfl, ?_⟩; intro w hSw; (try dsimp only at hSw); obtain ⟨⟨x0, x1, x2⟩, ⟨y0, y1, y2⟩, ⟨z0, z1, z2⟩, -⟩ := hSw; go_simp <;> (try with_reducible rfl))
  try simp only [Act.put, List.setIfInBounds_toArray, List.set_cons_zero, List.set_cons_succ]
  refine wpAnyH_take (i := 6) (oi := ?ocaseD7o) (v := ?ocaseD7v) ?ocaseD7h (by kernel_rfl) (by kernel_rfl) (by kernel_rfl) ?ocaseD7q ?ocaseD7y hHeld ?ocaseD7r
  case ocaseD7h => (simp only [List.getElem?_toArray, List.getElem?_cons_succ, List.getElem?_cons_zero]; rfl)
  case ocaseD7q => exact fun _ _ _ h => h
  case ocaseD7y => (refine Or.inl ⟨by first | kernel_rfl | rfl, ?_⟩; intro w hSw; (try dsimp only at hSw); obtain ⟨⟨x0, x1, x2⟩, ⟨y0, y1, y2⟩, ⟨z0, z1, z2⟩, -⟩ := hSw; go_simp <;> (try with_reducible rfl))
  try simp only [Act.put, List.setIfInBounds_toArray, List.set_cons_zero, List.set_cons_succ]
  refine wpAnyH_take (i := 7) (oi := ?ocaseD8o) (v := ?ocaseD8v) ?ocaseD8h (by kernel_rfl) (by kernel_rfl) (by kernel_rfl) ?ocaseD8q ?ocaseD8y hHeld ?ocaseD8r
  case ocaseD8h => (simp only [List.getElem?_toArray, List.getElem?_cons_succ, List.getElem?_cons_zero]; rfl)
  case ocaseD8q => exact fun _ _ _ h => h
  case ocaseD8y => (refine Or.inl ⟨by first | kernel_rfl | rfl, ?_⟩; intro w hSw; (try dsimp only at hSw); obtain ⟨⟨x0, x1, x2⟩, ⟨y0, y1, y2⟩, ⟨z0, z1, z2⟩, -⟩ := hSw; go_simp <;> (try with_reducible rfl))
  try simp only [Act.put, List.setIfInBounds_toArray, List.set_cons_zero, List.set_cons_succ]
  refine wpAnyH_take (i := 8) (oi := ?ocaseD9o) (v := ?ocaseD9v) ?ocaseD9h (by kernel_rfl) (by kernel_rfl) (by kernel_rfl) ?ocaseD9q ?ocaseD9y hHeld ?ocaseD9r
  case ocaseD9h => (simp only [List.getElem?_toArray, List.getElem?_cons_succ, List.getElem?_cons_zero]; rfl)
  case ocaseD9q => exact fun _ _ _ h => h
  case ocaseD9y => (refine Or.inl ⟨by first | kernel_rfl | rfl, ?_⟩; intro w hSw; (try dsimp only at hSw); obtain ⟨⟨x0, x1, x2⟩, ⟨y0, y1, y2⟩, ⟨z0, z1, z2⟩, -⟩ := hSw; go_simp <;> (try with_reducible rfl))
  try simp only [Act.put, List.setIfInBounds_toArray, List.set_cons_zero, List.set_cons_succ]
  refine wpAnyH_take (i := 9) (oi := ?ocaseD10o) (v := ?ocaseD10v) ?ocaseD10h (by kernel_rfl) (by kernel_rfl) (by kernel_rfl) ?ocaseD10q ?ocaseD10y hHeld ?ocaseD10r
  case ocaseD10h => (simp only [List.getElem?_toArray, List.getElem?_cons_succ, List.getElem?_cons_zero]; rfl)
  case ocaseD10q => exact fun _ _ _ h => h
  case ocaseD10y => (refine Or.inl ⟨by first | kernel_rfl | rfl, ?_⟩; intro w hSw; (try dsimp only at hSw); obtain ⟨⟨x0, x1, x2⟩, ⟨y0, y1, y2⟩, ⟨z0, z1, z2⟩, -⟩ := hSw; go_simp <;> (try with_reducible rfl))
  try simp only [Act.put, List.setIfInBounds_toArray, List.set_cons_zero, List.set_cons_succ]
  refine wpAnyH_take (i := 10) (oi := ?ocaseD11o) (v := ?ocaseD11v) ?ocaseD11h (by kernel_rfl) (by kernel_rfl) (by kernel_rfl) ?ocaseD11q ?ocaseD11y hHeld ?ocaseD11r
  case ocaseD11h => (simp only [List.getElem?_toArray, List.getElem?_cons_succ, List.getElem?_cons_zero]; rfl)
  case ocaseD11q => exact fun _ _ _ h => h
  case ocaseD11y => (refine Or.inl ⟨by first | kernel_rfl | rfl, ?_⟩; intro w hSw; (try dsimp only at hSw); obtain ⟨⟨x0, x1, x2⟩, ⟨y0, y1, y2⟩, ⟨z0, z1, z2⟩, -⟩ := hSw; go_simp <;> (try with_reducible rfl))
  try simp only [Act.put, List.setIfInBounds_toArray, List.set_cons_zero, List.set_cons_succ]
  refine wpAnyH_take (i := 11) (oi := ?ocaseD12o) (v := ?ocaseD12v) ?ocaseD12h (by kernel_rfl) (by kernel_rfl) (by kernel_rfl) ?ocaseD12q ?ocaseD12y hHeld ?ocaseD12r
  case ocaseD12h => (simp only [List.getElem?_toArray, List.getElem?_cons_succ, List.getElem?_cons_zero]; rfl)
  case ocaseD12q => exact fun _ _ _ h => h
  case ocaseD12y => (refine Or.inl ⟨by first | kernel_rfl | rfl, ?_⟩; intro w hSw; (try dsimp only at hSw); obtain ⟨⟨x0, x1, x2⟩, ⟨y0, y1, y2⟩, ⟨z0, z1, z2⟩, -⟩ := hSw; go_simp <;> (try with_reducible rfl))
  try simp only [Act.put, List.setIfInBounds_toArray, List.set_cons_zero, List.set_cons_succ]
  refine wpAnyH_take (i := 12) (oi := ?ocaseD13o) (v := undef) ?ocaseD13h (by kernel_rfl) (by kernel_rfl) (by kernel_rfl) ?ocaseD13q ?ocaseD13y hHeld ?ocaseD13r
  case ocaseD13h => (simp only [List.getElem?_toArray, List.getElem?_cons_succ, List.getElem?_cons_zero]; rfl)
  case ocaseD13q => exact fun _ _ _ h => h
  case ocaseD13y => exact Or.inr ⟨by first | kernel_rfl | rfl, rfl⟩
  try simp only [Act.put, List.setIfInBounds_toArray, List.set_cons_zero, List.set_cons_succ]
  refine wpAnyH_take (i := 13) (oi := ?ocaseD14o) (v := undef) ?ocaseD14h (by kernel_rfl) (by kernel_rfl) (by kernel_rfl) ?ocaseD14q ?ocaseD14y hHeld ?ocaseD14r
  case ocaseD14h => (simp only [List.getElem?_toArray, List.getElem?_cons_succ, List.getElem?_cons_zero]; rfl)
  case ocaseD14q => exact fun _ _ _ h => h
  case ocaseD14y => exact Or.inr ⟨by first | kernel_rfl | rfl, rfl⟩
  try simp only [Act.put, List.setIfInBounds_toArray, List.set_cons_zero, List.set_cons_succ]
  refine wpAnyH_take (i := 14) (oi := ?ocaseD15o) (v := undef) ?ocaseD15h (by kernel_rfl) (by kernel_rfl) (by kernel_rfl) ?ocaseD15q ?ocaseD15y hHeld ?ocaseD15r
  case ocaseD15h => (simp only [List.getElem?_toArray, List.getElem?_cons_succ, List.getElem?_cons_zero]; rfl)
  case ocaseD15q => exact fun _ _ _ h => h
  case ocaseD15y => exact Or.inr ⟨by first | kernel_rfl | rfl, rfl⟩
  try simp only [Act.put, List.setIfInBounds_toArray, List.set_cons_zero, List.set_cons_succ]
  refine wpAnyH_take (i := 15) (oi := ?ocaseD16o) (v := ?ocaseD16v) ?ocaseD16h (by kernel_rfl) (by kernel_rfl) (by kernel_rfl) ?ocaseD16q ?ocaseD16y hHeld ?ocaseD16r
  case ocaseD16h => (simp only [List.getElem?_toArray, List.getElem?_cons_succ, List.getElem?_cons_zero]; rfl)
  case ocaseD16q => exact fun _ _ _ h => h
  case ocaseD16y => (refine Or.inl ⟨by first | kernel_rfl | rfl, ?_⟩; intro w hSw; (try dsimp only at hSw); obtain ⟨⟨x0, x1, x2⟩, ⟨y0, y1, y2⟩, ⟨z0, z1, z2⟩, -⟩ := hSw; go_simp <;> (try with_reducible rfl))
  try simp only [Act.put, List.setIfInBounds_toArray, List.set_cons_zero, List.set_cons_succ]
  refine wpAnyH_take (i := 16) (oi := ?ocaseD17o) (v := ?ocaseD17v) ?ocaseD17h (by kernel_rfl) (by kernel_rfl) (by kernel_rfl) ?ocaseD17q ?ocaseD17y hHeld ?ocaseD17r
  case ocaseD17h => (simp only [List.getElem?_toArray, List.getElem?_cons_succ, List.getElem?_cons_zero]; rfl)
  case ocaseD17q => exact fun _ _ _ h => h
  case ocaseD17y => (refine Or.inl ⟨by first | kernel_rfl | rfl, ?_⟩; intro w hSw; (try dsimp only at hSw); obtain ⟨⟨x0, x1, x2⟩, ⟨y0, y1, y2⟩, ⟨z0, z1, z2⟩, -⟩ := hSw; go_simp <;> (try with_reducible rfl))
  try simp only [Act.put, List.setIfInBounds_toArray, List.set_cons_zero, List.set_cons_succ]
  refine wpAnyH_take (i := 17) (oi := ?ocaseD18o) (v := ?ocaseD18v) ?ocaseD18h (by kernel_rfl) (by kernel_rfl) (by kernel_rfl) ?ocaseD18q ?ocaseD18y hHeld ?ocaseD18r
  case ocaseD18h => (simp only [List.getElem?_toArray, List.getElem?_cons_succ, List.getElem?_cons_zero]; rfl)
  case ocaseD18q => exact fun _ _ _ h => h
  case ocaseD18y => (refine Or.inl ⟨by first | kernel_rfl | rfl, ?_⟩; intro w hSw; (try dsimp only at hSw); obtain ⟨⟨x0, x1, x2⟩, ⟨y0, y1, y2⟩, ⟨z0, z1, z2⟩, -⟩ := hSw; go_simp <;> (try with_reducible rfl))
  try simp only [Act.put, List.setIfInBounds_toArray, List.set_cons_zero, List.set_cons_succ]
  refine wpAnyH_take (i := 18) (oi := ?ocaseD19o) (v := ?ocaseD19v) ?ocaseD19h (by kernel_rfl) (by kernel_rfl) (by kernel_rfl) ?ocaseD19q ?ocaseD19y hHeld ?ocaseD19r
  case ocaseD19h => (simp only [List.getElem?_toArray, List.getElem?_cons_succ, List.getElem?_cons_zero]; rfl)
  case ocaseD19q => exact fun _ _ _ h => h
  case ocaseD19y => (refine Or.inl ⟨by first | kernel_rfl | rfl, ?_⟩; intro w hSw; (try dsimp only at hSw); obtain ⟨⟨x0, x1, x2⟩, ⟨y0, y1, y2⟩, ⟨z0, z1, z2⟩, -⟩ := hSw; go_simp <;> (try with_reducible rfl))
  try simp only [Act.put, List.setIfInBounds_toArray, List.set_cons_zero, List.set_cons_succ]
  refine wpAnyH_take (i := 19) (oi := ?ocaseD20o) (v := ?ocaseD20v) ?ocaseD20h (by kernel_rfl) (by kernel_rfl) (by kernel_rfl) ?ocaseD20q ?ocaseD20y hHeld ?ocaseD20r
  case ocaseD20h => (simp only [List.getElem?_toArray, List.getElem?_cons_succ, List.getElem?_cons_zero]; rfl)
  case ocaseD20q => exact fun _ _ _ h => h
  case ocaseD20y => (refine Or.inl ⟨by first | kernel_rfl | rfl, ?_⟩; intro w hSw; (try dsimp only at hSw); obtain ⟨⟨x0, x1, x2⟩, ⟨y0, y1, y2⟩, ⟨z0, z1, z2⟩, -⟩ := hSw; go_simp <;> (try with_reducible rfl))
  try simp only [Act.put, List.setIfInBounds_toArray, List.set_cons_zero, List.set_cons_succ]
  refine wpAnyH_ready (rs := [20]) (by kernel_rfl) (by simp) ?_
  refine (AllReadyH.cons rfl (fun K hK => ?_) AllReadyH.nil)
  go_simp
  ((with_reducible refine (kab _).mono ?_); rintro e w' ⟨rfl, hb'⟩)
  refine hK.out _ _ (hHeld.keep hb') (fun hHeld => ?_)
  clear hK K
  try simp only [Act.put, List.setIfInBounds_toArray, List.set_cons_zero, List.set_cons_succ]
  refine wpAnyH_take (i := 21) (oi := ?ocaseD21o) (v := ?ocaseD21v) ?ocaseD21h (by kernel_rfl) (by kernel_rfl) (by kernel_rfl) ?ocaseD21q ?ocaseD21y hHeld ?ocaseD21r
  case ocaseD21h => (simp only [List.getElem?_toArray, List.getElem?_cons_succ, List.getElem?_cons_zero]; rfl)
  case ocaseD21q => exact fun _ _ _ h => h
  case ocaseD21y => (refine Or.inl ⟨by first | kernel_rfl | rfl, ?_⟩; intro w hSw; (try dsimp only at hSw); obtain ⟨⟨x0, x1, x2⟩, ⟨y0, y1, y2⟩, ⟨z0, z1, z2⟩, -⟩ := hSw; go_simp <;> (try with_reducible rfl))
  try simp only [Act.put, List.setIfInBounds_toArray, List.set_cons_zero, List.set_cons_succ]
  refine wpAnyH_take (i := 22) (oi := ?ocaseD22o) (v := ?ocaseD22v) ?ocaseD22h (by kernel_rfl) (by kernel_rfl) (by kernel_rfl) ?ocaseD22q ?ocaseD22y hHeld ?ocaseD22r
  case ocaseD22h => (simp only [List.getElem?_toArray, List.getElem?_cons_succ, List.getElem?_cons_zero]; rfl)
  case ocaseD22q => exact fun _ _ _ h => h
  case ocaseD22y => (refine Or.inl ⟨by first | kernel_rfl | rfl, ?_⟩; intro w hSw; (try dsimp only at hSw); obtain ⟨⟨x0, x1, x2⟩, ⟨y0, y1, y2⟩, ⟨z0, z1, z2⟩, -⟩ := hSw; go_simp <;> (try with_reducible rfl))
  try simp only [Act.put, List.setIfInBounds_toArray, List.set_cons_zero, List.set_cons_succ]
  refine wpAnyH_take (i := 23) (oi := ?ocaseD23o) (v := ?ocaseD23v) ?ocaseD23h (by kernel_rfl) (by kernel_rfl) (by kernel_rfl) ?ocaseD23q ?ocaseD23y hHeld ?ocaseD23r
  case ocaseD23h => (simp only [List.getElem?_toArray, List.getElem?_cons_succ, List.getElem?_cons_zero]; rfl)
  case ocaseD23q => exact fun _ _ _ h => h
  case ocaseD23y => (refine Or.inl ⟨by first | kernel_rfl | rfl, ?_⟩; intro w hSw; (try dsimp only at hSw); obtain ⟨⟨x0, x1, x2⟩, ⟨y0, y1, y2⟩, ⟨z0, z1, z2⟩, -⟩ := hSw; go_simp <;> (try with_reducible rfl))
  try simp only [Act.put, List.setIfInBounds_toArray, List.set_cons_zero, List.set_cons_succ]
  refine wpAnyH_take (i := 24) (oi := ?ocaseD24o) (v := ?ocaseD24v) ?ocaseD24h (by kernel_rfl) (by kernel_rfl) (by kernel_rfl) ?ocaseD24q ?ocaseD24y hHeld ?ocaseD24r
  case ocaseD24h => (simp only [List.getElem?_toArray, List.getElem?_cons_succ, List.getElem?_cons_zero]; rfl)
  case ocaseD24q => exact fun _ _ _ h => h
  case ocaseD24y => (refine Or.inl ⟨by first | kernel_rfl | rfl, ?_⟩; intro w hSw; (try dsimp only at hSw); obtain ⟨⟨x0, x1, x2⟩, ⟨y0, y1, y2⟩, ⟨z0, z1, z2⟩, -⟩ := hSw; go_simp <;> (try with_reducible rfl))
  try simp only [Act.put, List.setIfInBounds_toArray, List.set_cons_zero, List.set_cons_succ]
  refine wpAnyH_take (i := 25) (oi := ?ocaseD25o) (v := ?ocaseD25v) ?ocaseD25h (by kernel_rfl) (by kernel_rfl) (by kernel_rfl) ?ocaseD25q ?ocaseD25y hHeld ?ocaseD25r
  case ocaseD25h => (simp only [List.getElem?_toArray, List.getElem?_cons_succ, List.getElem?_cons_zero]; rfl)
  case ocaseD25q => exact fun _ _ _ h => h
  case ocaseD25y => (refine Or.inl ⟨by first | kernel_rfl | rfl, ?_⟩; intro w hSw; (try dsimp only at hSw); obtain ⟨⟨x0, x1, x2⟩, ⟨y0, y1, y2⟩, ⟨z0, z1, z2⟩, -⟩ := hSw; go_simp <;> (try with_reducible rfl))
  try simp only [Act.put, List.setIfInBounds_toArray, List.set_cons_zero, List.set_cons_succ]
  refine wpAnyH_ready (rs := [26]) (by kernel_rfl) (by simp) ?_
  refine (AllReadyH.cons rfl (fun K hK => ?_) AllReadyH.nil)
  go_simp
  ((with_reducible refine (kab _).mono ?_); rintro e w' ⟨rfl, hb'⟩)
  refine hK.out _ _ (hHeld.keep hb') (fun hHeld => ?_)
  clear hK K
  try simp only [Act.put, List.setIfInBounds_toArray, List.set_cons_zero, List.set_cons_succ]
  refine wpAnyH_take (i := 27) (oi := ?ocaseD26o) (v := ?ocaseD26v) ?ocaseD26h (by kernel_rfl) (by kernel_rfl) (by kernel_rfl) ?ocaseD26q ?ocaseD26y hHeld ?ocaseD26r
  case ocaseD26h => (simp only [List.getElem?_toArray, List.getElem?_cons_succ, List.getElem?_cons_zero]; rfl)
  case ocaseD26q => exact fun _ _ _ h => h
  case ocaseD26y => (refine Or.inl ⟨by first | kernel_rfl | rfl, ?_⟩; intro w hSw; (try dsimp only at hSw); obtain ⟨⟨x0, x1, x2⟩, ⟨y0, y1, y2⟩, ⟨z0, z1, z2⟩, -⟩ := hSw; go_simp <;> (try with_reducible rfl))
  try simp only [Act.put, List.setIfInBounds_toArray, List.set_cons_zero, List.set_cons_succ]
  refine wpAnyH_take (i := 28) (oi := ?ocaseD27o) (v := ?ocaseD27v) ?ocaseD27h (by kernel_rfl) (by kernel_rfl) (by kernel_rfl) ?ocaseD27q ?ocaseD27y hHeld ?ocaseD27r
  case ocaseD27h => (simp only [List.getElem?_toArray, List.getElem?_cons_succ, List.getElem?_cons_zero]; rfl)
  case ocaseD27q => exact fun _ _ _ h => h
  case ocaseD27y => (refine Or.inl ⟨by first | kernel_rfl | rfl, ?_⟩; intro w hSw; (try dsimp only at hSw); obtain ⟨⟨x0, x1, x2⟩, ⟨y0, y1, y2⟩, ⟨z0, z1, z2⟩, -⟩ := hSw; go_simp <;> (try with_reducible rfl))
  try simp only [Act.put, List.setIfInBounds_toArray, List.set_cons_zero, List.set_cons_succ]
  refine wpAnyH_take (i := 29) (oi := ?ocaseD28o) (v := ?ocaseD28v) ?ocaseD28h (by kernel_rfl) (by kernel_rfl) (by kernel_rfl) ?ocaseD28q ?ocaseD28y hHeld ?ocaseD28r
  case ocaseD28h => (simp only [List.getElem?_toArray, List.getElem?_cons_succ, List.getElem?_cons_zero]; rfl)
  case ocaseD28q => exact fun _ _ _ h => h
  case ocaseD28y => (refine Or.inl ⟨by first | kernel_rfl | rfl, ?_⟩; intro w hSw; (try dsimp only at hSw); obtain ⟨⟨x0, x1, x2⟩, ⟨y0, y1, y2⟩, ⟨z0, z1, z2⟩, -⟩ := hSw; go_simp <;> (try with_reducible rfl))
  try simp only [Act.put, List.setIfInBounds_toArray, List.set_cons_zero, List.set_cons_succ]
  refine wpAnyH_take (i := 30) (oi := ?ocaseD29o) (v := ?ocaseD29v) ?ocaseD29h (by kernel_rfl) (by kernel_rfl) (by kernel_rfl) ?ocaseD29q ?ocaseD29y hHeld ?ocaseD29r
  case ocaseD29h => (simp only [List.getElem?_toArray, List.getElem?_cons_succ, List.getElem?_cons_zero]; rfl)
  case ocaseD29q => exact fun _ _ _ h => h
  case ocaseD29y => (refine Or.inl ⟨by first | kernel_rfl | rfl, ?_⟩; intro w hSw; (try dsimp only at hSw); obtain ⟨⟨x0, x1, x2⟩, ⟨y0, y1, y2⟩, ⟨z0, z1, z2⟩, -⟩ := hSw; go_simp <;> (try with_reducible rfl))
  try simp only [Act.put, List.setIfInBounds_toArray, List.set_cons_zero, List.set_cons_succ]
  refine wpAnyH_take (i := 31) (oi := ?ocaseD30o) (v := ?ocaseD30v) ?ocaseD30h (by kernel_rfl) (by kernel_rfl) (by kernel_rfl) ?ocaseD30q ?ocaseD30y hHeld ?ocaseD30r
  case ocaseD30h => (simp only [List.getElem?_toArray, List.getElem?_cons_succ, List.getElem?_cons_zero]; rfl)
  case ocaseD30q => exact fun _ _ _ h => h
  case ocaseD30y => (refine Or.inl ⟨by first | kernel_rfl | rfl, ?_⟩; intro w hSw; (try dsimp only at hSw); obtain ⟨⟨x0, x1, x2⟩, ⟨y0, y1, y2⟩, ⟨z0, z1, z2⟩, -⟩ := hSw; go_simp <;> (try with_reducible rfl))
  try simp only [Act.put, List.setIfInBounds_toArray, List.set_cons_zero, List.set_cons_succ]
  refine wpAnyH_take (i := 32) (oi := ?ocaseD31o) (v := ?ocaseD31v) ?ocaseD31h (by kernel_rfl) (by kernel_rfl) (by kernel_rfl) ?ocaseD31q ?ocaseD31y hHeld ?ocaseD31r
  case ocaseD31h => (simp only [List.getElem?_toArray, List.getElem?_cons_succ, List.getElem?_cons_zero]; rfl)
  case ocaseD31q => exact fun _ _ _ h => h
  case ocaseD31y => (refine Or.inl ⟨by first | kernel_rfl | rfl, ?_⟩; intro w hSw; (try dsimp only at hSw); obtain ⟨⟨x0, x1, x2⟩, ⟨y0, y1, y2⟩, ⟨z0, z1, z2⟩, -⟩ := hSw; go_simp <;> (try with_reducible rfl))
  try simp only [Act.put, List.setIfInBounds_toArray, List.set_cons_zero, List.set_cons_succ]
  refine wpAnyH_ready (rs := [33]) (by kernel_rfl) (by simp) ?_
  refine (AllReadyH.cons rfl (fun K hK => ?_) AllReadyH.nil)
  go_simp
  ((with_reducible refine (kl _).mono ?_); rintro e w' ⟨rfl, hb'⟩)
  refine hK.out _ _ (hHeld.keep hb') (fun hHeld => ?_)
  clear hK K
  try simp only [Act.put, List.setIfInBounds_toArray, List.set_cons_zero, List.set_cons_succ]
  refine wpAnyH_take (i := 34) (oi := ?ocaseD32o) (v := ?ocaseD32v) ?ocaseD32h (by kernel_rfl) (by kernel_rfl) (by kernel_rfl) ?ocaseD32q ?ocaseD32y hHeld ?ocaseD32r
  case ocaseD32h => (simp only [List.getElem?_toArray, List.getElem?_cons_succ, List.getElem?_cons_zero]; rfl)
  case ocaseD32q => exact fun _ _ _ h => h
  case ocaseD32y => (refine Or.inl ⟨by first | kernel_rfl | rfl, ?_⟩; intro w hSw; (try dsimp only at hSw); obtain ⟨⟨x0, x1, x2⟩, ⟨y0, y1, y2⟩, ⟨z0, z1, z2⟩, -⟩ := hSw; go_simp <;> (try with_reducible rfl))
  try simp only [Act.put, List.setIfInBounds_toArray, List.set_cons_zero, List.set_cons_succ]
  refine wpAnyH_take (i := 35) (oi := ?ocaseD33o) (v := ?ocaseD33v) ?ocaseD33h (by kernel_rfl) (by kernel_rfl) (by kernel_rfl) ?ocaseD33q ?ocaseD33y hHeld ?ocaseD33r
  case ocaseD33h => (simp only [List.getElem?_toArray, List.getElem?_cons_succ, List.getElem?_cons_zero]; rfl)
  case ocaseD33q => exact fun _ _ _ h => h
  case ocaseD33y => (refine Or.inl ⟨by first | kernel_rfl | rfl, ?_⟩; intro w hSw; (try dsimp only at hSw); obtain ⟨⟨x0, x1, x2⟩, ⟨y0, y1, y2⟩, ⟨z0, z1, z2⟩, -⟩ := hSw; go_simp <;> (try with_reducible rfl))
  try simp only [Act.put, List.setIfInBounds_toArray, List.set_cons_zero, List.set_cons_succ]
  refine wpAnyH_take (i := 36) (oi := ?ocaseD34o) (v := ?ocaseD34v) ?ocaseD34h (by kernel_rfl) (by kernel_rfl) (by kernel_rfl) ?ocaseD34q ?ocaseD34y hHeld ?ocaseD34r
  case ocaseD34h => (simp only [List.getElem?_toArray, List.getElem?_cons_succ, List.getElem?_cons_zero]; rfl)
  case ocaseD34q => exact fun _ _ _ h => h
  case ocaseD34y => (refine Or.inl ⟨by first | kernel_rfl | rfl, ?_⟩; intro w hSw; (try dsimp only at hSw); obtain ⟨⟨x0, x1, x2⟩, ⟨y0, y1, y2⟩, ⟨z0, z1, z2⟩, -⟩ := hSw; go_simp <;> (try with_reducible rfl))
  try simp only [Act.put, List.setIfInBounds_toArray, List.set_cons_zero, List.set_cons_succ]
  refine wpAnyH_done (by kernel_rfl) ?_ _
  have hbel := hHeld.bel
  go_wp2
  go_ret
  exact ⟨rfl, hbel⟩

theorem core (a b c : St) (w : World) : Calls Try.prog 6 #[.agg #[.int .i64 a.c, .int .i64 a.s, .int .i64 a.q], .agg #[.int .i64 b.c, .int .i64 b.s, .int .i64 b.q], .agg #[.int .i64 c.c, .int .i64 c.s, .int .i64 c.q]] w fun e w' => e = .returned (.bool true) ∧ Below w.heap.size w w' := by
  cases h : a.lt b with
  | true =>
    cases k : b.lt c with
    | true => exact caseA a b c w h k
    | false => exact caseB a b c w h k
  | false =>
    cases k : b.lt a with
    | true => exact caseC a b c w h k
    | false =>
      obtain rfl := St.lt_eq h k
      exact caseD a c w
theorem walk (c1 s1 q1 c2 s2 q2 c3 s3 q3 : Int) (w : World) (_ : -9223372036854775808 ≤ c1 ∧ c1 ≤ 9223372036854775807) (_ : -9223372036854775808 ≤ s1 ∧ s1 ≤ 9223372036854775807) (_ : -9223372036854775808 ≤ q1 ∧ q1 ≤ 9223372036854775807) (_ : -9223372036854775808 ≤ c2 ∧ c2 ≤ 9223372036854775807) (_ : -9223372036854775808 ≤ s2 ∧ s2 ≤ 9223372036854775807) (_ : -9223372036854775808 ≤ q2 ∧ q2 ≤ 9223372036854775807) (_ : -9223372036854775808 ≤ c3 ∧ c3 ≤ 9223372036854775807) (_ : -9223372036854775808 ≤ s3 ∧ s3 ≤ 9223372036854775807) (_ : -9223372036854775808 ≤ q3 ∧ q3 ≤ 9223372036854775807) : Calls Try.prog 6 #[.agg #[.int .i64 c1, .int .i64 s1, .int .i64 q1], .agg #[.int .i64 c2, .int .i64 s2, .int .i64 q2], .agg #[.int .i64 c3, .int .i64 s3, .int .i64 q3]] w fun e w' => e = .returned (.bool true) ∧ Below w.heap.size w w' := core ⟨c1, s1, q1⟩ ⟨c2, s2, q2⟩ ⟨c3, s3, q3⟩ w
end Go.Proofs.Ytkgagedjjjaofaa.markOrder
