/- Contracts of the methods of the document's Reader. -/
import Derived.Test.YtjckphmkhikpaaaVintRefGet
import Derived.Test.YtjckphmkhikpaaaVintSmall
namespace Go.Proofs.Ytjckphmkhikpaaa
open Go.RowKit Go.Proofs.Ytjckphmkhikpaaa.Vi

/-- The three cells of the document's Reader in block d. -/
structure RB (w : World) (d : Nat) (S : ByteArray) (a : Nat) (bad : Bool) : Prop where
  c0 : w.cell? ⟨d, 0, none⟩ = some (.string S)
  c1 : w.cell? ⟨d, 1, none⟩ = some (.int .i64 (a : Int))
  c2 : w.cell? ⟨d, 2, none⟩ = some (.bool bad)
  f0 : w.frozen? ⟨d, 0, none⟩ = false
  f1 : w.frozen? ⟨d, 1, none⟩ = false
  f2 : w.frozen? ⟨d, 2, none⟩ = false
theorem RB.room {w : World} {d a : Nat} {S : ByteArray} {bad : Bool} (h : RB w d S a bad) : d < w.heap.size := World.block_lt_of_cell? w _ h.c0
theorem RB.but {w w' : World} {d b a : Nat} {S : ByteArray} {bad : Bool} (h : RB w d S a bad) (k : But b w w') (hd : d ≠ b) : RB w' d S a bad :=
  ⟨(k.cell (p := ⟨d, 0, none⟩) hd h.room).trans h.c0, (k.cell (p := ⟨d, 1, none⟩) hd h.room).trans h.c1, (k.cell (p := ⟨d, 2, none⟩) hd h.room).trans h.c2,
    (k.frozen (p := ⟨d, 0, none⟩) hd h.room).trans h.f0, (k.frozen (p := ⟨d, 1, none⟩) hd h.room).trans h.f1, (k.frozen (p := ⟨d, 2, none⟩) hd h.room).trans h.f2⟩
theorem RB.below {w w' : World} {d a : Nat} {S : ByteArray} {bad : Bool} (h : RB w d S a bad) (k : Below w.heap.size w w') : RB w' d S a bad :=
  ⟨(k.cell (p := ⟨d, 0, none⟩) h.room).trans h.c0, (k.cell (p := ⟨d, 1, none⟩) h.room).trans h.c1, (k.cell (p := ⟨d, 2, none⟩) h.room).trans h.c2,
    (k.frozen (p := ⟨d, 0, none⟩) h.room).trans h.f0, (k.frozen (p := ⟨d, 1, none⟩) h.room).trans h.f1, (k.frozen (p := ⟨d, 2, none⟩) h.room).trans h.f2⟩
theorem rb_keep {w w1 w2 : World} {d a : Nat} {S : ByteArray} {bad : Bool} (hb : Below w1.heap.size w1 w2) (h : (fun w' => w'.cell? ⟨d, 0, none⟩ = some (.string S) ∧ w'.cell? ⟨d, 1, none⟩ = some (.int .i64 (a : Int)) ∧ w'.cell? ⟨d, 2, none⟩ = some (.bool bad) ∧ w'.frozen? ⟨d, 0, none⟩ = false ∧ w'.frozen? ⟨d, 1, none⟩ = false ∧ w'.frozen? ⟨d, 2, none⟩ = false ∧ Below w.heap.size w w') w1) : (fun w' => w'.cell? ⟨d, 0, none⟩ = some (.string S) ∧ w'.cell? ⟨d, 1, none⟩ = some (.int .i64 (a : Int)) ∧ w'.cell? ⟨d, 2, none⟩ = some (.bool bad) ∧ w'.frozen? ⟨d, 0, none⟩ = false ∧ w'.frozen? ⟨d, 1, none⟩ = false ∧ w'.frozen? ⟨d, 2, none⟩ = false ∧ Below w.heap.size w w') w2 := by
  obtain ⟨h1, h2, h3, h4, h5, h6, h7⟩ := h
  have R := RB.below ⟨h1, h2, h3, h4, h5, h6⟩ hb
  exact ⟨R.c0, R.c1, R.c2, R.f0, R.f1, R.f2, h7.trans (hb.mono h7.size)⟩

/-- A method's answer, and what the document's reader is then. -/
def RTook (d : Nat) (v : Value) (S : ByteArray) (a : Nat) (bad : Bool) (w : World) (e : Ending) (w' : World) : Prop := e = .returned v ∧ RB w' d S a bad ∧ But d w w'

set_option maxHeartbeats 2000000 in
theorem rnum_bad (d a : Nat) (S : ByteArray) (w : World) (hs : S.size ≤ 100000) (ha : a ≤ S.size) (h : RB w d S a true) :
    Calls Try.prog 89 #[.pointer (some ⟨d, 0, none⟩)] w (RTook d (.int .u64 0) S a true w) := by
  obtain ⟨⟨v, p, e⟩, hg⟩ : ∃ x : Int × Int × Int, getR S.data.toList (a : Int) = x := ⟨_, rfl⟩
  have hk := fun w => refGet_is S (a : Int) v p e w (by unfold maxLen; omega) (by omega) (by omega) (Lib.hid hg)
  clear hg
  obtain ⟨c0, c1, c2, f0, f1, f2⟩ := h
  go_enter Try.func89, Try.ntmps89
  go_wp2_with fail
  refine wp_region_held_drew (S := (fun w' => w'.cell? ⟨d, 0, none⟩ = some (.string S) ∧ w'.cell? ⟨d, 1, none⟩ = some (.int .i64 (a : Int)) ∧ w'.cell? ⟨d, 2, none⟩ = some (.bool true) ∧ w'.frozen? ⟨d, 0, none⟩ = false ∧ w'.frozen? ⟨d, 1, none⟩ = false ∧ w'.frozen? ⟨d, 2, none⟩ = false ∧ Below w.heap.size w w')) (by kernel_rfl) ⟨c0, c1, c2, f0, f1, f2, (Below.refl _ _).drew⟩ (fun hHeld => ?_)
  refine wpAnyH_take (i := 0) (oi := ?zao0) (v := ?zav0) ?zah0 (by kernel_rfl) (by kernel_rfl) (by kernel_rfl) ?zaq0 ?zay0 hHeld ?zar0
  case zah0 => (simp only [List.getElem?_toArray, List.getElem?_cons_zero]; rfl)
  case zaq0 => exact fun _ _ _ h => h
  case zay0 => (refine Or.inl ⟨by first | kernel_rfl | rfl, ?_⟩; intro w hSw; (try dsimp only at hSw); go_simp <;> (try with_reducible rfl))
  try simp only [Act.put, List.setIfInBounds_toArray, List.set_cons_zero, List.set_cons_succ]
  refine wpAnyH_take (i := 1) (oi := ?zao1) (v := ?zav1) ?zah1 (by kernel_rfl) (by kernel_rfl) (by kernel_rfl) ?zaq1 ?zay1 hHeld ?zar1
  case zah1 => (simp only [List.getElem?_toArray, List.getElem?_cons_succ, List.getElem?_cons_zero]; rfl)
  case zaq1 => exact fun _ _ _ h => h
  case zay1 => (refine Or.inl ⟨by first | kernel_rfl | rfl, ?_⟩; intro w hSw; (try dsimp only at hSw); go_simp <;> (try with_reducible rfl))
  try simp only [Act.put, List.setIfInBounds_toArray, List.set_cons_zero, List.set_cons_succ]
  refine wpAnyH_take (i := 2) (oi := ?zao2) (v := ?zav2) ?zah2 (by kernel_rfl) (by kernel_rfl) (by kernel_rfl) ?zaq2 ?zay2 hHeld ?zar2
  case zah2 => (simp only [List.getElem?_toArray, List.getElem?_cons_succ, List.getElem?_cons_zero]; rfl)
  case zaq2 => exact fun _ _ _ h => h
  case zay2 => (refine Or.inl ⟨by first | kernel_rfl | rfl, ?_⟩; intro w hSw; (try dsimp only at hSw); go_simp <;> (try with_reducible rfl))
  try simp only [Act.put, List.setIfInBounds_toArray, List.set_cons_zero, List.set_cons_succ]
  refine wpAnyH_take (i := 3) (oi := ?zao3) (v := ?zav3) ?zah3 (by kernel_rfl) (by kernel_rfl) (by kernel_rfl) ?zaq3 ?zay3 hHeld ?zar3
  case zah3 => (simp only [List.getElem?_toArray, List.getElem?_cons_succ, List.getElem?_cons_zero]; rfl)
  case zaq3 => exact fun _ _ _ h => h
  case zay3 => (refine Or.inl ⟨by first | kernel_rfl | rfl, ?_⟩; intro w hSw; (try dsimp only at hSw); go_simp <;> (try with_reducible rfl))
  try simp only [Act.put, List.setIfInBounds_toArray, List.set_cons_zero, List.set_cons_succ]
  refine wpAnyH_take (i := 4) (oi := ?zao4) (v := ?zav4) ?zah4 (by kernel_rfl) (by kernel_rfl) (by kernel_rfl) ?zaq4 ?zay4 hHeld ?zar4
  case zah4 => (simp only [List.getElem?_toArray, List.getElem?_cons_succ, List.getElem?_cons_zero]; rfl)
  case zaq4 => exact fun _ _ _ h => h
  case zay4 => (refine Or.inl ⟨by first | kernel_rfl | rfl, ?_⟩; intro w hSw; (try dsimp only at hSw); go_simp <;> (try with_reducible rfl))
  try simp only [Act.put, List.setIfInBounds_toArray, List.set_cons_zero, List.set_cons_succ]
  refine wpAnyH_take (i := 5) (oi := ?zao5) (v := ?zav5) ?zah5 (by kernel_rfl) (by kernel_rfl) (by kernel_rfl) ?zaq5 ?zay5 hHeld ?zar5
  case zah5 => (simp only [List.getElem?_toArray, List.getElem?_cons_succ, List.getElem?_cons_zero]; rfl)
  case zaq5 => exact fun _ _ _ h => h
  case zay5 => (refine Or.inl ⟨by first | kernel_rfl | rfl, ?_⟩; intro w hSw; (try dsimp only at hSw); go_simp <;> (try with_reducible rfl))
  try simp only [Act.put, List.setIfInBounds_toArray, List.set_cons_zero, List.set_cons_succ]
  refine wpAnyH_take (i := 6) (oi := ?zao6) (v := ?zav6) ?zah6 (by kernel_rfl) (by kernel_rfl) (by kernel_rfl) ?zaq6 ?zay6 hHeld ?zar6
  case zah6 => (simp only [List.getElem?_toArray, List.getElem?_cons_succ, List.getElem?_cons_zero]; rfl)
  case zaq6 => exact fun _ _ _ h => h
  case zay6 => (refine Or.inl ⟨by first | kernel_rfl | rfl, ?_⟩; intro w hSw; (try dsimp only at hSw); go_simp <;> (try with_reducible rfl))
  try simp only [Act.put, List.setIfInBounds_toArray, List.set_cons_zero, List.set_cons_succ]
  refine wpAnyH_take (i := 7) (oi := ?zao7) (v := ?zav7) ?zah7 (by kernel_rfl) (by kernel_rfl) (by kernel_rfl) ?zaq7 ?zay7 hHeld ?zar7
  case zah7 => (simp only [List.getElem?_toArray, List.getElem?_cons_succ, List.getElem?_cons_zero]; rfl)
  case zaq7 => exact fun _ _ _ h => h
  case zay7 => (refine Or.inl ⟨by first | kernel_rfl | rfl, ?_⟩; intro w hSw; (try dsimp only at hSw); go_simp <;> (try with_reducible rfl))
  try simp only [Act.put, List.setIfInBounds_toArray, List.set_cons_zero, List.set_cons_succ]
  refine wpAnyH_ready (rs := [8]) (by kernel_rfl) (by simp) ?_
  refine AllReadyH.cons rfl (fun K hK => ?_) AllReadyH.nil
  go_simp
  ((with_reducible refine (hk _).mono ?_); rintro e w' ⟨rfl, hb'⟩)
  refine hK.out _ _ (rb_keep hb' hHeld) (fun hHeld => ?_)
  clear hK K
  try simp only [Act.put, List.setIfInBounds_toArray, List.set_cons_zero, List.set_cons_succ]
  refine wpAnyH_take (i := 9) (oi := ?zao9) (v := ?zav9) ?zah9 (by kernel_rfl) (by kernel_rfl) (by kernel_rfl) ?zaq9 ?zay9 hHeld ?zar9
  case zah9 => (simp only [List.getElem?_toArray, List.getElem?_cons_succ, List.getElem?_cons_zero]; rfl)
  case zaq9 => exact fun _ _ _ h => h
  case zay9 => (refine Or.inl ⟨by first | kernel_rfl | rfl, ?_⟩; intro w hSw; (try dsimp only at hSw); go_simp <;> (try with_reducible rfl))
  try simp only [Act.put, List.setIfInBounds_toArray, List.set_cons_zero, List.set_cons_succ]
  refine wpAnyH_take (i := 10) (oi := ?zao10) (v := ?zav10) ?zah10 (by kernel_rfl) (by kernel_rfl) (by kernel_rfl) ?zaq10 ?zay10 hHeld ?zar10
  case zah10 => (simp only [List.getElem?_toArray, List.getElem?_cons_succ, List.getElem?_cons_zero]; rfl)
  case zaq10 => exact fun _ _ _ h => h
  case zay10 => (refine Or.inl ⟨by first | kernel_rfl | rfl, ?_⟩; intro w hSw; (try dsimp only at hSw); go_simp <;> (try with_reducible rfl))
  try simp only [Act.put, List.setIfInBounds_toArray, List.set_cons_zero, List.set_cons_succ]
  refine wpAnyH_take (i := 11) (oi := ?zao11) (v := ?zav11) ?zah11 (by kernel_rfl) (by kernel_rfl) (by kernel_rfl) ?zaq11 ?zay11 hHeld ?zar11
  case zah11 => (simp only [List.getElem?_toArray, List.getElem?_cons_succ, List.getElem?_cons_zero]; rfl)
  case zaq11 => exact fun _ _ _ h => h
  case zay11 => (refine Or.inl ⟨by first | kernel_rfl | rfl, ?_⟩; intro w hSw; (try dsimp only at hSw); go_simp <;> (try with_reducible rfl))
  try simp only [Act.put, List.setIfInBounds_toArray, List.set_cons_zero, List.set_cons_succ]
  refine wpAnyH_take (i := 12) (oi := ?zao12) (v := ?zav12) ?zah12 (by kernel_rfl) (by kernel_rfl) (by kernel_rfl) ?zaq12 ?zay12 hHeld ?zar12
  case zah12 => (simp only [List.getElem?_toArray, List.getElem?_cons_succ, List.getElem?_cons_zero]; rfl)
  case zaq12 => exact fun _ _ _ h => h
  case zay12 => (refine Or.inl ⟨by first | kernel_rfl | rfl, ?_⟩; intro w hSw; (try dsimp only at hSw); go_simp <;> (try with_reducible rfl))
  try simp only [Act.put, List.setIfInBounds_toArray, List.set_cons_zero, List.set_cons_succ]
  refine wpAnyH_take (i := 13) (oi := ?zao13) (v := ?zav13) ?zah13 (by kernel_rfl) (by kernel_rfl) (by kernel_rfl) ?zaq13 ?zay13 hHeld ?zar13
  case zah13 => (simp only [List.getElem?_toArray, List.getElem?_cons_succ, List.getElem?_cons_zero]; rfl)
  case zaq13 => exact fun _ _ _ h => h
  case zay13 => (refine Or.inl ⟨by first | kernel_rfl | rfl, ?_⟩; intro w hSw; (try dsimp only at hSw); go_simp <;> (try with_reducible rfl))
  try simp only [Act.put, List.setIfInBounds_toArray, List.set_cons_zero, List.set_cons_succ]
  refine wpAnyH_take (i := 14) (oi := ?zao14) (v := ?zav14) ?zah14 (by kernel_rfl) (by kernel_rfl) (by kernel_rfl) ?zaq14 ?zay14 hHeld ?zar14
  case zah14 => (simp only [List.getElem?_toArray, List.getElem?_cons_succ, List.getElem?_cons_zero]; rfl)
  case zaq14 => exact fun _ _ _ h => h
  case zay14 => (refine Or.inl ⟨by first | kernel_rfl | rfl, ?_⟩; intro w hSw; (try dsimp only at hSw); go_simp <;> (try with_reducible rfl))
  try simp only [Act.put, List.setIfInBounds_toArray, List.set_cons_zero, List.set_cons_succ]
  refine wpAnyH_take (i := 15) (oi := ?zao15) (v := ?zav15) ?zah15 (by kernel_rfl) (by kernel_rfl) (by kernel_rfl) ?zaq15 ?zay15 hHeld ?zar15
  case zah15 => (simp only [List.getElem?_toArray, List.getElem?_cons_succ, List.getElem?_cons_zero]; rfl)
  case zaq15 => exact fun _ _ _ h => h
  case zay15 => (refine Or.inl ⟨by first | kernel_rfl | rfl, ?_⟩; intro w hSw; (try dsimp only at hSw); go_simp <;> (try with_reducible rfl))
  try simp only [Act.put, List.setIfInBounds_toArray, List.set_cons_zero, List.set_cons_succ]
  refine wpAnyH_done (by kernel_rfl) ?_ _
  obtain ⟨c0, c1, c2, f0, f1, f2, hbel⟩ := hHeld
  go_wp2
  go_ret
  exact ⟨rfl, ⟨by simp [go_sem, c0], by simp [go_sem, c1], by simp [go_sem, c2], by simp [go_sem, f0], by simp [go_sem, f1], by simp [go_sem, f2]⟩, (But.of hbel).setCell _ _⟩
set_option maxHeartbeats 2000000 in
theorem rnum_none (d a : Nat) (S : ByteArray) (w : World) (hs : S.size ≤ 100000) (ha : a ≤ S.size) (hg : Hid (getR S.data.toList (a : Int) = (0, 0, 10))) (h : RB w d S a false) :
    Calls Try.prog 89 #[.pointer (some ⟨d, 0, none⟩)] w (RTook d (.int .u64 0) S a true w) := by
  have hk := fun w => refGet_is S (a : Int) 0 0 10 w (by unfold maxLen; omega) (by omega) (by omega) hg
  clear hg
  obtain ⟨c0, c1, c2, f0, f1, f2⟩ := h
  go_enter Try.func89, Try.ntmps89
  go_wp2_with fail
  refine wp_region_held_drew (S := (fun w' => w'.cell? ⟨d, 0, none⟩ = some (.string S) ∧ w'.cell? ⟨d, 1, none⟩ = some (.int .i64 (a : Int)) ∧ w'.cell? ⟨d, 2, none⟩ = some (.bool false) ∧ w'.frozen? ⟨d, 0, none⟩ = false ∧ w'.frozen? ⟨d, 1, none⟩ = false ∧ w'.frozen? ⟨d, 2, none⟩ = false ∧ Below w.heap.size w w')) (by kernel_rfl) ⟨c0, c1, c2, f0, f1, f2, (Below.refl _ _).drew⟩ (fun hHeld => ?_)
  refine wpAnyH_take (i := 0) (oi := ?zbo0) (v := ?zbv0) ?zbh0 (by kernel_rfl) (by kernel_rfl) (by kernel_rfl) ?zbq0 ?zby0 hHeld ?zbr0
  case zbh0 => (simp only [List.getElem?_toArray, List.getElem?_cons_zero]; rfl)
  case zbq0 => exact fun _ _ _ h => h
  case zby0 => (refine Or.inl ⟨by first | kernel_rfl | rfl, ?_⟩; intro w hSw; (try dsimp only at hSw); go_simp <;> (try with_reducible rfl))
  try simp only [Act.put, List.setIfInBounds_toArray, List.set_cons_zero, List.set_cons_succ]
  refine wpAnyH_take (i := 1) (oi := ?zbo1) (v := ?zbv1) ?zbh1 (by kernel_rfl) (by kernel_rfl) (by kernel_rfl) ?zbq1 ?zby1 hHeld ?zbr1
  case zbh1 => (simp only [List.getElem?_toArray, List.getElem?_cons_succ, List.getElem?_cons_zero]; rfl)
  case zbq1 => exact fun _ _ _ h => h
  case zby1 => (refine Or.inl ⟨by first | kernel_rfl | rfl, ?_⟩; intro w hSw; (try dsimp only at hSw); go_simp <;> (try with_reducible rfl))
  try simp only [Act.put, List.setIfInBounds_toArray, List.set_cons_zero, List.set_cons_succ]
  refine wpAnyH_take (i := 2) (oi := ?zbo2) (v := ?zbv2) ?zbh2 (by kernel_rfl) (by kernel_rfl) (by kernel_rfl) ?zbq2 ?zby2 hHeld ?zbr2
  case zbh2 => (simp only [List.getElem?_toArray, List.getElem?_cons_succ, List.getElem?_cons_zero]; rfl)
  case zbq2 => exact fun _ _ _ h => h
  case zby2 => (refine Or.inl ⟨by first | kernel_rfl | rfl, ?_⟩; intro w hSw; (try dsimp only at hSw); go_simp <;> (try with_reducible rfl))
  try simp only [Act.put, List.setIfInBounds_toArray, List.set_cons_zero, List.set_cons_succ]
  refine wpAnyH_take (i := 3) (oi := ?zbo3) (v := ?zbv3) ?zbh3 (by kernel_rfl) (by kernel_rfl) (by kernel_rfl) ?zbq3 ?zby3 hHeld ?zbr3
  case zbh3 => (simp only [List.getElem?_toArray, List.getElem?_cons_succ, List.getElem?_cons_zero]; rfl)
  case zbq3 => exact fun _ _ _ h => h
  case zby3 => (refine Or.inl ⟨by first | kernel_rfl | rfl, ?_⟩; intro w hSw; (try dsimp only at hSw); go_simp <;> (try with_reducible rfl))
  try simp only [Act.put, List.setIfInBounds_toArray, List.set_cons_zero, List.set_cons_succ]
  refine wpAnyH_take (i := 4) (oi := ?zbo4) (v := ?zbv4) ?zbh4 (by kernel_rfl) (by kernel_rfl) (by kernel_rfl) ?zbq4 ?zby4 hHeld ?zbr4
  case zbh4 => (simp only [List.getElem?_toArray, List.getElem?_cons_succ, List.getElem?_cons_zero]; rfl)
  case zbq4 => exact fun _ _ _ h => h
  case zby4 => (refine Or.inl ⟨by first | kernel_rfl | rfl, ?_⟩; intro w hSw; (try dsimp only at hSw); go_simp <;> (try with_reducible rfl))
  try simp only [Act.put, List.setIfInBounds_toArray, List.set_cons_zero, List.set_cons_succ]
  refine wpAnyH_take (i := 5) (oi := ?zbo5) (v := ?zbv5) ?zbh5 (by kernel_rfl) (by kernel_rfl) (by kernel_rfl) ?zbq5 ?zby5 hHeld ?zbr5
  case zbh5 => (simp only [List.getElem?_toArray, List.getElem?_cons_succ, List.getElem?_cons_zero]; rfl)
  case zbq5 => exact fun _ _ _ h => h
  case zby5 => (refine Or.inl ⟨by first | kernel_rfl | rfl, ?_⟩; intro w hSw; (try dsimp only at hSw); go_simp <;> (try with_reducible rfl))
  try simp only [Act.put, List.setIfInBounds_toArray, List.set_cons_zero, List.set_cons_succ]
  refine wpAnyH_take (i := 6) (oi := ?zbo6) (v := ?zbv6) ?zbh6 (by kernel_rfl) (by kernel_rfl) (by kernel_rfl) ?zbq6 ?zby6 hHeld ?zbr6
  case zbh6 => (simp only [List.getElem?_toArray, List.getElem?_cons_succ, List.getElem?_cons_zero]; rfl)
  case zbq6 => exact fun _ _ _ h => h
  case zby6 => (refine Or.inl ⟨by first | kernel_rfl | rfl, ?_⟩; intro w hSw; (try dsimp only at hSw); go_simp <;> (try with_reducible rfl))
  try simp only [Act.put, List.setIfInBounds_toArray, List.set_cons_zero, List.set_cons_succ]
  refine wpAnyH_take (i := 7) (oi := ?zbo7) (v := ?zbv7) ?zbh7 (by kernel_rfl) (by kernel_rfl) (by kernel_rfl) ?zbq7 ?zby7 hHeld ?zbr7
  case zbh7 => (simp only [List.getElem?_toArray, List.getElem?_cons_succ, List.getElem?_cons_zero]; rfl)
  case zbq7 => exact fun _ _ _ h => h
  case zby7 => (refine Or.inl ⟨by first | kernel_rfl | rfl, ?_⟩; intro w hSw; (try dsimp only at hSw); go_simp <;> (try with_reducible rfl))
  try simp only [Act.put, List.setIfInBounds_toArray, List.set_cons_zero, List.set_cons_succ]
  refine wpAnyH_ready (rs := [8]) (by kernel_rfl) (by simp) ?_
  refine AllReadyH.cons rfl (fun K hK => ?_) AllReadyH.nil
  go_simp
  ((with_reducible refine (hk _).mono ?_); rintro e w' ⟨rfl, hb'⟩)
  refine hK.out _ _ (rb_keep hb' hHeld) (fun hHeld => ?_)
  clear hK K
  try simp only [Act.put, List.setIfInBounds_toArray, List.set_cons_zero, List.set_cons_succ]
  refine wpAnyH_take (i := 9) (oi := ?zbo9) (v := ?zbv9) ?zbh9 (by kernel_rfl) (by kernel_rfl) (by kernel_rfl) ?zbq9 ?zby9 hHeld ?zbr9
  case zbh9 => (simp only [List.getElem?_toArray, List.getElem?_cons_succ, List.getElem?_cons_zero]; rfl)
  case zbq9 => exact fun _ _ _ h => h
  case zby9 => (refine Or.inl ⟨by first | kernel_rfl | rfl, ?_⟩; intro w hSw; (try dsimp only at hSw); go_simp <;> (try with_reducible rfl))
  try simp only [Act.put, List.setIfInBounds_toArray, List.set_cons_zero, List.set_cons_succ]
  refine wpAnyH_take (i := 10) (oi := ?zbo10) (v := ?zbv10) ?zbh10 (by kernel_rfl) (by kernel_rfl) (by kernel_rfl) ?zbq10 ?zby10 hHeld ?zbr10
  case zbh10 => (simp only [List.getElem?_toArray, List.getElem?_cons_succ, List.getElem?_cons_zero]; rfl)
  case zbq10 => exact fun _ _ _ h => h
  case zby10 => (refine Or.inl ⟨by first | kernel_rfl | rfl, ?_⟩; intro w hSw; (try dsimp only at hSw); go_simp <;> (try with_reducible rfl))
  try simp only [Act.put, List.setIfInBounds_toArray, List.set_cons_zero, List.set_cons_succ]
  refine wpAnyH_take (i := 11) (oi := ?zbo11) (v := ?zbv11) ?zbh11 (by kernel_rfl) (by kernel_rfl) (by kernel_rfl) ?zbq11 ?zby11 hHeld ?zbr11
  case zbh11 => (simp only [List.getElem?_toArray, List.getElem?_cons_succ, List.getElem?_cons_zero]; rfl)
  case zbq11 => exact fun _ _ _ h => h
  case zby11 => (refine Or.inl ⟨by first | kernel_rfl | rfl, ?_⟩; intro w hSw; (try dsimp only at hSw); go_simp <;> (try with_reducible rfl))
  try simp only [Act.put, List.setIfInBounds_toArray, List.set_cons_zero, List.set_cons_succ]
  refine wpAnyH_take (i := 12) (oi := ?zbo12) (v := ?zbv12) ?zbh12 (by kernel_rfl) (by kernel_rfl) (by kernel_rfl) ?zbq12 ?zby12 hHeld ?zbr12
  case zbh12 => (simp only [List.getElem?_toArray, List.getElem?_cons_succ, List.getElem?_cons_zero]; rfl)
  case zbq12 => exact fun _ _ _ h => h
  case zby12 => (refine Or.inl ⟨by first | kernel_rfl | rfl, ?_⟩; intro w hSw; (try dsimp only at hSw); go_simp <;> (try with_reducible rfl))
  try simp only [Act.put, List.setIfInBounds_toArray, List.set_cons_zero, List.set_cons_succ]
  refine wpAnyH_take (i := 13) (oi := ?zbo13) (v := ?zbv13) ?zbh13 (by kernel_rfl) (by kernel_rfl) (by kernel_rfl) ?zbq13 ?zby13 hHeld ?zbr13
  case zbh13 => (simp only [List.getElem?_toArray, List.getElem?_cons_succ, List.getElem?_cons_zero]; rfl)
  case zbq13 => exact fun _ _ _ h => h
  case zby13 => (refine Or.inl ⟨by first | kernel_rfl | rfl, ?_⟩; intro w hSw; (try dsimp only at hSw); go_simp <;> (try with_reducible rfl))
  try simp only [Act.put, List.setIfInBounds_toArray, List.set_cons_zero, List.set_cons_succ]
  refine wpAnyH_take (i := 14) (oi := ?zbo14) (v := ?zbv14) ?zbh14 (by kernel_rfl) (by kernel_rfl) (by kernel_rfl) ?zbq14 ?zby14 hHeld ?zbr14
  case zbh14 => (simp only [List.getElem?_toArray, List.getElem?_cons_succ, List.getElem?_cons_zero]; rfl)
  case zbq14 => exact fun _ _ _ h => h
  case zby14 => (refine Or.inl ⟨by first | kernel_rfl | rfl, ?_⟩; intro w hSw; (try dsimp only at hSw); go_simp <;> (try with_reducible rfl))
  try simp only [Act.put, List.setIfInBounds_toArray, List.set_cons_zero, List.set_cons_succ]
  refine wpAnyH_take (i := 15) (oi := ?zbo15) (v := ?zbv15) ?zbh15 (by kernel_rfl) (by kernel_rfl) (by kernel_rfl) ?zbq15 ?zby15 hHeld ?zbr15
  case zbh15 => (simp only [List.getElem?_toArray, List.getElem?_cons_succ, List.getElem?_cons_zero]; rfl)
  case zbq15 => exact fun _ _ _ h => h
  case zby15 => (refine Or.inl ⟨by first | kernel_rfl | rfl, ?_⟩; intro w hSw; (try dsimp only at hSw); go_simp <;> (try with_reducible rfl))
  try simp only [Act.put, List.setIfInBounds_toArray, List.set_cons_zero, List.set_cons_succ]
  refine wpAnyH_done (by kernel_rfl) ?_ _
  obtain ⟨c0, c1, c2, f0, f1, f2, hbel⟩ := hHeld
  go_wp2
  go_ret
  exact ⟨rfl, ⟨by simp [go_sem, c0], by simp [go_sem, c1], by simp [go_sem, c2], by simp [go_sem, f0], by simp [go_sem, f1], by simp [go_sem, f2]⟩, (But.of hbel).setCell _ _⟩
set_option maxHeartbeats 2000000 in
theorem rnum_some (d a q : Nat) (v : Int) (S : ByteArray) (w : World) (hs : S.size ≤ 100000) (ha : a ≤ S.size) (hg : Hid (getR S.data.toList (a : Int) = (v, (q : Int), 0))) (h : RB w d S a false) :
    Calls Try.prog 89 #[.pointer (some ⟨d, 0, none⟩)] w (RTook d (.int .u64 v) S q false w) := by
  have hk := fun w => refGet_is S (a : Int) v q 0 w (by unfold maxLen; omega) (by omega) (by omega) hg
  clear hg
  obtain ⟨c0, c1, c2, f0, f1, f2⟩ := h
  go_enter Try.func89, Try.ntmps89
  go_wp2_with fail
  refine wp_region_held_drew (S := (fun w' => w'.cell? ⟨d, 0, none⟩ = some (.string S) ∧ w'.cell? ⟨d, 1, none⟩ = some (.int .i64 (a : Int)) ∧ w'.cell? ⟨d, 2, none⟩ = some (.bool false) ∧ w'.frozen? ⟨d, 0, none⟩ = false ∧ w'.frozen? ⟨d, 1, none⟩ = false ∧ w'.frozen? ⟨d, 2, none⟩ = false ∧ Below w.heap.size w w')) (by kernel_rfl) ⟨c0, c1, c2, f0, f1, f2, (Below.refl _ _).drew⟩ (fun hHeld => ?_)
  refine wpAnyH_take (i := 0) (oi := ?zco0) (v := ?zcv0) ?zch0 (by kernel_rfl) (by kernel_rfl) (by kernel_rfl) ?zcq0 ?zcy0 hHeld ?zcr0
  case zch0 => (simp only [List.getElem?_toArray, List.getElem?_cons_zero]; rfl)
  case zcq0 => exact fun _ _ _ h => h
  case zcy0 => (refine Or.inl ⟨by first | kernel_rfl | rfl, ?_⟩; intro w hSw; (try dsimp only at hSw); go_simp <;> (try with_reducible rfl))
  try simp only [Act.put, List.setIfInBounds_toArray, List.set_cons_zero, List.set_cons_succ]
  refine wpAnyH_take (i := 1) (oi := ?zco1) (v := ?zcv1) ?zch1 (by kernel_rfl) (by kernel_rfl) (by kernel_rfl) ?zcq1 ?zcy1 hHeld ?zcr1
  case zch1 => (simp only [List.getElem?_toArray, List.getElem?_cons_succ, List.getElem?_cons_zero]; rfl)
  case zcq1 => exact fun _ _ _ h => h
  case zcy1 => (refine Or.inl ⟨by first | kernel_rfl | rfl, ?_⟩; intro w hSw; (try dsimp only at hSw); go_simp <;> (try with_reducible rfl))
  try simp only [Act.put, List.setIfInBounds_toArray, List.set_cons_zero, List.set_cons_succ]
  refine wpAnyH_take (i := 2) (oi := ?zco2) (v := ?zcv2) ?zch2 (by kernel_rfl) (by kernel_rfl) (by kernel_rfl) ?zcq2 ?zcy2 hHeld ?zcr2
  case zch2 => (simp only [List.getElem?_toArray, List.getElem?_cons_succ, List.getElem?_cons_zero]; rfl)
  case zcq2 => exact fun _ _ _ h => h
  case zcy2 => (refine Or.inl ⟨by first | kernel_rfl | rfl, ?_⟩; intro w hSw; (try dsimp only at hSw); go_simp <;> (try with_reducible rfl))
  try simp only [Act.put, List.setIfInBounds_toArray, List.set_cons_zero, List.set_cons_succ]
  refine wpAnyH_take (i := 3) (oi := ?zco3) (v := ?zcv3) ?zch3 (by kernel_rfl) (by kernel_rfl) (by kernel_rfl) ?zcq3 ?zcy3 hHeld ?zcr3
  case zch3 => (simp only [List.getElem?_toArray, List.getElem?_cons_succ, List.getElem?_cons_zero]; rfl)
  case zcq3 => exact fun _ _ _ h => h
  case zcy3 => (refine Or.inl ⟨by first | kernel_rfl | rfl, ?_⟩; intro w hSw; (try dsimp only at hSw); go_simp <;> (try with_reducible rfl))
  try simp only [Act.put, List.setIfInBounds_toArray, List.set_cons_zero, List.set_cons_succ]
  refine wpAnyH_take (i := 4) (oi := ?zco4) (v := ?zcv4) ?zch4 (by kernel_rfl) (by kernel_rfl) (by kernel_rfl) ?zcq4 ?zcy4 hHeld ?zcr4
  case zch4 => (simp only [List.getElem?_toArray, List.getElem?_cons_succ, List.getElem?_cons_zero]; rfl)
  case zcq4 => exact fun _ _ _ h => h
  case zcy4 => (refine Or.inl ⟨by first | kernel_rfl | rfl, ?_⟩; intro w hSw; (try dsimp only at hSw); go_simp <;> (try with_reducible rfl))
  try simp only [Act.put, List.setIfInBounds_toArray, List.set_cons_zero, List.set_cons_succ]
  refine wpAnyH_take (i := 5) (oi := ?zco5) (v := ?zcv5) ?zch5 (by kernel_rfl) (by kernel_rfl) (by kernel_rfl) ?zcq5 ?zcy5 hHeld ?zcr5
  case zch5 => (simp only [List.getElem?_toArray, List.getElem?_cons_succ, List.getElem?_cons_zero]; rfl)
  case zcq5 => exact fun _ _ _ h => h
  case zcy5 => (refine Or.inl ⟨by first | kernel_rfl | rfl, ?_⟩; intro w hSw; (try dsimp only at hSw); go_simp <;> (try with_reducible rfl))
  try simp only [Act.put, List.setIfInBounds_toArray, List.set_cons_zero, List.set_cons_succ]
  refine wpAnyH_take (i := 6) (oi := ?zco6) (v := ?zcv6) ?zch6 (by kernel_rfl) (by kernel_rfl) (by kernel_rfl) ?zcq6 ?zcy6 hHeld ?zcr6
  case zch6 => (simp only [List.getElem?_toArray, List.getElem?_cons_succ, List.getElem?_cons_zero]; rfl)
  case zcq6 => exact fun _ _ _ h => h
  case zcy6 => (refine Or.inl ⟨by first | kernel_rfl | rfl, ?_⟩; intro w hSw; (try dsimp only at hSw); go_simp <;> (try with_reducible rfl))
  try simp only [Act.put, List.setIfInBounds_toArray, List.set_cons_zero, List.set_cons_succ]
  refine wpAnyH_take (i := 7) (oi := ?zco7) (v := ?zcv7) ?zch7 (by kernel_rfl) (by kernel_rfl) (by kernel_rfl) ?zcq7 ?zcy7 hHeld ?zcr7
  case zch7 => (simp only [List.getElem?_toArray, List.getElem?_cons_succ, List.getElem?_cons_zero]; rfl)
  case zcq7 => exact fun _ _ _ h => h
  case zcy7 => (refine Or.inl ⟨by first | kernel_rfl | rfl, ?_⟩; intro w hSw; (try dsimp only at hSw); go_simp <;> (try with_reducible rfl))
  try simp only [Act.put, List.setIfInBounds_toArray, List.set_cons_zero, List.set_cons_succ]
  refine wpAnyH_ready (rs := [8]) (by kernel_rfl) (by simp) ?_
  refine AllReadyH.cons rfl (fun K hK => ?_) AllReadyH.nil
  go_simp
  ((with_reducible refine (hk _).mono ?_); rintro e w' ⟨rfl, hb'⟩)
  refine hK.out _ _ (rb_keep hb' hHeld) (fun hHeld => ?_)
  clear hK K
  try simp only [Act.put, List.setIfInBounds_toArray, List.set_cons_zero, List.set_cons_succ]
  refine wpAnyH_take (i := 9) (oi := ?zco9) (v := ?zcv9) ?zch9 (by kernel_rfl) (by kernel_rfl) (by kernel_rfl) ?zcq9 ?zcy9 hHeld ?zcr9
  case zch9 => (simp only [List.getElem?_toArray, List.getElem?_cons_succ, List.getElem?_cons_zero]; rfl)
  case zcq9 => exact fun _ _ _ h => h
  case zcy9 => (refine Or.inl ⟨by first | kernel_rfl | rfl, ?_⟩; intro w hSw; (try dsimp only at hSw); go_simp <;> (try with_reducible rfl))
  try simp only [Act.put, List.setIfInBounds_toArray, List.set_cons_zero, List.set_cons_succ]
  refine wpAnyH_take (i := 10) (oi := ?zco10) (v := ?zcv10) ?zch10 (by kernel_rfl) (by kernel_rfl) (by kernel_rfl) ?zcq10 ?zcy10 hHeld ?zcr10
  case zch10 => (simp only [List.getElem?_toArray, List.getElem?_cons_succ, List.getElem?_cons_zero]; rfl)
  case zcq10 => exact fun _ _ _ h => h
  case zcy10 => (refine Or.inl ⟨by first | kernel_rfl | rfl, ?_⟩; intro w hSw; (try dsimp only at hSw); go_simp <;> (try with_reducible rfl))
  try simp only [Act.put, List.setIfInBounds_toArray, List.set_cons_zero, List.set_cons_succ]
  refine wpAnyH_take (i := 11) (oi := ?zco11) (v := ?zcv11) ?zch11 (by kernel_rfl) (by kernel_rfl) (by kernel_rfl) ?zcq11 ?zcy11 hHeld ?zcr11
  case zch11 => (simp only [List.getElem?_toArray, List.getElem?_cons_succ, List.getElem?_cons_zero]; rfl)
  case zcq11 => exact fun _ _ _ h => h
  case zcy11 => (refine Or.inl ⟨by first | kernel_rfl | rfl, ?_⟩; intro w hSw; (try dsimp only at hSw); go_simp <;> (try with_reducible rfl))
  try simp only [Act.put, List.setIfInBounds_toArray, List.set_cons_zero, List.set_cons_succ]
  refine wpAnyH_take (i := 12) (oi := ?zco12) (v := ?zcv12) ?zch12 (by kernel_rfl) (by kernel_rfl) (by kernel_rfl) ?zcq12 ?zcy12 hHeld ?zcr12
  case zch12 => (simp only [List.getElem?_toArray, List.getElem?_cons_succ, List.getElem?_cons_zero]; rfl)
  case zcq12 => exact fun _ _ _ h => h
  case zcy12 => (refine Or.inl ⟨by first | kernel_rfl | rfl, ?_⟩; intro w hSw; (try dsimp only at hSw); go_simp <;> (try with_reducible rfl))
  try simp only [Act.put, List.setIfInBounds_toArray, List.set_cons_zero, List.set_cons_succ]
  refine wpAnyH_take (i := 13) (oi := ?zco13) (v := ?zcv13) ?zch13 (by kernel_rfl) (by kernel_rfl) (by kernel_rfl) ?zcq13 ?zcy13 hHeld ?zcr13
  case zch13 => (simp only [List.getElem?_toArray, List.getElem?_cons_succ, List.getElem?_cons_zero]; rfl)
  case zcq13 => exact fun _ _ _ h => h
  case zcy13 => (refine Or.inl ⟨by first | kernel_rfl | rfl, ?_⟩; intro w hSw; (try dsimp only at hSw); go_simp <;> (try with_reducible rfl))
  try simp only [Act.put, List.setIfInBounds_toArray, List.set_cons_zero, List.set_cons_succ]
  refine wpAnyH_take (i := 14) (oi := ?zco14) (v := ?zcv14) ?zch14 (by kernel_rfl) (by kernel_rfl) (by kernel_rfl) ?zcq14 ?zcy14 hHeld ?zcr14
  case zch14 => (simp only [List.getElem?_toArray, List.getElem?_cons_succ, List.getElem?_cons_zero]; rfl)
  case zcq14 => exact fun _ _ _ h => h
  case zcy14 => (refine Or.inl ⟨by first | kernel_rfl | rfl, ?_⟩; intro w hSw; (try dsimp only at hSw); go_simp <;> (try with_reducible rfl))
  try simp only [Act.put, List.setIfInBounds_toArray, List.set_cons_zero, List.set_cons_succ]
  refine wpAnyH_take (i := 15) (oi := ?zco15) (v := ?zcv15) ?zch15 (by kernel_rfl) (by kernel_rfl) (by kernel_rfl) ?zcq15 ?zcy15 hHeld ?zcr15
  case zch15 => (simp only [List.getElem?_toArray, List.getElem?_cons_succ, List.getElem?_cons_zero]; rfl)
  case zcq15 => exact fun _ _ _ h => h
  case zcy15 => (refine Or.inl ⟨by first | kernel_rfl | rfl, ?_⟩; intro w hSw; (try dsimp only at hSw); go_simp <;> (try with_reducible rfl))
  try simp only [Act.put, List.setIfInBounds_toArray, List.set_cons_zero, List.set_cons_succ]
  refine wpAnyH_done (by kernel_rfl) ?_ _
  obtain ⟨c0, c1, c2, f0, f1, f2, hbel⟩ := hHeld
  go_wp2
  go_ret
  exact ⟨rfl, ⟨by simp [go_sem, c0], by simp [go_sem, c1], by simp [go_sem, c2], by simp [go_sem, f0], by simp [go_sem, f1], by simp [go_sem, f2]⟩, (But.of hbel).setCell _ _⟩
end Go.Proofs.Ytjckphmkhikpaaa
