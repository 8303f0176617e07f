/- The contracts of block's list (at points, at lists), of taken's closures, and of taken. -/
import Derived.Test.YtkomfenjeoaelaaDoorBlockTakeP
set_option maxRecDepth 20000
set_option linter.unusedSimpArgs false
set_option linter.unusedVariables false
namespace Go.Proofs.YtkomfenjeoaelaaDoor
open Go.RowKit Go.Proofs.YtkomfenjeoaelaaDoor.Vi Go.Proofs.YtkomfenjeoaelaaDoor.Mk

/-- The variables of taken: the reader's pointer, its methods, how many points may come still, the closure that says how many points come. -/
structure TC (w : World) (d zr zt zs zi L : Nat) : Prop where
  r : w.cell? ⟨zr, 0, none⟩ = some (.pointer (some ⟨d, 0, none⟩))
  t : w.cell? ⟨zt, 0, none⟩ = some (.func (.func 84) #[.pointer (some ⟨d, 0, none⟩)] #[])
  s : w.cell? ⟨zs, 0, none⟩ = some (.func (.func 85) #[.pointer (some ⟨d, 0, none⟩)] #[])
  i : w.cell? ⟨zi, 0, none⟩ = some (.func (.func 86) #[.pointer (some ⟨d, 0, none⟩)] #[])
  rd : zr ≠ d ∧ zr ≠ L
  td : zt ≠ d ∧ zt ≠ L
  sd : zs ≠ d ∧ zs ≠ L
  id : zi ≠ d ∧ zi ≠ L
theorem TC.butP {w w' : World} {d zr zt zs zi L : Nat} {P : Nat → Prop} (h : TC w d zr zt zs zi L) (k : ButP P w w') (hP : ∀ j, j < w.heap.size → P j → j = d ∨ j = L) : TC w' d zr zt zs zi L := by
  have f : ∀ j v, w.cell? ⟨j, 0, none⟩ = some v → j ≠ d ∧ j ≠ L → w'.cell? ⟨j, 0, none⟩ = some v := fun j v hv hn => (k.cell (p := ⟨j, 0, none⟩) (fun g => by rcases hP j (World.block_lt_of_cell? _ _ hv) g with e | e; exact hn.1 e; exact hn.2 e) (World.block_lt_of_cell? _ _ hv)).trans hv
  exact ⟨f _ _ h.r h.rd, f _ _ h.t h.td, f _ _ h.s h.sd, f _ _ h.i h.id, h.rd, h.td, h.sd, h.id⟩
/-- How many points may come still. -/
structure LfA (w : World) (d L : Nat) (n : Int) : Prop where
  c : w.cell? ⟨L, 0, none⟩ = some (.int .i64 n)
  f : w.frozen? ⟨L, 0, none⟩ = false
  ne : L ≠ d
theorem LfA.room {w : World} {d L : Nat} {n : Int} (h : LfA w d L n) : L < w.heap.size := World.block_lt_of_cell? _ _ h.c
theorem LfA.butP {w w' : World} {d L : Nat} {n : Int} {P : Nat → Prop} (h : LfA w d L n) (k : ButP P w w') (hP : ¬ P L) : LfA w' d L n := ⟨(k.cell (p := ⟨L, 0, none⟩) hP h.room).trans h.c, (k.frozen (p := ⟨L, 0, none⟩) hP h.room).trans h.f, h.ne⟩
/-- The closure that says how many points come, in terms of the frame. -/
theorem pointsP_is (d zs L : Nat) (r r' : ByteArray) (b b' : Bool) (v n : Int) (w : World) (hr : r.size ≤ 100000) (hn : 0 ≤ n ∧ n ≤ 3000) (H : Hid (smallQ r b n = (v, r', b'))) (hv : 0 ≤ v ∧ v ≤ n) (h : RA w d r b) (hz : w.cell? ⟨zs, 0, none⟩ = some (.func (.func 85) #[.pointer (some ⟨d, 0, none⟩)] #[]))
    (hL : LfA w d L n) : Calls Tryd.prog 88 #[.pointer (some ⟨zs, 0, none⟩), .pointer (some ⟨L, 0, none⟩)] w (fun e w' => e = .returned (.int .i64 v) ∧ RA w' d r' b' ∧ LfA w' d L (n - v) ∧ ButP (fun k => k = d ∨ k = L) w w') := by
  refine (pointsN_is d zs L r r' b b' v n w hr hn H hv h hz hL.c hL.f hL.ne hL.room).mono ?_
  rintro e w' ⟨rfl, w2, ⟨-, hR, hB⟩, rfl⟩
  have hc := hB.cell (p := ⟨L, 0, none⟩) hL.ne hL.room
  have hf := hB.frozen (p := ⟨L, 0, none⟩) hL.ne hL.room
  rw [hL.c] at hc
  rw [hL.f] at hf
  refine ⟨rfl, hR.other _ _ hL.ne, ⟨by simp [go_sem, hc], by simp [go_sem, hf], hL.ne⟩, ?_⟩
  exact ((ButP.refl _ w).but hB (Or.inl (Or.inl rfl))).setCell L 0 _ (Or.inl (Or.inr rfl))
/-- What stands while a series' points are read. -/
structure PL (w wr : World) (d x zr zs zi : Nat) (o : Value) (l : List Pt) (p : Pt) (r : ByteArray) (b : Bool) : Prop where
  row : PRow wr w.heap.size o l
  ra : RA wr d r b
  at_ : PtW wr x p
  bel : ButP (fun k => k = d ∨ k = x) w wr
  inv : b = true → r = ⟨#[]⟩
/-- What list answers for a series. -/
def PLDone (d x L : Nat) (n : Int) (l : List Pt) (r : ByteArray) (b : Bool) (w : World) (e : Ending) (w' : World) : Prop := ∃ v, e = .returned v ∧ PRow w' w.heap.size v l ∧ RA w' d r b ∧ LfA w' d L n ∧ ButP (fun k => k = d ∨ k = x ∨ k = L) w w'
set_option maxHeartbeats 8000000 in
theorem listb_is (d x zr zs zi L : Nat) (p : Pt) (n k : Int) (r r1 r2 : ByteArray) (b b1 b2 : Bool) (l : List Pt) (w : World) (hr : r.size ≤ 100000) (hn : 0 ≤ n ∧ n ≤ 3000) (H1 : Hid (smallQ r b n = (k, r1, b1))) (H2 : Hid (ptsF k.toNat p r1 b1 = (l, r2, b2))) (hi : b = true → r = ⟨#[]⟩) (hN : NeX d x zs zi zr) (hxL : x ≠ L ∧ zs ≠ L ∧ zi ≠ L ∧ zr ≠ L) (h : RA w d r b) (hp : PtW w x p)
    (hs : w.cell? ⟨zs, 0, none⟩ = some (.func (.func 85) #[.pointer (some ⟨d, 0, none⟩)] #[])) (hI : w.cell? ⟨zi, 0, none⟩ = some (.func (.func 86) #[.pointer (some ⟨d, 0, none⟩)] #[])) (hR : w.cell? ⟨zr, 0, none⟩ = some (.pointer (some ⟨d, 0, none⟩))) (hL : LfA w d L n) :
    Calls Tryd.prog 91 #[.func (.func 88) #[] #[.pointer (some ⟨zs, 0, none⟩), .pointer (some ⟨L, 0, none⟩)], .func (.func 92) #[] #[.pointer (some ⟨x, 0, none⟩), .pointer (some ⟨zs, 0, none⟩), .pointer (some ⟨zi, 0, none⟩), .pointer (some ⟨zr, 0, none⟩)]] w (PLDone d x L (n - k) l r2 b2 w) := by
  obtain ⟨hxL1, hsL, hiL, hrL⟩ := hxL
  have hv := smallQ_range H1.out hn.1
  obtain ⟨i1, -, j1⟩ := smallQ_inv H1.out hi
  obtain ⟨m, hm⟩ : ∃ m : Nat, k = (m : Int) := ⟨k.toNat, by omega⟩
  subst hm
  rw [Int.toNat_natCast] at H2
  have k1 := pointsP_is d zs L r r1 b b1 m n w hr hn H1 hv h hs hL
  have hm1 : m ≤ 3000 := by omega
  have hdw := h.room
  have hxw := hp.at_.room
  have HP := Lib.hid hp
  have HS := Lib.hid hs
  have HI := Lib.hid hI
  have HR := Lib.hid hR
  have HI1 := Lib.hid (fun e => (i1 e).1)
  clear hv i1 h hp hs hI hR hL H1 hn hi
  go_enter Tryd.func91, Tryd.ntmps91
  go_wp2_with (first
    | (go_at_call 88; (with_reducible refine k1.mono ?_); rintro e w1 ⟨rfl, hA1, hL1, hB1⟩; (have HL1 := Lib.hid hL1); (have HB1 := Lib.hid hB1); (have HA1 := Lib.hid hA1); clear hA1 hL1 hB1))
  have hPL : ∀ j, j < w.heap.size → (j = d ∨ j = x) → (j = d ∨ j = x ∨ j = L) := fun j _ e => by rcases e with e | e; exact Or.inl e; exact Or.inr (Or.inl e)
  have hxn : ¬ (x = d ∨ x = L) := by rintro (e | e); exact hN.xd e; exact hxL1 e
  have HPX := Lib.hid (show PtW w1 x p from HP.out.same (HB1.out.block x hxw hxn))
  have HS1 := Lib.hid ((HB1.out.cell (p := ⟨zs, 0, none⟩) (show ¬ (zs = d ∨ zs = L) by rintro (e | e); exact hN.sd e; exact hsL e) (World.block_lt_of_cell? _ _ HS.out)).trans HS.out)
  have HI2 := Lib.hid ((HB1.out.cell (p := ⟨zi, 0, none⟩) (show ¬ (zi = d ∨ zi = L) by rintro (e | e); exact hN.id e; exact hiL e) (World.block_lt_of_cell? _ _ HI.out)).trans HI.out)
  have HR1 := Lib.hid ((HB1.out.cell (p := ⟨zr, 0, none⟩) (show ¬ (zr = d ∨ zr = L) by rintro (e | e); exact hN.rd e; exact hrL e) (World.block_lt_of_cell? _ _ HR.out)).trans HR.out)
  have hw1 := HB1.out.size
  have R0 := Lib.hid (show PL w1 w1 d x zr zs zi (.slice none 0 0) [] p r1 b1 from ⟨PRow.nil _ _, HA1.out, HPX.out, ButP.refl _ _, HI1.out⟩)
  clear HPX HP HS HI HR HA1 HI1 k1 hxn
  go_loopw [5, 8] (fun o i wr => ∃ (j : Nat) (l' : List Pt) (p' : Pt) (r' : ByteArray) (b' : Bool) (a5 : Option Addr) (c5 : Nat), j ≤ m ∧ i = .int .i64 (j : Int) ∧ o = .slice a5 j c5 ∧ Hid (l'.length = j) ∧ r'.size ≤ 100000 ∧ PL w1 wr d x zr zs zi (.slice a5 j c5) l' p' r' b' ∧ Hid ((l' ++ (ptsF (m - j) p' r' b').1, (ptsF (m - j) p' r' b').2) = (l, r2, b2))) (fun _ i _ => m - (intOf i).toNat)
  case atStart => exact ⟨0, [], p, r1, b1, none, 0, by omega, rfl, rfl, Lib.hid rfl, by omega, R0.out, Lib.hid (by rw [Nat.sub_zero, H2.out]; rfl)⟩
  case round =>
    obtain ⟨j, l', p', r', b', a5, c5, hj, rfl, rfl, hlen, hr', R, HF⟩ := hrel
    clear R0
    by_cases hlt : j < m
    · have hlti : (j : Int) < (m : Int) := by omega
      obtain ⟨⟨q, r3, b3⟩, hq⟩ : ∃ y, ptB p' r' b' = y := ⟨_, rfl⟩
      obtain ⟨q1, q2, q3, q4⟩ := ptB_inv hq R.inv
      have hz1 := (R.bel.cell (p := ⟨zs, 0, none⟩) (show ¬ (zs = d ∨ zs = x) by rintro (e | e); exact hN.sd e; exact hN.sx e) (World.block_lt_of_cell? _ _ HS1.out)).trans HS1.out
      have hz2 := (R.bel.cell (p := ⟨zi, 0, none⟩) (show ¬ (zi = d ∨ zi = x) by rintro (e | e); exact hN.id e; exact hN.ix e) (World.block_lt_of_cell? _ _ HI2.out)).trans HI2.out
      have hz3 := (R.bel.cell (p := ⟨zr, 0, none⟩) (show ¬ (zr = d ∨ zr = x) by rintro (e | e); exact hN.rd e; exact hN.rx e) (World.block_lt_of_cell? _ _ HR1.out)).trans HR1.out
      have k2 := takeb_is d x zs zi zr p' q r' r3 b' b3 wr hr' (Lib.hid hq) R.inv hN R.ra R.at_ hz1 hz2 hz3
      have hnx : (l' ++ (ptsF (m - j) p' r' b').1, (ptsF (m - j) p' r' b').2) = ((l' ++ [q]) ++ (ptsF (m - (j + 1)) q r3 b3).1, (ptsF (m - (j + 1)) q r3 b3).2) := by
        rw [show m - j = (m - (j + 1)) + 1 by omega, ptsF_step hq]
        simp only [List.append_assoc, List.singleton_append]
      have HF2 := Lib.hid (hnx.symm.trans HF.out)
      have HINV := Lib.hid q1
      have HRR := Lib.hid R
      have hr3 : r3.size ≤ 100000 := by omega
      unfold ptV at k2
      clear hq q1 q2 q3 q4 hz1 hz2 hz3 hnx R HF
      go_wp2_with (first
        | (go_at_call 92; (with_reducible refine k2.mono ?_); rintro e w2 ⟨rfl, hA2, hP2, hB2⟩; (have HR2 := Lib.hid (show PL w1 w2 d x zr zs zi (.slice a5 j c5) l' q r3 b3 from ⟨HRR.out.row.butP hB2 (fun i e => by rcases e with rfl | rfl <;> omega), hA2, hP2, HRR.out.bel.trans hB2, HINV.out⟩)); clear hA2 hP2 hB2)
        | (at_builtin; refine wpList_appP (w := w2) rfl _ _ rfl w1.heap.size j (.slice a5 j c5) l' q w2.heap.size rfl rfl rfl hlen HR2.out.row (by omega) HR2.out.bel.size ?_))
      intro a6 c6 w6 hrow6 _ hb6 _
      have HR6 := Lib.hid (show PL w1 w6 d x zr zs zi (.slice a6 (j + 1) c6) (l' ++ [q]) q r3 b3 from ⟨hrow6.out, HR2.out.ra.farB hb6 (by omega), HR2.out.at_.farB12 hb6 (by omega), HR2.out.bel.ofB hb6 (Nat.le_refl _), HR2.out.inv⟩)
      clear hrow6 hb6 HR2
      go_wp2
      go_roundw
      case rel => exact ⟨j + 1, l' ++ [q], q, r3, b3, a6, c6, by omega, by go_num, rfl, Lib.hid (by rw [List.length_append, hlen.out]; rfl), hr3, HR6.out, HF2⟩
      case measure => simp [intOf]; omega
    · obtain rfl : j = m := by omega
      have hlt2 : ¬ (j : Int) < (j : Int) := by omega
      have hf := HF.out
      rw [Nat.sub_self, ptsF_zero, List.append_nil] at hf
      simp only [Prod.mk.injEq] at hf
      obtain ⟨rfl, rfl, rfl⟩ := hf
      have HR := Lib.hid R
      have hbel : ButP (fun k => k = d ∨ k = x ∨ k = L) w wr := ((ButP.refl _ w).next HB1.out (fun i _ e => by rcases e with e | e; exact Or.inl e; exact Or.inr (Or.inr e))).next R.bel hPL
      have HD := Lib.hid (show PLDone d x L (n - j) l' r' b' w (.returned (.slice a5 j c5)) wr from ⟨_, rfl, R.row.mono HB1.out.size, R.ra, HL1.out.butP R.bel (by rintro (e | e); exact HL1.out.ne e; exact hxL1 e.symm), hbel⟩)
      clear R hbel HR HL1 HB1
      go_wp2
      go_ret
      exact HD.out
end Go.Proofs.YtkomfenjeoaelaaDoor
