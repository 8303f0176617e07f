/- The contracts of taken's closure for a series, of list at lists, and of taken. -/
import Derived.Test.YtkomfenjeoaelaaDoorBlockTaken
set_option maxRecDepth 20000
set_option linter.unusedSimpArgs false
set_option linter.unusedVariables false
namespace Go.Proofs.YtkomfenjeoaelaaDoor
open Go.RowKit Go.Proofs.YtkomfenjeoaelaaDoor.Vi Go.Proofs.YtkomfenjeoaelaaDoor.Mk

theorem ButP.keep {P : Nat → Prop} {w w' : World} {j : Nat} {v : Value} (h : ButP P w w') (hv : w.cell? ⟨j, 0, none⟩ = some v) (hn : ¬ P j) : w'.cell? ⟨j, 0, none⟩ = some v := (h.cell (p := ⟨j, 0, none⟩) hn (World.block_lt_of_cell? _ _ hv)).trans hv
/-- What the closure for a series answers. -/
def SLDone (d L : Nat) (n : Int) (l : List Pt) (r : ByteArray) (b : Bool) (w : World) (e : Ending) (w' : World) : Prop := ∃ v, e = .returned v ∧ PRow w' w.heap.size v l ∧ RA w' d r b ∧ LfA w' d L n ∧ ButP (fun k => k = d ∨ k = L) w w'
set_option maxHeartbeats 8000000 in
theorem seriesB_is (d zr zt zs zi zp L : Nat) (n k : Int) (r r1 r2 r3 s : ByteArray) (b b1 b2 b3 : Bool) (l : List Pt) (w : World) (hr : r.size ≤ 100000) (hn : 0 ≤ n ∧ n ≤ 3000) (H0 : Hid (textQ r b = (s, r1, b1))) (H1 : Hid (smallQ r1 b1 n = (k, r2, b2))) (H2 : Hid (ptsF k.toNat ⟨s, 0, 0, ⟨0, 0, 0⟩⟩ r2 b2 = (l, r3, b3))) (hi : b = true → r = ⟨#[]⟩)
    (hC : TC w d zr zt zs zi L) (hzp : w.cell? ⟨zp, 0, none⟩ = some (.func (.func 88) #[] #[.pointer (some ⟨zs, 0, none⟩), .pointer (some ⟨L, 0, none⟩)])) (hzpn : zp ≠ d) (h : RA w d r b) (hL : LfA w d L n) :
    Calls Tryd.prog 90 #[.pointer (some ⟨zt, 0, none⟩), .pointer (some ⟨zp, 0, none⟩), .pointer (some ⟨zs, 0, none⟩), .pointer (some ⟨zi, 0, none⟩), .pointer (some ⟨zr, 0, none⟩)] w (SLDone d L (n - k) l r3 b3 w) := by
  have hmf := makeFunc_run
  obtain ⟨i1, j1, k1⟩ := text_inv6 H0.out hi
  have kt := fun w h => text_is' d r r1 b b1 s w hr H0 h
  have hdw := h.room
  have hLw := hL.room
  have hLd := hL.ne
  obtain ⟨hR, hT, hS, hI, hrd, htd, hsd, hid⟩ := hC
  have hrw := World.block_lt_of_cell? _ _ hR
  have hsw := World.block_lt_of_cell? _ _ hS
  have hiw := World.block_lt_of_cell? _ _ hI
  have hpw := World.block_lt_of_cell? _ _ hzp
  dsimp only at hrw hsw hiw hpw
  have HL := Lib.hid hL
  have HR := Lib.hid hR
  have HS := Lib.hid hS
  have HI := Lib.hid hI
  have HZ := Lib.hid hzp
  clear hR hS hI hL hzp hi H0
  go_enter Tryd.func90, Tryd.ntmps90
  go_wp2_with (first
    | (go_at_call 84; (with_reducible refine (kt _ h).mono ?_); rintro e w1 ⟨rfl, hA1, hB1⟩; (have hal := (Below.refl w1.heap.size w1).alloc (Nat.le_refl _) (.cells #[.string s, .int .i64 0, .int .i64 0, .int .i64 0, .int .i64 0, .int .i64 0] 32)); (have hw1 := hB1.size); (have hzp1 := (hal.cell (p := ⟨zp, 0, none⟩) (Nat.lt_of_lt_of_le hpw hw1)).trans ((hB1.cell (p := ⟨zp, 0, none⟩) hzpn hpw).trans HZ.out)); (have hs1 := (hal.cell (p := ⟨zs, 0, none⟩) (Nat.lt_of_lt_of_le hsw hw1)).trans ((hB1.cell (p := ⟨zs, 0, none⟩) hsd.1 hsw).trans HS.out)); (have hi1 := (hal.cell (p := ⟨zi, 0, none⟩) (Nat.lt_of_lt_of_le hiw hw1)).trans ((hB1.cell (p := ⟨zi, 0, none⟩) hid.1 hiw).trans HI.out)); (have hr1 := (hal.cell (p := ⟨zr, 0, none⟩) (Nat.lt_of_lt_of_le hrw hw1)).trans ((hB1.cell (p := ⟨zr, 0, none⟩) hrd.1 hrw).trans HR.out)); (have hbb : ButP (fun k => k = d ∨ k = L) w (w1.alloc (.cells #[.string s, .int .i64 0, .int .i64 0, .int .i64 0, .int .i64 0, .int .i64 0] 32)) := ((ButP.refl _ w).but hB1 (Or.inl (Or.inl rfl))).ofB hal hw1); (have hL1 : LfA (w1.alloc (.cells #[.string s, .int .i64 0, .int .i64 0, .int .i64 0, .int .i64 0, .int .i64 0] 32)) d L n := ⟨(hal.cell (p := ⟨L, 0, none⟩) (Nat.lt_of_lt_of_le hLw hw1)).trans ((hB1.cell (p := ⟨L, 0, none⟩) hLd hLw).trans HL.out.c), (hal.frozen (p := ⟨L, 0, none⟩) (Nat.lt_of_lt_of_le hLw hw1)).trans ((hB1.frozen (p := ⟨L, 0, none⟩) hLd hLw).trans HL.out.f), hLd⟩); (have kl := listb_is d w1.heap.size zr zs zi L ⟨s, 0, 0, ⟨0, 0, 0⟩⟩ n k r1 r2 r3 b1 b2 b3 l _ (by omega) hn H1 H2 i1 ⟨by omega, hsd.1, by omega, hid.1, by omega, hrd.1, by omega⟩ ⟨by omega, hsd.2, hid.2, hrd.2⟩ (hA1.below hal) (PtW.new w1 ⟨s, 0, 0, ⟨0, 0, 0⟩⟩) hs1 hi1 hr1 hL1); (have HBB := Lib.hid hbb); clear hA1 hB1 hal hbb hL1)
    | (go_at_call 91; (with_reducible refine kl.mono ?_); rintro e w2 ⟨v, rfl, hR2, hA2, hL2, hB2⟩))
  go_ret
  exact ⟨v, rfl, hR2.mono HBB.out.size, hA2, hL2, HBB.out.next hB2 (fun i hi e => by rcases e with e | e | e; exact Or.inl e; omega; exact Or.inr e)⟩

/-- What stands while series are read. -/
structure SL (w wr : World) (d L : Nat) (o : Value) (Ls : List (List Pt)) (n : Int) (r : ByteArray) (b : Bool) : Prop where
  row : LRow wr w.heap.size o Ls
  ra : RA wr d r b
  lf : LfA wr d L n
  bel : ButP (fun k => k = d ∨ k = L) w wr
  inv : b = true → r = ⟨#[]⟩
  n0 : 0 ≤ n ∧ n ≤ 3000
/-- What list answers for all series. -/
def LLDone (d L : Nat) (Ls : List (List Pt)) (w : World) (e : Ending) (w' : World) : Prop := ∃ a c, e = .returned (.slice a Ls.length c) ∧ LRow w' w.heap.size (.slice a Ls.length c) Ls ∧ ButP (fun k => k = d ∨ k = L) w w'
set_option maxHeartbeats 8000000 in
theorem lists_is (d zr zt zs zi zp L m : Nat) (r r1 : ByteArray) (b1 : Bool) (T : List (List Pt)) (w : World) (hr : r.size ≤ 100000) (hm1 : m ≤ 3000) (H1 : Hid (smallQ r false 3000 = ((m : Int), r1, b1))) (H2 : Hid ((serF m 3000 r1 b1).1 = T))
    (hC : TC w d zr zt zs zi L) (hzp : w.cell? ⟨zp, 0, none⟩ = some (.func (.func 88) #[] #[.pointer (some ⟨zs, 0, none⟩), .pointer (some ⟨L, 0, none⟩)])) (hzpn : zp ≠ d ∧ zp ≠ L) (h : RA w d r false) (hL : LfA w d L 3000) :
    Calls Tryd.prog 89 #[.func (.func 87) #[] #[.pointer (some ⟨zs, 0, none⟩)], .func (.func 90) #[] #[.pointer (some ⟨zt, 0, none⟩), .pointer (some ⟨zp, 0, none⟩), .pointer (some ⟨zs, 0, none⟩), .pointer (some ⟨zi, 0, none⟩), .pointer (some ⟨zr, 0, none⟩)]] w (LLDone d L T w) := by
  obtain ⟨i1, -, j1⟩ := smallQ_inv H1.out (fun e => by cases e)
  have k1 := seriesN_is d zs r r1 false b1 m w hr H1 h hC.s
  have hdw := h.room
  have hLw := hL.room
  have HC := Lib.hid hC
  have HZ := Lib.hid hzp
  have HL := Lib.hid hL
  have HI1 := Lib.hid (fun e => (i1 e).1)
  clear i1 hC hzp h hL H1
  go_enter Tryd.func89, Tryd.ntmps89
  go_wp2_with (first
    | (go_at_call 87; (with_reducible refine k1.mono ?_); rintro e w1 ⟨rfl, hA1, hB1⟩))
  have hb1 : ButP (fun k => k = d ∨ k = L) w w1 := (ButP.refl _ w).but hB1 (Or.inl (Or.inl rfl))
  have hw1 := hb1.size
  have HC1 := Lib.hid (HC.out.butP hb1 (fun _ _ e => e))
  have HZ1 := Lib.hid (hb1.keep HZ.out (by rintro (e | e); exact hzpn.1 e; exact hzpn.2 e))
  have hL1 : LfA w1 d L 3000 := HL.out.butP ((ButP.refl (fun k => k = d) w).but hB1 (Or.inl rfl)) (fun e => HL.out.ne e)
  have R0 := Lib.hid (show SL w1 w1 d L (.slice none 0 0) [] 3000 r1 b1 from ⟨LRow.nil _ _, hA1, hL1, ButP.refl _ _, HI1.out, by omega, by omega⟩)
  have HB1 := Lib.hid hb1
  clear hA1 hB1 hb1 hL1 HC HZ HL HI1 k1
  go_loopw [5, 8] (fun o i wr => ∃ (j : Nat) (Ls : List (List Pt)) (n' : Int) (r' : ByteArray) (b' : Bool) (a5 : Option Addr) (c5 : Nat), j ≤ m ∧ i = .int .i64 (j : Int) ∧ o = .slice a5 j c5 ∧ Hid (Ls.length = j) ∧ r'.size ≤ 100000 ∧ SL w1 wr d L (.slice a5 j c5) Ls n' r' b' ∧ Hid (Ls ++ (serF (m - j) n' r' b').1 = T)) (fun _ i _ => m - (intOf i).toNat)
  case atStart => exact ⟨0, [], 3000, r1, b1, none, 0, by omega, rfl, rfl, Lib.hid rfl, by omega, R0.out, Lib.hid (by rw [Nat.sub_zero, List.nil_append, H2.out])⟩
  case round =>
    obtain ⟨j, Ls, n', r', b', a5, c5, hj, rfl, rfl, hlen, hr', R, HF⟩ := hrel
    clear R0
    by_cases hlt : j < m
    · have hlti : (j : Int) < (m : Int) := by omega
      obtain ⟨⟨s, r2, b2⟩, q1⟩ : ∃ y, textQ r' b' = y := ⟨_, rfl⟩
      obtain ⟨⟨k, r3, b3⟩, q2⟩ : ∃ y, smallQ r2 b2 n' = y := ⟨_, rfl⟩
      obtain ⟨⟨l, r4, b4⟩, q3⟩ : ∃ y, ptsF k.toNat ⟨s, 0, 0, ⟨0, 0, 0⟩⟩ r3 b3 = y := ⟨_, rfl⟩
      obtain ⟨p1, p2, p3⟩ := text_inv6 q1 R.inv
      obtain ⟨p4, -, p5⟩ := smallQ_inv q2 p1
      have hk := smallQ_range q2 R.n0.1
      have p6 := ptsF_inv k.toNat ⟨s, 0, 0, ⟨0, 0, 0⟩⟩ r3 b3 (fun e => (p4 e).1)
      rw [q3] at p6
      obtain ⟨-, -, p7, p8⟩ := p6
      dsimp only at p7 p8
      have k2 := seriesB_is d zr zt zs zi zp L n' k r' r2 r3 r4 s b' b2 b3 b4 l wr hr' R.n0 (Lib.hid q1) (Lib.hid q2) (Lib.hid q3) R.inv (HC1.out.butP R.bel (fun _ _ e => e)) (R.bel.keep HZ1.out (by rintro (e | e); exact hzpn.1 e; exact hzpn.2 e)) hzpn.1 R.ra R.lf
      have hnx : Ls ++ (serF (m - j) n' r' b').1 = (Ls ++ [l]) ++ (serF (m - (j + 1)) (n' - k) r4 b4).1 := by
        rw [show m - j = (m - (j + 1)) + 1 by omega, serF_step q1 q2 q3]
        simp only [List.append_assoc, List.singleton_append]
      have HF2 := Lib.hid (hnx.symm.trans HF.out)
      have HINV := Lib.hid p7
      have HRR := Lib.hid R
      have hr4 : r4.size ≤ 100000 := by omega
      have hn' := R.n0
      clear q1 q2 q3 p1 p2 p3 p4 p5 p7 p8 hnx R HF
      go_wp2_with (first
        | (go_at_call 90; (with_reducible refine k2.mono ?_); rintro e w2 ⟨v, rfl, hR2, hA2, hL2, hB2⟩; (have hsl := hR2.slice); (obtain ⟨a6, c6, rfl⟩ := hsl); (have HR2 := Lib.hid (show SL w1 w2 d L (.slice a5 j c5) Ls (n' - k) r4 b4 from ⟨HRR.out.row.butP hB2 (fun i e => by rcases e with rfl | rfl <;> omega), hA2, hL2, HRR.out.bel.trans hB2, HINV.out, by omega, by omega⟩)); (have HP2 := Lib.hid (hR2.mono HRR.out.bel.size)); clear hA2 hL2 hB2 hR2)
        | (at_builtin; refine wpList_appL (w := w2) rfl _ _ rfl w1.heap.size j (.slice a5 j c5) Ls a6 c6 l.length l w2.heap.size rfl rfl rfl hlen HR2.out.row rfl HP2.out (by omega) HR2.out.bel.size ?_))
      intro a7 c7 w7 hrow7 hb7
      have HR7 := Lib.hid (show SL w1 w7 d L (.slice a7 (j + 1) c7) (Ls ++ [l]) (n' - k) r4 b4 from ⟨hrow7.out, HR2.out.ra.farB hb7 (by omega), ⟨(hb7.cell (p := ⟨L, 0, none⟩) (by show L < _; omega)).trans HR2.out.lf.c, (hb7.frozen (p := ⟨L, 0, none⟩) (by show L < _; omega)).trans HR2.out.lf.f, HR2.out.lf.ne⟩, HR2.out.bel.ofB hb7 (Nat.le_refl _), HR2.out.inv, HR2.out.n0⟩)
      clear hrow7 hb7 HR2 HP2
      go_wp2
      go_roundw
      case rel => exact ⟨j + 1, Ls ++ [l], n' - k, r4, b4, a7, c7, by omega, by go_num, rfl, Lib.hid (by rw [List.length_append, hlen.out]; rfl), hr4, HR7.out, HF2⟩
      case measure => simp [intOf]; omega
    · obtain rfl : j = m := by omega
      have hlt2 : ¬ (j : Int) < (j : Int) := by omega
      have hf := HF.out
      rw [Nat.sub_self, serF_zero, List.append_nil] at hf
      subst hf
      have hl := hlen.out
      have hrow := R.row
      rw [← hl] at hrow
      have HD := Lib.hid (show LLDone d L Ls w (.returned (.slice a5 j c5)) wr from by
        rw [← hl]
        exact ⟨a5, c5, rfl, hrow.mono HB1.out.size, HB1.out.trans R.bel⟩)
      clear R hrow hl HB1
      go_wp2
      go_ret
      exact HD.out
end Go.Proofs.YtkomfenjeoaelaaDoor
