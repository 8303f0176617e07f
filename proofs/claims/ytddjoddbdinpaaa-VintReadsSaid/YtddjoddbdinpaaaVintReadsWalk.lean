/- The walk of law VintReads: it returns true and turns nothing that was there. -/
import Derived.Test.YtddjoddbdinpaaaVintAwake
import Derived.Test.YtddjoddbdinpaaaVintArgs
import Derived.Test.YtddjoddbdinpaaaVintRefMeth
namespace Go.Proofs.Ytddjoddbdinpaaa.vintReads
open Go.RowKit Go.Proofs.Ytddjoddbdinpaaa Go.Proofs.Ytddjoddbdinpaaa.Vi

theorem rleft_b (d : Nat) (S r : ByteArray) (br : Bool) (w : World) (hs : S.size ≤ 100000) (h : RS w d S r br) :
    Calls Try.prog 34 #[.pointer (some ⟨d, 0, none⟩)] w fun e w' => e = .returned (.int .i64 (r.size : Int)) ∧ RS w' d S r br ∧ Below w.heap.size w w' :=
  (rleft_is d S r br w hs h).mono fun e w' ⟨h1, n, h2⟩ => by
    subst h2
    exact ⟨h1, h.but (But.of (b := w.heap.size) (below_drawn _ _)) (by have := h.room; omega), below_drawn _ _⟩
theorem rend_b (d : Nat) (S r : ByteArray) (br : Bool) (z : Int) (w : World) (H : Hid (endQ r br = z)) (h : RS w d S r br) :
    Calls Try.prog 36 #[.pointer (some ⟨d, 0, none⟩)] w fun e w' => e = .returned (.int .i64 z) ∧ RS w' d S r br ∧ Below w.heap.size w w' :=
  (rend_is d S r br z w H h).mono fun e w' ⟨h1, n, h2⟩ => by
    subst h2
    exact ⟨h1, h.but (But.of (b := w.heap.size) (below_drawn _ _)) (by have := h.room; omega), below_drawn _ _⟩

theorem restB_zero (S : ByteArray) : restB S 0 = S := list_inj (by rw [restB_list, List.drop_zero])
/-- What stands at the head of each round. -/
structure Rel (w wr : World) (pb pd : Nat) (S r : ByteArray) (br : Bool) : Prop where
  mine : RA wr pb r br
  theirs : RS wr pd S r br
  below : Below w.heap.size w wr
  size : r.size ≤ 400
theorem Rel.took {w wr w1 w2 : World} {pb pd : Nat} {S r r' : ByteArray} {br br' : Bool} (h : Rel w wr pb pd S r br) (hw : w.heap.size ≤ pb) (hp : pb < pd) (h1 : RA w1 pb r' br') (b1 : But pb wr w1) (h2 : RS w2 pd S r' br') (b2 : But pd w1 w2) (hz : r'.size ≤ 400) : Rel w w2 pb pd S r' br' :=
  ⟨h1.but b2 (by omega), h2, (h.below.trans (b1.below hw h.below.size)).trans (b2.below (by omega) (Nat.le_trans h.below.size b1.size)), hz⟩
theorem Rel.still {w wr w1 : World} {pb pd : Nat} {S r : ByteArray} {br : Bool} (h : Rel w wr pb pd S r br) (h2 : RS w1 pd S r br) (b1 : Below wr.heap.size wr w1) : Rel w w1 pb pd S r br :=
  ⟨h.mine.below b1, h2, h.below.trans (b1.mono h.below.size), h.size⟩

set_option maxHeartbeats 8000000 in
set_option maxRecDepth 20000 in
theorem walk (s0 : ByteArray) (a1 : Option Addr) (len1 cap1 : Nat) (w : World) (_hs : s0.size ≤ maxLen) (hl : ArgInts w a1 len1 cap1) :
    Calls Try.prog 5 #[.string s0, .slice a1 len1 cap1] w fun e w' => e = .returned (.bool true) ∧ Below w.heap.size w w' := by
  obtain ⟨S, hh⟩ : ∃ S, cutB s0 400 = S := ⟨_, rfl⟩
  have hSz : S.size ≤ 400 := by rw [← hh]; exact (cutB_size s0 400).1
  have k1 := fun w => short_is s0 S 400 400 w rfl (by omega) (Lib.hid hh)
  clear hh
  have hcells : ∀ k : Nat, k < len1 → ∃ (b off : Nat) (n : Int), a1 = some ⟨b, off, none⟩ ∧ b < w.heap.size ∧ -9223372036854775808 ≤ n ∧ n ≤ 9223372036854775807 ∧ w.cell? ⟨b, off + k, none⟩ = some (.int .i64 n) ∧ (k + 1 < len1 → ∃ m : Int, m ≤ 9223372036854775807 ∧ w.cell? ⟨b, off + (k + 1), none⟩ = some (.int .i64 m)) := by
    intro k hk
    rcases hl with h0 | ⟨b, off, l, rfl, hlen, -, -, hc, hb⟩
    · omega
    · have h1 := hc k (by omega)
      obtain ⟨b1, b2⟩ := hb _ (List.getElem_mem (show k < l.length by omega))
      exact ⟨b, off, _, rfl, World.block_lt_of_cell? w _ h1, b1, b2, h1, fun h => ⟨_, (hb _ (List.getElem_mem (show k + 1 < l.length by omega))).2, hc (k + 1) (by omega)⟩⟩
  have hlm : len1 ≤ 9223372036854775807 := by
    rcases hl with h0 | ⟨b, off, l, rfl, hlen, h1, h2, -⟩
    · omega
    · unfold maxLen at h2; omega
  have HC := Lib.hid hcells
  clear hcells hl
  go_enter Try.func5, Try.ntmps5
  go_wp2_with (first
    | (go_at_call 10; (with_reducible refine (awake_any _).mono ?_); rintro e w1 ⟨rfl, hb1⟩)
    | (go_at_call 11; (with_reducible refine (k1 _).mono ?_); rintro e w2 ⟨rfl, rfl⟩)
    | (go_at_call 24; (with_reducible refine (read_is _ _).mono ?_); rintro e w2 ⟨rfl, hA, hb2, hz2⟩))
  have hw1 := hb1.size
  have hRel : Rel w (w2.alloc (.cells #[.string S, .int .i64 0, .bool false] 42)) w1.heap.size w2.heap.size S S false :=
    ⟨hA.below ((Below.refl _ _).alloc (Nat.le_refl _) _), ⟨0, false, ⟨by simp [go_sem], by simp [go_sem], by simp [go_sem], by simp [go_sem], by simp [go_sem], by simp [go_sem]⟩, rfl, Nat.zero_le _, fun _ => (restB_zero S).symm, fun e => (by cases e)⟩,
      ((hb1.trans (hb2.mono hw1)).alloc (by omega) _), hSz⟩
  generalize w1.heap.size = pb at hRel hw1 hA hb2 hz2 ⊢
  generalize w2.heap.size = pd at hRel hz2 ⊢
  clear hA hb1 hb2 k1
  go_loopw [8] (fun i wr => ∃ (k : Nat) (r : ByteArray) (br : Bool), i = .int .i64 (k : Int) ∧ k ≤ 60 ∧ k ≤ len1 ∧ Rel w wr pb pd S r br) (fun i _ => 60 - (intOf i).toNat)
  case atStart => exact ⟨0, S, false, rfl, by omega, by omega, hRel⟩
  case round =>
    obtain ⟨k, r, br, rfl, hk, hkl, hR⟩ := hrel
    clear hRel
    by_cases hgo : k < len1 ∧ k < 60
    · obtain ⟨hg1, hg2⟩ := hgo
      obtain ⟨b, off, n, rfl, hbw, hn1, hn2, hcell0, hmore⟩ := HC.out k hg1
      have hcell : wr.cell? ⟨b, off + k, none⟩ = some (.int .i64 n) := (hR.below.cell (p := ⟨b, off + k, none⟩) hbw).trans hcell0
      have hgi1 : (k : Int) < (len1 : Int) := by omega
      have hgi2 : (k : Int) < 60 := by omega
      obtain ⟨q, hq⟩ : ∃ q, n.tmod 5 = q := ⟨_, rfl⟩
      have hq2 : q = -4 ∨ q = -3 ∨ q = -2 ∨ q = -1 ∨ q = 0 ∨ q = 1 ∨ q = 2 ∨ q = 3 ∨ q = 4 := by
        have h1 := Int.tmod_lt_of_pos n (show (0 : Int) < 5 by omega)
        have h2 := Int.lt_tmod_of_pos n (show (0 : Int) < 5 by omega)
        omega
      have hmost : ∃ m : Int, m ≤ 9223372036854775807 ∧ (((k + 1 < len1) ∧ wr.cell? ⟨b, off + (k + 1), none⟩ = some (.int .i64 m)) ∨ (¬ k + 1 < len1 ∧ m = 5)) := by
        by_cases h : k + 1 < len1
        · obtain ⟨m, h1, h2⟩ := hmore h
          exact ⟨m, h1, Or.inl ⟨h, (hR.below.cell (p := ⟨b, off + (k + 1), none⟩) hbw).trans h2⟩⟩
        · exact ⟨5, by omega, Or.inr ⟨h, rfl⟩⟩
      obtain ⟨m, hm1, hm2⟩ := hmost
      obtain ⟨⟨v1, r1, b1⟩, hN⟩ : ∃ x, numQ r br = x := ⟨_, rfl⟩
      obtain ⟨⟨v2, r2, b2⟩, hS⟩ : ∃ x, smallQ r br m = x := ⟨_, rfl⟩
      obtain ⟨⟨v3, r3, b3⟩, hT⟩ : ∃ x, textQ r br = x := ⟨_, rfl⟩
      obtain ⟨z1, hz1⟩ : ∃ z, zag v1 = z := ⟨_, rfl⟩
      obtain ⟨x0, hx0⟩ : ∃ x, endQ r br = x := ⟨_, rfl⟩
      obtain ⟨x1, hx1⟩ : ∃ x, endQ r1 b1 = x := ⟨_, rfl⟩
      obtain ⟨x2, hx2⟩ : ∃ x, endQ r2 b2 = x := ⟨_, rfl⟩
      obtain ⟨x3, hx3⟩ : ∃ x, endQ r3 b3 = x := ⟨_, rfl⟩
      have hsz := hR.size
      have s1 : r1.size ≤ 400 := by have := (numQ_bounds hN).2.2; omega
      have s2 : r2.size ≤ 400 := by have := smallQ_size hS; omega
      have s3 : r3.size ≤ 400 := by have := textQ_size hT; omega
      have hrm : r.size ≤ maxLen := by unfold maxLen; omega
      have hS5 : S.size ≤ 100000 := by omega
      have HN := Lib.hid hN
      have HS := Lib.hid hS
      have HT := Lib.hid hT
      have HZ := Lib.hid hz1
      have E0 := Lib.hid hx0
      have E1 := Lib.hid hx1
      have E2 := Lib.hid hx2
      have E3 := Lib.hid hx3
      have hA := hR.mine
      have hB := hR.theirs
      have hA2 := hA
      have hB2 := hB
      have hR2 := hR
      have hne : pd ≠ pb := by omega
      have hr5 : r.size ≤ 100000 := by omega
      clear hN hS hT hz1 hx0 hx1 hx2 hx3 hmore hcell0
      have hq3 : (q = -2 ∨ q = 2) ∨ (q = -4 ∨ q = -3 ∨ q = -1 ∨ q = 0 ∨ q = 1 ∨ q = 3 ∨ q = 4) := by omega
      clear hq2
      rcases hq3 with hq3 | hq3
      · rcases hm2 with ⟨hm3, hm4⟩ | ⟨hm3, rfl⟩
        all_goals rcases hq3 with rfl | rfl
        all_goals
          go_wp2_with (first
            | (go_at_call 25; (with_reducible refine (num_is pb r r1 br b1 v1 _ hrm HN hA).mono ?_); rintro e wa ⟨rfl, hA1, hBa⟩; have hB1 := hB.but hBa hne)
            | (go_at_call 26; (with_reducible refine (rnum_is pd S r r1 br b1 v1 _ hS5 HN hB1).mono ?_); rintro e wb ⟨rfl, hBb, hBc⟩; have hR2 := hR.took hw1 hz2 hA1 hBa hBb hBc s1; have hA2 := hR2.mine; have hB2 := hR2.theirs)
            | (go_at_call 27; (with_reducible refine (int_is pb r r1 br b1 v1 z1 _ hrm HN HZ hA).mono ?_); rintro e wa ⟨rfl, hA1, hBa⟩; have hB1 := hB.but hBa hne)
            | (go_at_call 28; (with_reducible refine (rint_is pd S r r1 br b1 v1 z1 _ hS5 HN HZ hB1).mono ?_); rintro e wb ⟨rfl, hBb, hBc⟩; have hR2 := hR.took hw1 hz2 hA1 hBa hBb hBc s1; have hA2 := hR2.mine; have hB2 := hR2.theirs)
            | (go_at_call 29; (with_reducible refine (small_is pb r r2 br b2 v2 _ _ hrm hm1 HS hA).mono ?_); rintro e wa ⟨rfl, hA1, hBa⟩; have hB1 := hB.but hBa hne)
            | (go_at_call 30; (with_reducible refine (rsmall_is pd S r r2 br b2 v2 _ _ hS5 hm1 HS hB1).mono ?_); rintro e wb ⟨rfl, hBb, hBc⟩; have hR2 := hR.took hw1 hz2 hA1 hBa hBb hBc s2; have hA2 := hR2.mine; have hB2 := hR2.theirs)
            | (go_at_call 31; (with_reducible refine (text_is' pb r r3 br b3 v3 _ hr5 HT hA).mono ?_); rintro e wa ⟨rfl, hA1, hBa⟩; have hB1 := hB.but hBa hne)
            | (go_at_call 32; (with_reducible refine (rtext_is pd S r r3 br b3 v3 _ hS5 HT hB1).mono ?_); rintro e wb ⟨rfl, hBb, hBc⟩; have hR2 := hR.took hw1 hz2 hA1 hBa hBb hBc s3; have hA2 := hR2.mine; have hB2 := hR2.theirs)
            | (go_at_call 33; (with_reducible refine (left_is _ _ _ _ hA2).mono ?_); rintro e wx ⟨rfl, rfl⟩)
            | (go_at_call 34; (with_reducible refine (rleft_b _ _ _ _ _ hS5 hB2).mono ?_); rintro e wc ⟨rfl, hB3, hbc⟩; have hR3 := hR2.still hB3 hbc; have hA3 := hR3.mine)
            | (go_at_call 35; first | ((with_reducible refine (end_is _ _ _ _ _ hA3 E0).mono ?_); rintro e wx ⟨rfl, rfl⟩) | ((with_reducible refine (end_is _ _ _ _ _ hA3 E1).mono ?_); rintro e wx ⟨rfl, rfl⟩) | ((with_reducible refine (end_is _ _ _ _ _ hA3 E2).mono ?_); rintro e wx ⟨rfl, rfl⟩) | ((with_reducible refine (end_is _ _ _ _ _ hA3 E3).mono ?_); rintro e wx ⟨rfl, rfl⟩))
            | (go_at_call 36; first | ((with_reducible refine (rend_b _ _ _ _ _ _ E0 hB3).mono ?_); rintro e wd ⟨rfl, hB4, hbd⟩; have hR4 := hR3.still hB4 hbd) | ((with_reducible refine (rend_b _ _ _ _ _ _ E1 hB3).mono ?_); rintro e wd ⟨rfl, hB4, hbd⟩; have hR4 := hR3.still hB4 hbd) | ((with_reducible refine (rend_b _ _ _ _ _ _ E2 hB3).mono ?_); rintro e wd ⟨rfl, hB4, hbd⟩; have hR4 := hR3.still hB4 hbd) | ((with_reducible refine (rend_b _ _ _ _ _ _ E3 hB3).mono ?_); rintro e wd ⟨rfl, hB4, hbd⟩; have hR4 := hR3.still hB4 hbd)))
          go_roundw
          case rel => exact ⟨k + 1, _, _, by go_num, by omega, by omega, hR4⟩
          case measure => simp [intOf]; omega
      · clear hm2 hm1 HS E2
        rcases hq3 with rfl | rfl | rfl | rfl | rfl | rfl | rfl
        all_goals
          go_wp2_with (first
            | (go_at_call 25; (with_reducible refine (num_is pb r r1 br b1 v1 _ hrm HN hA).mono ?_); rintro e wa ⟨rfl, hA1, hBa⟩; have hB1 := hB.but hBa hne)
            | (go_at_call 26; (with_reducible refine (rnum_is pd S r r1 br b1 v1 _ hS5 HN hB1).mono ?_); rintro e wb ⟨rfl, hBb, hBc⟩; have hR2 := hR.took hw1 hz2 hA1 hBa hBb hBc s1; have hA2 := hR2.mine; have hB2 := hR2.theirs)
            | (go_at_call 27; (with_reducible refine (int_is pb r r1 br b1 v1 z1 _ hrm HN HZ hA).mono ?_); rintro e wa ⟨rfl, hA1, hBa⟩; have hB1 := hB.but hBa hne)
            | (go_at_call 28; (with_reducible refine (rint_is pd S r r1 br b1 v1 z1 _ hS5 HN HZ hB1).mono ?_); rintro e wb ⟨rfl, hBb, hBc⟩; have hR2 := hR.took hw1 hz2 hA1 hBa hBb hBc s1; have hA2 := hR2.mine; have hB2 := hR2.theirs)
            | (go_at_call 31; (with_reducible refine (text_is' pb r r3 br b3 v3 _ hr5 HT hA).mono ?_); rintro e wa ⟨rfl, hA1, hBa⟩; have hB1 := hB.but hBa hne)
            | (go_at_call 32; (with_reducible refine (rtext_is pd S r r3 br b3 v3 _ hS5 HT hB1).mono ?_); rintro e wb ⟨rfl, hBb, hBc⟩; have hR2 := hR.took hw1 hz2 hA1 hBa hBb hBc s3; have hA2 := hR2.mine; have hB2 := hR2.theirs)
            | (go_at_call 33; (with_reducible refine (left_is _ _ _ _ hA2).mono ?_); rintro e wx ⟨rfl, rfl⟩)
            | (go_at_call 34; (with_reducible refine (rleft_b _ _ _ _ _ hS5 hB2).mono ?_); rintro e wc ⟨rfl, hB3, hbc⟩; have hR3 := hR2.still hB3 hbc; have hA3 := hR3.mine)
            | (go_at_call 35; first | ((with_reducible refine (end_is _ _ _ _ _ hA3 E0).mono ?_); rintro e wx ⟨rfl, rfl⟩) | ((with_reducible refine (end_is _ _ _ _ _ hA3 E1).mono ?_); rintro e wx ⟨rfl, rfl⟩) | ((with_reducible refine (end_is _ _ _ _ _ hA3 E3).mono ?_); rintro e wx ⟨rfl, rfl⟩))
            | (go_at_call 36; first | ((with_reducible refine (rend_b _ _ _ _ _ _ E0 hB3).mono ?_); rintro e wd ⟨rfl, hB4, hbd⟩; have hR4 := hR3.still hB4 hbd) | ((with_reducible refine (rend_b _ _ _ _ _ _ E1 hB3).mono ?_); rintro e wd ⟨rfl, hB4, hbd⟩; have hR4 := hR3.still hB4 hbd) | ((with_reducible refine (rend_b _ _ _ _ _ _ E3 hB3).mono ?_); rintro e wd ⟨rfl, hB4, hbd⟩; have hR4 := hR3.still hB4 hbd)))
          go_roundw
          case rel => exact ⟨k + 1, _, _, by go_num, by omega, by omega, hR4⟩
          case measure => simp [intOf]; omega
    · have hgo2 : ¬ ((k : Int) < (len1 : Int) ∧ (k : Int) < 60) := by omega
      by_cases hg1 : (k : Int) < (len1 : Int)
      · have hg2 : ¬ (k : Int) < 60 := by omega
        clear hgo2 hgo
        go_wp2
        go_ret
        exact ⟨rfl, hR.below⟩
      · clear hgo2 hgo
        go_wp2
        go_ret
        exact ⟨rfl, hR.below⟩
end Go.Proofs.Ytddjoddbdinpaaa.vintReads
