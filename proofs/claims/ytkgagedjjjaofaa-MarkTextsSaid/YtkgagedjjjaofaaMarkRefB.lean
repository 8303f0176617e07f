/- Contracts of the document's Plain, Right, At, With, Join, Meet, Covers, Compare, Text. -/
import Derived.Test.YtkgagedjjjaofaaMarkRefA
import Derived.Test.YtkgagedjjjaofaaMarkLatMath
namespace Go.Proofs.Ytkgagedjjjaofaa
open Go.RowKit Go.Proofs.Ytkgagedjjjaofaa.Vi Go.Proofs.Ytkgagedjjjaofaa.Mk

theorem rplain_is (v : Value) (l : List Int) (w : World) (h : Ns w v l) : Calls Try.prog 42 #[v] w (VDone (plainL l) w) := by
  have k1 := rall_is v l w h
  have k2 := fun w => rvector_is (fun i => atL l (i : Int)) w (atL_fit l)
  clear h
  go_enter Try.func42, Try.ntmps42
  go_wp2_with (first
    | (go_at_call 52; (with_reducible refine k1.mono ?_); rintro e w1 ⟨rfl, hb1⟩)
    | (go_at_call 53; (with_reducible refine (k2 _).mono ?_); rintro e w2 ⟨v2, rfl, hN, hb2⟩))
  go_ret
  exact ⟨_, rfl, hN, bel_next hb1 hb2⟩
theorem rright_is (v : Value) (l : List Int) (w : World) (h : Ns w v l) : Calls Try.prog 32 #[v] w fun e w' => e = .returned (.bool (sameL l (plainL l))) ∧ Below w.heap.size w w' := by
  have hn := rplain_is v l w h
  obtain ⟨z, hz⟩ : ∃ z, sameL l (plainL l) = z := ⟨_, rfl⟩
  have hq := fun v' w' (h' : Ns w' v' (plainL l)) (hb : Below w.heap.size w w') => rsameN v v' l (plainL l) w' (h.later hb) h'
  rw [hz] at hq ⊢
  clear h hz
  go_enter Try.func32, Try.ntmps32
  go_wp2_with (first
    | (go_at_call 42; (with_reducible refine hn.mono ?_); rintro e w1 ⟨v1, rfl, hN1, hb1⟩)
    | (go_at_call 24; (with_reducible refine (hq _ _ hN1 hb1).mono ?_); rintro e w2 ⟨rfl, hb2⟩))
  go_ret
  exact ⟨rfl, bel_next hb1 hb2⟩
theorem index_arr (f : Nat → Int) (k : Nat) (hk : k < 8) (w : World) : (Instr.index 66 (.agg (arrOf f)) (.int .i64 (k : Int))).run Try.prog w = .ok (.int .i64 (f k)) w := by
  match k, hk with
  | 0, _ | 1, _ | 2, _ | 3, _ | 4, _ | 5, _ | 6, _ | 7, _ => rfl
theorem rat_is (v : Value) (l : List Int) (s : Int) (w : World) (h : Ns w v l) : Calls Try.prog 34 #[v, .int .i64 s] w fun e w' => e = .returned (.int .i64 (atL l s)) ∧ Below w.heap.size w w' := by
  have k1 := rall_is v l w h
  clear h
  by_cases c1 : s < 0
  · rw [atL_out (Or.inl c1)]
    go_enter Try.func34, Try.ntmps34
    go_wp2
    go_ret
    exact ⟨rfl, Below.refl _ _⟩
  · by_cases c2 : 7 < s
    · rw [atL_out (Or.inr c2)]
      go_enter Try.func34, Try.ntmps34
      go_wp2
      go_ret
      exact ⟨rfl, Below.refl _ _⟩
    · obtain ⟨k, rfl⟩ := Int.eq_ofNat_of_zero_le (show 0 ≤ s by omega)
      have hix := fun w => index_arr (fun i => atL l (i : Int)) k (by omega) w
      clear c1
      go_enter Try.func34, Try.ntmps34
      go_wp2_with (go_at_call 52; (with_reducible refine k1.mono ?_); rintro e w1 ⟨rfl, hb1⟩)
      go_ret
      exact ⟨rfl, hb1⟩

/-- The first k of z, the others of x. -/
def mix (x z : Nat → Int) (k : Nat) : Nat → Int := fun j => if j < k then z j else x j
theorem mix_at (x z : Nat → Int) (k : Nat) : mix x z k k = x k := by unfold mix; rw [if_neg (by omega)]
theorem mix_step {x z : Nat → Int} {k : Nat} (j : Nat) : updI (mix x z k) k (z k) j = mix x z (k + 1) j := by
  unfold updI mix
  by_cases h : j = k
  · subst h; rw [if_pos rfl, if_pos (by omega)]
  · rw [if_neg h]
    by_cases h2 : j < k
    · rw [if_pos h2, if_pos (by omega)]
    · rw [if_neg h2, if_neg (by omega)]
theorem mix_same {x z : Nat → Int} {k : Nat} (hk : x k = z k) (j : Nat) : mix x z k j = mix x z (k + 1) j := by
  unfold mix
  by_cases h : j = k
  · subst h; rw [if_neg (by omega), if_pos (by omega), hk]
  · by_cases h2 : j < k
    · rw [if_pos h2, if_pos (by omega)]
    · rw [if_neg h2, if_neg (by omega)]
/-- What the loop of Join or Meet has done. -/
structure TwoRel (w wr : World) (b d : Nat) (x y z : Nat → Int) (k : Nat) : Prop where
  x : Arr wr b (mix x z k)
  y : Arr wr d y
  bel : Below w.heap.size w wr
theorem TwoRel.next {w wr : World} {b d : Nat} {x y z : Nat → Int} {k : Nat} (R : TwoRel w wr b d x y z k) (hk : k < 8) (hb : w.heap.size ≤ b) (hd : d ≠ b) (v : Int) (hv : z k = v) : TwoRel w (wr.setCell ⟨b, k, none⟩ (.int .i64 v)) b d x y z (k + 1) := by
  subst hv
  exact ⟨(R.x.stored k hk _).congr fun i _ => mix_step i, R.y.other _ _ hd, R.bel.setCell hb _⟩
theorem TwoRel.pass {w wr : World} {b d : Nat} {x y z : Nat → Int} {k : Nat} (R : TwoRel w wr b d x y z k) (hk : x k = z k) : TwoRel w wr b d x y z (k + 1) := ⟨R.x.congr fun i _ => mix_same hk i, R.y, R.bel⟩
theorem TwoRel.drewN {w wr : World} {b d : Nat} {x y z : Nat → Int} {k : Nat} (R : TwoRel w wr b d x y z k) (n : Nat) : TwoRel w (wr.drewN n) b d x y z k := ⟨R.x.below (below_drawn _ _), R.y.below (below_drawn _ _), below_drewN R.bel n⟩

set_option maxHeartbeats 4000000 in
theorem rjoin_is (v1 v2 : Value) (l1 l2 : List Int) (w : World) (h1 : Ns w v1 l1) (h2 : Ns w v2 l2) : Calls Try.prog 26 #[v1, v2] w (VDone (joinL l1 l2) w) := by
  obtain ⟨x, hx⟩ : ∃ x : Nat → Int, (fun i : Nat => atL l1 (i : Int)) = x := ⟨_, rfl⟩
  obtain ⟨y, hy⟩ : ∃ y : Nat → Int, (fun i : Nat => atL l2 (i : Int)) = y := ⟨_, rfl⟩
  have k1 := rall_is v1 l1 w h1
  have k2 := fun w h => rall_is v2 l2 w h
  rw [hx] at k1
  rw [hy] at k2
  have hz : joinL l1 l2 = vec fun i => max (x i) (y i) := by unfold joinL; rw [← hx, ← hy]
  have hfit : Fit fun i => max (x i) (y i) := by rw [← hx, ← hy]; exact join_fit l1 l2
  obtain ⟨z, hzz⟩ : ∃ z : Nat → Int, (fun i => max (x i) (y i)) = z := ⟨_, rfl⟩
  rw [hzz] at hz hfit
  rw [hz]
  have HZ := Lib.hid (fun i => (congrFun hzz i).symm)
  have k5 := fun w => rvector_is z w hfit
  clear hz hzz hfit
  clear hx hy h1
  go_enter Try.func26, Try.ntmps26
  go_wp2_with (first
    | (go_at_call 52; (with_reducible refine k1.mono ?_); rintro e wz ⟨rfl, hbz⟩; have G2 := h2.later hbz)
    | (refine wpList_new_arr (f := x) rfl _ _ rfl rfl rfl ?_; intro wy hAy hby; have G3 := G2.later hby)
    | (go_at_call 52; (with_reducible refine (k2 _ G3).mono ?_); rintro e wx ⟨rfl, hbx⟩; have hAx := hAy.below hbx)
    | (refine wpList_new_arr (f := y) rfl _ _ rfl rfl rfl ?_; intro wv hAv hbv; have hA1 := hAx.below hbv))
  have hbel : Below w.heap.size w wv := bel_next (bel_next (bel_next hbz hby) hbx) hbv
  have r1 := hAy.room
  have r2 := hbz.size
  have r3 := hbx.size
  obtain ⟨b, hb⟩ : ∃ b, wz.heap.size = b := ⟨_, rfl⟩
  obtain ⟨d, hd⟩ : ∃ d, wx.heap.size = d := ⟨_, rfl⟩
  rw [hb] at hA1 r1 r2 ⊢
  rw [hd] at hAv r3 ⊢
  clear k1 k2 G2 G3 hAy hAx hbz hby hbx hbv h2 hb hd
  have HR0 := Lib.hid (show TwoRel w wv b d x y z 0 from ⟨hA1.congr fun i _ => by unfold mix; rw [if_neg (by omega)], hAv, hbel⟩)
  clear hA1 hAv hbel
  go_loopw [7] (fun i wr => ∃ k : Nat, k ≤ 8 ∧ i = .int .i64 (k : Int) ∧ TwoRel w wr b d x y z k) (fun i _ => 8 - (intOf i).toNat)
  case atStart => exact ⟨0, by omega, rfl, HR0.out⟩
  case round =>
    obtain ⟨k, hk, rfl, R⟩ := hrel
    clear HR0
    by_cases hlt : k < 8
    · have c1 := (R.x k hlt).1
      have f1 := (R.x k hlt).2
      have c2 := (R.y k hlt).1
      rw [mix_at] at c1
      have hzk := HZ.out k
      by_cases hc : x k < y k
      · have N := fun n => (R.drewN n).next hlt r2 (by omega) (y k) (by rw [hzk]; omega)
        obtain ⟨p, hp⟩ : ∃ p, x k = p := ⟨_, rfl⟩
        obtain ⟨q, hq⟩ : ∃ q, y k = q := ⟨_, rfl⟩
        rw [hp] at c1 hc
        rw [hq] at c2 hc N
        have NN := Lib.hid N
        have hk1 : (k : Int) < 8 := by omega
        clear R hp hq hzk N
        go_wp2_with fail
        go_quiet (fail)
        go_wp2
        go_roundw
        case rel => exact ⟨k + 1, by omega, by go_num, NN.out _⟩
        case measure => simp [intOf]; omega
      · have N := fun n => (R.drewN n).pass (show x k = z k by rw [hzk]; omega)
        obtain ⟨p, hp⟩ : ∃ p, x k = p := ⟨_, rfl⟩
        obtain ⟨q, hq⟩ : ∃ q, y k = q := ⟨_, rfl⟩
        rw [hp] at c1 hc
        rw [hq] at c2 hc
        have NN := Lib.hid N
        have hk1 : (k : Int) < 8 := by omega
        clear R hp hq hzk N
        go_wp2_with fail
        go_quiet (fail)
        go_wp2
        go_roundw
        case rel => exact ⟨k + 1, by omega, by go_num, NN.out _⟩
        case measure => simp [intOf]; omega
    · obtain rfl : k = 8 := by omega
      have hX : Arr wr b z := R.x.congr fun i hi => by unfold mix; rw [if_pos hi]
      have hB := R.bel
      clear R hlt hk
      go_wp2_with (first
        | (refine wpList_load_arr hX rfl _ rfl rfl ?_)
        | (go_at_call 53; (with_reducible refine (k5 _).mono ?_); rintro e wn ⟨v5, rfl, hN, hbn⟩))
      go_ret
      exact ⟨_, rfl, hN, bel_next hB hbn⟩

set_option maxHeartbeats 4000000 in
theorem rmeet_is (v1 v2 : Value) (l1 l2 : List Int) (w : World) (h1 : Ns w v1 l1) (h2 : Ns w v2 l2) : Calls Try.prog 28 #[v1, v2] w (VDone (meetL l1 l2) w) := by
  obtain ⟨x, hx⟩ : ∃ x : Nat → Int, (fun i : Nat => atL l1 (i : Int)) = x := ⟨_, rfl⟩
  obtain ⟨y, hy⟩ : ∃ y : Nat → Int, (fun i : Nat => atL l2 (i : Int)) = y := ⟨_, rfl⟩
  have k1 := rall_is v1 l1 w h1
  have k2 := fun w h => rall_is v2 l2 w h
  rw [hx] at k1
  rw [hy] at k2
  have hz : meetL l1 l2 = vec fun i => min (x i) (y i) := by unfold meetL; rw [← hx, ← hy]
  have hfit : Fit fun i => min (x i) (y i) := by rw [← hx, ← hy]; exact meet_fit l1 l2
  obtain ⟨z, hzz⟩ : ∃ z : Nat → Int, (fun i => min (x i) (y i)) = z := ⟨_, rfl⟩
  rw [hzz] at hz hfit
  rw [hz]
  have HZ := Lib.hid (fun i => (congrFun hzz i).symm)
  have k5 := fun w => rvector_is z w hfit
  clear hz hzz hfit
  clear hx hy h1
  go_enter Try.func28, Try.ntmps28
  go_wp2_with (first
    | (go_at_call 52; (with_reducible refine k1.mono ?_); rintro e wz ⟨rfl, hbz⟩; have G2 := h2.later hbz)
    | (refine wpList_new_arr (f := x) rfl _ _ rfl rfl rfl ?_; intro wy hAy hby; have G3 := G2.later hby)
    | (go_at_call 52; (with_reducible refine (k2 _ G3).mono ?_); rintro e wx ⟨rfl, hbx⟩; have hAx := hAy.below hbx)
    | (refine wpList_new_arr (f := y) rfl _ _ rfl rfl rfl ?_; intro wv hAv hbv; have hA1 := hAx.below hbv))
  have hbel : Below w.heap.size w wv := bel_next (bel_next (bel_next hbz hby) hbx) hbv
  have r1 := hAy.room
  have r2 := hbz.size
  have r3 := hbx.size
  obtain ⟨b, hb⟩ : ∃ b, wz.heap.size = b := ⟨_, rfl⟩
  obtain ⟨d, hd⟩ : ∃ d, wx.heap.size = d := ⟨_, rfl⟩
  rw [hb] at hA1 r1 r2 ⊢
  rw [hd] at hAv r3 ⊢
  clear k1 k2 G2 G3 hAy hAx hbz hby hbx hbv h2 hb hd
  have HR0 := Lib.hid (show TwoRel w wv b d x y z 0 from ⟨hA1.congr fun i _ => by unfold mix; rw [if_neg (by omega)], hAv, hbel⟩)
  clear hA1 hAv hbel
  go_loopw [7] (fun i wr => ∃ k : Nat, k ≤ 8 ∧ i = .int .i64 (k : Int) ∧ TwoRel w wr b d x y z k) (fun i _ => 8 - (intOf i).toNat)
  case atStart => exact ⟨0, by omega, rfl, HR0.out⟩
  case round =>
    obtain ⟨k, hk, rfl, R⟩ := hrel
    clear HR0
    by_cases hlt : k < 8
    · have c1 := (R.x k hlt).1
      have f1 := (R.x k hlt).2
      have c2 := (R.y k hlt).1
      rw [mix_at] at c1
      have hzk := HZ.out k
      by_cases hc : y k < x k
      · have N := fun n => (R.drewN n).next hlt r2 (by omega) (y k) (by rw [hzk]; omega)
        obtain ⟨p, hp⟩ : ∃ p, x k = p := ⟨_, rfl⟩
        obtain ⟨q, hq⟩ : ∃ q, y k = q := ⟨_, rfl⟩
        rw [hp] at c1 hc
        rw [hq] at c2 hc N
        have NN := Lib.hid N
        have hk1 : (k : Int) < 8 := by omega
        clear R hp hq hzk N
        go_wp2_with fail
        go_quiet (fail)
        go_wp2
        go_roundw
        case rel => exact ⟨k + 1, by omega, by go_num, NN.out _⟩
        case measure => simp [intOf]; omega
      · have N := fun n => (R.drewN n).pass (show x k = z k by rw [hzk]; omega)
        obtain ⟨p, hp⟩ : ∃ p, x k = p := ⟨_, rfl⟩
        obtain ⟨q, hq⟩ : ∃ q, y k = q := ⟨_, rfl⟩
        rw [hp] at c1 hc
        rw [hq] at c2 hc
        have NN := Lib.hid N
        have hk1 : (k : Int) < 8 := by omega
        clear R hp hq hzk N
        go_wp2_with fail
        go_quiet (fail)
        go_wp2
        go_roundw
        case rel => exact ⟨k + 1, by omega, by go_num, NN.out _⟩
        case measure => simp [intOf]; omega
    · obtain rfl : k = 8 := by omega
      have hX : Arr wr b z := R.x.congr fun i hi => by unfold mix; rw [if_pos hi]
      have hB := R.bel
      clear R hlt hk
      go_wp2_with (first
        | (refine wpList_load_arr hX rfl _ rfl rfl ?_)
        | (go_at_call 53; (with_reducible refine (k5 _).mono ?_); rintro e wn ⟨v5, rfl, hN, hbn⟩))
      go_ret
      exact ⟨_, rfl, hN, bel_next hB hbn⟩

set_option maxHeartbeats 4000000 in
theorem rcovers_is (v1 v2 : Value) (l1 l2 : List Int) (w : World) (h1 : Ns w v1 l1) (h2 : Ns w v2 l2) : Calls Try.prog 36 #[v1, v2] w fun e w' => e = .returned (.bool (covL l1 l2)) ∧ Below w.heap.size w w' := by
  obtain ⟨x, hx⟩ : ∃ x : Nat → Int, (fun i : Nat => atL l1 (i : Int)) = x := ⟨_, rfl⟩
  obtain ⟨y, hy⟩ : ∃ y : Nat → Int, (fun i : Nat => atL l2 (i : Int)) = y := ⟨_, rfl⟩
  have k1 := rall_is v1 l1 w h1
  have k2 := fun w h => rall_is v2 l2 w h
  rw [hx] at k1
  rw [hy] at k2
  obtain ⟨z, hz⟩ : ∃ z, covL l1 l2 = z := ⟨_, rfl⟩
  have HZ := Lib.hid hz
  have HX := Lib.hid (fun i : Nat => congrFun hx i)
  have HY := Lib.hid (fun i : Nat => congrFun hy i)
  rw [hz]
  clear hz
  clear hx hy h1
  go_enter Try.func36, Try.ntmps36
  go_wp2_with (first
    | (go_at_call 52; (with_reducible refine k1.mono ?_); rintro e wz ⟨rfl, hbz⟩; have G2 := h2.later hbz)
    | (refine wpList_new_arr (f := x) rfl _ _ rfl rfl rfl ?_; intro wy hAy hby; have G3 := G2.later hby)
    | (go_at_call 52; (with_reducible refine (k2 _ G3).mono ?_); rintro e wx ⟨rfl, hbx⟩; have hAx := hAy.below hbx)
    | (refine wpList_new_arr (f := y) rfl _ _ rfl rfl rfl ?_; intro wv hAv hbv; have hA1 := hAx.below hbv))
  have hbel : Below w.heap.size w wv := bel_next (bel_next (bel_next hbz hby) hbx) hbv
  have r1 := hAy.room
  have r2 := hbz.size
  have r3 := hbx.size
  obtain ⟨b, hb⟩ : ∃ b, wz.heap.size = b := ⟨_, rfl⟩
  obtain ⟨d, hd⟩ : ∃ d, wx.heap.size = d := ⟨_, rfl⟩
  rw [hb] at hA1 r1 r2 ⊢
  rw [hd] at hAv r3 ⊢
  clear k1 k2 G2 G3 hAy hAx hbz hby hbx hbv h2 hb hd
  have HA := Lib.hid hA1
  have HB := Lib.hid hAv
  have HBEL := Lib.hid hbel
  clear hA1 hAv hbel
  go_loopw [7] (fun i wr => ∃ k : Nat, k ≤ 8 ∧ i = .int .i64 (k : Int) ∧ Arr wr b x ∧ Arr wr d y ∧ Below w.heap.size w wr ∧ ∀ j, j < k → y j ≤ x j) (fun i _ => 8 - (intOf i).toNat)
  case atStart => exact ⟨0, by omega, rfl, HA.out, HB.out, HBEL.out, fun j hj => absurd hj (Nat.not_lt_zero _)⟩
  case round =>
    obtain ⟨k, hk, rfl, hX, hY, hbel, hall⟩ := hrel
    clear HA HB HBEL
    by_cases hlt : k < 8
    · have c1 := (hX k hlt).1
      have c2 := (hY k hlt).1
      obtain ⟨p, hp⟩ : ∃ p, x k = p := ⟨_, rfl⟩
      obtain ⟨q, hq⟩ : ∃ q, y k = q := ⟨_, rfl⟩
      rw [hp] at c1
      rw [hq] at c2
      have HP := Lib.hid hp
      have HQ := Lib.hid hq
      have HA := Lib.hid hX
      have HB := Lib.hid hY
      have HL := Lib.hid hbel
      have HALL := Lib.hid hall
      have hk1 : (k : Int) < 8 := by omega
      clear hp hq hX hY hbel hall
      by_cases hc : p < q
      · go_wp2_with fail
        go_quiet (fail)
        go_wp2
        go_ret
        exact ⟨by rw [← HZ.out, cov_no hlt (by have e1 := HX.out k; have e2 := HY.out k; rw [e1, e2, HP.out, HQ.out]; exact hc)]; rfl, below_drewN HL.out _⟩
      · go_wp2_with fail
        go_quiet (fail)
        go_wp2
        go_roundw
        case rel =>
          refine ⟨k + 1, by omega, by go_num, HA.out.below (below_drawn _ _), HB.out.below (below_drawn _ _), below_drewN HL.out _, fun j hj => ?_⟩
          by_cases e : j = k
          · subst e; rw [HP.out, HQ.out]; omega
          · exact HALL.out j (by omega)
        case measure => simp [intOf]; omega
    · obtain rfl : k = 8 := by omega
      have HALL := Lib.hid hall
      clear hall hlt hX hY
      go_wp2
      go_ret
      exact ⟨by rw [← HZ.out, cov_all (k := 8) (fun i hi => by have e1 := HX.out i; have e2 := HY.out i; rw [e1, e2]; exact HALL.out i hi) (Nat.le_refl _)]; rfl, hbel⟩

theorem rcompare_is (v1 v2 : Value) (l1 l2 : List Int) (w : World) (h1 : Ns w v1 l1) (h2 : Ns w v2 l2) : Calls Try.prog 38 #[v1, v2] w fun e w' => e = .returned (.int .i64 (cmpL l1 l2)) ∧ Below w.heap.size w w' := by
  have hA := rcovers_is v1 v2 l1 l2 w h1 h2
  have hB := fun w h2 h1 => rcovers_is v2 v1 l2 l1 w h2 h1
  unfold cmpL
  obtain ⟨x, hx⟩ : ∃ x, covL l1 l2 = x := ⟨_, rfl⟩
  obtain ⟨y, hy⟩ : ∃ y, covL l2 l1 = y := ⟨_, rfl⟩
  rw [hx] at hA ⊢
  rw [hy] at hB ⊢
  clear hx hy
  cases x <;> cases y
  all_goals
    go_enter Try.func38, Try.ntmps38
    go_wp2_with (first
      | (go_at_call 36; (with_reducible refine hA.mono ?_); rintro e w1 ⟨rfl, hb1⟩; have G1 := h1.later hb1; have G2 := h2.later hb1)
      | (go_at_call 36; (with_reducible refine (hB _ G2 G1).mono ?_); rintro e w2 ⟨rfl, hb2⟩))
    go_ret
    exact ⟨rfl, bel_next hb1 hb2⟩

theorem one_ns (w : World) (b : Nat) (x : Int) (hc : w.cell? ⟨b, 0, none⟩ = some (.int .i64 x)) (hx : -9223372036854775808 ≤ x ∧ x ≤ 9223372036854775807) : Ns w (.slice (some ⟨b, 0, none⟩) 1 1) [x] :=
  ⟨⟨_, _, rfl, Or.inr ⟨b, 0, rfl, World.block_lt_of_cell? w _ hc, fun j hj => by
    match j, hj with
    | 0, _ => exact hc⟩⟩, fun n hn => by simp at hn; subst hn; exact hx, by simp, Nat.le_refl _⟩
set_option maxHeartbeats 4000000 in
theorem rwith_is (v : Value) (l : List Int) (s n : Int) (w : World) (h : Ns w v l) (hn : -9223372036854775808 ≤ n ∧ n ≤ 9223372036854775807) : Calls Try.prog 30 #[v, .int .i64 s, .int .i64 n] w (VDone (withL l s n) w) := by
  obtain ⟨x, hx⟩ : ∃ x : Nat → Int, (fun i : Nat => atL l (i : Int)) = x := ⟨_, rfl⟩
  have k1 := rall_is v l w h
  have k2 := fun a w h => rall_is a [n] w h
  rw [hx] at k1
  have hfit : Fit x := by rw [← hx]; exact atL_fit l
  clear h
  by_cases ho : s < 0 ∨ 7 < s
  · have hz : withL l s n = vec x := by
      rw [← hx]
      exact vec_congr fun i hi => if_neg (by omega)
    have k5 := fun w => rvector_is x w hfit
    rw [hz]
    have hs : s < 0 ∨ (0 ≤ s ∧ 7 < s) := by omega
    clear hx hz hfit k2 ho
    rcases hs with hs | ⟨hs1, hs2⟩
    all_goals
      go_enter Try.func30, Try.ntmps30
      go_wp2_with (first
        | (go_at_call 52; (with_reducible refine k1.mono ?_); rintro e wz ⟨rfl, hbz⟩)
        | (refine wpList_new_arr (f := x) rfl _ _ rfl rfl rfl ?_; intro wy hAy hby)
        | (refine wpList_load_arr hAy rfl _ rfl rfl ?_)
        | (go_at_call 53; (with_reducible refine (k5 _).mono ?_); rintro e wn ⟨v5, rfl, hN, hbn⟩))
      go_ret
      exact ⟨_, rfl, hN, bel_next (bel_next hbz hby) hbn⟩
  · obtain ⟨k, rfl⟩ := Int.eq_ofNat_of_zero_le (show 0 ≤ s by omega)
    have hk8 : k < 8 := by omega
    have hfz : Fit (updI x k (cl n)) := fun i hi => by
      unfold updI
      by_cases e : i = k
      · rw [if_pos e]; exact cl_bounds n
      · rw [if_neg e]; exact hfit i hi
    have hz : withL l (k : Int) n = vec (updI x k (cl n)) := by
      rw [← hx]
      refine vec_congr fun i hi => ?_
      unfold updI
      by_cases e : i = k
      · subst e; rw [if_pos rfl, if_pos rfl]
      · rw [if_neg e, if_neg (by omega)]
    have k5 := fun w => rvector_is (updI x k (cl n)) w hfz
    have hix : ∀ w, (Instr.index 66 (.agg (arrOf fun i => atL [n] (i : Int))) (.int .i64 0)).run Try.prog w = .ok (.int .i64 (cl n)) w := fun w => by
      have := index_arr (fun i => atL [n] (i : Int)) 0 (by omega) w
      have e0 : atL [n] ((0 : Nat) : Int) = cl n := atL_get (l := [n]) (by omega) (by simp)
      rw [e0] at this
      exact this
    rw [hz]
    have hk1 : (k : Int) ≤ 7 := by omega
    have hk2 : (0 : Int) ≤ (k : Int) := by omega
    have hk3 : (k : Int) < 8 := by omega
    clear hx hz hfit hfz ho
    go_enter Try.func30, Try.ntmps30
    go_wp2_with (first
      | (go_at_call 52; (with_reducible refine k1.mono ?_); rintro e wz ⟨rfl, hbz⟩)
      | (refine wpList_new_arr (f := x) rfl _ _ rfl rfl rfl ?_; intro wy hAy hby)
      | (go_at_call 52; (with_reducible refine (k2 _ _ (one_ns _ _ n ?hc hn)).mono ?_); (case hc => simp [go_sem]; done); rintro e wx ⟨rfl, hbx⟩; have hAx := (hAy.alloc _).below hbx; obtain ⟨c1, f1⟩ := hAx k hk8; have hAs := hAx.stored k hk8 (cl n); have hrz := hbz.size)
      | (refine wpList_load_arr hAs rfl _ rfl rfl ?_)
      | (go_at_call 53; (with_reducible refine (k5 _).mono ?_); rintro e wn ⟨v5, rfl, hN, hbn⟩))
    go_ret
    exact ⟨_, rfl, hN, bel_next ((bel_next (bel_new (bel_next hbz hby) _) hbx).setCell hrz _) hbn⟩

set_option maxHeartbeats 2000000 in
theorem rtext_is (v : Value) (l : List Int) (s : ByteArray) (w : World) (h : Ns w v l) (hs : Hid (tx (textL (plainL l)) = s)) : Calls Try.prog 43 #[v] w (TextDone s w) := by
  have hn := rplain_is v l w h
  obtain ⟨p, hp⟩ : ∃ p, plainL l = p := ⟨_, rfl⟩
  have hfit : ∀ n ∈ p, 0 ≤ n ∧ n ≤ 1099511627776 := by rw [← hp]; exact vec_fit (atL_fit l)
  have hp8 : p.length ≤ 8 := by rw [← hp]; exact vec_size _
  have hsz : s.size ≤ 90 := by rw [← hs.out, tx_size, hp]; exact textL_len p hfit hp8
  rw [hp] at hn hs
  have hlen := fun w => putIntR (p.length : Int) (tx (enc p.length)) w (by omega) (by omega) (Lib.hid (by simp))
  have e8 := u64_in (p.length : Int) (by omega) (by omega)
  have HF := Lib.hid hfit
  have HST := Lib.hid (show ∀ k, k < p.length → (tx (enc p.length ++ encL (p.take k))).size + 10 ≤ 100 by
    intro k hk
    have h1 := encL_len (p.take k) fun n hn => hfit n (List.mem_of_mem_take hn)
    have h2 := enc_len10 p.length (by omega)
    rw [tx_size, List.length_append]
    rw [List.length_take] at h1; omega)
  clear hp hfit h
  obtain ⟨s0, hs0⟩ : ∃ s0, tx (enc p.length) = s0 := ⟨_, rfl⟩
  rw [hs0] at hlen
  have HS0 := Lib.hid hs0
  clear hs0
  go_enter Try.func43, Try.ntmps43
  go_wp2_with (first
    | (go_at_call 42; (with_reducible refine hn.mono ?_); rintro e w1 ⟨v1, rfl, hN1, hb1⟩; obtain ⟨a1, cap1, rfl⟩ := hN1.slice)
    | (go_at_call 49; (with_reducible refine (hlen _).mono ?_); rintro e w2 ⟨rfl, hb2⟩))
  have HN := Lib.hid hN1
  have HB1 := Lib.hid hb1
  have HB2 := Lib.hid hb2
  have HEND := Lib.hid hs.out
  clear hn hlen hN1 hb1 hb2 hs
  go_loopw [4, 5] (fun t i wr => ∃ (k : Nat), k ≤ p.length ∧ i = .int .i64 (k : Int) ∧ t = .string (tx (enc p.length ++ encL (p.take k))) ∧ Below w1.heap.size w1 wr) (fun _ i _ => p.length - (intOf i).toNat)
  case atStart => exact ⟨0, by omega, rfl, by rw [← HS0.out]; simp [encL], HB2.out⟩
  case round =>
    obtain ⟨k, hk, rfl, rfl, hb⟩ := hrel
    by_cases hkn : k < p.length
    · have hk2 : (k : Int) < (p.length : Int) := by omega
      obtain ⟨-, b1, off1, rfl, g1⟩ := (HN.out.below hb).cell (by omega)
      have c1 := g1 k hkn
      obtain ⟨h0, h1⟩ := HF.out _ (List.getElem_mem hkn)
      obtain ⟨x, hx⟩ : ∃ x, p[k] = x := ⟨_, rfl⟩
      rw [hx] at c1 h0 h1
      have e9 := u64_in x h0 h1
      obtain ⟨y, hy⟩ : ∃ y, tx (enc x.toNat) = y := ⟨_, rfl⟩
      have hpx := fun w => putIntR x y w h0 h1 (Lib.hid hy)
      have hyz : y.size ≤ 10 := by rw [← hy, tx_size]; exact enc_len10 _ (by omega)
      have hsk := HST.out k hkn
      obtain ⟨t0, ht0⟩ : ∃ t0, tx (enc p.length ++ encL (p.take k)) = t0 := ⟨_, rfl⟩
      rw [ht0] at hsk ⊢
      have hq1 : t0.size + y.size ≤ 9223372036854775807 := by omega
      have hq2 : ¬ 9223372036854775807 < t0.size + y.size := by omega
      have HK := Lib.hid (show t0 ++ y = tx (enc p.length ++ encL (p.take (k + 1))) by rw [← ht0, ← hy, tx_app, List.append_assoc, ← hx, ← encL_snoc p k hkn])
      have HB := Lib.hid hb
      clear g1 hx hy ht0 hsk hyz hkn hb
      go_wp2_with (go_at_call 49; (with_reducible refine (hpx _).mono ?_); rintro e w3 ⟨rfl, hb3⟩)
      go_roundw
      case rel => exact ⟨k + 1, by omega, by go_num, by rw [← HK.out], HB.out.trans (hb3.mono HB.out.size)⟩
      case measure => simp [intOf]; omega
    · obtain rfl : k = p.length := by omega
      have hk2 : ¬ (p.length : Int) < (p.length : Int) := by omega
      have HB := Lib.hid hb
      clear hkn hk hb
      go_wp2
      go_ret
      exact ⟨by rw [← HEND.out]; rfl, HB1.out.trans (HB.out.mono HB1.out.size)⟩
end Go.Proofs.Ytkgagedjjjaofaa
