/- The document's vectors with slices that are new. -/
import Derived.Test.YthifmfgnblecbaaOgOwn
import Derived.Test.YthifmfgnblecbaaMarkC
set_option maxRecDepth 20000
set_option linter.unusedSimpArgs false
set_option linter.unusedVariables false
namespace Go.Proofs.Ythifmfgnblecbaa.Og
open Go.RowKit Go.Proofs.Ythifmfgnblecbaa.Vi Go.Proofs.Ythifmfgnblecbaa.Mk

set_option maxHeartbeats 4000000 in
theorem rvectorF_is (f : Nat → Int) (w : World) (hf : Fit f) : Calls Try.prog 47 #[.agg (arrOf f)] w (VNew (vec f) w) := by
  obtain ⟨i0, hi, hz0, hz1, hz2⟩ := info_parts infoI
  have HF := Lib.hid hf
  have hX0 := Arr.new w f 74
  have HR0 := Lib.hid (show VecRel w (w.alloc (.cells (arrOf f) 74)) f (.slice none 0 0) 0 from ⟨hX0, IRow.nil _ _, Below.refl _ _⟩)
  have hs0 : (w.alloc (.cells (arrOf f) 74)).heap.size = w.heap.size + 1 := by simp
  have HS := Lib.hid hs0
  clear hf hX0 hs0
  go_enter Try.func47, Try.ntmps47
  go_wp2
  go_loopw [3, 4] (fun o i wr => ∃ k : Nat, k ≤ 8 ∧ i = .int .i64 (k : Int) ∧ VecRel w wr f o (upto f k)) (fun _ i _ => 8 - (intOf i).toNat)
  case atStart => exact ⟨0, by omega, rfl, HR0.out⟩
  case round =>
    obtain ⟨k, hk, rfl, R⟩ := hrel
    clear HR0
    by_cases hk8 : k < 8
    · have hk2 : (k : Int) < 8 := by omega
      obtain ⟨c0, -⟩ := R.x k hk8
      by_cases hpos : 0 < f k
      · obtain ⟨x, hx⟩ : ∃ x, f k = x := ⟨_, rfl⟩
        rw [hx] at c0 hpos
        have hle := upto_le f k
        have HX := Lib.hid hx
        have HZ := Lib.hid (fun j (h1 : upto f k ≤ j) (h2 : j < k) => upto_zero HF.out h1 h2 hk)
        have HU := Lib.hid (upto_yes (g := f) (k := k) (by rw [hx]; exact hpos))
        clear hx
        go_wp2
        obtain ⟨a1, cc1, rfl⟩ := R.len
        have RR := Lib.hid R
        clear R
        go_loopw [3] (fun o wr => ∃ m : Nat, upto f k ≤ m ∧ m ≤ k ∧ VecRel w wr f o m) (fun o _ => k - (match o with | .slice _ n _ => n | _ => 0))
        case atStart => exact ⟨upto f k, Nat.le_refl _, hle, RR.out⟩
        case round =>
          obtain ⟨m, hm1, hm2, R⟩ := hrel
          clear RR
          obtain ⟨a2, cc2, rfl⟩ := R.len
          obtain ⟨hX, hR, hbel⟩ := R
          have hBr : w.heap.size + 1 ≤ wr.heap.size := by have := hbel.size; have := HS.out; omega
          have hne : ∀ q, (Value.slice a2 m cc2).ownBlock = some q → w.heap.size + 1 ≤ q := fun q hq => (World.ownsRow.lt hR q hq).1
          obtain ⟨c0, -⟩ := hX k hk8
          rw [HX.out] at c0
          by_cases hmk : m < k
          · have hmk2 : (m : Int) < (k : Int) := by omega
            have hzero := HZ.out m hm1 hmk
            go_wp2_with (first | (at_builtin; refine wpList_append_own _ rfl _ _ 22 rfl (w.heap.size + 1) 3 i0 (.int .i64 0) 1 8 Try.underlying22 hi hz0 hz1 hz2 rfl (by decide) _ _ _ rfl (hR.alloc _) ⟨wr.heap.size, 0, none⟩ 1 1 [icell 0] rfl rfl ?c1 ?c2 ?c3 ?c4 ?c5 ?_))
            case c1 =>
              intro j u hj
              match j, hj with
              | 0, hj => simp at hj; subst hj; first | (simp [icell]; done) | (simp [icell, Addr.add]; done)
            case c2 => first | rfl | (intro u hu; simp at hu; subst hu; rfl)
            case c3 => unfold maxLen; (try simp); omega
            case c4 => (try simp); omega
            case c5 => (try simp); omega
            intro v' w3 hown3 hgrow _
            have hB3 : Below (w.heap.size + 1) wr w3 := ((Below.refl (w.heap.size + 1) wr).alloc hBr _).grown hgrow (by simp; omega) hne
            have hR3 : IRow w3 (w.heap.size + 1) v' ((List.range (m + 1)).map f) := by
              unfold IRow
              rw [List.range_succ, List.map_append]
              simp only [List.length_append, List.map_append, List.length_cons, List.length_nil, List.map_cons, List.map_nil]
              rw [hzero]
              simpa using hown3
            have hX3 := Lib.hid (hX.under hB3 (by omega))
            have HR3 := Lib.hid hR3
            have HB3 := Lib.hid (hbel.trans hB3)
            clear hown3 hgrow hR3 hB3 hR hbel hne
            go_wp2
            go_roundw
            case rel => exact ⟨m + 1, by omega, by omega, hX3.out, HR3.out, HB3.out⟩
            case measure =>
              obtain ⟨a3, cc3, rfl⟩ := HR3.out.slice
              simp; omega
          · obtain rfl : m = k := by omega
            have hmk2 : ¬ (m : Int) < (m : Int) := by omega
            clear hmk
            go_wp2_with (first | (at_builtin; refine wpList_append_own _ rfl _ _ 22 rfl (w.heap.size + 1) 3 i0 (.int .i64 0) 1 8 Try.underlying22 hi hz0 hz1 hz2 rfl (by decide) _ _ _ rfl (hR.alloc _) ⟨wr.heap.size, 0, none⟩ 1 1 [icell x] rfl rfl ?c1 ?c2 ?c3 ?c4 ?c5 ?_))
            case c1 =>
              intro j u hj
              match j, hj with
              | 0, hj => simp at hj; subst hj; first | (simp [icell]; done) | (simp [icell, Addr.add]; done)
            case c2 => first | rfl | (intro u hu; simp at hu; subst hu; rfl)
            case c3 => unfold maxLen; (try simp); omega
            case c4 => (try simp); omega
            case c5 => (try simp); omega
            intro v' w3 hown3 hgrow _
            have hB3 : Below (w.heap.size + 1) wr w3 := ((Below.refl (w.heap.size + 1) wr).alloc hBr _).grown hgrow (by simp; omega) hne
            have hR3 : IRow w3 (w.heap.size + 1) v' ((List.range (m + 1)).map f) := by
              unfold IRow
              rw [List.range_succ, List.map_append]
              simp only [List.length_append, List.map_append, List.length_cons, List.length_nil, List.map_cons, List.map_nil]
              rw [HX.out]
              simpa using hown3
            have hX3 := Lib.hid (hX.under hB3 (by omega))
            have HR3 := Lib.hid hR3
            have HB3 := Lib.hid (hbel.trans hB3)
            clear hown3 hgrow hR3 hB3 hR hbel hne
            go_wp2
            go_roundw
            case rel => exact ⟨m + 1, by omega, by go_num, by rw [HU.out]; exact ⟨hX3.out, HR3.out, HB3.out⟩⟩
            case measure => simp [intOf]; omega
      · have HU := Lib.hid (upto_no (g := f) (k := k) hpos)
        obtain ⟨x, hx⟩ : ∃ x, f k = x := ⟨_, rfl⟩
        rw [hx] at c0 hpos
        have RR := Lib.hid R
        clear hx R
        go_wp2
        go_roundw
        case rel => exact ⟨k + 1, by omega, by go_num, by rw [HU.out]; exact RR.out⟩
        case measure => simp [intOf]; omega
    · obtain rfl : k = 8 := by omega
      have hB := R.bel
      have hlt := World.ownsRow.lt R.row
      have hns := R.row.ns (fun n hn => by have := vec_fit HF.out n hn; omega) (by have := upto_le f 8; simp; omega)
      clear R hk8 hk
      go_wp2
      go_ret
      exact ⟨_, rfl, hns, ((Below.refl _ _).alloc (Nat.le_refl _) _).trans (hB.mono (by omega)), fun q hq => ⟨by have := (hlt q hq).1; omega, (hlt q hq).2⟩⟩
theorem rplainF_is (v : Value) (l : List Int) (w : World) (h : Ns w v l) : Calls Try.prog 31 #[v] w (VNew (plainL l) w) := by
  have k1 := rall_is v l w h
  have k2 := fun w => rvectorF_is (fun i => atL l (i : Int)) w (atL_fit l)
  clear h
  go_enter Try.func31, Try.ntmps31
  go_wp2_with (first
    | (go_at_call 46; (with_reducible refine k1.mono ?_); rintro e w1 ⟨rfl, hb1⟩)
    | (go_at_call 47; (with_reducible refine (k2 _).mono ?_); rintro e w2 ⟨v2, rfl, hN, hb2, hf2⟩))
  go_ret
  exact ⟨_, rfl, hN, bel_next hb1 hb2, own_past hf2 hb1.size⟩
set_option maxHeartbeats 4000000 in
theorem rwithF_is (v : Value) (l : List Int) (s n : Int) (w : World) (h : Ns w v l) (hn : -9223372036854775808 ≤ n ∧ n ≤ 9223372036854775807) : Calls Try.prog 28 #[v, .int .i64 s, .int .i64 n] w (VNew (withL l s n) w) := by
  obtain ⟨x, hx⟩ : ∃ x : Nat → Int, (fun i : Nat => atL l (i : Int)) = x := ⟨_, rfl⟩
  have k1 := rall_is v l w h
  have k2 := fun a w h => rall_is a [n] w h
  rw [hx] at k1
  have hfit : Fit x := by rw [← hx]; exact atL_fit l
  clear h
  by_cases ho : s < 0 ∨ 7 < s
  · have hz : withL l s n = vec x := by
      rw [← hx]
      exact vec_congr fun i hi => if_neg (by omega)
    have k5 := fun w => rvectorF_is x w hfit
    rw [hz]
    have hs : s < 0 ∨ (0 ≤ s ∧ 7 < s) := by omega
    clear hx hz hfit k2 ho
    rcases hs with hs | ⟨hs1, hs2⟩
    all_goals
      go_enter Try.func28, Try.ntmps28
      go_wp2_with (first
        | (go_at_call 46; (with_reducible refine k1.mono ?_); rintro e wz ⟨rfl, hbz⟩)
        | (refine wpList_new_arr (f := x) rfl _ _ rfl rfl rfl ?_; intro wy hAy hby)
        | (refine wpList_load_arr hAy rfl _ rfl rfl ?_)
        | (go_at_call 47; (with_reducible refine (k5 _).mono ?_); rintro e wn ⟨v5, rfl, hN, hbn, hfn⟩))
      go_ret
      exact ⟨_, rfl, hN, bel_next (bel_next hbz hby) hbn, own_past hfn (bel_next hbz hby).size⟩
  · obtain ⟨k, rfl⟩ := Int.eq_ofNat_of_zero_le (show 0 ≤ s by omega)
    have hk8 : k < 8 := by omega
    have hfz : Fit (updI x k (cl n)) := fun i hi => by
      unfold updI
      by_cases e : i = k
      · rw [if_pos e]; exact cl_bounds n
      · rw [if_neg e]; exact hfit i hi
    have hz : withL l (k : Int) n = vec (updI x k (cl n)) := by
      rw [← hx]
      refine vec_congr fun i hi => ?_
      unfold updI
      by_cases e : i = k
      · subst e; rw [if_pos rfl, if_pos rfl]
      · rw [if_neg e, if_neg (by omega)]
    have k5 := fun w => rvectorF_is (updI x k (cl n)) w hfz
    have hix : ∀ w, (Instr.index 74 (.agg (arrOf fun i => atL [n] (i : Int))) (.int .i64 0)).run Try.prog w = .ok (.int .i64 (cl n)) w := fun w => by
      have := index_arr (fun i => atL [n] (i : Int)) 0 (by omega) w
      have e0 : atL [n] ((0 : Nat) : Int) = cl n := atL_get (l := [n]) (by omega) (by simp)
      rw [e0] at this
      exact this
    rw [hz]
    have hk1 : (k : Int) ≤ 7 := by omega
    have hk2 : (0 : Int) ≤ (k : Int) := by omega
    have hk3 : (k : Int) < 8 := by omega
    clear hx hz hfit hfz ho
    go_enter Try.func28, Try.ntmps28
    go_wp2_with (first
      | (go_at_call 46; (with_reducible refine k1.mono ?_); rintro e wz ⟨rfl, hbz⟩)
      | (refine wpList_new_arr (f := x) rfl _ _ rfl rfl rfl ?_; intro wy hAy hby)
      | (go_at_call 46; (with_reducible refine (k2 _ _ (one_ns _ _ n ?hc hn)).mono ?_); (case hc => simp [go_sem]; done); rintro e wx ⟨rfl, hbx⟩; have hAx := (hAy.alloc _).below hbx; obtain ⟨c1, f1⟩ := hAx k hk8; have hAs := hAx.stored k hk8 (cl n); have hrz := hbz.size)
      | (refine wpList_load_arr hAs rfl _ rfl rfl ?_)
      | (go_at_call 47; (with_reducible refine (k5 _).mono ?_); rintro e wn ⟨v5, rfl, hN, hbn, hfn⟩))
    go_ret
    exact ⟨_, rfl, hN, bel_next ((bel_next (bel_new (bel_next hbz hby) _) hbx).setCell hrz _) hbn, own_past hfn (((bel_next (bel_new (bel_next hbz hby) _) hbx).setCell hrz _).size)⟩

end Go.Proofs.Ythifmfgnblecbaa.Og
