/- The walk of NetAges. -/
import Derived.Test.YtnjabhjcnkbgpaaNetArgs
set_option maxRecDepth 20000
set_option linter.unusedSimpArgs false
set_option linter.unusedVariables false
namespace Go.Proofs.Ytnjabhjcnkbgpaa
open Go.RowKit

def TX : ByteArray := ⟨#[120]⟩
/-- Messages that were sent at the ticks bs, at the tick now. -/
def agM (now : Nat) : Nat → List Nat → List Ml
  | _, [] => []
  | j, b :: r => ⟨(j : Int) + 1, 1, 2, TX, (now : Int) - (b : Int)⟩ :: agM now (j + 1) r
def agS (now : Nat) (bs : List Nat) : NS := ⟨agM now 0 bs, (bs.length : Int), fun _ => false⟩
theorem agM_len (now : Nat) : ∀ (j : Nat) (bs : List Nat), (agM now j bs).length = bs.length
  | _, [] => rfl
  | j, b :: r => by simp [agM, agM_len now (j + 1) r]
theorem agM_at (now : Nat) : ∀ (k : Nat) (bs : List Nat) (j : Nat) (h : j < bs.length) (h2 : j < (agM now k bs).length), (agM now k bs)[j] = ⟨((k + j : Nat) : Int) + 1, 1, 2, TX, (now : Int) - (bs[j] : Int)⟩
  | k, b :: r, 0, _, _ => by simp [agM]
  | k, b :: r, j + 1, h, h2 => by
    have := agM_at now (k + 1) r j (by simpa using h) (by rw [agM_len]; simpa using h)
    simp only [agM, List.getElem_cons_succ]
    rw [this, show k + 1 + j = k + (j + 1) by omega]
theorem inc_small {x : Int} (h : 0 ≤ x) (h2 : x ≤ 1000000) : inc x = x + 1 := by unfold inc; rw [IntKind.wrap_i64]; omega
theorem agM_tick (now : Nat) (hn : now ≤ 100000) : ∀ (j : Nat) (bs : List Nat), (∀ b ∈ bs, b ≤ now) → (agM now j bs).map older = agM (now + 1) j bs
  | _, [], _ => rfl
  | j, b :: r, h => by
    have hb := h b (by simp)
    rw [agM, List.map_cons, agM_tick now hn (j + 1) r fun x hx => h x (by simp [hx])]
    show older _ :: _ = ⟨(j : Int) + 1, 1, 2, TX, ((now + 1 : Nat) : Int) - (b : Int)⟩ :: _
    unfold older
    rw [inc_small (x := (now : Int) - (b : Int)) (by omega) (by omega)]
    congr 2
    omega
theorem agS_tick {now : Nat} {bs : List Nat} (hn : now ≤ 100000) (h : ∀ b ∈ bs, b ≤ now) : tickS (agS now bs) = agS (now + 1) bs := by
  unfold tickS agS
  rw [agM_tick now hn 0 bs h]
theorem agM_snoc (now : Nat) : ∀ (j : Nat) (bs : List Nat), agM now j (bs ++ [now]) = agM now j bs ++ [⟨((j + bs.length : Nat) : Int) + 1, 1, 2, TX, 0⟩]
  | j, [] => by simp [agM]
  | j, b :: r => by
    have := agM_snoc now (j + 1) r
    simp only [List.cons_append, agM, this, List.length_cons]
    rw [show j + 1 + r.length = j + (r.length + 1) by omega]
theorem agS_send {now : Nat} {bs : List Nat} (h : bs.length ≤ 100) : refuse (agS now bs) 1 2 TX = false ∧ sendS (agS now bs) 1 2 TX = agS now (bs ++ [now]) := by
  have hr : refuse (agS now bs) 1 2 TX = false := by
    unfold refuse fullB agS
    rw [agM_len]
    have h1 : twoB 1 2 = true := by decide
    have h2 : ¬ 80000 < TX.size := by decide
    rw [h1, decide_eq_false h2, decide_eq_false (by omega)]; rfl
  refine ⟨hr, ?_⟩
  unfold sendS
  rw [hr]
  show addS (agS now bs) 1 2 TX = _
  unfold addS agS
  rw [inc_small (x := (bs.length : Int)) (by omega) (by omega), agM_snoc, List.length_append]
  simp
theorem agS_ready (now : Nat) (bs : List Nat) : readyL (agS now bs) = agM now 0 bs := by
  unfold readyL agS openB
  simp
theorem agS_oldest (now : Nat) (b : Nat) (r : List Nat) : oldestS (agS now (b :: r)) = (now : Int) - (b : Int) := rfl
namespace netAges
theorem tmod51 (x : Int) : -50 ≤ x.tmod 51 ∧ x.tmod 51 ≤ 50 := by
  have h1 := Int.tmod_lt_of_pos x (show (0 : Int) < 51 by decide)
  have h2 := Int.lt_tmod_of_pos x (show (0 : Int) < 51 by decide)
  omega
set_option maxHeartbeats 8000000 in
theorem walk (a : Option Addr) (len cap : Nat) (w : World) (harg : ArgInts w a len cap) : Calls Try.prog 5 #[.slice a len cap] w fun e w' => e = .returned (.bool true) ∧ Below w.heap.size w w' := by
  obtain ⟨l, hl, hlc⟩ : ∃ l : List Int, l.length = len ∧ (0 < len → ∃ b off, a = some ⟨b, off, none⟩ ∧ b < w.heap.size ∧ ∀ j (h : j < l.length), w.cell? ⟨b, off + j, none⟩ = some (.int .i64 l[j])) := by
    rcases harg with h0 | ⟨b, off, l, h1, h2, h3, h4, h5, h6⟩
    · exact ⟨[], h0.symm ▸ rfl, fun h => by omega⟩
    · exact ⟨l, h2, fun h => ⟨b, off, h1, World.block_lt_of_cell? w _ (h5 0 (by omega)), h5⟩⟩
  have hlm : len ≤ 9223372036854775807 := by
    rcases harg with h0 | ⟨b, off, l, h1, h2, h3, h4, h5, h6⟩
    · omega
    · unfold maxLen at h4; omega
  have HLC := Lib.hid hlc
  have HLN := Lib.hid hl
  clear harg hlc hl
  go_enter Try.func5, Try.ntmps5
  go_wp2_with (first
    | (go_at_call 9; (with_reducible refine (awake_is _).mono ?_); rintro e w1 ⟨rfl, hB⟩; (have HB1 := Lib.hid hB); clear hB)
    | (go_at_call 10; (with_reducible refine (new_is w1).mono ?_); rintro e w2 ⟨rfl, rfl⟩; (have H0 := Lib.hid (One.made w1))))
  obtain ⟨w2, hw2⟩ : ∃ x, x = w1.alloc (.cells (ncells (.slice none 0 0) 0 fun _ => false) 54) := ⟨_, rfl⟩
  rw [← hw2] at H0 ⊢
  clear hw2
  go_loopw [5, 6, 7] (fun n u i wr => ∃ (q k : Nat) (bs : List Nat), n = .int .i64 (q : Int) ∧ i = .int .i64 (k : Int) ∧ k ≤ 20 ∧ k ≤ len ∧ Hid (bs.length = k) ∧ q ≤ 50 * k ∧ Hid (∀ b ∈ bs, b ≤ q) ∧ PRow wr w1.heap.size u bs ∧ One w1 wr w1.heap.size (agS q bs)) (fun _ _ i _ => 20 - (intOf i).toNat)
  case atStart => exact ⟨0, 0, [], rfl, rfl, by omega, by omega, Lib.hid rfl, by omega, Lib.hid fun b h => by simp at h, PRow.nil _ _, H0.out⟩
  case round =>
    obtain ⟨q, k, bs, rfl, rfl, hk20, hkl, hbl, hq, hbq, hrow, hone⟩ := hrel
    obtain ⟨w3, hw3⟩ : ∃ x, x = wr := ⟨_, rfl⟩
    subst hw3
    obtain ⟨ua, uc, rfl⟩ := hrow.slice
    rw [hbl.out] at hrow ⊢
    have HR := Lib.hid hrow
    have HO := Lib.hid hone
    clear hrow hone
    by_cases hgo : k < len ∧ k < 20
    · obtain ⟨hg1, hg2⟩ := hgo
      have hg1i : (k : Int) < (len : Int) := by omega
      have hg2i : (k : Int) < 20 := by omega
      have hkw : IntKind.i64.wrap ((k : Int) + 1) = (k : Int) + 1 := by rw [IntKind.wrap_i64]; omega
      obtain ⟨bb, off, rfl, hbw, hcells⟩ := HLC.out (by omega)
      have hkl2 : k < l.length := by rw [HLN.out]; exact hg1
      have cx := (HO.out.bel.cell (p := ⟨bb, off + k, none⟩) (Nat.lt_of_lt_of_le hbw HB1.out.size)).trans ((HB1.out.cell (p := ⟨bb, off + k, none⟩) hbw).trans (hcells k hkl2))
      obtain ⟨x, hx⟩ : ∃ x, l[k] = x := ⟨_, rfl⟩
      rw [hx] at cx
      have hm := tmod51 x
      obtain ⟨z, hz⟩ : ∃ z, x.tmod 51 = z := ⟨_, rfl⟩
      rw [hz] at hm
      have hzw : IntKind.i64.wrap z = z := by rw [IntKind.wrap_i64]; omega
      obtain ⟨m, hmm⟩ : ∃ m : Nat, z.natAbs = m := ⟨_, rfl⟩
      have hm50 : m ≤ 50 := by omega
      have hcase : (z < 0 ∧ IntKind.i64.wrap (-z) = (m : Int)) ∨ (¬ z < 0 ∧ z = (m : Int)) := by
        by_cases hneg : z < 0
        · exact Or.inl ⟨hneg, by rw [IntKind.wrap_i64]; omega⟩
        · exact Or.inr ⟨hneg, by omega⟩
      have HLX := Lib.hid hx
      clear hcells hx hm hmm
      rcases hcase with ⟨hc1, hc2⟩ | ⟨hc1, rfl⟩
      all_goals
        go_wp2
        go_loopw [5, 9] (fun n t wr => ∃ j : Nat, j ≤ m ∧ n = .int .i64 ((q + j : Nat) : Int) ∧ t = .int .i64 (j : Int) ∧ PRow wr w1.heap.size (.slice ua k uc) bs ∧ One w1 wr w1.heap.size (agS (q + j) bs)) (fun _ t _ => m - (intOf t).toNat)
        case atStart => exact ⟨0, by omega, by simp, rfl, HR.out, HO.out⟩
        case round =>
          obtain ⟨j, hj, rfl, rfl, hrow, hone⟩ := hrel
          have HR2 := Lib.hid hrow
          have HO2 := Lib.hid hone
          obtain ⟨w5, hw5⟩ : ∃ x, x = wr := ⟨_, rfl⟩
          subst hw5
          clear hrow hone
          by_cases hjm : j < m
          · have hji : (j : Int) < (m : Int) := by omega
            have hjw : IntKind.i64.wrap ((j : Int) + 1) = (j : Int) + 1 := by rw [IntKind.wrap_i64]; omega
            have hqw : IntKind.i64.wrap (((q + j : Nat) : Int) + 1) = ((q + (j + 1) : Nat) : Int) := by rw [IntKind.wrap_i64]; omega
            have kt := tick_one HO2.out
            rw [agS_tick (by omega) (fun b hb => by have := hbq.out b hb; omega)] at kt
            obtain ⟨q1, hq1⟩ : ∃ q1, ((q + j : Nat) : Int) = q1 := ⟨_, rfl⟩
            obtain ⟨q2, hq2⟩ : ∃ q2, ((q + (j + 1) : Nat) : Int) = q2 := ⟨_, rfl⟩
            rw [hq1, hq2] at hqw
            rw [hq1]
            have HQ2 := Lib.hid hq2
            clear hjm hq1 hq2
            go_wp2_with (go_at_call 22; (with_reducible refine kt.mono ?_); rintro e w6 ⟨rfl, hO, hK, -⟩; (have HO3 := Lib.hid hO); (have HR3 := Lib.hid (show PRow w6 _ _ _ from hK.row HR2.out (by decide) (by decide))); clear hO hK kt)
            go_roundw
            case rel => exact ⟨j + 1, by omega, by rw [HQ2.out], by go_num, HR3.out, HO3.out⟩
            case measure => simp [intOf]; omega
          · have hji : ¬ (j : Int) < (m : Int) := by omega
            obtain rfl : j = m := by omega
            have hsd := agS_send (now := q + j) (bs := bs) (by have := hbl.out; omega)
            have ks := send_one 1 2 TX (by decide) HO2.out
            unfold sendN at ks
            rw [hsd.1, hsd.2] at ks
            have hb1 : (bs ++ [q + j]).length = k + 1 := by rw [List.length_append, hbl.out]; rfl
            have HB1' := Lib.hid hb1
            have HBQ := Lib.hid (show ∀ b ∈ bs ++ [q + j], b ≤ q + j from fun b hb => by
              rcases List.mem_append.1 hb with hb | hb
              · have := hbq.out b hb; omega
              · simp at hb; omega)
            obtain ⟨qi, hqi⟩ : ∃ qi : Nat, qi = q + j := ⟨_, rfl⟩
            rw [← hqi] at ks HBQ HB1' ⊢
            have HQI := Lib.hid (show qi ≤ 50 * (k + 1) by omega)
            clear hsd hb1 hjm hqi
            unfold TX at ks
            go_wp2_with (first
              | (go_at_call 27; (with_reducible refine ks.mono ?_); rintro e w6 ⟨rfl, hO, hK, hsz⟩; (have HO3 := Lib.hid hO); (have HR3 := Lib.hid (show PRow w6 _ _ _ from hK.row HR2.out (by decide) (by decide))); (have HS3 := Lib.hid (Nat.le_trans HO2.out.bel.size hsz)); clear hO hK ks hsz)
              | (at_builtin; refine wpList_place (w := w6) rfl _ _ rfl w1.heap.size (.slice ua k uc) bs qi rfl rfl HR3.out HS3.out (by have := hbl.out; omega) ?_; intro v7 w7 hR7 hg7 hs7; (have HR7 := Lib.hid hR7); (have HO7 := Lib.hid (HO3.out.grown hg7 HR3.out (by decide) (by decide) (Nat.le_refl _))); clear hR7 hg7 hs7))
            go_roundw
            case rel => exact ⟨qi, k + 1, bs ++ [qi], rfl, by go_num, by omega, by omega, HB1', HQI.out, HBQ, HR7.out, HO7.out⟩
            case measure => simp [intOf]; omega
    · have hc : (¬ (k : Int) < (len : Int)) ∨ ((k : Int) < (len : Int) ∧ ¬ (k : Int) < 20) := by omega
      have kr := ready_one HO.out
      rw [agS_ready] at kr
      have ko := HO.out
      clear hgo
      rcases hc with hc1 | ⟨hc1, hc2⟩
      all_goals
        go_wp2_with (go_at_call 29; (with_reducible refine kr.mono ?_); rintro e w4 ⟨v4, rfl, hR, hB⟩; (obtain ⟨a4, c4, rfl⟩ := hR.slice); (have HR4 := Lib.hid hR); (have HB4 := Lib.hid hB); rw [agM_len, hbl.out]; clear hB hR kr)
        have hkk : ((k : Int) != (k : Int)) = false := by simp
        have HO4 := Lib.hid (ko.later HB4.out)
        have HP4 := Lib.hid (HR.out.later HB4.out)
        clear ko hc1
        go_wp2
        go_loopw [11] (fun i wr => ∃ j : Nat, j ≤ k ∧ i = .int .i64 (j : Int) ∧ Below w4.heap.size w4 wr) (fun i _ => k - (intOf i).toNat)
        case atStart => exact ⟨0, by omega, rfl, Below.refl _ _⟩
        case round =>
          obtain ⟨j, hj, rfl, hbel⟩ := hrel
          obtain ⟨w5, hw5⟩ : ∃ x, x = wr := ⟨_, rfl⟩
          subst hw5
          have HB5 := Lib.hid hbel
          clear hbel
          by_cases hjk : j < k
          · have hji : (j : Int) < (k : Int) := by omega
            have hjw : IntKind.i64.wrap ((j : Int) + 1) = (j : Int) + 1 := by rw [IntKind.wrap_i64]; omega
            have hjb : j < bs.length := by rw [hbl.out]; exact hjk
            have hjm : j < (agM q 0 bs).length := by rw [agM_len]; exact hjb
            have hP5 := HP4.out.later HB5.out
            have hR5 := HR4.out.later HB5.out
            rw [← hbl.out] at hP5
            obtain ⟨pg, rfl, -, -, -, hpc⟩ := hP5.block (by omega)
            rw [← agM_len q 0 bs] at hP5
            obtain ⟨mg, rfl, -, -, -, -, hmc⟩ := hR5.block (by rw [agM_len]; omega)
            have c1 := hpc j hjb
            obtain ⟨m0, -, -, -, m4⟩ := hmc j hjm
            rw [agM_at q 0 bs j hjb hjm] at m0 m4
            dsimp only at m0 m4
            rw [Nat.zero_add] at m0
            obtain ⟨y, hy⟩ : ∃ y, bs[j] = y := ⟨_, rfl⟩
            rw [hy] at c1 m4
            have hyq := hbq.out y (by rw [← hy]; exact List.getElem_mem hjb)
            obtain ⟨d, hd⟩ : ∃ d, (q : Int) - (y : Int) = d := ⟨_, rfl⟩
            have hdw : IntKind.i64.wrap d = d := by rw [IntKind.wrap_i64]; omega
            rw [hd] at m4
            obtain ⟨j1, hj1⟩ : ∃ j1, (j : Int) + 1 = j1 := ⟨_, rfl⟩
            rw [hj1] at m0 hjw
            have hdd : (d != d) = false := by simp
            have hjj : (j1 != j1) = false := by simp
            have HJ1 := Lib.hid hj1
            clear hpc hmc hP5 hR5 hjk hy
            go_wp2_with fail
            go_quiet (fail)
            go_wp2
            go_roundw
            case rel => exact ⟨j + 1, by omega, by rw [← HJ1.out]; go_num, below_drewN HB5.out _⟩
            case measure => have := HJ1.out; simp [intOf]; omega
          · have hji : ¬ (j : Int) < (k : Int) := by omega
            obtain rfl : j = k := by omega
            have HO5 := Lib.hid (HO4.out.later HB5.out)
            have HP5 := Lib.hid (HP4.out.later HB5.out)
            clear hjk
            cases bs with
            | nil =>
              have h0 := hbl.out
              simp only [List.length_nil] at h0
              subst h0
              have kold := oldest_one HO5.out
              rw [show oldestS (agS q []) = 0 from rfl] at kold
              go_wp2_with (go_at_call 32; (with_reducible refine kold.mono ?_); rintro e w6 ⟨rfl, rfl⟩)
              go_ret
              exact ⟨rfl, bel_next HB1.out HO5.out.bel⟩
            | cons y r =>
              have h0 := hbl.out
              simp only [List.length_cons] at h0
              have kold := fun n => oldest_one (HO5.out.later (below_drewN (Below.refl _ w5) n))
              rw [agS_oldest] at kold
              have hyq := hbq.out y (by simp)
              obtain ⟨d, hd⟩ : ∃ d, (q : Int) - (y : Int) = d := ⟨_, rfl⟩
              have hdw : IntKind.i64.wrap d = d := by rw [IntKind.wrap_i64]; omega
              have KOLD := Lib.hid (fun n => (kold n).mono fun _ _ h => ⟨h.1.trans (by rw [hd]), h.2.symm⟩ : ∀ n, Calls Try.prog 32 #[.pointer (some ⟨w1.heap.size, 0, none⟩)] (w5.drewN n) fun e w' => e = .returned (.int .i64 d) ∧ w' = w5.drewN n)
              clear kold
              have hne : ((j : Int) == 0) = false := by rw [beq_eq_false_iff_ne]; omega
              have hpos : (0 : Int) < (j : Int) := by omega
              have hP6 := HP5.out
              rw [← h0] at hP6
              obtain ⟨pg, rfl, -, -, -, hpc⟩ := hP6.block (by simp)
              have c1 := hpc 0 (by simp)
              simp only [List.getElem_cons_zero] at c1
              have hdd : (d == d) = true := by simp
              have HZ := Lib.hid h0
              clear hpc hP6 h0
              go_wp2_with fail
              go_quiet ((go_at_call 32; exact Calls.quiet_of_same (KOLD.out _)))
              go_wp2
              go_ret
              exact ⟨rfl, bel_next HB1.out (below_drewN HO5.out.bel _)⟩
end netAges
end Go.Proofs.Ytnjabhjcnkbgpaa
