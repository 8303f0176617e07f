/- The walk of FilesArms. -/
import Derived.Test.YtbgjcopgipganaaFilesNilWalk
set_option maxRecDepth 20000
set_option linter.unusedSimpArgs false
set_option linter.unusedVariables false
namespace Go.Proofs.Ytbgjcopgipganaa
open Go.RowKit Go.Maps Go.Shelf

/-- Behind i steps of a directory of the file a, of which m succeed. -/
structure Armed (S : FS) (q i m : Nat) : Prop where
  room : S.room = 1000
  now : S.now = [([97], q)]
  arm : S.armed = true
  firm : S.firm = [] ∨ S.firm = [([97], q)]
  fil : ∃ s k, S.fil = [⟨q, s, k⟩] ∧ s.size ≤ i
  chg : S.chg.length ≤ 1
  live : if i ≤ m then S.on = true ∧ S.left = (m : Int) - (i : Int) else S.on = false
theorem find_off {S : FS} {n : ByteArray} (h : S.on = false) : findS S n = (none, 14) := by
  unfold findS checkS
  rw [h]; rfl
theorem Armed.off {S : FS} {q i m : Nat} (h : Armed S q i m) (hi : ¬ i ≤ m) : S.on = false ∧ Armed S q (i + 1) m := by
  have hl := h.live
  rw [if_neg hi] at hl
  obtain ⟨s, k, h1, h2⟩ := h.fil
  exact ⟨hl, h.room, h.now, h.arm, h.firm, ⟨s, k, h1, by omega⟩, h.chg, by rw [if_neg (by omega)]; exact hl⟩
theorem Armed.step {S T : FS} {q i m : Nat} (h : Armed S q i m) (hi : i ≤ m) (e1 : T.room = S.room) (e2 : T.now = S.now) (e3 : T.armed = S.armed) (e4 : T.firm = [] ∨ T.firm = [([97], q)]) (e5 : ∃ s k, T.fil = [⟨q, s, k⟩] ∧ s.size ≤ i + 1) (e6 : T.chg.length ≤ 1) (e7 : T.on = S.on) (e8 : T.left = S.left) : (stepS T).1 = decide (i < m) ∧ Armed (stepS T).2 q (i + 1) m := by
  have hl := h.live
  rw [if_pos hi] at hl
  have h0 := h.room
  have h1 := h.now
  have h2 := h.arm
  unfold stepS
  rw [if_neg (by rw [e3, h2]; decide)]
  by_cases hm : i < m
  · rw [if_pos (by rw [e8, hl.2]; omega)]
    exact ⟨by simp [hm], ⟨by dsimp only; rw [e1]; exact h0, by dsimp only; rw [e2]; exact h1, by dsimp only; rw [e3]; exact h2, e4, e5, e6, by rw [if_pos (by omega)]; exact ⟨e7.trans hl.1, by dsimp only; rw [e8, hl.2]; omega⟩⟩⟩
  · rw [if_neg (by rw [e8, hl.2]; omega)]
    exact ⟨by simp [hm], ⟨by dsimp only; rw [e1]; exact h0, by dsimp only; rw [e2]; exact h1, by dsimp only; rw [e3]; exact h2, e4, e5, e6, by rw [if_neg (by omega)]⟩⟩
def codeA (i m : Nat) : Int := if i < m then 0 else 14
theorem tell_code (i m : Nat) : tell (decide (i < m)) = codeA i m := by
  unfold tell codeA
  by_cases h : i < m
  · rw [if_pos h, decide_eq_true h]; rfl
  · rw [if_neg h, decide_eq_false h]; rfl
theorem Armed.append {S : FS} {q i m : Nat} (h : Armed S q i m) (hi5 : i ≤ 100) : (appendS S TA ⟨#[120]⟩).1 = codeA i m ∧ Armed (appendS S TA ⟨#[120]⟩).2 q (i + 1) m := by
  by_cases hi : i ≤ m
  · have hl := h.live
    rw [if_pos hi] at hl
    obtain ⟨s, k, h1, h2⟩ := h.fil
    unfold appendS
    rw [find_a hl.1 h.now]
    dsimp only
    rw [used_one h.now h1, if_neg (by rw [h.room, show ((⟨#[120]⟩ : ByteArray).size : Int) = 1 from rfl]; omega)]
    unfold filS
    rw [h1, filQ_one]
    show (stepD (updS S q (s ++ ⟨#[120]⟩) k)).1 = _ ∧ Armed (stepD (updS S q (s ++ ⟨#[120]⟩) k)).2 q (i + 1) m
    unfold stepD
    obtain ⟨x1, x2⟩ := h.step (T := updS S q (s ++ ⟨#[120]⟩) k) hi rfl rfl rfl h.firm ⟨s ++ ⟨#[120]⟩, k, by unfold updS; rw [h1]; exact updQ_one _ _ _ _ _, by rw [ByteArray.size_append, show (⟨#[120]⟩ : ByteArray).size = 1 from rfl]; omega⟩ h.chg rfl rfl
    exact ⟨by dsimp only; rw [x1, tell_code], x2⟩
  · obtain ⟨ho, hn⟩ := h.off hi
    unfold appendS
    rw [find_off ho]
    exact ⟨by unfold codeA; rw [if_neg (by omega)], hn⟩
theorem Armed.sync {S : FS} {q i m : Nat} (h : Armed S q i m) : (syncS S TA).1 = codeA i m ∧ Armed (syncS S TA).2 q (i + 1) m := by
  by_cases hi : i ≤ m
  · have hl := h.live
    rw [if_pos hi] at hl
    obtain ⟨s, k, h1, h2⟩ := h.fil
    obtain ⟨x1, x2⟩ := h.step (T := S) hi rfl rfl rfl h.firm ⟨s, k, h1, by omega⟩ h.chg rfl rfl
    unfold syncS
    rw [find_a hl.1 h.now]
    dsimp only
    rw [x1]
    by_cases hm : i < m
    · rw [if_pos (by simpa using hm)]
      unfold filS
      rw [h1, filQ_one]
      obtain ⟨s', k', g1, g2⟩ := x2.fil
      refine ⟨by unfold codeA; rw [if_pos hm], ⟨x2.room, x2.now, x2.arm, x2.firm, ⟨s, s.size, ?_, by omega⟩, x2.chg, x2.live⟩⟩
      unfold updS; dsimp only
      rw [g1]; exact updQ_one _ _ _ _ _
    · rw [if_neg (by simpa using hm)]
      exact ⟨by unfold codeA; rw [if_neg hm], x2⟩
  · obtain ⟨ho, hn⟩ := h.off hi
    unfold syncS
    rw [find_off ho]
    exact ⟨by unfold codeA; rw [if_neg (by omega)], hn⟩
theorem Armed.syncdir {S : FS} {q i m : Nat} (h : Armed S q i m) : (syncDirS S).1 = codeA i m ∧ Armed (syncDirS S).2 q (i + 1) m := by
  by_cases hi : i ≤ m
  · have hl := h.live
    rw [if_pos hi] at hl
    obtain ⟨s, k, h1, h2⟩ := h.fil
    obtain ⟨x1, x2⟩ := h.step (T := S) hi rfl rfl rfl h.firm ⟨s, k, h1, by omega⟩ h.chg rfl rfl
    unfold syncDirS
    rw [if_neg (by rw [hl.1]; decide), x1]
    by_cases hm : i < m
    · rw [if_pos (by simpa using hm)]
      exact ⟨by unfold codeA; rw [if_pos hm], ⟨x2.room, x2.now, x2.arm, Or.inr x2.now, x2.fil, Nat.zero_le _, x2.live⟩⟩
    · rw [if_neg (by simpa using hm)]
      exact ⟨by unfold codeA; rw [if_neg hm], x2⟩
  · obtain ⟨ho, hn⟩ := h.off hi
    unfold syncDirS
    rw [if_pos ho]
    exact ⟨by unfold codeA; rw [if_neg (by omega)], hn⟩
theorem crash_b {S : FS} {q i m r : Nat} (h : Armed S q i m) : (createS (crashS S []) TB r).1 = 0 ∧ (crashS S []).chg.length ≤ 1000000 := by
  refine ⟨?_, by show 0 ≤ 1000000; decide⟩
  have hk : pickI [] 0 S.chg.length = 0 := rfl
  have hn : (crashS S []).now = S.firm := by
    unfold crashS
    rw [hk]; rfl
  unfold createS
  rw [if_neg (by unfold checkS; rw [show (crashS S []).on = true from rfl]; decide)]
  rcases h.firm with e | e
  · rw [hn, e, if_neg (by decide), if_neg (by decide)]; rfl
  · have hl : look [([97], q)] (nm TB) = none := rfl
    rw [hn, e, hl, if_neg (by decide), if_neg (by show ¬ 64 ≤ 1; decide)]; rfl
namespace filesArms
theorem tmod_in (x : Int) : -42 ≤ x.tmod 43 ∧ x.tmod 43 ≤ 42 := by
  have h1 := Int.tmod_lt_of_pos x (show (0 : Int) < 43 by decide)
  have h2 := Int.lt_tmod_of_pos x (show (0 : Int) < 43 by decide)
  omega
set_option maxHeartbeats 4000000 in
theorem walkN (x : Int) (w : World) (hneg : x.tmod 43 < 0) : Calls Try.prog 6 #[.int .i64 x] w fun e w' => e = .returned (.bool true) ∧ Below w.heap.size w w' := by
  have hzb := tmod_in x
  obtain ⟨z, hz⟩ : ∃ z, x.tmod 43 = z := ⟨_, rfl⟩
  rw [hz] at hzb hneg
  obtain ⟨n, hn⟩ : ∃ n, -z - 2 = n := ⟨_, rfl⟩
  obtain ⟨m, hm⟩ : ∃ m : Nat, max n 0 = (m : Int) := ⟨(max n 0).toNat, by omega⟩
  have hm40 : m ≤ 40 := by omega
  have hzw : IntKind.i64.wrap z = z := by rw [IntKind.wrap_i64]; omega
  have hnw : IntKind.i64.wrap (-z) = -z := by rw [IntKind.wrap_i64]; omega
  have hn2 : IntKind.i64.wrap (-z - 2) = n := by rw [IntKind.wrap_i64]; omega
  have ka := awake_is w
  have hnb : -2 ≤ n ∧ n ≤ 40 := by omega
  have HN := Lib.hid hn
  have HM := Lib.hid hm
  have HNB := Lib.hid hnb
  clear hzb hn hm hnb
  go_enter Try.func6, Try.ntmps6
  go_wp2_with (first
    | (go_at_call 10; (with_reducible refine ka.mono ?_); rintro e w1 ⟨rfl, hB⟩; (have HB1 := Lib.hid hB); (have k2 := new_dir 1000 w1); clear hB ka)
    | (go_at_call 11; (with_reducible refine k2.mono ?_); rintro e w2 ⟨b, L2, rfl, hD, hB, hl⟩; (have hO : One w w2 b (emptyS 1000) L2 := ⟨hD.at_, fun i hi => Nat.le_trans HB1.out.size (hl i hi), bel_next HB1.out hB⟩); (have k3 := create_dir (S := emptyS 1000) TA hD (by decide) ta_len); (have HO2 := Lib.hid hO); clear hD hB hl k2 hO HB1)
    | (go_at_call 14; (with_reducible refine k3.mono ?_); rintro e w3 ⟨q, hq, L3, rfl, hW, hD⟩; (have k4 := arm_dir n hD (by have := HNB.out; omega)); (have HO3 := Lib.hid (HO2.out.turn hW)); clear hq hW hD k3 HO2)
    | (go_at_call 26; (with_reducible refine k4.mono ?_); rintro e w4 ⟨L4, rfl, hW, hD⟩; (have HO4 := Lib.hid (HO3.out.turn hW)); (have HD4 := Lib.hid hD); clear hW hD k4 HO3))
  have hA : Armed { (createS (emptyS 1000) TA q).2 with armed := true, left := max n 0 } q 0 m := ⟨rfl, rfl, rfl, Or.inl rfl, ⟨⟨#[]⟩, 0, rfl, Nat.zero_le _⟩, (show 1 ≤ 1 from Nat.le_refl _), by rw [if_pos (Nat.zero_le _)]; exact ⟨rfl, by show max n 0 = _; rw [HM.out]; simp⟩⟩
  have HA := Lib.hid hA
  clear hA
  go_loopg [6, 7] 50 (fun g wk ii wr => ∃ j : Nat, j + g = 50 ∧ ii = .int .i64 (j : Int) ∧ wk = .int .i64 ((min j m : Nat) : Int) ∧ ∃ S L, One w wr b S L ∧ Dir wr b S L ∧ Armed S q j m)
  case atStart => exact ⟨0, by omega, rfl, by rw [Nat.zero_min]; rfl, _, _, HO4.out, HD4.out, HA.out⟩
  case round =>
    obtain ⟨j, hj, rfl, rfl, S, L, hO, hD, hA⟩ := hrel
    have HO := Lib.hid hO
    have HD := Lib.hid hD
    have HA' := Lib.hid hA
    clear hO hD hA HA HO4 HD4
    cases gk with
    | zero =>
      obtain rfl : j = 50 := by omega
      have hlt : ¬ ((50 : Nat) : Int) < 50 := by omega
      have hmin : min 50 m = m := by omega
      rw [hmin]
      have kc := crash_dir (.slice none 0 0) [] HO.out.at_ HD.out.whole (Nat.le_trans HA'.out.chg (by decide)) (fun W _ => Is.nil W)
      have hwant : ((m : Int) == max n 0) = true := by rw [HM.out]; simp
      by_cases hn0 : n < 0
      · have hm0 : ((m : Int) == 0) = true := by have := HM.out; simp; omega
        go_wp2_with (first
          | (go_at_call 24; (with_reducible refine kc.mono ?_); rintro e w5 ⟨L5, rfl, hW, hD5⟩; (have ko := on_is b _ _ w5 hD5.at_); (have HO5 := Lib.hid (HO.out.turn hW)); (have kb := create_dir TB hD5 (crash_b (r := 0) HA'.out).2 tb_len); clear hW kc)
          | (go_at_call 38; (with_reducible refine ko.mono ?_); rintro e w6 ⟨rfl, rfl⟩)
          | (go_at_call 14; (with_reducible refine kb.mono ?_); rintro e w7 ⟨q2, _, L7, rfl, hW, _⟩; (rw [(crash_b HA'.out).1]); (have HO7 := Lib.hid (HO5.out.turn hW)); clear hW kb))
        go_ret
        exact ⟨rfl, HO7.out.bel⟩
      · have hm0 : ((m : Int) == n) = true := by have := HM.out; simp; omega
        go_wp2_with (first
          | (go_at_call 24; (with_reducible refine kc.mono ?_); rintro e w5 ⟨L5, rfl, hW, hD5⟩; (have ko := on_is b _ _ w5 hD5.at_); (have HO5 := Lib.hid (HO.out.turn hW)); (have kb := create_dir TB hD5 (crash_b (r := 0) HA'.out).2 tb_len); clear hW kc)
          | (go_at_call 38; (with_reducible refine ko.mono ?_); rintro e w6 ⟨rfl, rfl⟩)
          | (go_at_call 14; (with_reducible refine kb.mono ?_); rintro e w7 ⟨q2, _, L7, rfl, hW, _⟩; (rw [(crash_b HA'.out).1]); (have HO7 := Lib.hid (HO5.out.turn hW)); clear hW kb))
        go_ret
        exact ⟨rfl, HO7.out.bel⟩
    | succ g =>
      have hlt : (j : Int) < 50 := by omega
      have hj50 : j ≤ 50 := by omega
      obtain ⟨r, hr⟩ : ∃ r : Nat, j % 3 = r := ⟨_, rfl⟩
      have hmod : Int.tmod (j : Int) 3 = (r : Int) := by rw [Int.tmod_eq_emod_of_nonneg (by omega)]; omega
      have hmw : IntKind.i64.wrap (r : Int) = (r : Int) := by rw [IntKind.wrap_i64]; omega
      have hr3 : r < 3 := by omega
      clear hr
      match r, hr3 with
      | 0, _ =>
        have kx := append_dir TA ⟨#[120]⟩ HD.out ta_len (by decide)
        obtain ⟨x1, x2⟩ := HA'.out.append (by omega)
        rw [x1] at kx
        have HX := Lib.hid x2
        clear x1 x2
        unfold codeA at kx
        by_cases hjm : j < m
        · rw [if_pos hjm] at kx
          have hmin : min j m = j := by omega
          rw [hmin]
          go_wp2_with (go_at_call 30; (with_reducible refine kx.mono ?_); rintro e w5 ⟨L5, rfl, hW, hD5⟩; (have HW5 := Lib.hid hW); (have HD5 := Lib.hid hD5); clear hW hD5 kx)
          go_roundg g
          case measure => omega
          case rel => exact ⟨j + 1, by omega, by go_num, by rw [show min (j + 1) m = j + 1 by omega]; go_num, _, L5, HO.out.turn HW5.out, HD5.out, HX.out⟩
        · rw [if_neg hjm] at kx
          have hmin : min j m = m := by omega
          rw [hmin]
          have hoff : (appendS S TA ⟨#[120]⟩).2.on = false := by have h := HX.out.live; rw [if_neg (by omega)] at h; exact h
          have HOFF := Lib.hid hoff
          clear hoff
          go_wp2_with (first
            | (go_at_call 30; (with_reducible refine kx.mono ?_); rintro e w5 ⟨L5, rfl, hW, hD5⟩; (have ko := on_is b _ _ w5 hD5.at_); (rw [HOFF.out] at ko); (have HW5 := Lib.hid hW); (have HD5 := Lib.hid hD5); clear hW hD5 kx)
            | (go_at_call 38; (with_reducible refine ko.mono ?_); rintro e w6 ⟨rfl, rfl⟩))
          go_roundg g
          case measure => omega
          case rel => exact ⟨j + 1, by omega, by go_num, by rw [show min (j + 1) m = m by omega], _, L5, HO.out.turn HW5.out, HD5.out, HX.out⟩
      | 1, _ =>
        have kx := sync_dir TA HD.out ta_len
        obtain ⟨x1, x2⟩ := HA'.out.sync
        rw [x1] at kx
        have HX := Lib.hid x2
        clear x1 x2
        unfold codeA at kx
        by_cases hjm : j < m
        · rw [if_pos hjm] at kx
          have hmin : min j m = j := by omega
          rw [hmin]
          go_wp2_with (go_at_call 16; (with_reducible refine kx.mono ?_); rintro e w5 ⟨L5, rfl, hW, hD5⟩; (have HW5 := Lib.hid hW); (have HD5 := Lib.hid hD5); clear hW hD5 kx)
          go_roundg g
          case measure => omega
          case rel => exact ⟨j + 1, by omega, by go_num, by rw [show min (j + 1) m = j + 1 by omega]; go_num, _, L5, HO.out.turn HW5.out, HD5.out, HX.out⟩
        · rw [if_neg hjm] at kx
          have hmin : min j m = m := by omega
          rw [hmin]
          have hoff : (syncS S TA).2.on = false := by have h := HX.out.live; rw [if_neg (by omega)] at h; exact h
          have HOFF := Lib.hid hoff
          clear hoff
          go_wp2_with (first
            | (go_at_call 16; (with_reducible refine kx.mono ?_); rintro e w5 ⟨L5, rfl, hW, hD5⟩; (have ko := on_is b _ _ w5 hD5.at_); (rw [HOFF.out] at ko); (have HW5 := Lib.hid hW); (have HD5 := Lib.hid hD5); clear hW hD5 kx)
            | (go_at_call 38; (with_reducible refine ko.mono ?_); rintro e w6 ⟨rfl, rfl⟩))
          go_roundg g
          case measure => omega
          case rel => exact ⟨j + 1, by omega, by go_num, by rw [show min (j + 1) m = m by omega], _, L5, HO.out.turn HW5.out, HD5.out, HX.out⟩
      | 2, _ =>
        have kx := syncdir_dir HD.out
        obtain ⟨x1, x2⟩ := HA'.out.syncdir
        rw [x1] at kx
        have HX := Lib.hid x2
        clear x1 x2
        unfold codeA at kx
        by_cases hjm : j < m
        · rw [if_pos hjm] at kx
          have hmin : min j m = j := by omega
          rw [hmin]
          go_wp2_with (go_at_call 22; (with_reducible refine kx.mono ?_); rintro e w5 ⟨L5, rfl, hW, hD5⟩; (have HW5 := Lib.hid hW); (have HD5 := Lib.hid hD5); clear hW hD5 kx)
          go_roundg g
          case measure => omega
          case rel => exact ⟨j + 1, by omega, by go_num, by rw [show min (j + 1) m = j + 1 by omega]; go_num, _, L5, HO.out.turn HW5.out, HD5.out, HX.out⟩
        · rw [if_neg hjm] at kx
          have hmin : min j m = m := by omega
          rw [hmin]
          have hoff : (syncDirS S).2.on = false := by have h := HX.out.live; rw [if_neg (by omega)] at h; exact h
          have HOFF := Lib.hid hoff
          clear hoff
          go_wp2_with (first
            | (go_at_call 22; (with_reducible refine kx.mono ?_); rintro e w5 ⟨L5, rfl, hW, hD5⟩; (have ko := on_is b _ _ w5 hD5.at_); (rw [HOFF.out] at ko); (have HW5 := Lib.hid hW); (have HD5 := Lib.hid hD5); clear hW hD5 kx)
            | (go_at_call 38; (with_reducible refine ko.mono ?_); rintro e w6 ⟨rfl, rfl⟩))
          go_roundg g
          case measure => omega
          case rel => exact ⟨j + 1, by omega, by go_num, by rw [show min (j + 1) m = m by omega], _, L5, HO.out.turn HW5.out, HD5.out, HX.out⟩
set_option maxHeartbeats 4000000 in
theorem walkP (x : Int) (w : World) (hneg : ¬ x.tmod 43 < 0) : Calls Try.prog 6 #[.int .i64 x] w fun e w' => e = .returned (.bool true) ∧ Below w.heap.size w w' := by
  have hzb := tmod_in x
  obtain ⟨z, hz⟩ : ∃ z, x.tmod 43 = z := ⟨_, rfl⟩
  rw [hz] at hzb hneg
  obtain ⟨n, hn⟩ : ∃ n, z - 2 = n := ⟨_, rfl⟩
  obtain ⟨m, hm⟩ : ∃ m : Nat, max n 0 = (m : Int) := ⟨(max n 0).toNat, by omega⟩
  have hm40 : m ≤ 40 := by omega
  have hzw : IntKind.i64.wrap z = z := by rw [IntKind.wrap_i64]; omega
  have hnw : IntKind.i64.wrap (-z) = -z := by rw [IntKind.wrap_i64]; omega
  have hn2 : IntKind.i64.wrap (z - 2) = n := by rw [IntKind.wrap_i64]; omega
  have ka := awake_is w
  have hnb : -2 ≤ n ∧ n ≤ 40 := by omega
  have HN := Lib.hid hn
  have HM := Lib.hid hm
  have HNB := Lib.hid hnb
  clear hzb hn hm hnb
  go_enter Try.func6, Try.ntmps6
  go_wp2_with (first
    | (go_at_call 10; (with_reducible refine ka.mono ?_); rintro e w1 ⟨rfl, hB⟩; (have HB1 := Lib.hid hB); (have k2 := new_dir 1000 w1); clear hB ka)
    | (go_at_call 11; (with_reducible refine k2.mono ?_); rintro e w2 ⟨b, L2, rfl, hD, hB, hl⟩; (have hO : One w w2 b (emptyS 1000) L2 := ⟨hD.at_, fun i hi => Nat.le_trans HB1.out.size (hl i hi), bel_next HB1.out hB⟩); (have k3 := create_dir (S := emptyS 1000) TA hD (by decide) ta_len); (have HO2 := Lib.hid hO); clear hD hB hl k2 hO HB1)
    | (go_at_call 14; (with_reducible refine k3.mono ?_); rintro e w3 ⟨q, hq, L3, rfl, hW, hD⟩; (have k4 := arm_dir n hD (by have := HNB.out; omega)); (have HO3 := Lib.hid (HO2.out.turn hW)); clear hq hW hD k3 HO2)
    | (go_at_call 26; (with_reducible refine k4.mono ?_); rintro e w4 ⟨L4, rfl, hW, hD⟩; (have HO4 := Lib.hid (HO3.out.turn hW)); (have HD4 := Lib.hid hD); clear hW hD k4 HO3))
  have hA : Armed { (createS (emptyS 1000) TA q).2 with armed := true, left := max n 0 } q 0 m := ⟨rfl, rfl, rfl, Or.inl rfl, ⟨⟨#[]⟩, 0, rfl, Nat.zero_le _⟩, (show 1 ≤ 1 from Nat.le_refl _), by rw [if_pos (Nat.zero_le _)]; exact ⟨rfl, by show max n 0 = _; rw [HM.out]; simp⟩⟩
  have HA := Lib.hid hA
  clear hA
  go_loopg [6, 7] 50 (fun g wk ii wr => ∃ j : Nat, j + g = 50 ∧ ii = .int .i64 (j : Int) ∧ wk = .int .i64 ((min j m : Nat) : Int) ∧ ∃ S L, One w wr b S L ∧ Dir wr b S L ∧ Armed S q j m)
  case atStart => exact ⟨0, by omega, rfl, by rw [Nat.zero_min]; rfl, _, _, HO4.out, HD4.out, HA.out⟩
  case round =>
    obtain ⟨j, hj, rfl, rfl, S, L, hO, hD, hA⟩ := hrel
    have HO := Lib.hid hO
    have HD := Lib.hid hD
    have HA' := Lib.hid hA
    clear hO hD hA HA HO4 HD4
    cases gk with
    | zero =>
      obtain rfl : j = 50 := by omega
      have hlt : ¬ ((50 : Nat) : Int) < 50 := by omega
      have hmin : min 50 m = m := by omega
      rw [hmin]
      have kc := crash_dir (.slice none 0 0) [] HO.out.at_ HD.out.whole (Nat.le_trans HA'.out.chg (by decide)) (fun W _ => Is.nil W)
      have hwant : ((m : Int) == max n 0) = true := by rw [HM.out]; simp
      by_cases hn0 : n < 0
      · have hm0 : ((m : Int) == 0) = true := by have := HM.out; simp; omega
        go_wp2_with (first
          | (go_at_call 24; (with_reducible refine kc.mono ?_); rintro e w5 ⟨L5, rfl, hW, hD5⟩; (have ko := on_is b _ _ w5 hD5.at_); (have HO5 := Lib.hid (HO.out.turn hW)); (have kb := create_dir TB hD5 (crash_b (r := 0) HA'.out).2 tb_len); clear hW kc)
          | (go_at_call 38; (with_reducible refine ko.mono ?_); rintro e w6 ⟨rfl, rfl⟩)
          | (go_at_call 14; (with_reducible refine kb.mono ?_); rintro e w7 ⟨q2, _, L7, rfl, hW, _⟩; (rw [(crash_b HA'.out).1]); (have HO7 := Lib.hid (HO5.out.turn hW)); clear hW kb))
        go_ret
        exact ⟨rfl, HO7.out.bel⟩
      · have hm0 : ((m : Int) == n) = true := by have := HM.out; simp; omega
        go_wp2_with (first
          | (go_at_call 24; (with_reducible refine kc.mono ?_); rintro e w5 ⟨L5, rfl, hW, hD5⟩; (have ko := on_is b _ _ w5 hD5.at_); (have HO5 := Lib.hid (HO.out.turn hW)); (have kb := create_dir TB hD5 (crash_b (r := 0) HA'.out).2 tb_len); clear hW kc)
          | (go_at_call 38; (with_reducible refine ko.mono ?_); rintro e w6 ⟨rfl, rfl⟩)
          | (go_at_call 14; (with_reducible refine kb.mono ?_); rintro e w7 ⟨q2, _, L7, rfl, hW, _⟩; (rw [(crash_b HA'.out).1]); (have HO7 := Lib.hid (HO5.out.turn hW)); clear hW kb))
        go_ret
        exact ⟨rfl, HO7.out.bel⟩
    | succ g =>
      have hlt : (j : Int) < 50 := by omega
      have hj50 : j ≤ 50 := by omega
      obtain ⟨r, hr⟩ : ∃ r : Nat, j % 3 = r := ⟨_, rfl⟩
      have hmod : Int.tmod (j : Int) 3 = (r : Int) := by rw [Int.tmod_eq_emod_of_nonneg (by omega)]; omega
      have hmw : IntKind.i64.wrap (r : Int) = (r : Int) := by rw [IntKind.wrap_i64]; omega
      have hr3 : r < 3 := by omega
      clear hr
      match r, hr3 with
      | 0, _ =>
        have kx := append_dir TA ⟨#[120]⟩ HD.out ta_len (by decide)
        obtain ⟨x1, x2⟩ := HA'.out.append (by omega)
        rw [x1] at kx
        have HX := Lib.hid x2
        clear x1 x2
        unfold codeA at kx
        by_cases hjm : j < m
        · rw [if_pos hjm] at kx
          have hmin : min j m = j := by omega
          rw [hmin]
          go_wp2_with (go_at_call 30; (with_reducible refine kx.mono ?_); rintro e w5 ⟨L5, rfl, hW, hD5⟩; (have HW5 := Lib.hid hW); (have HD5 := Lib.hid hD5); clear hW hD5 kx)
          go_roundg g
          case measure => omega
          case rel => exact ⟨j + 1, by omega, by go_num, by rw [show min (j + 1) m = j + 1 by omega]; go_num, _, L5, HO.out.turn HW5.out, HD5.out, HX.out⟩
        · rw [if_neg hjm] at kx
          have hmin : min j m = m := by omega
          rw [hmin]
          have hoff : (appendS S TA ⟨#[120]⟩).2.on = false := by have h := HX.out.live; rw [if_neg (by omega)] at h; exact h
          have HOFF := Lib.hid hoff
          clear hoff
          go_wp2_with (first
            | (go_at_call 30; (with_reducible refine kx.mono ?_); rintro e w5 ⟨L5, rfl, hW, hD5⟩; (have ko := on_is b _ _ w5 hD5.at_); (rw [HOFF.out] at ko); (have HW5 := Lib.hid hW); (have HD5 := Lib.hid hD5); clear hW hD5 kx)
            | (go_at_call 38; (with_reducible refine ko.mono ?_); rintro e w6 ⟨rfl, rfl⟩))
          go_roundg g
          case measure => omega
          case rel => exact ⟨j + 1, by omega, by go_num, by rw [show min (j + 1) m = m by omega], _, L5, HO.out.turn HW5.out, HD5.out, HX.out⟩
      | 1, _ =>
        have kx := sync_dir TA HD.out ta_len
        obtain ⟨x1, x2⟩ := HA'.out.sync
        rw [x1] at kx
        have HX := Lib.hid x2
        clear x1 x2
        unfold codeA at kx
        by_cases hjm : j < m
        · rw [if_pos hjm] at kx
          have hmin : min j m = j := by omega
          rw [hmin]
          go_wp2_with (go_at_call 16; (with_reducible refine kx.mono ?_); rintro e w5 ⟨L5, rfl, hW, hD5⟩; (have HW5 := Lib.hid hW); (have HD5 := Lib.hid hD5); clear hW hD5 kx)
          go_roundg g
          case measure => omega
          case rel => exact ⟨j + 1, by omega, by go_num, by rw [show min (j + 1) m = j + 1 by omega]; go_num, _, L5, HO.out.turn HW5.out, HD5.out, HX.out⟩
        · rw [if_neg hjm] at kx
          have hmin : min j m = m := by omega
          rw [hmin]
          have hoff : (syncS S TA).2.on = false := by have h := HX.out.live; rw [if_neg (by omega)] at h; exact h
          have HOFF := Lib.hid hoff
          clear hoff
          go_wp2_with (first
            | (go_at_call 16; (with_reducible refine kx.mono ?_); rintro e w5 ⟨L5, rfl, hW, hD5⟩; (have ko := on_is b _ _ w5 hD5.at_); (rw [HOFF.out] at ko); (have HW5 := Lib.hid hW); (have HD5 := Lib.hid hD5); clear hW hD5 kx)
            | (go_at_call 38; (with_reducible refine ko.mono ?_); rintro e w6 ⟨rfl, rfl⟩))
          go_roundg g
          case measure => omega
          case rel => exact ⟨j + 1, by omega, by go_num, by rw [show min (j + 1) m = m by omega], _, L5, HO.out.turn HW5.out, HD5.out, HX.out⟩
      | 2, _ =>
        have kx := syncdir_dir HD.out
        obtain ⟨x1, x2⟩ := HA'.out.syncdir
        rw [x1] at kx
        have HX := Lib.hid x2
        clear x1 x2
        unfold codeA at kx
        by_cases hjm : j < m
        · rw [if_pos hjm] at kx
          have hmin : min j m = j := by omega
          rw [hmin]
          go_wp2_with (go_at_call 22; (with_reducible refine kx.mono ?_); rintro e w5 ⟨L5, rfl, hW, hD5⟩; (have HW5 := Lib.hid hW); (have HD5 := Lib.hid hD5); clear hW hD5 kx)
          go_roundg g
          case measure => omega
          case rel => exact ⟨j + 1, by omega, by go_num, by rw [show min (j + 1) m = j + 1 by omega]; go_num, _, L5, HO.out.turn HW5.out, HD5.out, HX.out⟩
        · rw [if_neg hjm] at kx
          have hmin : min j m = m := by omega
          rw [hmin]
          have hoff : (syncDirS S).2.on = false := by have h := HX.out.live; rw [if_neg (by omega)] at h; exact h
          have HOFF := Lib.hid hoff
          clear hoff
          go_wp2_with (first
            | (go_at_call 22; (with_reducible refine kx.mono ?_); rintro e w5 ⟨L5, rfl, hW, hD5⟩; (have ko := on_is b _ _ w5 hD5.at_); (rw [HOFF.out] at ko); (have HW5 := Lib.hid hW); (have HD5 := Lib.hid hD5); clear hW hD5 kx)
            | (go_at_call 38; (with_reducible refine ko.mono ?_); rintro e w6 ⟨rfl, rfl⟩))
          go_roundg g
          case measure => omega
          case rel => exact ⟨j + 1, by omega, by go_num, by rw [show min (j + 1) m = m by omega], _, L5, HO.out.turn HW5.out, HD5.out, HX.out⟩

theorem walk (x : Int) (w : World) (hx : -9223372036854775808 ≤ x ∧ x ≤ 9223372036854775807) : Calls Try.prog 6 #[.int .i64 x] w fun e w' => e = .returned (.bool true) ∧ Below w.heap.size w w' := by
  by_cases h : x.tmod 43 < 0
  · exact walkN x w h
  · exact walkP x w h
end filesArms
end Go.Proofs.Ytbgjcopgipganaa
