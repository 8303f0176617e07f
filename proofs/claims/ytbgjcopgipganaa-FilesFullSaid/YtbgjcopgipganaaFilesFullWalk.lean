/- The walk of FilesFull. -/
import Derived.Test.YtbgjcopgipganaaFilesFullMath
set_option maxRecDepth 20000
set_option linter.unusedSimpArgs false
set_option linter.unusedVariables false
namespace Go.Proofs.Ytbgjcopgipganaa
open Go.RowKit Go.Maps Go.Shelf

theorem faa_len : FAA.size ≤ maxLen := by unfold maxLen; decide
abbrev two2 (x1 x2 : Nat) : ByteArray := ⟨#[UInt8.ofNat x1, UInt8.ofNat x2]⟩
theorem two_text (W : World) {x1 x2 : Nat} (h1 : x1 < 256) (h2 : x2 < 256) : (convert 55 9 (.slice (some ⟨W.heap.size, 0, none⟩) 2 2)).run Try.prog (W.alloc (.cells #[.int .u8 (x1 : Int), .int .u8 (x2 : Int)] 5)) = .ok (.string (two2 x1 x2)) (W.alloc (.cells #[.int .u8 (x1 : Int), .int .u8 (x2 : Int)] 5)) := by
  refine BRow.text (s := two2 x1 x2) ?_
  have h := World.ownsRow_lit (base := 0) (e := 5) (size := 1) W #[.int .u8 (x1 : Int), .int .u8 (x2 : Int)] 2 (Nat.zero_le _) (by unfold maxLen; omega) rfl
  have e : Lib.strCells (two2 x1 x2) = [.int .u8 (x1 : Int), .int .u8 (x2 : Int)] := by
    unfold Lib.strCells two2
    simp
    omega
  unfold BRow
  rw [e]
  exact h
theorem name_two (i : Nat) : nameJ i = (⟨#[102]⟩ : ByteArray) ++ two2 (97 + i / 26) (97 + i % 26) := by
  unfold nameJ two2
  apply ByteArray.ext
  simp
theorem name_len (i : Nat) : (nameJ i).size ≤ maxLen := by unfold maxLen; show 3 ≤ _; decide
theorem roomI_id {n : Int} (h : 0 ≤ n ∧ n ≤ 100) : roomI n = n := by unfold roomI; omega
theorem fulls_0 {n : Int} : Fulls (emptyS n) n 0 := ⟨rfl, rfl, rfl, rfl, fun p hp => by simp [emptyS] at hp, fun f hf => by simp [emptyS] at hf, List.nodup_nil, Nat.le_refl _, fun h => absurd h (by decide)⟩
namespace filesFull
theorem tmod_in1 (x : Int) : -100 ≤ x.tmod 101 ∧ x.tmod 101 ≤ 100 := by
  have h1 := Int.tmod_lt_of_pos x (show (0 : Int) < 101 by decide)
  have h2 := Int.lt_tmod_of_pos x (show (0 : Int) < 101 by decide)
  omega
theorem tmod_in2 (x : Int) : -79 ≤ x.tmod 80 ∧ x.tmod 80 ≤ 79 := by
  have h1 := Int.tmod_lt_of_pos x (show (0 : Int) < 80 by decide)
  have h2 := Int.lt_tmod_of_pos x (show (0 : Int) < 80 by decide)
  omega
set_option maxHeartbeats 16000000 in
theorem walkNN (x0 : Int) (a1 : Option Addr) (n1 c1 : Nat) (x2 : Int) (w : World) (h1 : ArgStrs w a1 n1 c1) (hneg : x0.tmod 101 < 0) (hneg2 : x2.tmod 80 < 0) : Calls Try.prog 7 #[.int .i64 x0, .slice a1 n1 c1, .int .i64 x2] w fun e w' => e = .returned (.bool true) ∧ Below w.heap.size w w' := by
  obtain ⟨l1, e1, s1⟩ := ss_of_args h1
  have HS1 := Lib.hid s1
  have HE1 := Lib.hid e1
  have hz1 := tmod_in1 x0
  have hz2 := tmod_in2 x2
  obtain ⟨z, hz⟩ : ∃ z, x0.tmod 101 = z := ⟨_, rfl⟩
  obtain ⟨y, hy⟩ : ∃ y, x2.tmod 80 = y := ⟨_, rfl⟩
  rw [hz] at hz1 hneg
  rw [hy] at hz2 hneg2
  obtain ⟨n, hn⟩ : ∃ n, -z = n := ⟨_, rfl⟩
  obtain ⟨k, hk⟩ : ∃ k : Nat, -y = (k : Int) := ⟨(-y).toNat, by omega⟩
  have hzw : IntKind.i64.wrap z = z := by rw [IntKind.wrap_i64]; omega
  have hyw : IntKind.i64.wrap y = y := by rw [IntKind.wrap_i64]; omega
  have hzn : IntKind.i64.wrap (-z) = -z := by rw [IntKind.wrap_i64]; omega
  have hyn : IntKind.i64.wrap (-y) = -y := by rw [IntKind.wrap_i64]; omega
  have hnb : 0 ≤ n ∧ n ≤ 100 := by omega
  have hk79 : k ≤ 79 := by omega
  have HNB := Lib.hid hnb
  have HK79 := Lib.hid hk79
  have ka := awake_is w
  have kc := fun s w => short_is s (cutB s 60) 60 60 w rfl (by omega) (Lib.hid rfl)
  have hnw : IntKind.i64.wrap n = n := by rw [IntKind.wrap_i64]; omega
  have hkw : IntKind.i64.wrap (k : Int) = (k : Int) := by rw [IntKind.wrap_i64]; omega
  clear h1 s1 e1 hz1 hz2 hnb hk79
  go_enter Try.func7, Try.ntmps7
  go_wp2_with (first
    | (go_at_call 10; (with_reducible refine ka.mono ?_); rintro e w1 ⟨rfl, hB⟩; (have HB1 := Lib.hid hB); (have k2 := new_dir (n) w1); clear hB ka)
    | (go_at_call 11; (with_reducible refine k2.mono ?_); rintro e w2 ⟨b, L2, rfl, hD, hB, hl⟩; (rw [roomI_id HNB.out] at hD hl); (have hO : One w w2 b (emptyS (n)) L2 := ⟨hD.at_, fun i hi => Nat.le_trans HB1.out.size (hl i hi), bel_next HB1.out hB⟩); (have HD2 := Lib.hid hD); (have HO2 := Lib.hid hO); clear hD hB hl k2 hO HB1))
  go_loopg [11] k (fun g ii wr => ∃ i : Nat, i + g = k ∧ ii = .int .i64 (i : Int) ∧ ∃ S L, One w wr b S L ∧ Dir wr b S L ∧ Fulls S (n) i)
  case atStart => exact ⟨0, by omega, rfl, _, _, HO2.out, HD2.out, fulls_0⟩
  case round =>
    obtain ⟨i, hi, rfl, S, L, hO, hD, hF⟩ := hrel
    have HO := Lib.hid hO
    have HD := Lib.hid hD
    have HF := Lib.hid hF
    clear hO hD hF HO2 HD2
    have hk79 := HK79.out
    cases gk with
    | zero =>
      obtain rfl : i = k := by omega
      have hlt : ¬ (i : Int) < (i : Int) := by omega
      have k3 := create_dir FAA HD.out (Nat.le_trans HF.out.chg (by omega)) faa_len
      go_wp2_with (go_at_call 14; (with_reducible refine k3.mono ?_); rintro e w3 ⟨q, hq, L3, rfl, hW, hD3⟩; (have HQ := Lib.hid (HF.out.faa HD.out.whole (show i < 80 by omega) (HD.out.at_.fresh_id hq))); (have HO3 := Lib.hid (HO.out.turn hW)); (have HD3 := Lib.hid hD3); clear hq hW hD3 k3 HO)
      obtain ⟨q', HQ'⟩ := HQ.out
      have HFA := Lib.hid HQ'
      clear HQ'
      go_loopg [13, 14] 20 (fun g fv ii wr => ∃ j : Nat, j + g = 20 ∧ ii = .int .i64 (j : Int) ∧ ∃ s S L, fv = .string s ∧ (s.size : Int) ≤ n ∧ One w wr b S L ∧ Dir wr b S L ∧ Faa S (n) q' s)
      case atStart => exact ⟨0, by omega, rfl, ⟨#[]⟩, _, L3, rfl, HNB.out.1, HO3.out, HD3.out, HFA.out⟩
      case round =>
        obtain ⟨j, hj, rfl, s, S2, L, rfl, hss, hO, hD, hF⟩ := hrel
        have HO := Lib.hid hO
        have HD4 := Lib.hid hD
        have HF4 := Lib.hid hF
        have hnb := HNB.out
        clear hO hD hF HO3 HD3 HFA HQ
        by_cases hjn : j < n1
        · have hjn' : (j : Int) < (n1 : Int) := by omega
          by_cases h5j : j < 20
          · have h5j' : (j : Int) < 20 := by omega
            cases gk with
            | zero => exact absurd h5j (by omega)
            | succ g =>
              have hil : j < l1.length := by rw [HE1.out]; exact hjn
              obtain ⟨bb, off, rfl, hc⟩ := (show Ss wr (.slice a1 l1.length c1) l1 from by rw [HE1.out]; exact HS1.out.later HO.out.bel).cell (by omega)
              have cc := hc j hil
              obtain ⟨x, hx⟩ : ∃ x, l1[j] = x := ⟨_, rfl⟩
              rw [hx] at cc
              clear hc hx
              have kx := kc x wr
              have hts := cutB_size x 60
              obtain ⟨t, ht⟩ : ∃ t, cutB x 60 = t := ⟨_, rfl⟩
              rw [ht] at kx hts
              clear ht
              have kap := append_dir FAA t HD4.out faa_len (by omega)
              obtain ⟨v1, v2⟩ := HF4.out.append (t := t)
              rw [v1] at kap
              have HF5 := Lib.hid v2
              clear v1 v2
              have hsw : IntKind.i64.wrap ((s.size : Int) + (t.size : Int)) = (s.size : Int) + (t.size : Int) := by rw [IntKind.wrap_i64]; omega
              by_cases hfit : (s.size : Int) + (t.size : Int) ≤ n
              · rw [if_pos hfit] at kap HF5
                go_wp2_with (first
                  | (go_at_call 13; (with_reducible refine kx.mono ?_); rintro e w5 ⟨rfl, rfl⟩)
                  | (go_at_call 30; (with_reducible refine kap.mono ?_); rintro e w6 ⟨L6, rfl, hW, hD6⟩; (have HO6 := Lib.hid (HO.out.turn hW)); (have k7 := read_is b _ L6 FAA w6 hD6.at_ hD6.whole.sane faa_len); (rw [HF5.out.read] at k7); (have HD6 := Lib.hid hD6); clear hW hD6 kap)
                  | (go_at_call 32; (with_reducible refine k7.mono ?_); rintro e w7 ⟨rfl, hB⟩; (have HO7 := Lib.hid (HO6.out.below hB)); (have HD7 := Lib.hid (HD6.out.later hB)); (have k8 := used_is b _ L6 w7 HD7.out.at_ HD7.out.whole.sane); (rw [HF5.out.used] at k8); clear hB k7)
                  | (go_at_call 36; (with_reducible refine k8.mono ?_); rintro e w8 ⟨rfl, hB⟩; (have HO8 := Lib.hid (HO7.out.below hB)); (have HD8 := Lib.hid (HD7.out.later hB)); clear hB k8))
                go_roundg g
                case measure => omega
                case rel => exact ⟨j + 1, by omega, by go_num, s ++ t, _, L6, rfl, by rw [ByteArray.size_append]; omega, HO8.out, HD8.out, HF5.out⟩
              · rw [if_neg hfit] at kap HF5
                go_wp2_with (first
                  | (go_at_call 13; (with_reducible refine kx.mono ?_); rintro e w5 ⟨rfl, rfl⟩)
                  | (go_at_call 30; (with_reducible refine kap.mono ?_); rintro e w6 ⟨L6, rfl, hW, hD6⟩; (have HO6 := Lib.hid (HO.out.turn hW)); (have k7 := read_is b _ L6 FAA w6 hD6.at_ hD6.whole.sane faa_len); (rw [HF5.out.read] at k7); (have HD6 := Lib.hid hD6); clear hW hD6 kap)
                  | (go_at_call 32; (with_reducible refine k7.mono ?_); rintro e w7 ⟨rfl, hB⟩; (have HO7 := Lib.hid (HO6.out.below hB)); (have HD7 := Lib.hid (HD6.out.later hB)); (have k8 := used_is b _ L6 w7 HD7.out.at_ HD7.out.whole.sane); (rw [HF5.out.used] at k8); clear hB k7)
                  | (go_at_call 36; (with_reducible refine k8.mono ?_); rintro e w8 ⟨rfl, hB⟩; (have HO8 := Lib.hid (HO7.out.below hB)); (have HD8 := Lib.hid (HD7.out.later hB)); clear hB k8))
                go_roundg g
                case measure => omega
                case rel => exact ⟨j + 1, by omega, by go_num, s, _, L6, rfl, hss, HO8.out, HD8.out, HF5.out⟩
          · have h5j' : ¬ (j : Int) < 20 := by omega
            clear h5j hjn hj
            go_wp2
            go_ret
            exact ⟨rfl, HO.out.bel⟩
        · have hjn' : ¬ (j : Int) < (n1 : Int) := by omega
          clear hjn hj
          go_wp2
          go_ret
          exact ⟨rfl, HO.out.bel⟩
    | succ g =>
      have hlt : (i : Int) < (k : Int) := by omega
      have hi80 : i < 80 := by omega
      obtain ⟨z1, hz1⟩ : ∃ z1 : Nat, i / 26 = z1 := ⟨_, rfl⟩
      obtain ⟨z2, hz2⟩ : ∃ z2 : Nat, i % 26 = z2 := ⟨_, rfl⟩
      have hq1 : Int.tdiv (i : Int) 26 = (z1 : Int) := by rw [Int.tdiv_eq_ediv_of_nonneg (by omega)]; omega
      have hq2 : Int.tmod (i : Int) 26 = (z2 : Int) := by rw [Int.tmod_eq_emod_of_nonneg (by omega)]; omega
      have hq3 : IntKind.i64.wrap (z1 : Int) = (z1 : Int) := by rw [IntKind.wrap_i64]; omega
      have hq4 : IntKind.i64.wrap (z2 : Int) = (z2 : Int) := by rw [IntKind.wrap_i64]; omega
      have hq5 : IntKind.i64.wrap (97 + (z1 : Int)) = ((97 + z1 : Nat) : Int) := by rw [IntKind.wrap_i64]; omega
      have hq6 : IntKind.i64.wrap (97 + (z2 : Int)) = ((97 + z2 : Nat) : Int) := by rw [IntKind.wrap_i64]; omega
      obtain ⟨y1, hy1⟩ : ∃ y1 : Nat, 97 + z1 = y1 := ⟨_, rfl⟩
      obtain ⟨y2, hy2⟩ : ∃ y2 : Nat, 97 + z2 = y2 := ⟨_, rfl⟩
      rw [hy1] at hq5
      rw [hy2] at hq6
      have hq7 : IntKind.u8.wrap (y1 : Int) = (y1 : Int) := by rw [IntKind.wrap_u8]; omega
      have hq8 : IntKind.u8.wrap (y2 : Int) = (y2 : Int) := by rw [IntKind.wrap_u8]; omega
      have htx := two_text wr (x1 := y1) (x2 := y2) (by omega) (by omega)
      have hnm := name_two i
      rw [hz1, hz2, hy1, hy2] at hnm
      have hD1 := HD.out.later (bel_al wr (.cells #[.int .u8 (y1 : Int), .int .u8 (y2 : Int)] 5))
      have hO1 := HO.out.below (bel_al wr (.cells #[.int .u8 (y1 : Int), .int .u8 (y2 : Int)] 5))
      have k3 := create_dir (nameJ i) hD1 (Nat.le_trans HF.out.chg (by omega)) (name_len i)
      have HFC := Lib.hid (fun q hq => HF.out.create (q := q) HD.out.whole hi80 hq)
      have HO1 := Lib.hid hO1
      have HD1 := Lib.hid hD1
      clear hD1 hO1 hz1 hz2 hy1 hy2
      obtain ⟨nj, hnj⟩ : ∃ nj, nameJ i = nj := ⟨_, rfl⟩
      rw [hnj] at k3 hnm HFC
      clear hnj
      have hnm' := hnm.symm
      clear hnm
      have hiw : IntKind.i64.wrap ((i : Int) + 1) = (i : Int) + 1 := by rw [IntKind.wrap_i64]; omega
      by_cases h64 : i < 64
      · have h64' : (i : Int) < 64 := by omega
        go_wp2_with (go_at_call 14; (with_reducible refine k3.mono ?_); rintro e w3 ⟨q, hq, L3, rfl, hW, hD3⟩; (have hc := HFC.out q (HD1.out.at_.fresh_id hq)); (rw [hc.1, if_pos h64]); (have HF3 := Lib.hid hc.2); (have HO3 := Lib.hid (HO1.out.turn hW)); (have HD3 := Lib.hid hD3); clear hc hq hW hD3 k3)
        go_roundg g
        case measure => omega
        case rel => exact ⟨i + 1, by omega, by go_num, _, L3, HO3.out, HD3.out, HF3.out⟩
      · have h64' : ¬ (i : Int) < 64 := by omega
        go_wp2_with (go_at_call 14; (with_reducible refine k3.mono ?_); rintro e w3 ⟨q, hq, L3, rfl, hW, hD3⟩; (have hc := HFC.out q (HD1.out.at_.fresh_id hq)); (rw [hc.1, if_neg h64]); (have HF3 := Lib.hid hc.2); (have HO3 := Lib.hid (HO1.out.turn hW)); (have HD3 := Lib.hid hD3); clear hc hq hW hD3 k3)
        go_roundg g
        case measure => omega
        case rel => exact ⟨i + 1, by omega, by go_num, _, L3, HO3.out, HD3.out, HF3.out⟩
set_option maxHeartbeats 16000000 in
theorem walkNP (x0 : Int) (a1 : Option Addr) (n1 c1 : Nat) (x2 : Int) (w : World) (h1 : ArgStrs w a1 n1 c1) (hneg : x0.tmod 101 < 0) (hneg2 : ¬ x2.tmod 80 < 0) : Calls Try.prog 7 #[.int .i64 x0, .slice a1 n1 c1, .int .i64 x2] w fun e w' => e = .returned (.bool true) ∧ Below w.heap.size w w' := by
  obtain ⟨l1, e1, s1⟩ := ss_of_args h1
  have HS1 := Lib.hid s1
  have HE1 := Lib.hid e1
  have hz1 := tmod_in1 x0
  have hz2 := tmod_in2 x2
  obtain ⟨z, hz⟩ : ∃ z, x0.tmod 101 = z := ⟨_, rfl⟩
  obtain ⟨y, hy⟩ : ∃ y, x2.tmod 80 = y := ⟨_, rfl⟩
  rw [hz] at hz1 hneg
  rw [hy] at hz2 hneg2
  obtain ⟨n, hn⟩ : ∃ n, -z = n := ⟨_, rfl⟩
  obtain ⟨k, hk⟩ : ∃ k : Nat, y = (k : Int) := ⟨(y).toNat, by omega⟩
  have hzw : IntKind.i64.wrap z = z := by rw [IntKind.wrap_i64]; omega
  have hyw : IntKind.i64.wrap y = y := by rw [IntKind.wrap_i64]; omega
  have hzn : IntKind.i64.wrap (-z) = -z := by rw [IntKind.wrap_i64]; omega
  have hyn : IntKind.i64.wrap (-y) = -y := by rw [IntKind.wrap_i64]; omega
  have hnb : 0 ≤ n ∧ n ≤ 100 := by omega
  have hk79 : k ≤ 79 := by omega
  have HNB := Lib.hid hnb
  have HK79 := Lib.hid hk79
  have ka := awake_is w
  have kc := fun s w => short_is s (cutB s 60) 60 60 w rfl (by omega) (Lib.hid rfl)
  have hnw : IntKind.i64.wrap n = n := by rw [IntKind.wrap_i64]; omega
  have hkw : IntKind.i64.wrap (k : Int) = (k : Int) := by rw [IntKind.wrap_i64]; omega
  clear h1 s1 e1 hz1 hz2 hnb hk79
  go_enter Try.func7, Try.ntmps7
  go_wp2_with (first
    | (go_at_call 10; (with_reducible refine ka.mono ?_); rintro e w1 ⟨rfl, hB⟩; (have HB1 := Lib.hid hB); (have k2 := new_dir (n) w1); clear hB ka)
    | (go_at_call 11; (with_reducible refine k2.mono ?_); rintro e w2 ⟨b, L2, rfl, hD, hB, hl⟩; (rw [roomI_id HNB.out] at hD hl); (have hO : One w w2 b (emptyS (n)) L2 := ⟨hD.at_, fun i hi => Nat.le_trans HB1.out.size (hl i hi), bel_next HB1.out hB⟩); (have HD2 := Lib.hid hD); (have HO2 := Lib.hid hO); clear hD hB hl k2 hO HB1))
  go_loopg [11] k (fun g ii wr => ∃ i : Nat, i + g = k ∧ ii = .int .i64 (i : Int) ∧ ∃ S L, One w wr b S L ∧ Dir wr b S L ∧ Fulls S (n) i)
  case atStart => exact ⟨0, by omega, rfl, _, _, HO2.out, HD2.out, fulls_0⟩
  case round =>
    obtain ⟨i, hi, rfl, S, L, hO, hD, hF⟩ := hrel
    have HO := Lib.hid hO
    have HD := Lib.hid hD
    have HF := Lib.hid hF
    clear hO hD hF HO2 HD2
    have hk79 := HK79.out
    cases gk with
    | zero =>
      obtain rfl : i = k := by omega
      have hlt : ¬ (i : Int) < (i : Int) := by omega
      have k3 := create_dir FAA HD.out (Nat.le_trans HF.out.chg (by omega)) faa_len
      go_wp2_with (go_at_call 14; (with_reducible refine k3.mono ?_); rintro e w3 ⟨q, hq, L3, rfl, hW, hD3⟩; (have HQ := Lib.hid (HF.out.faa HD.out.whole (show i < 80 by omega) (HD.out.at_.fresh_id hq))); (have HO3 := Lib.hid (HO.out.turn hW)); (have HD3 := Lib.hid hD3); clear hq hW hD3 k3 HO)
      obtain ⟨q', HQ'⟩ := HQ.out
      have HFA := Lib.hid HQ'
      clear HQ'
      go_loopg [13, 14] 20 (fun g fv ii wr => ∃ j : Nat, j + g = 20 ∧ ii = .int .i64 (j : Int) ∧ ∃ s S L, fv = .string s ∧ (s.size : Int) ≤ n ∧ One w wr b S L ∧ Dir wr b S L ∧ Faa S (n) q' s)
      case atStart => exact ⟨0, by omega, rfl, ⟨#[]⟩, _, L3, rfl, HNB.out.1, HO3.out, HD3.out, HFA.out⟩
      case round =>
        obtain ⟨j, hj, rfl, s, S2, L, rfl, hss, hO, hD, hF⟩ := hrel
        have HO := Lib.hid hO
        have HD4 := Lib.hid hD
        have HF4 := Lib.hid hF
        have hnb := HNB.out
        clear hO hD hF HO3 HD3 HFA HQ
        by_cases hjn : j < n1
        · have hjn' : (j : Int) < (n1 : Int) := by omega
          by_cases h5j : j < 20
          · have h5j' : (j : Int) < 20 := by omega
            cases gk with
            | zero => exact absurd h5j (by omega)
            | succ g =>
              have hil : j < l1.length := by rw [HE1.out]; exact hjn
              obtain ⟨bb, off, rfl, hc⟩ := (show Ss wr (.slice a1 l1.length c1) l1 from by rw [HE1.out]; exact HS1.out.later HO.out.bel).cell (by omega)
              have cc := hc j hil
              obtain ⟨x, hx⟩ : ∃ x, l1[j] = x := ⟨_, rfl⟩
              rw [hx] at cc
              clear hc hx
              have kx := kc x wr
              have hts := cutB_size x 60
              obtain ⟨t, ht⟩ : ∃ t, cutB x 60 = t := ⟨_, rfl⟩
              rw [ht] at kx hts
              clear ht
              have kap := append_dir FAA t HD4.out faa_len (by omega)
              obtain ⟨v1, v2⟩ := HF4.out.append (t := t)
              rw [v1] at kap
              have HF5 := Lib.hid v2
              clear v1 v2
              have hsw : IntKind.i64.wrap ((s.size : Int) + (t.size : Int)) = (s.size : Int) + (t.size : Int) := by rw [IntKind.wrap_i64]; omega
              by_cases hfit : (s.size : Int) + (t.size : Int) ≤ n
              · rw [if_pos hfit] at kap HF5
                go_wp2_with (first
                  | (go_at_call 13; (with_reducible refine kx.mono ?_); rintro e w5 ⟨rfl, rfl⟩)
                  | (go_at_call 30; (with_reducible refine kap.mono ?_); rintro e w6 ⟨L6, rfl, hW, hD6⟩; (have HO6 := Lib.hid (HO.out.turn hW)); (have k7 := read_is b _ L6 FAA w6 hD6.at_ hD6.whole.sane faa_len); (rw [HF5.out.read] at k7); (have HD6 := Lib.hid hD6); clear hW hD6 kap)
                  | (go_at_call 32; (with_reducible refine k7.mono ?_); rintro e w7 ⟨rfl, hB⟩; (have HO7 := Lib.hid (HO6.out.below hB)); (have HD7 := Lib.hid (HD6.out.later hB)); (have k8 := used_is b _ L6 w7 HD7.out.at_ HD7.out.whole.sane); (rw [HF5.out.used] at k8); clear hB k7)
                  | (go_at_call 36; (with_reducible refine k8.mono ?_); rintro e w8 ⟨rfl, hB⟩; (have HO8 := Lib.hid (HO7.out.below hB)); (have HD8 := Lib.hid (HD7.out.later hB)); clear hB k8))
                go_roundg g
                case measure => omega
                case rel => exact ⟨j + 1, by omega, by go_num, s ++ t, _, L6, rfl, by rw [ByteArray.size_append]; omega, HO8.out, HD8.out, HF5.out⟩
              · rw [if_neg hfit] at kap HF5
                go_wp2_with (first
                  | (go_at_call 13; (with_reducible refine kx.mono ?_); rintro e w5 ⟨rfl, rfl⟩)
                  | (go_at_call 30; (with_reducible refine kap.mono ?_); rintro e w6 ⟨L6, rfl, hW, hD6⟩; (have HO6 := Lib.hid (HO.out.turn hW)); (have k7 := read_is b _ L6 FAA w6 hD6.at_ hD6.whole.sane faa_len); (rw [HF5.out.read] at k7); (have HD6 := Lib.hid hD6); clear hW hD6 kap)
                  | (go_at_call 32; (with_reducible refine k7.mono ?_); rintro e w7 ⟨rfl, hB⟩; (have HO7 := Lib.hid (HO6.out.below hB)); (have HD7 := Lib.hid (HD6.out.later hB)); (have k8 := used_is b _ L6 w7 HD7.out.at_ HD7.out.whole.sane); (rw [HF5.out.used] at k8); clear hB k7)
                  | (go_at_call 36; (with_reducible refine k8.mono ?_); rintro e w8 ⟨rfl, hB⟩; (have HO8 := Lib.hid (HO7.out.below hB)); (have HD8 := Lib.hid (HD7.out.later hB)); clear hB k8))
                go_roundg g
                case measure => omega
                case rel => exact ⟨j + 1, by omega, by go_num, s, _, L6, rfl, hss, HO8.out, HD8.out, HF5.out⟩
          · have h5j' : ¬ (j : Int) < 20 := by omega
            clear h5j hjn hj
            go_wp2
            go_ret
            exact ⟨rfl, HO.out.bel⟩
        · have hjn' : ¬ (j : Int) < (n1 : Int) := by omega
          clear hjn hj
          go_wp2
          go_ret
          exact ⟨rfl, HO.out.bel⟩
    | succ g =>
      have hlt : (i : Int) < (k : Int) := by omega
      have hi80 : i < 80 := by omega
      obtain ⟨z1, hz1⟩ : ∃ z1 : Nat, i / 26 = z1 := ⟨_, rfl⟩
      obtain ⟨z2, hz2⟩ : ∃ z2 : Nat, i % 26 = z2 := ⟨_, rfl⟩
      have hq1 : Int.tdiv (i : Int) 26 = (z1 : Int) := by rw [Int.tdiv_eq_ediv_of_nonneg (by omega)]; omega
      have hq2 : Int.tmod (i : Int) 26 = (z2 : Int) := by rw [Int.tmod_eq_emod_of_nonneg (by omega)]; omega
      have hq3 : IntKind.i64.wrap (z1 : Int) = (z1 : Int) := by rw [IntKind.wrap_i64]; omega
      have hq4 : IntKind.i64.wrap (z2 : Int) = (z2 : Int) := by rw [IntKind.wrap_i64]; omega
      have hq5 : IntKind.i64.wrap (97 + (z1 : Int)) = ((97 + z1 : Nat) : Int) := by rw [IntKind.wrap_i64]; omega
      have hq6 : IntKind.i64.wrap (97 + (z2 : Int)) = ((97 + z2 : Nat) : Int) := by rw [IntKind.wrap_i64]; omega
      obtain ⟨y1, hy1⟩ : ∃ y1 : Nat, 97 + z1 = y1 := ⟨_, rfl⟩
      obtain ⟨y2, hy2⟩ : ∃ y2 : Nat, 97 + z2 = y2 := ⟨_, rfl⟩
      rw [hy1] at hq5
      rw [hy2] at hq6
      have hq7 : IntKind.u8.wrap (y1 : Int) = (y1 : Int) := by rw [IntKind.wrap_u8]; omega
      have hq8 : IntKind.u8.wrap (y2 : Int) = (y2 : Int) := by rw [IntKind.wrap_u8]; omega
      have htx := two_text wr (x1 := y1) (x2 := y2) (by omega) (by omega)
      have hnm := name_two i
      rw [hz1, hz2, hy1, hy2] at hnm
      have hD1 := HD.out.later (bel_al wr (.cells #[.int .u8 (y1 : Int), .int .u8 (y2 : Int)] 5))
      have hO1 := HO.out.below (bel_al wr (.cells #[.int .u8 (y1 : Int), .int .u8 (y2 : Int)] 5))
      have k3 := create_dir (nameJ i) hD1 (Nat.le_trans HF.out.chg (by omega)) (name_len i)
      have HFC := Lib.hid (fun q hq => HF.out.create (q := q) HD.out.whole hi80 hq)
      have HO1 := Lib.hid hO1
      have HD1 := Lib.hid hD1
      clear hD1 hO1 hz1 hz2 hy1 hy2
      obtain ⟨nj, hnj⟩ : ∃ nj, nameJ i = nj := ⟨_, rfl⟩
      rw [hnj] at k3 hnm HFC
      clear hnj
      have hnm' := hnm.symm
      clear hnm
      have hiw : IntKind.i64.wrap ((i : Int) + 1) = (i : Int) + 1 := by rw [IntKind.wrap_i64]; omega
      by_cases h64 : i < 64
      · have h64' : (i : Int) < 64 := by omega
        go_wp2_with (go_at_call 14; (with_reducible refine k3.mono ?_); rintro e w3 ⟨q, hq, L3, rfl, hW, hD3⟩; (have hc := HFC.out q (HD1.out.at_.fresh_id hq)); (rw [hc.1, if_pos h64]); (have HF3 := Lib.hid hc.2); (have HO3 := Lib.hid (HO1.out.turn hW)); (have HD3 := Lib.hid hD3); clear hc hq hW hD3 k3)
        go_roundg g
        case measure => omega
        case rel => exact ⟨i + 1, by omega, by go_num, _, L3, HO3.out, HD3.out, HF3.out⟩
      · have h64' : ¬ (i : Int) < 64 := by omega
        go_wp2_with (go_at_call 14; (with_reducible refine k3.mono ?_); rintro e w3 ⟨q, hq, L3, rfl, hW, hD3⟩; (have hc := HFC.out q (HD1.out.at_.fresh_id hq)); (rw [hc.1, if_neg h64]); (have HF3 := Lib.hid hc.2); (have HO3 := Lib.hid (HO1.out.turn hW)); (have HD3 := Lib.hid hD3); clear hc hq hW hD3 k3)
        go_roundg g
        case measure => omega
        case rel => exact ⟨i + 1, by omega, by go_num, _, L3, HO3.out, HD3.out, HF3.out⟩
set_option maxHeartbeats 16000000 in
theorem walkPN (x0 : Int) (a1 : Option Addr) (n1 c1 : Nat) (x2 : Int) (w : World) (h1 : ArgStrs w a1 n1 c1) (hneg : ¬ x0.tmod 101 < 0) (hneg2 : x2.tmod 80 < 0) : Calls Try.prog 7 #[.int .i64 x0, .slice a1 n1 c1, .int .i64 x2] w fun e w' => e = .returned (.bool true) ∧ Below w.heap.size w w' := by
  obtain ⟨l1, e1, s1⟩ := ss_of_args h1
  have HS1 := Lib.hid s1
  have HE1 := Lib.hid e1
  have hz1 := tmod_in1 x0
  have hz2 := tmod_in2 x2
  obtain ⟨z, hz⟩ : ∃ z, x0.tmod 101 = z := ⟨_, rfl⟩
  obtain ⟨y, hy⟩ : ∃ y, x2.tmod 80 = y := ⟨_, rfl⟩
  rw [hz] at hz1 hneg
  rw [hy] at hz2 hneg2
  obtain ⟨n, hn⟩ : ∃ n, z = n := ⟨_, rfl⟩
  obtain ⟨k, hk⟩ : ∃ k : Nat, -y = (k : Int) := ⟨(-y).toNat, by omega⟩
  have hzw : IntKind.i64.wrap z = z := by rw [IntKind.wrap_i64]; omega
  have hyw : IntKind.i64.wrap y = y := by rw [IntKind.wrap_i64]; omega
  have hzn : IntKind.i64.wrap (-z) = -z := by rw [IntKind.wrap_i64]; omega
  have hyn : IntKind.i64.wrap (-y) = -y := by rw [IntKind.wrap_i64]; omega
  have hnb : 0 ≤ n ∧ n ≤ 100 := by omega
  have hk79 : k ≤ 79 := by omega
  have HNB := Lib.hid hnb
  have HK79 := Lib.hid hk79
  have ka := awake_is w
  have kc := fun s w => short_is s (cutB s 60) 60 60 w rfl (by omega) (Lib.hid rfl)
  have hnw : IntKind.i64.wrap n = n := by rw [IntKind.wrap_i64]; omega
  have hkw : IntKind.i64.wrap (k : Int) = (k : Int) := by rw [IntKind.wrap_i64]; omega
  clear h1 s1 e1 hz1 hz2 hnb hk79
  go_enter Try.func7, Try.ntmps7
  go_wp2_with (first
    | (go_at_call 10; (with_reducible refine ka.mono ?_); rintro e w1 ⟨rfl, hB⟩; (have HB1 := Lib.hid hB); (have k2 := new_dir (n) w1); clear hB ka)
    | (go_at_call 11; (with_reducible refine k2.mono ?_); rintro e w2 ⟨b, L2, rfl, hD, hB, hl⟩; (rw [roomI_id HNB.out] at hD hl); (have hO : One w w2 b (emptyS (n)) L2 := ⟨hD.at_, fun i hi => Nat.le_trans HB1.out.size (hl i hi), bel_next HB1.out hB⟩); (have HD2 := Lib.hid hD); (have HO2 := Lib.hid hO); clear hD hB hl k2 hO HB1))
  go_loopg [11] k (fun g ii wr => ∃ i : Nat, i + g = k ∧ ii = .int .i64 (i : Int) ∧ ∃ S L, One w wr b S L ∧ Dir wr b S L ∧ Fulls S (n) i)
  case atStart => exact ⟨0, by omega, rfl, _, _, HO2.out, HD2.out, fulls_0⟩
  case round =>
    obtain ⟨i, hi, rfl, S, L, hO, hD, hF⟩ := hrel
    have HO := Lib.hid hO
    have HD := Lib.hid hD
    have HF := Lib.hid hF
    clear hO hD hF HO2 HD2
    have hk79 := HK79.out
    cases gk with
    | zero =>
      obtain rfl : i = k := by omega
      have hlt : ¬ (i : Int) < (i : Int) := by omega
      have k3 := create_dir FAA HD.out (Nat.le_trans HF.out.chg (by omega)) faa_len
      go_wp2_with (go_at_call 14; (with_reducible refine k3.mono ?_); rintro e w3 ⟨q, hq, L3, rfl, hW, hD3⟩; (have HQ := Lib.hid (HF.out.faa HD.out.whole (show i < 80 by omega) (HD.out.at_.fresh_id hq))); (have HO3 := Lib.hid (HO.out.turn hW)); (have HD3 := Lib.hid hD3); clear hq hW hD3 k3 HO)
      obtain ⟨q', HQ'⟩ := HQ.out
      have HFA := Lib.hid HQ'
      clear HQ'
      go_loopg [13, 14] 20 (fun g fv ii wr => ∃ j : Nat, j + g = 20 ∧ ii = .int .i64 (j : Int) ∧ ∃ s S L, fv = .string s ∧ (s.size : Int) ≤ n ∧ One w wr b S L ∧ Dir wr b S L ∧ Faa S (n) q' s)
      case atStart => exact ⟨0, by omega, rfl, ⟨#[]⟩, _, L3, rfl, HNB.out.1, HO3.out, HD3.out, HFA.out⟩
      case round =>
        obtain ⟨j, hj, rfl, s, S2, L, rfl, hss, hO, hD, hF⟩ := hrel
        have HO := Lib.hid hO
        have HD4 := Lib.hid hD
        have HF4 := Lib.hid hF
        have hnb := HNB.out
        clear hO hD hF HO3 HD3 HFA HQ
        by_cases hjn : j < n1
        · have hjn' : (j : Int) < (n1 : Int) := by omega
          by_cases h5j : j < 20
          · have h5j' : (j : Int) < 20 := by omega
            cases gk with
            | zero => exact absurd h5j (by omega)
            | succ g =>
              have hil : j < l1.length := by rw [HE1.out]; exact hjn
              obtain ⟨bb, off, rfl, hc⟩ := (show Ss wr (.slice a1 l1.length c1) l1 from by rw [HE1.out]; exact HS1.out.later HO.out.bel).cell (by omega)
              have cc := hc j hil
              obtain ⟨x, hx⟩ : ∃ x, l1[j] = x := ⟨_, rfl⟩
              rw [hx] at cc
              clear hc hx
              have kx := kc x wr
              have hts := cutB_size x 60
              obtain ⟨t, ht⟩ : ∃ t, cutB x 60 = t := ⟨_, rfl⟩
              rw [ht] at kx hts
              clear ht
              have kap := append_dir FAA t HD4.out faa_len (by omega)
              obtain ⟨v1, v2⟩ := HF4.out.append (t := t)
              rw [v1] at kap
              have HF5 := Lib.hid v2
              clear v1 v2
              have hsw : IntKind.i64.wrap ((s.size : Int) + (t.size : Int)) = (s.size : Int) + (t.size : Int) := by rw [IntKind.wrap_i64]; omega
              by_cases hfit : (s.size : Int) + (t.size : Int) ≤ n
              · rw [if_pos hfit] at kap HF5
                go_wp2_with (first
                  | (go_at_call 13; (with_reducible refine kx.mono ?_); rintro e w5 ⟨rfl, rfl⟩)
                  | (go_at_call 30; (with_reducible refine kap.mono ?_); rintro e w6 ⟨L6, rfl, hW, hD6⟩; (have HO6 := Lib.hid (HO.out.turn hW)); (have k7 := read_is b _ L6 FAA w6 hD6.at_ hD6.whole.sane faa_len); (rw [HF5.out.read] at k7); (have HD6 := Lib.hid hD6); clear hW hD6 kap)
                  | (go_at_call 32; (with_reducible refine k7.mono ?_); rintro e w7 ⟨rfl, hB⟩; (have HO7 := Lib.hid (HO6.out.below hB)); (have HD7 := Lib.hid (HD6.out.later hB)); (have k8 := used_is b _ L6 w7 HD7.out.at_ HD7.out.whole.sane); (rw [HF5.out.used] at k8); clear hB k7)
                  | (go_at_call 36; (with_reducible refine k8.mono ?_); rintro e w8 ⟨rfl, hB⟩; (have HO8 := Lib.hid (HO7.out.below hB)); (have HD8 := Lib.hid (HD7.out.later hB)); clear hB k8))
                go_roundg g
                case measure => omega
                case rel => exact ⟨j + 1, by omega, by go_num, s ++ t, _, L6, rfl, by rw [ByteArray.size_append]; omega, HO8.out, HD8.out, HF5.out⟩
              · rw [if_neg hfit] at kap HF5
                go_wp2_with (first
                  | (go_at_call 13; (with_reducible refine kx.mono ?_); rintro e w5 ⟨rfl, rfl⟩)
                  | (go_at_call 30; (with_reducible refine kap.mono ?_); rintro e w6 ⟨L6, rfl, hW, hD6⟩; (have HO6 := Lib.hid (HO.out.turn hW)); (have k7 := read_is b _ L6 FAA w6 hD6.at_ hD6.whole.sane faa_len); (rw [HF5.out.read] at k7); (have HD6 := Lib.hid hD6); clear hW hD6 kap)
                  | (go_at_call 32; (with_reducible refine k7.mono ?_); rintro e w7 ⟨rfl, hB⟩; (have HO7 := Lib.hid (HO6.out.below hB)); (have HD7 := Lib.hid (HD6.out.later hB)); (have k8 := used_is b _ L6 w7 HD7.out.at_ HD7.out.whole.sane); (rw [HF5.out.used] at k8); clear hB k7)
                  | (go_at_call 36; (with_reducible refine k8.mono ?_); rintro e w8 ⟨rfl, hB⟩; (have HO8 := Lib.hid (HO7.out.below hB)); (have HD8 := Lib.hid (HD7.out.later hB)); clear hB k8))
                go_roundg g
                case measure => omega
                case rel => exact ⟨j + 1, by omega, by go_num, s, _, L6, rfl, hss, HO8.out, HD8.out, HF5.out⟩
          · have h5j' : ¬ (j : Int) < 20 := by omega
            clear h5j hjn hj
            go_wp2
            go_ret
            exact ⟨rfl, HO.out.bel⟩
        · have hjn' : ¬ (j : Int) < (n1 : Int) := by omega
          clear hjn hj
          go_wp2
          go_ret
          exact ⟨rfl, HO.out.bel⟩
    | succ g =>
      have hlt : (i : Int) < (k : Int) := by omega
      have hi80 : i < 80 := by omega
      obtain ⟨z1, hz1⟩ : ∃ z1 : Nat, i / 26 = z1 := ⟨_, rfl⟩
      obtain ⟨z2, hz2⟩ : ∃ z2 : Nat, i % 26 = z2 := ⟨_, rfl⟩
      have hq1 : Int.tdiv (i : Int) 26 = (z1 : Int) := by rw [Int.tdiv_eq_ediv_of_nonneg (by omega)]; omega
      have hq2 : Int.tmod (i : Int) 26 = (z2 : Int) := by rw [Int.tmod_eq_emod_of_nonneg (by omega)]; omega
      have hq3 : IntKind.i64.wrap (z1 : Int) = (z1 : Int) := by rw [IntKind.wrap_i64]; omega
      have hq4 : IntKind.i64.wrap (z2 : Int) = (z2 : Int) := by rw [IntKind.wrap_i64]; omega
      have hq5 : IntKind.i64.wrap (97 + (z1 : Int)) = ((97 + z1 : Nat) : Int) := by rw [IntKind.wrap_i64]; omega
      have hq6 : IntKind.i64.wrap (97 + (z2 : Int)) = ((97 + z2 : Nat) : Int) := by rw [IntKind.wrap_i64]; omega
      obtain ⟨y1, hy1⟩ : ∃ y1 : Nat, 97 + z1 = y1 := ⟨_, rfl⟩
      obtain ⟨y2, hy2⟩ : ∃ y2 : Nat, 97 + z2 = y2 := ⟨_, rfl⟩
      rw [hy1] at hq5
      rw [hy2] at hq6
      have hq7 : IntKind.u8.wrap (y1 : Int) = (y1 : Int) := by rw [IntKind.wrap_u8]; omega
      have hq8 : IntKind.u8.wrap (y2 : Int) = (y2 : Int) := by rw [IntKind.wrap_u8]; omega
      have htx := two_text wr (x1 := y1) (x2 := y2) (by omega) (by omega)
      have hnm := name_two i
      rw [hz1, hz2, hy1, hy2] at hnm
      have hD1 := HD.out.later (bel_al wr (.cells #[.int .u8 (y1 : Int), .int .u8 (y2 : Int)] 5))
      have hO1 := HO.out.below (bel_al wr (.cells #[.int .u8 (y1 : Int), .int .u8 (y2 : Int)] 5))
      have k3 := create_dir (nameJ i) hD1 (Nat.le_trans HF.out.chg (by omega)) (name_len i)
      have HFC := Lib.hid (fun q hq => HF.out.create (q := q) HD.out.whole hi80 hq)
      have HO1 := Lib.hid hO1
      have HD1 := Lib.hid hD1
      clear hD1 hO1 hz1 hz2 hy1 hy2
      obtain ⟨nj, hnj⟩ : ∃ nj, nameJ i = nj := ⟨_, rfl⟩
      rw [hnj] at k3 hnm HFC
      clear hnj
      have hnm' := hnm.symm
      clear hnm
      have hiw : IntKind.i64.wrap ((i : Int) + 1) = (i : Int) + 1 := by rw [IntKind.wrap_i64]; omega
      by_cases h64 : i < 64
      · have h64' : (i : Int) < 64 := by omega
        go_wp2_with (go_at_call 14; (with_reducible refine k3.mono ?_); rintro e w3 ⟨q, hq, L3, rfl, hW, hD3⟩; (have hc := HFC.out q (HD1.out.at_.fresh_id hq)); (rw [hc.1, if_pos h64]); (have HF3 := Lib.hid hc.2); (have HO3 := Lib.hid (HO1.out.turn hW)); (have HD3 := Lib.hid hD3); clear hc hq hW hD3 k3)
        go_roundg g
        case measure => omega
        case rel => exact ⟨i + 1, by omega, by go_num, _, L3, HO3.out, HD3.out, HF3.out⟩
      · have h64' : ¬ (i : Int) < 64 := by omega
        go_wp2_with (go_at_call 14; (with_reducible refine k3.mono ?_); rintro e w3 ⟨q, hq, L3, rfl, hW, hD3⟩; (have hc := HFC.out q (HD1.out.at_.fresh_id hq)); (rw [hc.1, if_neg h64]); (have HF3 := Lib.hid hc.2); (have HO3 := Lib.hid (HO1.out.turn hW)); (have HD3 := Lib.hid hD3); clear hc hq hW hD3 k3)
        go_roundg g
        case measure => omega
        case rel => exact ⟨i + 1, by omega, by go_num, _, L3, HO3.out, HD3.out, HF3.out⟩
set_option maxHeartbeats 16000000 in
theorem walkPP (x0 : Int) (a1 : Option Addr) (n1 c1 : Nat) (x2 : Int) (w : World) (h1 : ArgStrs w a1 n1 c1) (hneg : ¬ x0.tmod 101 < 0) (hneg2 : ¬ x2.tmod 80 < 0) : Calls Try.prog 7 #[.int .i64 x0, .slice a1 n1 c1, .int .i64 x2] w fun e w' => e = .returned (.bool true) ∧ Below w.heap.size w w' := by
  obtain ⟨l1, e1, s1⟩ := ss_of_args h1
  have HS1 := Lib.hid s1
  have HE1 := Lib.hid e1
  have hz1 := tmod_in1 x0
  have hz2 := tmod_in2 x2
  obtain ⟨z, hz⟩ : ∃ z, x0.tmod 101 = z := ⟨_, rfl⟩
  obtain ⟨y, hy⟩ : ∃ y, x2.tmod 80 = y := ⟨_, rfl⟩
  rw [hz] at hz1 hneg
  rw [hy] at hz2 hneg2
  obtain ⟨n, hn⟩ : ∃ n, z = n := ⟨_, rfl⟩
  obtain ⟨k, hk⟩ : ∃ k : Nat, y = (k : Int) := ⟨(y).toNat, by omega⟩
  have hzw : IntKind.i64.wrap z = z := by rw [IntKind.wrap_i64]; omega
  have hyw : IntKind.i64.wrap y = y := by rw [IntKind.wrap_i64]; omega
  have hzn : IntKind.i64.wrap (-z) = -z := by rw [IntKind.wrap_i64]; omega
  have hyn : IntKind.i64.wrap (-y) = -y := by rw [IntKind.wrap_i64]; omega
  have hnb : 0 ≤ n ∧ n ≤ 100 := by omega
  have hk79 : k ≤ 79 := by omega
  have HNB := Lib.hid hnb
  have HK79 := Lib.hid hk79
  have ka := awake_is w
  have kc := fun s w => short_is s (cutB s 60) 60 60 w rfl (by omega) (Lib.hid rfl)
  have hnw : IntKind.i64.wrap n = n := by rw [IntKind.wrap_i64]; omega
  have hkw : IntKind.i64.wrap (k : Int) = (k : Int) := by rw [IntKind.wrap_i64]; omega
  clear h1 s1 e1 hz1 hz2 hnb hk79
  go_enter Try.func7, Try.ntmps7
  go_wp2_with (first
    | (go_at_call 10; (with_reducible refine ka.mono ?_); rintro e w1 ⟨rfl, hB⟩; (have HB1 := Lib.hid hB); (have k2 := new_dir (n) w1); clear hB ka)
    | (go_at_call 11; (with_reducible refine k2.mono ?_); rintro e w2 ⟨b, L2, rfl, hD, hB, hl⟩; (rw [roomI_id HNB.out] at hD hl); (have hO : One w w2 b (emptyS (n)) L2 := ⟨hD.at_, fun i hi => Nat.le_trans HB1.out.size (hl i hi), bel_next HB1.out hB⟩); (have HD2 := Lib.hid hD); (have HO2 := Lib.hid hO); clear hD hB hl k2 hO HB1))
  go_loopg [11] k (fun g ii wr => ∃ i : Nat, i + g = k ∧ ii = .int .i64 (i : Int) ∧ ∃ S L, One w wr b S L ∧ Dir wr b S L ∧ Fulls S (n) i)
  case atStart => exact ⟨0, by omega, rfl, _, _, HO2.out, HD2.out, fulls_0⟩
  case round =>
    obtain ⟨i, hi, rfl, S, L, hO, hD, hF⟩ := hrel
    have HO := Lib.hid hO
    have HD := Lib.hid hD
    have HF := Lib.hid hF
    clear hO hD hF HO2 HD2
    have hk79 := HK79.out
    cases gk with
    | zero =>
      obtain rfl : i = k := by omega
      have hlt : ¬ (i : Int) < (i : Int) := by omega
      have k3 := create_dir FAA HD.out (Nat.le_trans HF.out.chg (by omega)) faa_len
      go_wp2_with (go_at_call 14; (with_reducible refine k3.mono ?_); rintro e w3 ⟨q, hq, L3, rfl, hW, hD3⟩; (have HQ := Lib.hid (HF.out.faa HD.out.whole (show i < 80 by omega) (HD.out.at_.fresh_id hq))); (have HO3 := Lib.hid (HO.out.turn hW)); (have HD3 := Lib.hid hD3); clear hq hW hD3 k3 HO)
      obtain ⟨q', HQ'⟩ := HQ.out
      have HFA := Lib.hid HQ'
      clear HQ'
      go_loopg [13, 14] 20 (fun g fv ii wr => ∃ j : Nat, j + g = 20 ∧ ii = .int .i64 (j : Int) ∧ ∃ s S L, fv = .string s ∧ (s.size : Int) ≤ n ∧ One w wr b S L ∧ Dir wr b S L ∧ Faa S (n) q' s)
      case atStart => exact ⟨0, by omega, rfl, ⟨#[]⟩, _, L3, rfl, HNB.out.1, HO3.out, HD3.out, HFA.out⟩
      case round =>
        obtain ⟨j, hj, rfl, s, S2, L, rfl, hss, hO, hD, hF⟩ := hrel
        have HO := Lib.hid hO
        have HD4 := Lib.hid hD
        have HF4 := Lib.hid hF
        have hnb := HNB.out
        clear hO hD hF HO3 HD3 HFA HQ
        by_cases hjn : j < n1
        · have hjn' : (j : Int) < (n1 : Int) := by omega
          by_cases h5j : j < 20
          · have h5j' : (j : Int) < 20 := by omega
            cases gk with
            | zero => exact absurd h5j (by omega)
            | succ g =>
              have hil : j < l1.length := by rw [HE1.out]; exact hjn
              obtain ⟨bb, off, rfl, hc⟩ := (show Ss wr (.slice a1 l1.length c1) l1 from by rw [HE1.out]; exact HS1.out.later HO.out.bel).cell (by omega)
              have cc := hc j hil
              obtain ⟨x, hx⟩ : ∃ x, l1[j] = x := ⟨_, rfl⟩
              rw [hx] at cc
              clear hc hx
              have kx := kc x wr
              have hts := cutB_size x 60
              obtain ⟨t, ht⟩ : ∃ t, cutB x 60 = t := ⟨_, rfl⟩
              rw [ht] at kx hts
              clear ht
              have kap := append_dir FAA t HD4.out faa_len (by omega)
              obtain ⟨v1, v2⟩ := HF4.out.append (t := t)
              rw [v1] at kap
              have HF5 := Lib.hid v2
              clear v1 v2
              have hsw : IntKind.i64.wrap ((s.size : Int) + (t.size : Int)) = (s.size : Int) + (t.size : Int) := by rw [IntKind.wrap_i64]; omega
              by_cases hfit : (s.size : Int) + (t.size : Int) ≤ n
              · rw [if_pos hfit] at kap HF5
                go_wp2_with (first
                  | (go_at_call 13; (with_reducible refine kx.mono ?_); rintro e w5 ⟨rfl, rfl⟩)
                  | (go_at_call 30; (with_reducible refine kap.mono ?_); rintro e w6 ⟨L6, rfl, hW, hD6⟩; (have HO6 := Lib.hid (HO.out.turn hW)); (have k7 := read_is b _ L6 FAA w6 hD6.at_ hD6.whole.sane faa_len); (rw [HF5.out.read] at k7); (have HD6 := Lib.hid hD6); clear hW hD6 kap)
                  | (go_at_call 32; (with_reducible refine k7.mono ?_); rintro e w7 ⟨rfl, hB⟩; (have HO7 := Lib.hid (HO6.out.below hB)); (have HD7 := Lib.hid (HD6.out.later hB)); (have k8 := used_is b _ L6 w7 HD7.out.at_ HD7.out.whole.sane); (rw [HF5.out.used] at k8); clear hB k7)
                  | (go_at_call 36; (with_reducible refine k8.mono ?_); rintro e w8 ⟨rfl, hB⟩; (have HO8 := Lib.hid (HO7.out.below hB)); (have HD8 := Lib.hid (HD7.out.later hB)); clear hB k8))
                go_roundg g
                case measure => omega
                case rel => exact ⟨j + 1, by omega, by go_num, s ++ t, _, L6, rfl, by rw [ByteArray.size_append]; omega, HO8.out, HD8.out, HF5.out⟩
              · rw [if_neg hfit] at kap HF5
                go_wp2_with (first
                  | (go_at_call 13; (with_reducible refine kx.mono ?_); rintro e w5 ⟨rfl, rfl⟩)
                  | (go_at_call 30; (with_reducible refine kap.mono ?_); rintro e w6 ⟨L6, rfl, hW, hD6⟩; (have HO6 := Lib.hid (HO.out.turn hW)); (have k7 := read_is b _ L6 FAA w6 hD6.at_ hD6.whole.sane faa_len); (rw [HF5.out.read] at k7); (have HD6 := Lib.hid hD6); clear hW hD6 kap)
                  | (go_at_call 32; (with_reducible refine k7.mono ?_); rintro e w7 ⟨rfl, hB⟩; (have HO7 := Lib.hid (HO6.out.below hB)); (have HD7 := Lib.hid (HD6.out.later hB)); (have k8 := used_is b _ L6 w7 HD7.out.at_ HD7.out.whole.sane); (rw [HF5.out.used] at k8); clear hB k7)
                  | (go_at_call 36; (with_reducible refine k8.mono ?_); rintro e w8 ⟨rfl, hB⟩; (have HO8 := Lib.hid (HO7.out.below hB)); (have HD8 := Lib.hid (HD7.out.later hB)); clear hB k8))
                go_roundg g
                case measure => omega
                case rel => exact ⟨j + 1, by omega, by go_num, s, _, L6, rfl, hss, HO8.out, HD8.out, HF5.out⟩
          · have h5j' : ¬ (j : Int) < 20 := by omega
            clear h5j hjn hj
            go_wp2
            go_ret
            exact ⟨rfl, HO.out.bel⟩
        · have hjn' : ¬ (j : Int) < (n1 : Int) := by omega
          clear hjn hj
          go_wp2
          go_ret
          exact ⟨rfl, HO.out.bel⟩
    | succ g =>
      have hlt : (i : Int) < (k : Int) := by omega
      have hi80 : i < 80 := by omega
      obtain ⟨z1, hz1⟩ : ∃ z1 : Nat, i / 26 = z1 := ⟨_, rfl⟩
      obtain ⟨z2, hz2⟩ : ∃ z2 : Nat, i % 26 = z2 := ⟨_, rfl⟩
      have hq1 : Int.tdiv (i : Int) 26 = (z1 : Int) := by rw [Int.tdiv_eq_ediv_of_nonneg (by omega)]; omega
      have hq2 : Int.tmod (i : Int) 26 = (z2 : Int) := by rw [Int.tmod_eq_emod_of_nonneg (by omega)]; omega
      have hq3 : IntKind.i64.wrap (z1 : Int) = (z1 : Int) := by rw [IntKind.wrap_i64]; omega
      have hq4 : IntKind.i64.wrap (z2 : Int) = (z2 : Int) := by rw [IntKind.wrap_i64]; omega
      have hq5 : IntKind.i64.wrap (97 + (z1 : Int)) = ((97 + z1 : Nat) : Int) := by rw [IntKind.wrap_i64]; omega
      have hq6 : IntKind.i64.wrap (97 + (z2 : Int)) = ((97 + z2 : Nat) : Int) := by rw [IntKind.wrap_i64]; omega
      obtain ⟨y1, hy1⟩ : ∃ y1 : Nat, 97 + z1 = y1 := ⟨_, rfl⟩
      obtain ⟨y2, hy2⟩ : ∃ y2 : Nat, 97 + z2 = y2 := ⟨_, rfl⟩
      rw [hy1] at hq5
      rw [hy2] at hq6
      have hq7 : IntKind.u8.wrap (y1 : Int) = (y1 : Int) := by rw [IntKind.wrap_u8]; omega
      have hq8 : IntKind.u8.wrap (y2 : Int) = (y2 : Int) := by rw [IntKind.wrap_u8]; omega
      have htx := two_text wr (x1 := y1) (x2 := y2) (by omega) (by omega)
      have hnm := name_two i
      rw [hz1, hz2, hy1, hy2] at hnm
      have hD1 := HD.out.later (bel_al wr (.cells #[.int .u8 (y1 : Int), .int .u8 (y2 : Int)] 5))
      have hO1 := HO.out.below (bel_al wr (.cells #[.int .u8 (y1 : Int), .int .u8 (y2 : Int)] 5))
      have k3 := create_dir (nameJ i) hD1 (Nat.le_trans HF.out.chg (by omega)) (name_len i)
      have HFC := Lib.hid (fun q hq => HF.out.create (q := q) HD.out.whole hi80 hq)
      have HO1 := Lib.hid hO1
      have HD1 := Lib.hid hD1
      clear hD1 hO1 hz1 hz2 hy1 hy2
      obtain ⟨nj, hnj⟩ : ∃ nj, nameJ i = nj := ⟨_, rfl⟩
      rw [hnj] at k3 hnm HFC
      clear hnj
      have hnm' := hnm.symm
      clear hnm
      have hiw : IntKind.i64.wrap ((i : Int) + 1) = (i : Int) + 1 := by rw [IntKind.wrap_i64]; omega
      by_cases h64 : i < 64
      · have h64' : (i : Int) < 64 := by omega
        go_wp2_with (go_at_call 14; (with_reducible refine k3.mono ?_); rintro e w3 ⟨q, hq, L3, rfl, hW, hD3⟩; (have hc := HFC.out q (HD1.out.at_.fresh_id hq)); (rw [hc.1, if_pos h64]); (have HF3 := Lib.hid hc.2); (have HO3 := Lib.hid (HO1.out.turn hW)); (have HD3 := Lib.hid hD3); clear hc hq hW hD3 k3)
        go_roundg g
        case measure => omega
        case rel => exact ⟨i + 1, by omega, by go_num, _, L3, HO3.out, HD3.out, HF3.out⟩
      · have h64' : ¬ (i : Int) < 64 := by omega
        go_wp2_with (go_at_call 14; (with_reducible refine k3.mono ?_); rintro e w3 ⟨q, hq, L3, rfl, hW, hD3⟩; (have hc := HFC.out q (HD1.out.at_.fresh_id hq)); (rw [hc.1, if_neg h64]); (have HF3 := Lib.hid hc.2); (have HO3 := Lib.hid (HO1.out.turn hW)); (have HD3 := Lib.hid hD3); clear hc hq hW hD3 k3)
        go_roundg g
        case measure => omega
        case rel => exact ⟨i + 1, by omega, by go_num, _, L3, HO3.out, HD3.out, HF3.out⟩
theorem walk (x0 : Int) (a1 : Option Addr) (n1 c1 : Nat) (x2 : Int) (w : World) (_h0 : -9223372036854775808 ≤ x0 ∧ x0 ≤ 9223372036854775807) (h1 : ArgStrs w a1 n1 c1) (_h2 : -9223372036854775808 ≤ x2 ∧ x2 ≤ 9223372036854775807) : Calls Try.prog 7 #[.int .i64 x0, .slice a1 n1 c1, .int .i64 x2] w fun e w' => e = .returned (.bool true) ∧ Below w.heap.size w w' := by
  by_cases h : x0.tmod 101 < 0
  · by_cases h' : x2.tmod 80 < 0
    · exact walkNN x0 a1 n1 c1 x2 w h1 h h'
    · exact walkNP x0 a1 n1 c1 x2 w h1 h h'
  · by_cases h' : x2.tmod 80 < 0
    · exact walkPN x0 a1 n1 c1 x2 w h1 h h'
    · exact walkPP x0 a1 n1 c1 x2 w h1 h h'
end filesFull
end Go.Proofs.Ytbgjcopgipganaa
