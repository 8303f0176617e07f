/- The walk of law FramePlays: it returns true and turns nothing that was there. -/
import Derived.Test.YtanlnoephhjhhaaDoorFrameAwake
import Derived.Test.YtanlnoephhjhhaaDoorFrameHelp
import Derived.Test.YtanlnoephhjhhaaDoorFrameScanner
import Derived.Test.YtanlnoephhjhhaaDoorFrameRGet
namespace Go.Proofs.YtanlnoephhjhhaaDoor.framePlays
open Go.RowKit Go.Proofs.YtanlnoephhjhhaaDoor Go.Proofs.YtanlnoephhjhhaaDoor.Vi Go.Proofs.YtanlnoephhjhhaaDoor.Crc Go.Proofs.YtanlnoephhjhhaaDoor.Fr

theorem and3 (n : Int) : bits .and .i64 n 3 = n % 4 := by
  have h3 : (BitVec.ofInt 64 3).toNat = 2 ^ 2 - 1 := by decide
  have key : (BitVec.ofInt 64 n &&& BitVec.ofInt 64 3).toNat = (n % ((2 ^ 64 : Nat) : Int)).toNat % 2 ^ 2 := by
    rw [BitVec.toNat_and, BitVec.toNat_ofInt, h3, Nat.and_two_pow_sub_one_eq_mod]
  show IntKind.i64.wrap ((BitVec.ofInt 64 n &&& BitVec.ofInt 64 3).toNat : Nat) = n % 4
  rw [key, IntKind.wrap_i64]
  omega
/-- What the law has in its hands: the scanner in block b has X left, and is bad or not. -/
structure Play (w3 wr : World) (b : Nat) (X : List UInt8) (bad : Bool) : Prop where
  at_ : SAt wr b X bad
  bel : Below b w3 wr
  none : bad = true → X = []
theorem Play.tab {w3 wr : World} {b : Nat} {X : List UInt8} {bad : Bool} (F : Play w3 wr b X bad) (ht : Tab w3) (hb : 0 < b) : Tab wr := ht.below F.bel hb
theorem Play.feed {w3 wr wq : World} {b : Nat} {X Y : List UInt8} (F : Play w3 wr b X false) (h : SAt wq b Y false) (k : Below b wr wq) : Play w3 wq b Y false := ⟨h, F.bel.trans k, fun h => by cases h⟩
theorem Play.still {w3 wr wq : World} {b : Nat} {X : List UInt8} {bad : Bool} (F : Play w3 wr b X bad) (k : Below wr.heap.size wr wq) : Play w3 wq b X bad := ⟨F.at_.later k, F.bel.trans (k.mono (Nat.le_of_lt F.at_.room)), F.none⟩
theorem Play.next {w3 wr wq : World} {b : Nat} {X Y : List UInt8} {bad bad' : Bool} {body : ByteArray} {is : Bool} (F : Play w3 wr b X bad) (H : IsN X bad body is Y bad') (h : SAt wq b Y bad') (k : Below b wr wq) : Play w3 wq b Y bad' := by
  refine ⟨h, F.bel.trans k, fun hb => ?_⟩
  cases bad with
  | true => exact (H.stays rfl).2.2.2.1
  | false =>
    by_cases h0 : (getF X).w = 0
    · have := (H.good rfl h0).2.2.2; rw [this] at hb; cases hb
    · by_cases h3 : (getF X).w = 3
      · exact (H.wrong rfl h3).2.2.1
      · have := (H.none rfl h0 h3).2.2.2; rw [this] at hb; cases hb
theorem isN_len {X Y : List UInt8} {bad bad' is : Bool} {body : ByteArray} (H : IsN X bad body is Y bad') : Y.length ≤ X.length := by
  cases bad with
  | true => obtain ⟨h1, -, -, h2, -⟩ := H.stays rfl; rw [h1, h2]; exact Nat.le_refl _
  | false =>
    by_cases h0 : (getF X).w = 0
    · rw [(H.good rfl h0).2.2.1, List.length_drop]; omega
    · by_cases h3 : (getF X).w = 3
      · rw [(H.wrong rfl h3).2.2.1]; simp
      · rw [(H.none rfl h0 h3).2.2.1]; exact Nat.le_refl _
theorem getG_zero (X : List UInt8) : getG X 0 = ((getF X).body, ((getF X).len : Int), ((getF X).w : Int)) := by
  have := getG_at X 0 (Nat.zero_le _)
  rw [List.drop_zero, Nat.zero_add] at this
  exact this

set_option maxRecDepth 50000 in
set_option maxHeartbeats 16000000 in
theorem walk (a1 : Option Addr) (n1 c1 : Nat) (a2 : Option Addr) (n2 c2 : Nat) (w : World) (h1 : ArgStrs w a1 n1 c1) (h2 : ArgInts w a2 n2 c2) (ht : Tab w) : Calls Tryd.prog 5 #[.slice a1 n1 c1, .slice a2 n2 c2] w fun e w' => e = .returned (.bool true) ∧ Below w.heap.size w w' := by
  have hA := awake_any w ht
  have HT := Lib.hid ht
  have H1 := Lib.hid h1
  have H2 := Lib.hid h2
  have hn1 : n1 ≤ maxLen := by
    rcases h1 with rfl | ⟨b, off, li, e1, e2, e3, e4, -⟩
    · exact Nat.zero_le _
    · omega
  have hn2 : n2 ≤ maxLen := by
    rcases h2 with rfl | ⟨b, off, li, e1, e2, e3, e4, -⟩
    · exact Nat.zero_le _
    · omega
  unfold maxLen at hn1 hn2
  clear h1 h2 ht
  go_enter Tryd.func5, Tryd.ntmps5
  go_wp2_with (first
    | (go_at_call 10; (with_reducible refine hA.mono ?_); rintro e w1 ⟨rfl, hb1⟩; have kNew := new_is w1)
    | (go_at_call 21; (with_reducible refine kNew.mono ?_); rintro e w2 ⟨rfl, hS2, hb2⟩))
  have HB1 := Lib.hid hb1
  have HP0 : Hid (Play w1 w2 w1.heap.size [] false) := ⟨hS2, hb2, fun h => by cases h⟩
  have HPOS : Hid (0 < w1.heap.size) := Nat.lt_of_lt_of_le HT.out.room hb1.size
  have HT1 := Lib.hid (HT.out.next hb1)
  have hw01 := Lib.hid hb1.size
  have HSTR := Lib.hid (fun (i : Nat) (h : i < n1) => show ∃ (g off : Nat) (x : ByteArray), a1 = some ⟨g, off, none⟩ ∧ ∀ u, Below w1.heap.size w1 u → u.cell? ⟨g, off + i, none⟩ = some (.string x) by
    rcases H1.out with h0 | ⟨g, off, li, e1, e2, e3, e4, e5, e6⟩
    · omega
    · have hq : i < li.length := by omega
      refine ⟨g, off, li[i], e1, fun u hu => ?_⟩
      have hc := e5 i hq
      have hg := World.block_lt_of_cell? w _ hc
      rw [(HB1.out.trans (hu.mono hw01.out)).cell (p := ⟨g, off + i, none⟩) hg]; exact hc)
  have HINT := Lib.hid (fun (i : Nat) (h : i < n2) => show ∃ (g off : Nat) (x : Int), a2 = some ⟨g, off, none⟩ ∧ ∀ u, Below w1.heap.size w1 u → u.cell? ⟨g, off + i, none⟩ = some (.int .i64 x) by
    rcases H2.out with h0 | ⟨g, off, li, e1, e2, e3, e4, e5, e6⟩
    · omega
    · have hq : i < li.length := by omega
      refine ⟨g, off, li[i], e1, fun u hu => ?_⟩
      have hc := e5 i hq
      have hg := World.block_lt_of_cell? w _ hc
      rw [(HB1.out.trans (hu.mono hw01.out)).cell (p := ⟨g, off + i, none⟩) hg]; exact hc)
  clear hb1 hS2 hb2 kNew hA H1 H2
  go_loopw [7, 8, 9] (fun s d i wr => ∃ (k : Nat) (X : List UInt8) (bad : Bool), i = .int .i64 (k : Int) ∧ k ≤ 40 ∧ s = .string (tx X) ∧ d = .bool bad ∧ X.length ≤ 400 * k ∧ Play w1 wr w1.heap.size X bad) (fun _ _ i _ => 40 - (intOf i).toNat)
  case atStart => exact ⟨0, [], false, rfl, by omega, rfl, rfl, by simp, HP0.out⟩
  case round =>
    obtain ⟨k, X, bad, rfl, hk, rfl, rfl, hXl, PL⟩ := hrel
    by_cases hkn : k < n1 ∧ k < 40
    · obtain ⟨hk1, hk2⟩ := hkn
      have hk1i : (k : Int) < (n1 : Int) := by omega
      have hk2i : (k : Int) < 40 := by omega
      obtain ⟨g, off, x, rfl, hcell0⟩ := HSTR.out k hk1
      have hcell := hcell0 wr PL.bel
      obtain ⟨z, hz⟩ : ∃ z, cutB x 400 = z := ⟨_, rfl⟩
      have hzs : z.size ≤ 400 := by rw [← hz]; exact (cutB_size x 400).1
      have ksh := fun w => short_is x z 400 400 w rfl (by omega) hz
      have HPL := Lib.hid PL
      clear hcell0 hz PL
      by_cases hk3 : k < n2
      · skip
        have hk3i : (k : Int) < (n2 : Int) := by omega
        obtain ⟨g2, off2, y, rfl, hcell20⟩ := HINT.out k hk3
        have ha3 := and3 y
        obtain ⟨nn, hnn⟩ : ∃ nn : Nat, y % 4 = (nn : Int) := ⟨(y % 4).toNat, by omega⟩
        rw [hnn] at ha3
        have hnn3 : nn ≤ 3 := by omega
        have HC2 := Lib.hid hcell20
        clear hnn hcell20
        cases bad with
        | false =>
          have PL := HPL.out
          have kFeed := feed_is z wr w1.heap.size X PL.at_ (by omega)
          have hcat : tx X ++ z = tx (X ++ z.data.toList) := by rw [← tx_app, tx_list]
          have hszc : (tx X).size + z.size ≤ 9223372036854775807 := by rw [tx_size]; omega
          obtain ⟨X1, hX1⟩ : ∃ X1, X ++ z.data.toList = X1 := ⟨_, rfl⟩
          rw [hX1] at kFeed hcat
          have HXL1 : Hid (X1.length ≤ 400 * (k + 1)) := by show _ ≤ _; rw [← hX1, List.length_append, size_list]; omega
          obtain ⟨Z, hZ⟩ : ∃ Z, tx X1 = Z := ⟨_, rfl⟩
          rw [hZ] at hcat
          have HX1 := Lib.hid hZ
          generalize tx X = S0 at *
          clear PL hX1 hZ
          go_wp2_with (first
            | (go_at_call 15; (with_reducible refine (ksh _).mono ?_); rintro e w4 ⟨rfl, rfl⟩)
            | (go_at_call 22; (with_reducible refine kFeed.mono ?_); rintro e w5 ⟨rfl, hS5, hb5⟩; have hcell5 := HC2.out _ (HPL.out.bel.trans hb5)))
          have HP5 := Lib.hid (HPL.out.feed hS5 hb5)
          clear hS5 hb5 kFeed ksh
          clear hcell5
          go_loopw [7, 8, 12] (fun s d i wr => ∃ (m : Nat) (X2 : List UInt8) (bad2 : Bool), i = .int .i64 (m : Int) ∧ m ≤ nn ∧ s = .string (tx X2) ∧ d = .bool bad2 ∧ X2.length ≤ 400 * (k + 1) ∧ Play w1 wr w1.heap.size X2 bad2) (fun _ _ i _ => nn - (intOf i).toNat)
          case atStart => exact ⟨0, _, _, rfl, by omega, by rw [HX1.out], rfl, HXL1.out, HP5.out⟩
          case round =>
            obtain ⟨m, X2, bad2, rfl, hmn, rfl, rfl, hX2l, PZ⟩ := hrel
            by_cases hmlt : m < nn
            · skip
              have kG := fun w => rget_g X2 0 _ _ _ w (by omega) (by omega) (Lib.hid (rfl : tx (getG X2 0).1 = _)) (Lib.hid (rfl : (getG X2 0).2.1 = _)) (Lib.hid (rfl : (getG X2 0).2.2 = _))
              rw [getG_zero] at kG
              simp only at kG
              have hTz := PZ.tab HT1.out HPOS.out
              have hXb : X2.length ≤ 100000000 := by omega
              obtain ⟨body, is, Y, bad', HN⟩ := next_any X2 bad2 PZ.none
              have kN := next_is wr w1.heap.size X2 bad2 body is Y bad' PZ.at_ hXb hTz HN
              have hYl := isN_len HN
              have HK := Lib.hid (fun (wq wq2 : World) (h : SAt wq w1.heap.size Y bad') (k1 : Below w1.heap.size wr wq) (k2 : Below wq.heap.size wq wq2) => (PZ.next HN h k1).still k2)
              have HSZ := Lib.hid (show (tx X2).size = X2.length from tx_size X2)
              have hmn2 : (m : Int) < (nn : Int) := by omega
              cases bad2 with
              | true =>
                obtain ⟨rfl, rfl, rfl, rfl, rfl⟩ := HN.stays rfl
                rw [getF_nil] at kG
                simp only at kG
                obtain ⟨E, hE⟩ : ∃ E, tx [] = E := ⟨_, rfl⟩
                rw [hE] at kG ⊢
                have HE := Lib.hid hE
                clear hE PZ HN
                go_wp2_with (first
                  | (go_at_call 23; (with_reducible refine kN.mono ?_); rintro e w6 ⟨rfl, hS6, hb6⟩)
                  | (go_at_call 17; (with_reducible refine (kG _).mono ?_); rintro e w7 ⟨rfl, hb7⟩))
                have HP := Lib.hid (HK.out _ _ hS6 hb6 hb7)
                clear hS6 hb6 hb7 kN kG
                go_roundw
                case rel => exact ⟨m + 1, [], true, by go_num, by omega, by rw [HE.out], rfl, by simp, HP.out⟩
                case measure => simp [intOf]; omega
              | false =>
                by_cases h0 : (getF X2).w = 0
                · obtain ⟨rfl, rfl, rfl, rfl⟩ := HN.good rfl h0
                  obtain ⟨g1, g2⟩ := getF_len h0
                  rw [h0] at kG
                  have hex : (tx X2).extract (getF X2).len X2.length = tx (X2.drop (getF X2).len) := by
                    rw [tx_part, List.take_of_length_le (by simp)]
                  obtain ⟨ln, hln⟩ : ∃ ln, (getF X2).len = ln := ⟨_, rfl⟩
                  have hYl2 : (X2.drop ln).length ≤ 400 * (k + 1) := by rw [List.length_drop]; omega
                  rw [hln] at kG kN hex g2 HK
                  have g2i : (ln : Int) ≤ (X2.length : Int) := by omega
                  have hsz := HSZ.out
                  obtain ⟨E, hE⟩ : ∃ E, tx X2 = E := ⟨_, rfl⟩
                  obtain ⟨E2, hE2⟩ : ∃ E, tx (X2.drop ln) = E := ⟨_, rfl⟩
                  rw [hE] at kG hex hsz ⊢
                  rw [hE2] at hex
                  have HE2 := Lib.hid hE2
                  generalize tx (getF X2).body = BB at *
                  generalize hXL : X2.length = XL at *
                  clear hE hE2 hln PZ HN h0 g1 hXL HSZ
                  go_wp2_with (first
                    | (go_at_call 23; (with_reducible refine kN.mono ?_); rintro e w6 ⟨rfl, hS6, hb6⟩)
                    | (go_at_call 17; (with_reducible refine (kG _).mono ?_); rintro e w7 ⟨rfl, hb7⟩))
                  have HP := Lib.hid (HK.out _ _ hS6 hb6 hb7)
                  clear hS6 hb6 hb7 kN kG
                  go_roundw
                  case rel => exact ⟨m + 1, _, false, by go_num, by omega, by rw [HE2.out], rfl, hYl2, HP.out⟩
                  case measure => simp [intOf]; omega
                · by_cases h3 : (getF X2).w = 3
                  · obtain ⟨rfl, rfl, rfl, rfl⟩ := HN.wrong rfl h3
                    rw [h3, (getF_not h0).1, (getF_not h0).2] at kG
                    obtain ⟨E, hE⟩ : ∃ E, tx X2 = E := ⟨_, rfl⟩
                    rw [hE] at kG ⊢
                    obtain ⟨E2, hE2⟩ : ∃ E, tx [] = E := ⟨_, rfl⟩
                    have HE2 := Lib.hid hE2
                    rw [hE2] at kG
                    clear hE hE2 PZ HN h0 h3 HSZ
                    go_wp2_with (first
                      | (go_at_call 23; (with_reducible refine kN.mono ?_); rintro e w6 ⟨rfl, hS6, hb6⟩)
                      | (go_at_call 17; (with_reducible refine (kG _).mono ?_); rintro e w7 ⟨rfl, hb7⟩))
                    have HP := Lib.hid (HK.out _ _ hS6 hb6 hb7)
                    clear hS6 hb6 hb7 kN kG
                    go_roundw
                    case rel => exact ⟨m + 1, [], true, by go_num, by omega, rfl, rfl, by simp, HP.out⟩
                    case measure => simp [intOf]; omega
                  · obtain ⟨rfl, rfl, rfl, rfl⟩ := HN.none rfl h0 h3
                    rw [(getF_not h0).1, (getF_not h0).2] at kG
                    obtain ⟨st, hst⟩ : ∃ st, (getF Y).w = st := ⟨_, rfl⟩
                    rw [hst] at kG h0 h3
                    have q0 : ((st : Int) == 0) = false := by simpa using h0
                    have q3 : ((st : Int) == 3) = false := by simp; omega
                    obtain ⟨E, hE⟩ : ∃ E, tx Y = E := ⟨_, rfl⟩
                    rw [hE] at kG ⊢
                    have HE := Lib.hid hE
                    clear hE PZ HN h0 h3 HSZ hst
                    go_wp2_with (first
                      | (go_at_call 23; (with_reducible refine kN.mono ?_); rintro e w6 ⟨rfl, hS6, hb6⟩)
                      | (go_at_call 17; (with_reducible refine (kG _).mono ?_); rintro e w7 ⟨rfl, hb7⟩))
                    have HP := Lib.hid (HK.out _ _ hS6 hb6 hb7)
                    clear hS6 hb6 hb7 kN kG
                    go_roundw
                    case rel => exact ⟨m + 1, _, false, by go_num, by omega, by rw [HE.out], rfl, by omega, HP.out⟩
                    case measure => simp [intOf]; omega
            · have hmn2 : ¬ (m : Int) < (nn : Int) := by omega
              have hS := PZ.at_
              have HPZ := Lib.hid PZ
              have kL := left_is wr w1.heap.size X2 bad2 hS
              have kB := bad_is wr w1.heap.size X2 bad2 hS
              have hsz := tx_size X2
              obtain ⟨E, hE⟩ : ∃ E, tx X2 = E := ⟨_, rfl⟩
              rw [hE] at hsz ⊢
              have HE := Lib.hid hE
              have HX2 := Lib.hid hX2l
              obtain ⟨XL, hXL⟩ : ∃ XL, X2.length = XL := ⟨_, rfl⟩
              rw [hXL] at kL hsz
              clear hE PZ hS hXL
              cases bad2
              all_goals
                go_wp2_with (first
                  | (go_at_call 24; (with_reducible refine kL.mono ?_); rintro e w6 ⟨rfl, rfl⟩)
                  | (go_at_call 25; (with_reducible refine kB.mono ?_); rintro e w7 ⟨rfl, rfl⟩))
                go_roundw
                case rel => exact ⟨k + 1, X2, _, by go_num, by omega, by rw [HE.out], rfl, HX2.out, HPZ.out⟩
                case measure => simp [intOf]; omega
        | true =>
          have hcell5 := HC2.out _ HPL.out.bel
          have PL := HPL.out
          have kFeed := feed_bad z wr w1.heap.size X PL.at_
          have HXL1 : Hid (X.length ≤ 400 * (k + 1)) := by show _ ≤ _; omega
          obtain ⟨Z, hZ⟩ : ∃ Z, tx X = Z := ⟨_, rfl⟩
          rw [hZ]
          have HX1 := Lib.hid hZ
          clear PL hZ
          go_wp2_with (first
            | (go_at_call 15; (with_reducible refine (ksh _).mono ?_); rintro e w4 ⟨rfl, rfl⟩)
            | (go_at_call 22; (with_reducible refine kFeed.mono ?_); rintro e w5 ⟨rfl, rfl⟩))
          have HP5 := HPL
          clear kFeed ksh
          clear hcell5
          go_loopw [7, 8, 12] (fun s d i wr => ∃ (m : Nat) (X2 : List UInt8) (bad2 : Bool), i = .int .i64 (m : Int) ∧ m ≤ nn ∧ s = .string (tx X2) ∧ d = .bool bad2 ∧ X2.length ≤ 400 * (k + 1) ∧ Play w1 wr w1.heap.size X2 bad2) (fun _ _ i _ => nn - (intOf i).toNat)
          case atStart => exact ⟨0, _, _, rfl, by omega, by rw [HX1.out], rfl, HXL1.out, HP5.out⟩
          case round =>
            obtain ⟨m, X2, bad2, rfl, hmn, rfl, rfl, hX2l, PZ⟩ := hrel
            by_cases hmlt : m < nn
            · skip
              have kG := fun w => rget_g X2 0 _ _ _ w (by omega) (by omega) (Lib.hid (rfl : tx (getG X2 0).1 = _)) (Lib.hid (rfl : (getG X2 0).2.1 = _)) (Lib.hid (rfl : (getG X2 0).2.2 = _))
              rw [getG_zero] at kG
              simp only at kG
              have hTz := PZ.tab HT1.out HPOS.out
              have hXb : X2.length ≤ 100000000 := by omega
              obtain ⟨body, is, Y, bad', HN⟩ := next_any X2 bad2 PZ.none
              have kN := next_is wr w1.heap.size X2 bad2 body is Y bad' PZ.at_ hXb hTz HN
              have hYl := isN_len HN
              have HK := Lib.hid (fun (wq wq2 : World) (h : SAt wq w1.heap.size Y bad') (k1 : Below w1.heap.size wr wq) (k2 : Below wq.heap.size wq wq2) => (PZ.next HN h k1).still k2)
              have HSZ := Lib.hid (show (tx X2).size = X2.length from tx_size X2)
              have hmn2 : (m : Int) < (nn : Int) := by omega
              cases bad2 with
              | true =>
                obtain ⟨rfl, rfl, rfl, rfl, rfl⟩ := HN.stays rfl
                rw [getF_nil] at kG
                simp only at kG
                obtain ⟨E, hE⟩ : ∃ E, tx [] = E := ⟨_, rfl⟩
                rw [hE] at kG ⊢
                have HE := Lib.hid hE
                clear hE PZ HN
                go_wp2_with (first
                  | (go_at_call 23; (with_reducible refine kN.mono ?_); rintro e w6 ⟨rfl, hS6, hb6⟩)
                  | (go_at_call 17; (with_reducible refine (kG _).mono ?_); rintro e w7 ⟨rfl, hb7⟩))
                have HP := Lib.hid (HK.out _ _ hS6 hb6 hb7)
                clear hS6 hb6 hb7 kN kG
                go_roundw
                case rel => exact ⟨m + 1, [], true, by go_num, by omega, by rw [HE.out], rfl, by simp, HP.out⟩
                case measure => simp [intOf]; omega
              | false =>
                by_cases h0 : (getF X2).w = 0
                · obtain ⟨rfl, rfl, rfl, rfl⟩ := HN.good rfl h0
                  obtain ⟨g1, g2⟩ := getF_len h0
                  rw [h0] at kG
                  have hex : (tx X2).extract (getF X2).len X2.length = tx (X2.drop (getF X2).len) := by
                    rw [tx_part, List.take_of_length_le (by simp)]
                  obtain ⟨ln, hln⟩ : ∃ ln, (getF X2).len = ln := ⟨_, rfl⟩
                  have hYl2 : (X2.drop ln).length ≤ 400 * (k + 1) := by rw [List.length_drop]; omega
                  rw [hln] at kG kN hex g2 HK
                  have g2i : (ln : Int) ≤ (X2.length : Int) := by omega
                  have hsz := HSZ.out
                  obtain ⟨E, hE⟩ : ∃ E, tx X2 = E := ⟨_, rfl⟩
                  obtain ⟨E2, hE2⟩ : ∃ E, tx (X2.drop ln) = E := ⟨_, rfl⟩
                  rw [hE] at kG hex hsz ⊢
                  rw [hE2] at hex
                  have HE2 := Lib.hid hE2
                  generalize tx (getF X2).body = BB at *
                  generalize hXL : X2.length = XL at *
                  clear hE hE2 hln PZ HN h0 g1 hXL HSZ
                  go_wp2_with (first
                    | (go_at_call 23; (with_reducible refine kN.mono ?_); rintro e w6 ⟨rfl, hS6, hb6⟩)
                    | (go_at_call 17; (with_reducible refine (kG _).mono ?_); rintro e w7 ⟨rfl, hb7⟩))
                  have HP := Lib.hid (HK.out _ _ hS6 hb6 hb7)
                  clear hS6 hb6 hb7 kN kG
                  go_roundw
                  case rel => exact ⟨m + 1, _, false, by go_num, by omega, by rw [HE2.out], rfl, hYl2, HP.out⟩
                  case measure => simp [intOf]; omega
                · by_cases h3 : (getF X2).w = 3
                  · obtain ⟨rfl, rfl, rfl, rfl⟩ := HN.wrong rfl h3
                    rw [h3, (getF_not h0).1, (getF_not h0).2] at kG
                    obtain ⟨E, hE⟩ : ∃ E, tx X2 = E := ⟨_, rfl⟩
                    rw [hE] at kG ⊢
                    obtain ⟨E2, hE2⟩ : ∃ E, tx [] = E := ⟨_, rfl⟩
                    have HE2 := Lib.hid hE2
                    rw [hE2] at kG
                    clear hE hE2 PZ HN h0 h3 HSZ
                    go_wp2_with (first
                      | (go_at_call 23; (with_reducible refine kN.mono ?_); rintro e w6 ⟨rfl, hS6, hb6⟩)
                      | (go_at_call 17; (with_reducible refine (kG _).mono ?_); rintro e w7 ⟨rfl, hb7⟩))
                    have HP := Lib.hid (HK.out _ _ hS6 hb6 hb7)
                    clear hS6 hb6 hb7 kN kG
                    go_roundw
                    case rel => exact ⟨m + 1, [], true, by go_num, by omega, rfl, rfl, by simp, HP.out⟩
                    case measure => simp [intOf]; omega
                  · obtain ⟨rfl, rfl, rfl, rfl⟩ := HN.none rfl h0 h3
                    rw [(getF_not h0).1, (getF_not h0).2] at kG
                    obtain ⟨st, hst⟩ : ∃ st, (getF Y).w = st := ⟨_, rfl⟩
                    rw [hst] at kG h0 h3
                    have q0 : ((st : Int) == 0) = false := by simpa using h0
                    have q3 : ((st : Int) == 3) = false := by simp; omega
                    obtain ⟨E, hE⟩ : ∃ E, tx Y = E := ⟨_, rfl⟩
                    rw [hE] at kG ⊢
                    have HE := Lib.hid hE
                    clear hE PZ HN h0 h3 HSZ hst
                    go_wp2_with (first
                      | (go_at_call 23; (with_reducible refine kN.mono ?_); rintro e w6 ⟨rfl, hS6, hb6⟩)
                      | (go_at_call 17; (with_reducible refine (kG _).mono ?_); rintro e w7 ⟨rfl, hb7⟩))
                    have HP := Lib.hid (HK.out _ _ hS6 hb6 hb7)
                    clear hS6 hb6 hb7 kN kG
                    go_roundw
                    case rel => exact ⟨m + 1, _, false, by go_num, by omega, by rw [HE.out], rfl, by omega, HP.out⟩
                    case measure => simp [intOf]; omega
            · have hmn2 : ¬ (m : Int) < (nn : Int) := by omega
              have hS := PZ.at_
              have HPZ := Lib.hid PZ
              have kL := left_is wr w1.heap.size X2 bad2 hS
              have kB := bad_is wr w1.heap.size X2 bad2 hS
              have hsz := tx_size X2
              obtain ⟨E, hE⟩ : ∃ E, tx X2 = E := ⟨_, rfl⟩
              rw [hE] at hsz ⊢
              have HE := Lib.hid hE
              have HX2 := Lib.hid hX2l
              obtain ⟨XL, hXL⟩ : ∃ XL, X2.length = XL := ⟨_, rfl⟩
              rw [hXL] at kL hsz
              clear hE PZ hS hXL
              cases bad2
              all_goals
                go_wp2_with (first
                  | (go_at_call 24; (with_reducible refine kL.mono ?_); rintro e w6 ⟨rfl, rfl⟩)
                  | (go_at_call 25; (with_reducible refine kB.mono ?_); rintro e w7 ⟨rfl, rfl⟩))
                go_roundw
                case rel => exact ⟨k + 1, X2, _, by go_num, by omega, by rw [HE.out], rfl, HX2.out, HPZ.out⟩
                case measure => simp [intOf]; omega
      · skip
        have hk3i : ¬ (k : Int) < (n2 : Int) := by omega
        obtain ⟨nn, hnn, hnn1⟩ : ∃ nn : Nat, nn ≤ 3 ∧ (nn : Int) = 1 := ⟨1, by omega, rfl⟩
        cases bad with
        | false =>
          have PL := HPL.out
          have kFeed := feed_is z wr w1.heap.size X PL.at_ (by omega)
          have hcat : tx X ++ z = tx (X ++ z.data.toList) := by rw [← tx_app, tx_list]
          have hszc : (tx X).size + z.size ≤ 9223372036854775807 := by rw [tx_size]; omega
          obtain ⟨X1, hX1⟩ : ∃ X1, X ++ z.data.toList = X1 := ⟨_, rfl⟩
          rw [hX1] at kFeed hcat
          have HXL1 : Hid (X1.length ≤ 400 * (k + 1)) := by show _ ≤ _; rw [← hX1, List.length_append, size_list]; omega
          obtain ⟨Z, hZ⟩ : ∃ Z, tx X1 = Z := ⟨_, rfl⟩
          rw [hZ] at hcat
          have HX1 := Lib.hid hZ
          generalize tx X = S0 at *
          clear PL hX1 hZ
          go_wp2_with (first
            | (go_at_call 15; (with_reducible refine (ksh _).mono ?_); rintro e w4 ⟨rfl, rfl⟩)
            | (go_at_call 22; (with_reducible refine kFeed.mono ?_); rintro e w5 ⟨rfl, hS5, hb5⟩))
          have HP5 := Lib.hid (HPL.out.feed hS5 hb5)
          clear hS5 hb5 kFeed ksh
          obtain rfl : nn = 1 := by omega
          go_loopw [7, 8, 12] (fun s d i wr => ∃ (m : Nat) (X2 : List UInt8) (bad2 : Bool), i = .int .i64 (m : Int) ∧ m ≤ 1 ∧ s = .string (tx X2) ∧ d = .bool bad2 ∧ X2.length ≤ 400 * (k + 1) ∧ Play w1 wr w1.heap.size X2 bad2) (fun _ _ i _ => 1 - (intOf i).toNat)
          case atStart => exact ⟨0, _, _, rfl, by omega, by rw [HX1.out], rfl, HXL1.out, HP5.out⟩
          case round =>
            obtain ⟨m, X2, bad2, rfl, hmn, rfl, rfl, hX2l, PZ⟩ := hrel
            by_cases hmlt : m < 1
            · skip
              have kG := fun w => rget_g X2 0 _ _ _ w (by omega) (by omega) (Lib.hid (rfl : tx (getG X2 0).1 = _)) (Lib.hid (rfl : (getG X2 0).2.1 = _)) (Lib.hid (rfl : (getG X2 0).2.2 = _))
              rw [getG_zero] at kG
              simp only at kG
              have hTz := PZ.tab HT1.out HPOS.out
              have hXb : X2.length ≤ 100000000 := by omega
              obtain ⟨body, is, Y, bad', HN⟩ := next_any X2 bad2 PZ.none
              have kN := next_is wr w1.heap.size X2 bad2 body is Y bad' PZ.at_ hXb hTz HN
              have hYl := isN_len HN
              have HK := Lib.hid (fun (wq wq2 : World) (h : SAt wq w1.heap.size Y bad') (k1 : Below w1.heap.size wr wq) (k2 : Below wq.heap.size wq wq2) => (PZ.next HN h k1).still k2)
              have HSZ := Lib.hid (show (tx X2).size = X2.length from tx_size X2)
              have hmn2 : (m : Int) < (1 : Int) := by omega
              cases bad2 with
              | true =>
                obtain ⟨rfl, rfl, rfl, rfl, rfl⟩ := HN.stays rfl
                rw [getF_nil] at kG
                simp only at kG
                obtain ⟨E, hE⟩ : ∃ E, tx [] = E := ⟨_, rfl⟩
                rw [hE] at kG ⊢
                have HE := Lib.hid hE
                clear hE PZ HN
                go_wp2_with (first
                  | (go_at_call 23; (with_reducible refine kN.mono ?_); rintro e w6 ⟨rfl, hS6, hb6⟩)
                  | (go_at_call 17; (with_reducible refine (kG _).mono ?_); rintro e w7 ⟨rfl, hb7⟩))
                have HP := Lib.hid (HK.out _ _ hS6 hb6 hb7)
                clear hS6 hb6 hb7 kN kG
                go_roundw
                case rel => exact ⟨m + 1, [], true, by go_num, by omega, by rw [HE.out], rfl, by simp, HP.out⟩
                case measure => simp [intOf]; omega
              | false =>
                by_cases h0 : (getF X2).w = 0
                · obtain ⟨rfl, rfl, rfl, rfl⟩ := HN.good rfl h0
                  obtain ⟨g1, g2⟩ := getF_len h0
                  rw [h0] at kG
                  have hex : (tx X2).extract (getF X2).len X2.length = tx (X2.drop (getF X2).len) := by
                    rw [tx_part, List.take_of_length_le (by simp)]
                  obtain ⟨ln, hln⟩ : ∃ ln, (getF X2).len = ln := ⟨_, rfl⟩
                  have hYl2 : (X2.drop ln).length ≤ 400 * (k + 1) := by rw [List.length_drop]; omega
                  rw [hln] at kG kN hex g2 HK
                  have g2i : (ln : Int) ≤ (X2.length : Int) := by omega
                  have hsz := HSZ.out
                  obtain ⟨E, hE⟩ : ∃ E, tx X2 = E := ⟨_, rfl⟩
                  obtain ⟨E2, hE2⟩ : ∃ E, tx (X2.drop ln) = E := ⟨_, rfl⟩
                  rw [hE] at kG hex hsz ⊢
                  rw [hE2] at hex
                  have HE2 := Lib.hid hE2
                  generalize tx (getF X2).body = BB at *
                  generalize hXL : X2.length = XL at *
                  clear hE hE2 hln PZ HN h0 g1 hXL HSZ
                  go_wp2_with (first
                    | (go_at_call 23; (with_reducible refine kN.mono ?_); rintro e w6 ⟨rfl, hS6, hb6⟩)
                    | (go_at_call 17; (with_reducible refine (kG _).mono ?_); rintro e w7 ⟨rfl, hb7⟩))
                  have HP := Lib.hid (HK.out _ _ hS6 hb6 hb7)
                  clear hS6 hb6 hb7 kN kG
                  go_roundw
                  case rel => exact ⟨m + 1, _, false, by go_num, by omega, by rw [HE2.out], rfl, hYl2, HP.out⟩
                  case measure => simp [intOf]; omega
                · by_cases h3 : (getF X2).w = 3
                  · obtain ⟨rfl, rfl, rfl, rfl⟩ := HN.wrong rfl h3
                    rw [h3, (getF_not h0).1, (getF_not h0).2] at kG
                    obtain ⟨E, hE⟩ : ∃ E, tx X2 = E := ⟨_, rfl⟩
                    rw [hE] at kG ⊢
                    obtain ⟨E2, hE2⟩ : ∃ E, tx [] = E := ⟨_, rfl⟩
                    have HE2 := Lib.hid hE2
                    rw [hE2] at kG
                    clear hE hE2 PZ HN h0 h3 HSZ
                    go_wp2_with (first
                      | (go_at_call 23; (with_reducible refine kN.mono ?_); rintro e w6 ⟨rfl, hS6, hb6⟩)
                      | (go_at_call 17; (with_reducible refine (kG _).mono ?_); rintro e w7 ⟨rfl, hb7⟩))
                    have HP := Lib.hid (HK.out _ _ hS6 hb6 hb7)
                    clear hS6 hb6 hb7 kN kG
                    go_roundw
                    case rel => exact ⟨m + 1, [], true, by go_num, by omega, rfl, rfl, by simp, HP.out⟩
                    case measure => simp [intOf]; omega
                  · obtain ⟨rfl, rfl, rfl, rfl⟩ := HN.none rfl h0 h3
                    rw [(getF_not h0).1, (getF_not h0).2] at kG
                    obtain ⟨st, hst⟩ : ∃ st, (getF Y).w = st := ⟨_, rfl⟩
                    rw [hst] at kG h0 h3
                    have q0 : ((st : Int) == 0) = false := by simpa using h0
                    have q3 : ((st : Int) == 3) = false := by simp; omega
                    obtain ⟨E, hE⟩ : ∃ E, tx Y = E := ⟨_, rfl⟩
                    rw [hE] at kG ⊢
                    have HE := Lib.hid hE
                    clear hE PZ HN h0 h3 HSZ hst
                    go_wp2_with (first
                      | (go_at_call 23; (with_reducible refine kN.mono ?_); rintro e w6 ⟨rfl, hS6, hb6⟩)
                      | (go_at_call 17; (with_reducible refine (kG _).mono ?_); rintro e w7 ⟨rfl, hb7⟩))
                    have HP := Lib.hid (HK.out _ _ hS6 hb6 hb7)
                    clear hS6 hb6 hb7 kN kG
                    go_roundw
                    case rel => exact ⟨m + 1, _, false, by go_num, by omega, by rw [HE.out], rfl, by omega, HP.out⟩
                    case measure => simp [intOf]; omega
            · have hmn2 : ¬ (m : Int) < (1 : Int) := by omega
              have hS := PZ.at_
              have HPZ := Lib.hid PZ
              have kL := left_is wr w1.heap.size X2 bad2 hS
              have kB := bad_is wr w1.heap.size X2 bad2 hS
              have hsz := tx_size X2
              obtain ⟨E, hE⟩ : ∃ E, tx X2 = E := ⟨_, rfl⟩
              rw [hE] at hsz ⊢
              have HE := Lib.hid hE
              have HX2 := Lib.hid hX2l
              obtain ⟨XL, hXL⟩ : ∃ XL, X2.length = XL := ⟨_, rfl⟩
              rw [hXL] at kL hsz
              clear hE PZ hS hXL
              cases bad2
              all_goals
                go_wp2_with (first
                  | (go_at_call 24; (with_reducible refine kL.mono ?_); rintro e w6 ⟨rfl, rfl⟩)
                  | (go_at_call 25; (with_reducible refine kB.mono ?_); rintro e w7 ⟨rfl, rfl⟩))
                go_roundw
                case rel => exact ⟨k + 1, X2, _, by go_num, by omega, by rw [HE.out], rfl, HX2.out, HPZ.out⟩
                case measure => simp [intOf]; omega
        | true =>
          have PL := HPL.out
          have kFeed := feed_bad z wr w1.heap.size X PL.at_
          have HXL1 : Hid (X.length ≤ 400 * (k + 1)) := by show _ ≤ _; omega
          obtain ⟨Z, hZ⟩ : ∃ Z, tx X = Z := ⟨_, rfl⟩
          rw [hZ]
          have HX1 := Lib.hid hZ
          clear PL hZ
          go_wp2_with (first
            | (go_at_call 15; (with_reducible refine (ksh _).mono ?_); rintro e w4 ⟨rfl, rfl⟩)
            | (go_at_call 22; (with_reducible refine kFeed.mono ?_); rintro e w5 ⟨rfl, rfl⟩))
          have HP5 := HPL
          clear kFeed ksh
          obtain rfl : nn = 1 := by omega
          go_loopw [7, 8, 12] (fun s d i wr => ∃ (m : Nat) (X2 : List UInt8) (bad2 : Bool), i = .int .i64 (m : Int) ∧ m ≤ 1 ∧ s = .string (tx X2) ∧ d = .bool bad2 ∧ X2.length ≤ 400 * (k + 1) ∧ Play w1 wr w1.heap.size X2 bad2) (fun _ _ i _ => 1 - (intOf i).toNat)
          case atStart => exact ⟨0, _, _, rfl, by omega, by rw [HX1.out], rfl, HXL1.out, HP5.out⟩
          case round =>
            obtain ⟨m, X2, bad2, rfl, hmn, rfl, rfl, hX2l, PZ⟩ := hrel
            by_cases hmlt : m < 1
            · skip
              have kG := fun w => rget_g X2 0 _ _ _ w (by omega) (by omega) (Lib.hid (rfl : tx (getG X2 0).1 = _)) (Lib.hid (rfl : (getG X2 0).2.1 = _)) (Lib.hid (rfl : (getG X2 0).2.2 = _))
              rw [getG_zero] at kG
              simp only at kG
              have hTz := PZ.tab HT1.out HPOS.out
              have hXb : X2.length ≤ 100000000 := by omega
              obtain ⟨body, is, Y, bad', HN⟩ := next_any X2 bad2 PZ.none
              have kN := next_is wr w1.heap.size X2 bad2 body is Y bad' PZ.at_ hXb hTz HN
              have hYl := isN_len HN
              have HK := Lib.hid (fun (wq wq2 : World) (h : SAt wq w1.heap.size Y bad') (k1 : Below w1.heap.size wr wq) (k2 : Below wq.heap.size wq wq2) => (PZ.next HN h k1).still k2)
              have HSZ := Lib.hid (show (tx X2).size = X2.length from tx_size X2)
              have hmn2 : (m : Int) < (1 : Int) := by omega
              cases bad2 with
              | true =>
                obtain ⟨rfl, rfl, rfl, rfl, rfl⟩ := HN.stays rfl
                rw [getF_nil] at kG
                simp only at kG
                obtain ⟨E, hE⟩ : ∃ E, tx [] = E := ⟨_, rfl⟩
                rw [hE] at kG ⊢
                have HE := Lib.hid hE
                clear hE PZ HN
                go_wp2_with (first
                  | (go_at_call 23; (with_reducible refine kN.mono ?_); rintro e w6 ⟨rfl, hS6, hb6⟩)
                  | (go_at_call 17; (with_reducible refine (kG _).mono ?_); rintro e w7 ⟨rfl, hb7⟩))
                have HP := Lib.hid (HK.out _ _ hS6 hb6 hb7)
                clear hS6 hb6 hb7 kN kG
                go_roundw
                case rel => exact ⟨m + 1, [], true, by go_num, by omega, by rw [HE.out], rfl, by simp, HP.out⟩
                case measure => simp [intOf]; omega
              | false =>
                by_cases h0 : (getF X2).w = 0
                · obtain ⟨rfl, rfl, rfl, rfl⟩ := HN.good rfl h0
                  obtain ⟨g1, g2⟩ := getF_len h0
                  rw [h0] at kG
                  have hex : (tx X2).extract (getF X2).len X2.length = tx (X2.drop (getF X2).len) := by
                    rw [tx_part, List.take_of_length_le (by simp)]
                  obtain ⟨ln, hln⟩ : ∃ ln, (getF X2).len = ln := ⟨_, rfl⟩
                  have hYl2 : (X2.drop ln).length ≤ 400 * (k + 1) := by rw [List.length_drop]; omega
                  rw [hln] at kG kN hex g2 HK
                  have g2i : (ln : Int) ≤ (X2.length : Int) := by omega
                  have hsz := HSZ.out
                  obtain ⟨E, hE⟩ : ∃ E, tx X2 = E := ⟨_, rfl⟩
                  obtain ⟨E2, hE2⟩ : ∃ E, tx (X2.drop ln) = E := ⟨_, rfl⟩
                  rw [hE] at kG hex hsz ⊢
                  rw [hE2] at hex
                  have HE2 := Lib.hid hE2
                  generalize tx (getF X2).body = BB at *
                  generalize hXL : X2.length = XL at *
                  clear hE hE2 hln PZ HN h0 g1 hXL HSZ
                  go_wp2_with (first
                    | (go_at_call 23; (with_reducible refine kN.mono ?_); rintro e w6 ⟨rfl, hS6, hb6⟩)
                    | (go_at_call 17; (with_reducible refine (kG _).mono ?_); rintro e w7 ⟨rfl, hb7⟩))
                  have HP := Lib.hid (HK.out _ _ hS6 hb6 hb7)
                  clear hS6 hb6 hb7 kN kG
                  go_roundw
                  case rel => exact ⟨m + 1, _, false, by go_num, by omega, by rw [HE2.out], rfl, hYl2, HP.out⟩
                  case measure => simp [intOf]; omega
                · by_cases h3 : (getF X2).w = 3
                  · obtain ⟨rfl, rfl, rfl, rfl⟩ := HN.wrong rfl h3
                    rw [h3, (getF_not h0).1, (getF_not h0).2] at kG
                    obtain ⟨E, hE⟩ : ∃ E, tx X2 = E := ⟨_, rfl⟩
                    rw [hE] at kG ⊢
                    obtain ⟨E2, hE2⟩ : ∃ E, tx [] = E := ⟨_, rfl⟩
                    have HE2 := Lib.hid hE2
                    rw [hE2] at kG
                    clear hE hE2 PZ HN h0 h3 HSZ
                    go_wp2_with (first
                      | (go_at_call 23; (with_reducible refine kN.mono ?_); rintro e w6 ⟨rfl, hS6, hb6⟩)
                      | (go_at_call 17; (with_reducible refine (kG _).mono ?_); rintro e w7 ⟨rfl, hb7⟩))
                    have HP := Lib.hid (HK.out _ _ hS6 hb6 hb7)
                    clear hS6 hb6 hb7 kN kG
                    go_roundw
                    case rel => exact ⟨m + 1, [], true, by go_num, by omega, rfl, rfl, by simp, HP.out⟩
                    case measure => simp [intOf]; omega
                  · obtain ⟨rfl, rfl, rfl, rfl⟩ := HN.none rfl h0 h3
                    rw [(getF_not h0).1, (getF_not h0).2] at kG
                    obtain ⟨st, hst⟩ : ∃ st, (getF Y).w = st := ⟨_, rfl⟩
                    rw [hst] at kG h0 h3
                    have q0 : ((st : Int) == 0) = false := by simpa using h0
                    have q3 : ((st : Int) == 3) = false := by simp; omega
                    obtain ⟨E, hE⟩ : ∃ E, tx Y = E := ⟨_, rfl⟩
                    rw [hE] at kG ⊢
                    have HE := Lib.hid hE
                    clear hE PZ HN h0 h3 HSZ hst
                    go_wp2_with (first
                      | (go_at_call 23; (with_reducible refine kN.mono ?_); rintro e w6 ⟨rfl, hS6, hb6⟩)
                      | (go_at_call 17; (with_reducible refine (kG _).mono ?_); rintro e w7 ⟨rfl, hb7⟩))
                    have HP := Lib.hid (HK.out _ _ hS6 hb6 hb7)
                    clear hS6 hb6 hb7 kN kG
                    go_roundw
                    case rel => exact ⟨m + 1, _, false, by go_num, by omega, by rw [HE.out], rfl, by omega, HP.out⟩
                    case measure => simp [intOf]; omega
            · have hmn2 : ¬ (m : Int) < (1 : Int) := by omega
              have hS := PZ.at_
              have HPZ := Lib.hid PZ
              have kL := left_is wr w1.heap.size X2 bad2 hS
              have kB := bad_is wr w1.heap.size X2 bad2 hS
              have hsz := tx_size X2
              obtain ⟨E, hE⟩ : ∃ E, tx X2 = E := ⟨_, rfl⟩
              rw [hE] at hsz ⊢
              have HE := Lib.hid hE
              have HX2 := Lib.hid hX2l
              obtain ⟨XL, hXL⟩ : ∃ XL, X2.length = XL := ⟨_, rfl⟩
              rw [hXL] at kL hsz
              clear hE PZ hS hXL
              cases bad2
              all_goals
                go_wp2_with (first
                  | (go_at_call 24; (with_reducible refine kL.mono ?_); rintro e w6 ⟨rfl, rfl⟩)
                  | (go_at_call 25; (with_reducible refine kB.mono ?_); rintro e w7 ⟨rfl, rfl⟩))
                go_roundw
                case rel => exact ⟨k + 1, X2, _, by go_num, by omega, by rw [HE.out], rfl, HX2.out, HPZ.out⟩
                case measure => simp [intOf]; omega
    · have hend : ¬ (k : Int) < (n1 : Int) ∨ ((k : Int) < (n1 : Int) ∧ ¬ (k : Int) < 40) := by omega
      have HBB := Lib.hid (HB1.out.trans (PL.bel.mono hw01.out))
      clear PL
      rcases hend with h | ⟨h, h'⟩
      all_goals
        go_wp2
        go_ret
        exact ⟨rfl, HBB.out⟩
end Go.Proofs.YtanlnoephhjhhaaDoor.framePlays
