/- Contracts of the document's early, Get and Scan for package frame. -/
import Derived.Test.YtanlnoephhjhhaaDoorFrameRef
import Derived.Test.YtanlnoephhjhhaaDoorFrameScan
namespace Go.Proofs.YtanlnoephhjhhaaDoor
open Go.RowKit Go.Proofs.YtanlnoephhjhhaaDoor.Vi Go.Proofs.YtanlnoephhjhhaaDoor.Crc Go.Proofs.YtanlnoephhjhhaaDoor.Fr

theorem early_no {s : List UInt8} {k : Nat} (h : k < s.length) (hb : s[k].toNat < 128) : Fr.early s = false := by
  unfold Fr.early
  rw [Bool.and_eq_false_iff]
  refine Or.inr ?_
  rw [List.all_eq_false]
  exact ⟨s[k], List.getElem_mem h, by simpa using hb⟩
theorem early_all {s : List UInt8} (hl : s.length ≤ 9) (h : ∀ j (hj : j < s.length), 128 ≤ s[j].toNat) : Fr.early s = true := by
  unfold Fr.early
  rw [Bool.and_eq_true, List.all_eq_true]
  refine ⟨by simpa using hl, fun b hb => ?_⟩
  obtain ⟨j, hj, rfl⟩ := List.getElem_of_mem hb
  simpa using h j hj

set_option maxHeartbeats 1000000 in
theorem early_is (s : ByteArray) (c : Bool) (w : World) (hs : s.size ≤ 1000000000) (H : Hid (Fr.early s.data.toList = c)) : Calls Tryd.prog 31 #[.string s] w fun e w' => e = .returned (.bool c) ∧ w = w' := by
  by_cases h9 : (9 : Int) < (s.size : Int)
  · obtain rfl : false = c := by
      rw [← H.out]
      unfold Fr.early
      rw [Bool.and_eq_false_iff.2 (Or.inl (by simp; omega))]
    clear H
    go_enter Tryd.func31, Tryd.ntmps31
    go_wp2
    go_ret
    exact ⟨rfl, rfl⟩
  · go_enter Tryd.func31, Tryd.ntmps31
    go_wp2
    go_loop [3] (fun i => ∃ k : Nat, k ≤ s.size ∧ i = .int .i64 (k : Int) ∧ Hid (∀ j (hj : j < s.data.toList.length), j < k → 128 ≤ (s.data.toList[j]).toNat)) (fun i => s.size - (intOf i).toNat)
    case atStart => exact ⟨0, Nat.zero_le _, rfl, Lib.hid fun j _ hj => absurd hj (Nat.not_lt_zero _)⟩
    case round =>
      obtain ⟨k, hk, rfl, hall⟩ := hrel
      by_cases hlt : k < s.size
      · obtain ⟨b, hb⟩ : ∃ b, s[k] = b := ⟨_, rfl⟩
        have hbL : s.data.toList[k]'(by simpa using hlt) = b := by rw [← hb]; rfl
        have hbb := b.toNat_lt
        by_cases hlow : (b.toNat : Int) < 128
        · have HE : Hid (Fr.early s.data.toList = false) := early_no (k := k) (by simpa using hlt) (by rw [hbL]; omega)
          clear hbL
          go_wp2
          go_ret
          exact ⟨by rw [← H.out, HE.out]; rfl, rfl⟩
        · have HH : Hid (∀ j (hj : j < s.data.toList.length), j < k + 1 → 128 ≤ (s.data.toList[j]).toNat) := fun j hj hjk => by
            by_cases e : j = k
            · subst e; rw [hbL]; omega
            · exact hall.out j hj (by omega)
          clear hbL hall
          go_wp2
          go_round
          case rel => exact ⟨k + 1, by omega, by go_num, HH⟩
          case measure => simp [intOf]; omega
      · have HE : Hid (Fr.early s.data.toList = true) := early_all (by simp; omega) (fun j hj => hall.out j hj (by simp at hj; omega))
        clear hall
        go_wp2
        go_ret
        exact ⟨by rw [← H.out, HE.out]; rfl, rfl⟩

set_option maxHeartbeats 2000000 in
theorem rget_g (s : List UInt8) (at_ : Int) (body : ByteArray) (n st : Int) (w : World) (hs : s.length ≤ 1000000000) (ha : -9223372036854775808 ≤ at_ ∧ at_ ≤ 9223372036854775807)
    (hb : Hid (tx (getG s at_).1 = body)) (hn : Hid ((getG s at_).2.1 = n)) (hw : Hid ((getG s at_).2.2 = st)) : Calls Tryd.prog 17 #[.string (tx s), .int .i64 at_] w (FDone body n st w) := by
  have hz := tx_size s
  by_cases h0 : at_ < 0 ∨ (s.length : Int) < at_
  · have e : getG s at_ = ([], 0, 1) := if_pos h0
    rw [e] at hb hn hw
    obtain rfl : tx [] = body := hb.out
    obtain rfl : (0 : Int) = n := hn.out
    obtain rfl : (1 : Int) = st := hw.out
    obtain ⟨L, hL⟩ : ∃ L, s.length = L := ⟨_, rfl⟩
    rw [hL] at h0 hz
    generalize tx s = S at *
    clear hb hn hw hs hL e
    rcases h0 with h0 | h0
    · go_enter Tryd.func17, Tryd.ntmps17
      go_wp2
      go_ret3
      exact ⟨rfl, Below.refl _ _⟩
    · have h1 : ¬ at_ < 0 := by omega
      go_enter Tryd.func17, Tryd.ntmps17
      go_wp2
      go_ret3
      exact ⟨rfl, Below.refl _ _⟩
  · obtain ⟨k, rfl⟩ := Int.eq_ofNat_of_zero_le (show 0 ≤ at_ by omega)
    rw [getG_at s k (by omega)] at hb hn hw
    obtain ⟨X, hX⟩ : ∃ X, s.drop k = X := ⟨_, rfl⟩
    rw [hX] at hb hn hw
    have hXl : X.length = s.length - k := by rw [← hX, List.length_drop]
    by_cases hend : s.length = k
    · obtain rfl : X = [] := List.eq_nil_of_length_eq_zero (by omega)
      rw [getF_nil] at hb hn hw
      obtain rfl : tx [] = body := hb.out
      obtain rfl : ((k + 0 : Nat) : Int) = n := hn.out
      obtain rfl : (1 : Int) = st := hw.out
      rw [hend] at hz
      generalize tx s = S at *
      clear hb hn hw hX hXl hend h0 hs
      go_enter Tryd.func17, Tryd.ntmps17
      go_wp2
      go_ret3
      exact ⟨rfl, Below.refl _ _⟩
    · have hne : X ≠ [] := fun e => by rw [e] at hXl; simp at hXl; omega
      have hkL : (k : Int) < (s.length : Int) := by omega
      have hkL2 : (k : Int) ≤ (s.length : Int) := by omega
      have hkL3 : ((k : Int) == (s.length : Int)) = false := by simp; omega
      have hxs : (tx s).extract k s.length = tx X := by
        rw [tx_part, List.take_of_length_le (by simp), hX]
      obtain ⟨c, hc⟩ : ∃ c, Fr.early X = c := ⟨_, rfl⟩
      have hE := fun w => early_is (tx X) c w (by rw [tx_size]; omega) (by rw [tx_data]; exact hc)
      cases c with
      | true =>
        rw [getF_early hne hc] at hb hn hw
        obtain rfl : tx [] = body := hb.out
        obtain rfl : ((k + 0 : Nat) : Int) = n := hn.out
        obtain rfl : (2 : Int) = st := hw.out
        obtain ⟨L, hL⟩ : ∃ L, s.length = L := ⟨_, rfl⟩
        rw [hL] at hz hxs hkL hkL2 hkL3
        generalize tx X = T at *
        generalize tx s = S at *
        clear hb hn hw hX hXl hend h0 hs hL hne hc
        go_enter Tryd.func17, Tryd.ntmps17
        go_wp2_with (go_at_call 31; (with_reducible refine (hE _).mono ?_); rintro e w1 ⟨rfl, rfl⟩)
        go_ret3
        exact ⟨rfl, Below.refl _ _⟩
      | false =>
        obtain ⟨⟨v, p, g⟩, hx⟩ : ∃ x, getR s (k : Int) = x := ⟨_, rfl⟩
        have hG := fun w => refGet_is (tx s) (k : Int) v p g w (by rw [tx_size]; unfold maxLen; omega) (by omega) (by omega) (by rw [tx_data]; exact hx)
        unfold getR at hx
        rw [if_neg (by omega), Int.toNat_natCast, hX] at hx
        cases hgl : getL 0 X with
        | none =>
          rw [hgl] at hx
          simp only at hx
          injection hx with e1 hx
          injection hx with e2 e3
          subst e1 e2 e3
          rw [getF_none hne hc hgl] at hb hn hw
          obtain rfl : tx [] = body := hb.out
          obtain rfl : ((k + 0 : Nat) : Int) = n := hn.out
          obtain rfl : (3 : Int) = st := hw.out
          obtain ⟨L, hL⟩ : ∃ L, s.length = L := ⟨_, rfl⟩
          rw [hL] at hz hxs hkL hkL2 hkL3
          generalize tx X = T at *
          generalize tx s = S at *
          clear hb hn hw hX hXl hend h0 hs hL hne hc hgl
          go_enter Tryd.func17, Tryd.ntmps17
          go_wp2_with (first
            | (go_at_call 31; (with_reducible refine (hE _).mono ?_); rintro e w1 ⟨rfl, rfl⟩)
            | (go_at_call 32; (with_reducible refine (hG _).mono ?_); rintro e w2 ⟨rfl, hb2⟩))
          go_ret3
          exact ⟨rfl, hb2⟩
        | some y =>
          obtain ⟨N, m⟩ := y
          rw [hgl] at hx
          simp only at hx
          injection hx with e1 hx
          injection hx with e2 e3
          subst e1 e2 e3
          obtain ⟨h1, -, h3, rest, h4⟩ := getL_some X 0 N m (by omega) hgl
          have h5 := enc_len10 N (by simpa using h1)
          have hml : m ≤ X.length := by rw [h4, h3, List.length_append]; omega
          have hF := getF_some hgl
          by_cases h7 : 70000 < N
          · rw [if_pos h7] at hF
            rw [hF] at hb hn hw
            obtain rfl : tx [] = body := hb.out
            obtain rfl : ((k + 0 : Nat) : Int) = n := hn.out
            obtain rfl : (3 : Int) = st := hw.out
            obtain ⟨L, hL⟩ : ∃ L, s.length = L := ⟨_, rfl⟩
            have h7i : (70000 : Int) < (N : Int) := by omega
            rw [hL] at hz hxs hkL hkL2 hkL3
            generalize tx X = T at *
            generalize tx s = S at *
            clear hb hn hw hX hXl hend h0 hs hL hne hc hgl h1 h3 h4 h5 hml hF h7
            go_enter Tryd.func17, Tryd.ntmps17
            go_wp2_with (first
              | (go_at_call 31; (with_reducible refine (hE _).mono ?_); rintro e w1 ⟨rfl, rfl⟩)
              | (go_at_call 32; (with_reducible refine (hG _).mono ?_); rintro e w2 ⟨rfl, hb2⟩))
            go_ret3
            exact ⟨rfl, hb2⟩
          · rw [if_neg h7] at hF
            obtain ⟨P, hP⟩ : ∃ P : Nat, k + m = P := ⟨_, rfl⟩
            have hPi : (k : Int) + (m : Int) = (P : Int) := by omega
            rw [hPi] at hG
            obtain ⟨E, hE4⟩ : ∃ E : Nat, P + N + 4 = E := ⟨_, rfl⟩
            have hEi : (P : Int) + (N : Int) + 4 = (E : Int) := by omega
            have h7i : ¬ (70000 : Int) < (N : Int) := by omega
            have hNi : IntKind.i64.wrap (N : Int) = (N : Int) := by rw [IntKind.wrap_i64]; omega
            have hPL : (P : Int) ≤ (s.length : Int) := by omega
            by_cases hsh : X.length - m < N + 4
            · rw [if_pos hsh] at hF
              rw [hF] at hb hn hw
              obtain rfl : tx [] = body := hb.out
              obtain rfl : ((k + 0 : Nat) : Int) = n := hn.out
              obtain rfl : (2 : Int) = st := hw.out
              obtain ⟨L, hL⟩ : ∃ L, s.length = L := ⟨_, rfl⟩
              have hshi : (L : Int) - (P : Int) < (N : Int) + 4 := by omega
              have hL2 : (L : Int) ≤ 1000000000 := by omega
              rw [hL] at hz hxs hkL hkL2 hkL3 hPL
              generalize tx X = T at *
              generalize tx s = S at *
              clear hb hn hw hX hXl hend h0 hs hL hne hc hgl h1 h3 h4 h5 hml hF h7 hP hPi hE4 hEi hsh
              go_enter Tryd.func17, Tryd.ntmps17
              go_wp2_with (first
                | (go_at_call 31; (with_reducible refine (hE _).mono ?_); rintro e w1 ⟨rfl, rfl⟩)
                | (go_at_call 32; (with_reducible refine (hG _).mono ?_); rintro e w2 ⟨rfl, hb2⟩))
              go_ret3
              exact ⟨rfl, hb2⟩
            · rw [if_neg hsh] at hF
              obtain ⟨Q, hQ⟩ : ∃ Q : Nat, P + N = Q := ⟨_, rfl⟩
              have hQi : (P : Int) + (N : Int) = (Q : Int) := by omega
              have hEi2 : (Q : Int) + 4 = (E : Int) := by omega
              have hEL : (E : Int) ≤ (s.length : Int) := by omega
              have hPQ : (P : Int) ≤ (Q : Int) := by omega
              have hQL : (Q : Int) ≤ (s.length : Int) := by omega
              have hkE : (k : Int) ≤ (E : Int) := by omega
              obtain ⟨Bd, hBd⟩ : ∃ Bd, (X.drop m).take N = Bd := ⟨_, rfl⟩
              have hBl : Bd.length = N := by rw [← hBd, List.length_take, List.length_drop]; omega
              have hbe : (tx s).extract P Q = tx Bd := by rw [tx_part, ← hBd, ← hX, List.drop_drop, hP, show Q - P = N by omega]
              have hall : (tx s).extract k E = tx (enc N ++ (X.drop m).take (N + 4)) := by
                rw [tx_part, hX]
                congr 1
                have : E - k = (enc N).length + (N + 4) := by omega
                rw [this, List.take_add, ← h3]
                congr 1
                rw [h3]
                calc X.take (enc N).length = (enc N ++ rest).take (enc N).length := by rw [← h4]
                  _ = enc N := by simp
              have hfr : fr Bd = enc N ++ sealed Bd := by unfold fr; rw [hBl]
              have hPut := fun w => rput_yes (tx Bd) (tx (fr Bd)) w (by rw [tx_size]; omega) (by rw [tx_data]; exact rfl)
              have hnsh : ¬ (s.length : Int) - (P : Int) < (N : Int) + 4 := by omega
              have hL2 : (s.length : Int) ≤ 1000000000 := by omega
              by_cases hq : sealed ((X.drop m).take N) = (X.drop m).take (N + 4)
              · rw [if_pos hq] at hF
                rw [hF] at hb hn hw
                rw [hBd] at hq
                have hbody : tx Bd = body := by rw [← hBd]; exact hb.out
                have hfin : (E : Int) = n := by rw [← hn.out]; simp only; omega
                obtain rfl : (0 : Int) = st := hw.out
                rw [← hq, ← hfr] at hall
                have HB := Lib.hid hbody
                have HN := Lib.hid hfin
                obtain ⟨L, hL⟩ : ∃ L, s.length = L := ⟨_, rfl⟩
                rw [hL] at hz hxs hkL hkL2 hkL3 hPL hEL hQL hnsh hL2
                generalize tx (fr Bd) = R at *
                generalize tx Bd = BB at *
                generalize tx X = T at *
                generalize tx s = S at *
                clear hb hn hw hX hXl hend h0 hs hL hne hc hgl h1 h3 h4 h5 hml hF h7 hP hPi hE4 hEi hsh hQ hBd hBl hfr hq hbody hfin
                go_enter Tryd.func17, Tryd.ntmps17
                go_wp2_with (first
                  | (go_at_call 31; (with_reducible refine (hE _).mono ?_); rintro e w1 ⟨rfl, rfl⟩)
                  | (go_at_call 32; (with_reducible refine (hG _).mono ?_); rintro e w2 ⟨rfl, hb2⟩)
                  | (go_at_call 12; (with_reducible refine (hPut _).mono ?_); rintro e w3 ⟨rfl, hb3⟩))
                go_ret3
                exact ⟨by rw [← HB.out, ← HN.out]; rfl, bel_next hb2 hb3⟩
              · rw [if_neg hq] at hF
                rw [hF] at hb hn hw
                rw [hBd] at hq
                obtain rfl : tx [] = body := hb.out
                obtain rfl : ((k + 0 : Nat) : Int) = n := hn.out
                obtain rfl : (3 : Int) = st := hw.out
                have hne2 : ¬ tx (enc N ++ (X.drop m).take (N + 4)) = tx (fr Bd) := by
                  intro e
                  have := tx_inj e
                  rw [hfr, List.append_cancel_left_eq] at this
                  exact hq this.symm
                have hstr := str_ne hne2
                obtain ⟨L, hL⟩ : ∃ L, s.length = L := ⟨_, rfl⟩
                rw [hL] at hz hxs hkL hkL2 hkL3 hPL hEL hQL hnsh hL2
                generalize tx (enc N ++ (X.drop m).take (N + 4)) = R2 at *
                generalize tx (fr Bd) = R at *
                generalize tx Bd = BB at *
                generalize tx X = T at *
                generalize tx s = S at *
                clear hb hn hw hX hXl hend h0 hs hL hne hc hgl h1 h3 h4 h5 hml hF h7 hP hPi hE4 hEi hsh hQ hBd hBl hfr hq hne2
                go_enter Tryd.func17, Tryd.ntmps17
                go_wp2_with (first
                  | (go_at_call 31; (with_reducible refine (hE _).mono ?_); rintro e w1 ⟨rfl, rfl⟩)
                  | (go_at_call 32; (with_reducible refine (hG _).mono ?_); rintro e w2 ⟨rfl, hb2⟩)
                  | (go_at_call 12; (with_reducible refine (hPut _).mono ?_); rintro e w3 ⟨rfl, hb3⟩))
                go_ret3
                exact ⟨rfl, bel_next hb2 hb3⟩
end Go.Proofs.YtanlnoephhjhhaaDoor
