/- The walk of NetFull. -/
import Derived.Test.YtnjabhjcnkbgpaaNetAgesWalk
import Derived.Laws.IdiomStrings
import Derived.Laws.MakeOwn
import Derived.Laws.OwnMore
set_option maxRecDepth 20000
set_option linter.unusedSimpArgs false
set_option linter.unusedVariables false
namespace Go.Proofs.Ytnjabhjcnkbgpaa
open Go.RowKit

/-- A text of M zeros, made out of a new slice. -/
theorem great (M : Nat) (hM : M ≤ 100000) : ∃ C : Array Value, (∀ w : World, (Instr.makeSlice 50 (.int .i64 (M : Int)) (.int .i64 (M : Int))).run Try.prog w = .ok (.slice (some ⟨w.heap.size, 0, none⟩) M M) (w.alloc (.cells C 5))) ∧
    ∀ w : World, (convert 50 9 (.slice (some ⟨w.heap.size, 0, none⟩) M M)).run Try.prog (w.alloc (.cells C 5)) = .ok (.string ⟨(List.replicate M 0).toArray⟩) (w.alloc (.cells C 5)) := by
  obtain ⟨i0, hi, hz0, hz1, hz2⟩ := info_parts infoU
  refine ⟨madeCells #[.int .u8 0] M, fun w => ?_, fun w => ?_⟩
  · have := run_makeSlice (P := Try.prog) w 50 5 i0 (.int .u8 0) Try.underlying50 hi hz0 .i64 .i64 (M : Int) (M : Int) (by omega) (Int.le_refl _) (by rw [hz1]; simp; omega) (by rw [hz2]; omega) (by omega)
    rw [hz1, Int.toNat_natCast, Nat.mul_one] at this
    exact this
  · have := run_convert_bytes_back (P := Try.prog) (w.alloc (.cells (madeCells #[.int .u8 0] M) 5)) 50 9 5 ⟨w.heap.size, 0, none⟩ M (List.replicate M 0) Try.underlying50 Try.underlying5 Try.underlying9 fun j hj => by
      rw [List.length_replicate] at hj
      rw [mat_add, Nat.zero_add, World.cell?_alloc_mark]
      have e : (madeCells #[Value.int .u8 0] M)[j]? = (madeCells #[Value.int .u8 0] M).toList[j]? := by simp
      rw [e, toList_madeCells_one]
      simp [hj]
    rw [List.length_replicate] at this
    exact this

theorem ready_all {S : NS} (h : ∀ j, S.par j = false) : readyL S = S.mail := by
  unfold readyL openB
  simp [h]
theorem takeS_len {S : NS} (x : Int) (h : ∀ j, S.par j = false) (h0 : 0 < S.mail.length) : (takeS S x).mail.length = S.mail.length - 1 ∧ ∀ j, (takeS S x).par j = false := by
  rcases take_i (S := S) (x := x) with ⟨e, -⟩ | ⟨i, m, e, hm, -, e2⟩
  · rw [ready_all h] at e; omega
  · rw [e2]
    have hi := (List.getElem?_eq_some_iff.1 hm).1
    exact ⟨by unfold removeS; rw [List.length_append, List.length_take, List.length_drop]; omega, h⟩
theorem sendS_len {S : NS} {f : Int} (s : ByteArray) (h : ∀ j, S.par j = false) (ht : twoB f 4 = true) (hs : s.size = 0) : refuse S f 4 s = fullB S ∧ (sendS S f 4 s).mail.length = (if fullB S then S.mail.length else S.mail.length + 1) ∧ ∀ j, (sendS S f 4 s).par j = false := by
  have hr : refuse S f 4 s = fullB S := by unfold refuse; rw [ht, hs]; rfl
  refine ⟨hr, ?_, ?_⟩
  · unfold sendS; rw [hr]; cases fullB S
    · show (addS S f 4 s).mail.length = _
      unfold addS; rw [List.length_append]; rfl
    · rfl
  · unfold sendS; cases refuse S f 4 s
    · exact h
    · exact h
theorem two4 (r : Nat) (h : r < 4) : twoB (r : Int) 4 = true := by
  match r, h with
  | 0, _ => rfl
  | 1, _ => rfl
  | 2, _ => rfl
  | 3, _ => rfl
theorem double_len {S : NS} (x : Int) (h : ∀ j, S.par j = false) (h0 : 0 < S.mail.length) : doubleB S = decide (S.mail.length < 2000) ∧ (doubleS S x).mail.length = (if S.mail.length < 2000 then S.mail.length + 1 else S.mail.length) ∧ ∀ j, (doubleS S x).par j = false := by
  have hd : doubleB S = decide (S.mail.length < 2000) := by
    unfold doubleB fullB
    have e1 : (S.mail.length == 0) = false := by rw [beq_eq_false_iff_ne]; omega
    rw [e1]
    by_cases h1 : S.mail.length < 2000
    · rw [decide_eq_true h1, decide_eq_false (by omega)]; rfl
    · rw [decide_eq_false h1, decide_eq_true (by omega)]; rfl
  refine ⟨hd, ?_, ?_⟩
  · unfold doubleS
    rw [hd]
    by_cases h1 : S.mail.length < 2000
    · have hp := (pick_lt x h0).2.2.2
      rw [if_pos (by simpa using h1), if_pos h1, List.getElem?_eq_getElem hp]
      unfold addS; rw [List.length_append]; rfl
    · rw [if_neg (by simpa using h1), if_neg h1]
  · unfold doubleS
    split
    · split
      · exact h
      · exact h
    · exact h
namespace netFull
theorem abs_mod (x : Int) (n : Nat) (hn : 0 < n) (hn2 : n ≤ 100) : ∃ (z : Int) (m : Nat), x.tmod (n : Int) = z ∧ IntKind.i64.wrap z = z ∧ m < n ∧ ((z < 0 ∧ IntKind.i64.wrap (-z) = (m : Int)) ∨ (¬ z < 0 ∧ z = (m : Int))) := by
  have h1 := Int.tmod_lt_of_pos x (show (0 : Int) < (n : Int) by omega)
  have h2 := Int.lt_tmod_of_pos x (show (0 : Int) < (n : Int) by omega)
  refine ⟨x.tmod n, (x.tmod n).natAbs, rfl, by rw [IntKind.wrap_i64]; omega, by omega, ?_⟩
  by_cases h : x.tmod n < 0
  · exact Or.inl ⟨h, by rw [IntKind.wrap_i64]; omega⟩
  · exact Or.inr ⟨h, by omega⟩
set_option maxHeartbeats 8000000 in
theorem walk (more length : Int) (w : World) (h1 : -9223372036854775808 ≤ more ∧ more ≤ 9223372036854775807) (h2 : -9223372036854775808 ≤ length ∧ length ≤ 9223372036854775807) : Calls Try.prog 6 #[.int .i64 more, .int .i64 length] w fun e w' => e = .returned (.bool true) ∧ Below w.heap.size w w' := by
  obtain ⟨zk, k, hzk, hzkw, hk20, hkc⟩ := abs_mod more 20 (by decide) (by decide)
  obtain ⟨zm, m, hzm, hzmw, hm21, hmc⟩ := abs_mod length 21 (by decide) (by decide)
  have hzk' : more.tmod 20 = zk := hzk
  have hzm' : length.tmod 21 = zm := hzm
  clear hzk hzm h1 h2
  have hk1 : IntKind.i64.wrap (1995 + (k : Int)) = 1995 + (k : Int) := by rw [IntKind.wrap_i64]; omega
  rcases hkc with ⟨hkc1, hkc2⟩ | ⟨hkc1, rfl⟩
  all_goals
    go_enter Try.func6, Try.ntmps6
    go_wp2_with (first
      | (go_at_call 9; (with_reducible refine (awake_is _).mono ?_); rintro e w1 ⟨rfl, hB⟩; (have HB1 := Lib.hid hB); clear hB)
      | (go_at_call 10; (with_reducible refine (new_is w1).mono ?_); rintro e w2 ⟨rfl, rfl⟩; (have H0 := Lib.hid (One.made w1))))
    obtain ⟨w2, hw2⟩ : ∃ x, x = w1.alloc (.cells (ncells (.slice none 0 0) 0 fun _ => false) 54) := ⟨_, rfl⟩
    rw [← hw2] at H0 ⊢
    clear hw2
    go_loopw [8, 9] (fun u i wr => ∃ (n : Nat) (S : NS), n ≤ 1995 + k ∧ i = .int .i64 (n : Int) ∧ u = .int .i64 ((min n 2000 : Nat) : Int) ∧ S.mail.length = min n 2000 ∧ (∀ j, S.par j = false) ∧ One w1 wr w1.heap.size S) (fun _ i _ => 1995 + k - (intOf i).toNat)
    case atStart => exact ⟨0, NS.new, by omega, rfl, rfl, rfl, fun _ => rfl, H0.out⟩
    case round =>
      obtain ⟨n, S, hn, rfl, rfl, hlen, hpar, hone⟩ := hrel
      have HL := Lib.hid hlen
      have HP := Lib.hid hpar
      have HO := Lib.hid hone
      clear hlen hpar hone
      obtain ⟨w3, hw3⟩ : ∃ x, x = wr := ⟨_, rfl⟩
      subst hw3
      by_cases hgo : n < 1995 + k
      · have hgi : (n : Int) < 1995 + (k : Int) := by omega
        have hnw : IntKind.i64.wrap ((n : Int) + 1) = (n : Int) + 1 := by rw [IntKind.wrap_i64]; omega
        obtain ⟨r, hr⟩ : ∃ r, n % 4 = r := ⟨_, rfl⟩
        have hr4 : r < 4 := by omega
        have hr1 : (n : Int).tmod 4 = (r : Int) := by rw [Int.tmod_eq_emod_of_nonneg (by omega)]; omega
        have hr2 : (n : Int) % 4 = (r : Int) := by omega
        obtain ⟨e1, e2, e3⟩ := sendS_len (S := S) (f := (r : Int)) ⟨#[]⟩ HP.out (two4 r hr4) rfl
        have ks := send_one (r : Int) 4 ⟨#[]⟩ (by decide) HO.out
        rw [e1] at ks
        cases hf : fullB S with
        | true =>
          rw [hf] at e2 ks
          have h20 : 2000 ≤ n := by have := HL.out; unfold fullB at hf; simp at hf; omega
          have HE2 := Lib.hid (show (sendS S (r : Int) 4 ⟨#[]⟩).mail.length = min (n + 1) 2000 by rw [e2, if_pos rfl, HL.out]; omega)
          have HE3 := Lib.hid e3
          have HMN := Lib.hid (show (min n 2000 : Nat) = min (n + 1) 2000 by omega)
          obtain ⟨s2, hs2⟩ : ∃ s2, ((min n 2000 : Nat) : Int) = s2 := ⟨_, rfl⟩
          rw [hs2]
          have HS2 := Lib.hid hs2
          clear e1 e2 e3 hf hr hgo hs2
          go_wp2_with (go_at_call 27; (with_reducible refine ks.mono ?_); rintro e w4 ⟨rfl, hO, -, -⟩; (have HO4 := Lib.hid hO); clear hO ks)
          go_roundw
          case rel => exact ⟨n + 1, _, by omega, by go_num, by rw [← HS2.out, HMN.out], HE2.out, HE3.out, HO4.out⟩
          case measure => simp [intOf]; omega
        | false =>
          rw [hf] at e2 ks
          have h20 : n < 2000 := by have := HL.out; unfold fullB at hf; simp at hf; omega
          have HE2 := Lib.hid (show (sendS S (r : Int) 4 ⟨#[]⟩).mail.length = min (n + 1) 2000 by rw [e2, if_neg (by simp), HL.out]; omega)
          have HE3 := Lib.hid e3
          have HMN := Lib.hid (show (min n 2000 : Nat) + 1 = min (n + 1) 2000 by omega)
          obtain ⟨s2, hs2⟩ : ∃ s2, (min n 2000 : Nat) = s2 := ⟨_, rfl⟩
          have hs2w : IntKind.i64.wrap ((s2 : Int) + 1) = (s2 : Int) + 1 := by rw [IntKind.wrap_i64]; omega
          rw [hs2]
          have HS2 := Lib.hid hs2
          clear e1 e2 e3 hf hr hgo hs2
          go_wp2_with (go_at_call 27; (with_reducible refine ks.mono ?_); rintro e w4 ⟨rfl, hO, -, -⟩; (have HO4 := Lib.hid hO); clear hO ks)
          go_roundw
          case rel => exact ⟨n + 1, _, by omega, by go_num, by rw [← HMN.out, HS2.out]; go_num, HE2.out, HE3.out, HO4.out⟩
          case measure => simp [intOf]; omega
      · have hgi : ¬ (n : Int) < 1995 + (k : Int) := by omega
        obtain rfl : n = 1995 + k := by omega
        obtain ⟨L, hL⟩ : ∃ L, min (1995 + k) 2000 = L := ⟨_, rfl⟩
        have hSL : S.mail.length = L := HL.out.trans hL
        obtain ⟨d1, d2, d3⟩ := double_len (S := S) 0 HP.out (by omega)
        have kd := double_one 0 (by decide) HO.out
        have hSD : (doubleS S 0).mail.length ≤ 2000 ∧ 1995 ≤ (doubleS S 0).mail.length := by rw [d2]; split <;> omega
        obtain ⟨t1, t2⟩ := takeS_len (S := doubleS S 0) 0 d3 (by omega)
        obtain ⟨t3, t4⟩ := takeS_len (S := takeS (doubleS S 0) 0) 0 t2 (by omega)
        obtain ⟨M, hM⟩ : ∃ M, 79990 + m = M := ⟨_, rfl⟩
        obtain ⟨C, gm, gc⟩ := great M (by omega)
        obtain ⟨G, hG⟩ : ∃ G : ByteArray, (⟨(List.replicate M 0).toArray⟩ : ByteArray) = G := ⟨_, rfl⟩
        have hGs : G.size = M := by rw [← hG]; simp [ByteArray.size]
        rw [hG] at gc
        have hrf : refuse (takeS (takeS (doubleS S 0) 0) 0) 1 2 G = decide (80000 < M) := by
          unfold refuse fullB
          rw [hGs, show twoB 1 2 = true from rfl, decide_eq_false (show ¬ 2000 ≤ (takeS (takeS (doubleS S 0) 0) 0).mail.length by omega)]
          cases decide (80000 < M) <;> rfl
        have HT := Lib.hid hrf
        have HGS := Lib.hid hGs
        rw [d1, hSL] at kd
        have hMi : IntKind.i64.wrap (79990 + (m : Int)) = (M : Int) := by rw [IntKind.wrap_i64]; omega
        rw [hL]
        have HLK := Lib.hid hL
        have hwant : (2000 < 1995 + (k : Int) ∧ L = 2000) ∨ (¬ 2000 < 1995 + (k : Int) ∧ 1995 + (k : Int) = (L : Int)) := by omega
        have hMM := Lib.hid hM
        have hdd : decide (L < 2000) = decide (¬ 5 ≤ k) := by apply decide_eq_decide.2; omega
        rw [hdd] at kd
        obtain ⟨D, hD⟩ : ∃ D, decide (¬ 5 ≤ k) = D := ⟨_, rfl⟩
        obtain ⟨E, hE⟩ : ∃ E, decide (80000 < M) = E := ⟨_, rfl⟩
        rw [hD] at kd
        rw [hE] at HT
        have hkcs : ((L : Int) = 1995 + (k : Int) ∧ D = true ∧ ¬ 2000 < 1995 + (k : Int) ∧ 1995 + (k : Int) < 2000) ∨ ((L : Int) = 2000 ∧ D = false ∧ 1995 + (k : Int) = 2000) ∨ ((L : Int) = 2000 ∧ D = false ∧ 2000 < 1995 + (k : Int)) := by
          by_cases h5 : 5 ≤ k
          · have hd : D = false := by rw [← hD]; simpa using h5
            by_cases h6 : k = 5
            · exact Or.inr (Or.inl ⟨by omega, hd, by omega⟩)
            · exact Or.inr (Or.inr ⟨by omega, hd, by omega⟩)
          · exact Or.inl ⟨by omega, by rw [← hD]; simpa using h5, by omega, by omega⟩
        have hEc : (E = true ∧ ¬ (m : Int) ≤ 10) ∨ (E = false ∧ (m : Int) ≤ 10) := by
          by_cases h5 : 80000 < M
          · left; exact ⟨by rw [← hE]; simpa using h5, by omega⟩
          · right; exact ⟨by rw [← hE]; simpa using h5, by omega⟩
        clear hgo hL hSL d1 d2 d3 hSD t1 t2 t3 t4 hG hGs hrf hM hdd hD hE hwant
        rcases hkcs with ⟨hLe, rfl, hk3, hk4⟩ | ⟨hLe, rfl, hk3⟩ | ⟨hLe, rfl, hk3⟩ <;> rw [hLe] <;> rcases hmc with ⟨hm1, hm2⟩ | ⟨hm1, rfl⟩ <;> rcases hEc with ⟨rfl, hm3⟩ | ⟨rfl, hm3⟩
        all_goals
          go_wp2_with (first
            | (go_at_call 15; (with_reducible refine kd.mono ?_); rintro e w4 ⟨rfl, hO, -, -⟩; (have kt := take_one 0 (by decide) hO); clear hO kd)
            | (go_at_call 11; (with_reducible refine kt.mono ?_); rintro e w5 ⟨rfl, hO, -, -⟩; (have kt2 := take_one 0 (by decide) hO); clear hO kt)
            | (go_at_call 11; (with_reducible refine kt2.mono ?_); rintro e w6 ⟨rfl, hO, -, -⟩; (have ks := send_one 1 2 G (by have := hMM.out; rw [HGS.out]; omega) (hO.later (bel_al w6 (.cells C 5)))); rw [HT.out] at ks; clear hO kt2)
            | (go_at_call 27; (with_reducible refine ks.mono ?_); rintro e w7 ⟨rfl, hO, -, -⟩; (have HO7 := Lib.hid hO); clear hO ks))
          go_ret
          exact ⟨by first | rfl | (show Ending.returned (.bool (!decide ((m : Int) ≤ 10))) = _; rw [decide_eq_false (by omega)]; rfl), bel_next HB1.out HO7.out.bel⟩
end netFull
end Go.Proofs.Ytnjabhjcnkbgpaa
