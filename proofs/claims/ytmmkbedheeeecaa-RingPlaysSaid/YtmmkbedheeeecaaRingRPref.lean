/- The document's Prefer. -/
import Derived.Test.YtmmkbedheeeecaaRingRPts
set_option maxRecDepth 20000
set_option linter.unusedSimpArgs false
namespace Go.Proofs.Ytmmkbedheeeecaa
open Go.RowKit

/-- The points that have been visited: t turns, and i of the next one. -/
def sqL (P : List Pt) (h : Int) (t i : Nat) : List Pt := match t with
  | 0 => (P.take i).filter fun p => decide (h ≤ p.a)
  | _ => P.filter (fun p => decide (h ≤ p.a)) ++ (P.take i).filter fun p => decide (p.a < h)
theorem sqL_mem {P : List Pt} {h : Int} {t i : Nat} {p : Pt} (hp : p ∈ sqL P h t i) : p ∈ P := by
  unfold sqL at hp
  split at hp
  · exact List.mem_of_mem_take (List.mem_filter.1 hp).1
  · rcases List.mem_append.1 hp with hp | hp
    · exact (List.mem_filter.1 hp).1
    · exact List.mem_of_mem_take (List.mem_filter.1 hp).1
theorem sqL_len (P : List Pt) (h : Int) (t i : Nat) : (sqL P h t i).length ≤ 2 * P.length := by
  have h1 := List.length_filter_le (fun p : Pt => decide (h ≤ p.a)) (P.take i)
  have h2 := List.length_filter_le (fun p : Pt => decide (h ≤ p.a)) P
  have h3 := List.length_filter_le (fun p : Pt => decide (p.a < h)) (P.take i)
  have h4 : (P.take i).length ≤ P.length := by rw [List.length_take]; omega
  unfold sqL
  split
  · omega
  · rw [List.length_append]; omega
theorem sqL_turn (P : List Pt) (h : Int) (i : Nat) (hi : P.length ≤ i) : sqL P h 1 0 = sqL P h 0 i := by unfold sqL; simp [List.take_of_length_le hi]
theorem sqL_all (P : List Pt) (h : Int) (i : Nat) (hi : P.length ≤ i) : sqL P h 1 i = fromL P h := by unfold sqL fromL; simp [List.take_of_length_le hi]
theorem take_next {P : List Pt} {i : Nat} (hi : i < P.length) : P.take (i + 1) = P.take i ++ [P[i]] := by rw [List.take_add_one, List.getElem?_eq_getElem hi]; rfl
theorem sq0_yes {P : List Pt} {h : Int} {i : Nat} {p : Pt} (hi : i < P.length) (hp : P[i] = p) (c : h ≤ p.a) : sqL P h 0 (i + 1) = sqL P h 0 i ++ [p] := by
  unfold sqL; rw [take_next hi, List.filter_append, hp]; simp [c]
theorem sq0_no {P : List Pt} {h : Int} {i : Nat} {p : Pt} (hi : i < P.length) (hp : P[i] = p) (c : ¬ h ≤ p.a) : sqL P h 0 (i + 1) = sqL P h 0 i := by
  unfold sqL; rw [take_next hi, List.filter_append, hp]; simp [c]
theorem sq1_yes {P : List Pt} {h : Int} {i : Nat} {p : Pt} (hi : i < P.length) (hp : P[i] = p) (c : ¬ h ≤ p.a) : sqL P h 1 (i + 1) = sqL P h 1 i ++ [p] := by
  have c2 : p.a < h := by omega
  show P.filter (fun p => decide (h ≤ p.a)) ++ (P.take (i + 1)).filter (fun p => decide (p.a < h)) = (P.filter (fun p => decide (h ≤ p.a)) ++ (P.take i).filter (fun p => decide (p.a < h))) ++ [p]
  rw [take_next hi, List.filter_append, hp, List.append_assoc]; simp [c2]
theorem sq1_no {P : List Pt} {h : Int} {i : Nat} {p : Pt} (hi : i < P.length) (hp : P[i] = p) (c : h ≤ p.a) : sqL P h 1 (i + 1) = sqL P h 1 i := by
  have c2 : ¬ p.a < h := by omega
  unfold sqL; rw [take_next hi, List.filter_append, hp]; simp [c2]
theorem foldF_snoc (most : Int) (R : List Pt) (p : Pt) : foldF most [] (R ++ [p]) = stepF most (foldF most [] R) p := by unfold foldF; rw [List.foldl_append]; rfl
theorem foldF_ok {most : Int} {R : List Pt} (h : ∀ p ∈ R, 0 ≤ p.n ∧ p.n ≤ 15) : (foldF most [] R).length ≤ R.length ∧ ∀ n ∈ foldF most [] R, 0 ≤ n ∧ n ≤ 15 := by
  rw [fold_any]
  refine ⟨?_, fun n hn => ?_⟩
  · have h1 := ddN_len R []
    rw [List.length_take]
    simp at h1
    omega
  · rcases (ddN_mem _ _).1 (List.mem_of_mem_take hn) with h1 | ⟨p, h1, rfl⟩
    · simp at h1
    · exact h p h1
theorem stepF_full {most : Int} {M : List Int} {p : Pt} (h : ¬ (M.length : Int) < most) : stepF most M p = M := by unfold stepF; rw [if_neg (fun x => h x.2)]
def metL (P : List Pt) (h most : Int) (t i : Nat) : List Int := foldF most [] (sqL P h t i)
theorem metL_ok {P : List Pt} (hP : POk P) (h most : Int) (t i : Nat) : (metL P h most t i).length ≤ 256 ∧ ∀ n ∈ metL P h most t i, 0 ≤ n ∧ n ≤ 15 := by
  obtain ⟨a, b⟩ := foldF_ok (most := most) (R := sqL P h t i) fun p hp => (hP.2 p (sqL_mem hp)).2
  have := sqL_len P h t i
  have := hP.1
  exact ⟨by unfold metL; omega, b⟩
theorem met_step {P : List Pt} {h most : Int} {t i : Nat} {p : Pt} {M : List Int} (hM : metL P h most t i = M) (hs : sqL P h t (i + 1) = sqL P h t i ++ [p]) : metL P h most t (i + 1) = stepF most M p := by
  unfold metL at hM ⊢; rw [hs, foldF_snoc, hM]
theorem met_skip {P : List Pt} {h most : Int} {t i : Nat} {M : List Int} (hM : metL P h most t i = M) (hs : sqL P h t (i + 1) = sqL P h t i) : metL P h most t (i + 1) = M := by
  unfold metL at hM ⊢; rw [hs, hM]
set_option maxHeartbeats 4000000 in
theorem rprefer_is (v : Value) (l : List Int) (key : ByteArray) (most : Int) (w : World) (h : Ns w v l) (hk : key.size ≤ maxLen) : Calls Try.prog 16 #[v, .string key, .int .i64 most] w (IDone (preferL (srt (ptsL (nodesL l))) (hashI key) most) w) := by
  have kp := rpoints_is v l w h
  have hok := pok_srt (nodesL_ok l)
  generalize srt (ptsL (nodesL l)) = P at *
  have kh := fun w => rhash_is key w hk
  obtain ⟨a, cap, rfl⟩ := h.slice
  clear h hk
  generalize l.length = len at *
  generalize hashI key = x at *
  obtain ⟨F, hF⟩ : ∃ F, preferL P x most = F := ⟨_, rfl⟩
  have HF := Lib.hid (show foldF most [] (fromL P x) = F from hF)
  rw [hF]
  have HOK := Lib.hid hok
  have ki := fun v l y w h => in_is v l y w h
  clear hok hF
  go_enter Try.func16, Try.ntmps16
  go_wp2_with (first
    | (go_at_call 14; (with_reducible refine kp.mono ?_); rintro e w1 ⟨vp, rfl, hr, hB⟩; (have HP := Lib.hid hr); (have HB := Lib.hid hB); (obtain ⟨ap, cp, rfl⟩ := hr.slice); clear hr hB kp)
    | (go_at_call 11; (with_reducible refine (kh _).mono ?_); rintro e w2 ⟨rfl, rfl⟩))
  obtain ⟨n, hn⟩ : ∃ n, P.length = n := ⟨_, rfl⟩
  have HN := Lib.hid hn
  rw [hn] at HP ⊢
  have hn128 : n ≤ 128 := by rw [← hn]; exact HOK.out.1
  clear hn kh
  go_loopg [9, 10] 2 (fun g out t wr => ∃ k : Nat, k + g = 2 ∧ t = .int .i64 (k : Int) ∧ IRow wr w1.heap.size out (if k = 0 then [] else metL P x most (k - 1) n) ∧ Below w1.heap.size w1 wr)
  case atStart => exact ⟨0, by omega, rfl, IRow.nil _ _, Below.refl _ _⟩
  case round =>
    obtain ⟨k, hk, rfl, hR, hB⟩ := hrel
    obtain ⟨w3, hw3⟩ : ∃ w3, w3 = wr := ⟨_, rfl⟩
    subst hw3
    obtain ⟨a3, d3, e3⟩ := hR.slice
    generalize hm1 : (if k = 0 then [] else metL P x most (k - 1) n).length = m1 at e3
    subst e3
    cases gk with
    | zero =>
      obtain rfl : k = 2 := by omega
      have HR := Lib.hid hR
      have HB3 := Lib.hid hB
      clear hR hB hm1
      go_wp2
      go_ret
      have hr := HR.out
      rw [if_neg (by omega), show metL P x most (2 - 1) n = F from by rw [← HF.out]; unfold metL; rw [sqL_all P x n (by rw [HN.out]; exact Nat.le_refl _)]] at hr
      exact ⟨_, rfl, Joins.ownsRow_le hr HB.out.size, bel_next HB.out HB3.out⟩
    | succ g =>
      rcases (show k = 0 ∨ k = 1 by omega) with rfl | rfl
      ·
        obtain rfl : g = 1 := by omega
        have HR0 := Lib.hid (show IRow w3 w1.heap.size (.slice a3 m1 d3) (metL P x most 0 0) from by simpa [metL, sqL, foldF] using hR)
        have HB3 := Lib.hid hB
        clear hR hm1 hB hk
        have hkl : (0 : Int) < 2 := by omega
        go_wp2
        go_loopg [9, 11] n (fun g2 out ii wy => ∃ i : Nat, i + g2 = n ∧ ii = .int .i64 (i : Int) ∧ IRow wy w1.heap.size out (metL P x most 0 i) ∧ Below w1.heap.size w1 wy)
        case atStart => exact ⟨0, by omega, rfl, HR0.out, HB3.out⟩
        case round =>
          clear HR0 HB3
          obtain ⟨i, hi, rfl, hR, hB⟩ := hrel
          obtain ⟨a4, d4, e4⟩ := hR.slice
          obtain ⟨hM1, hM2⟩ := metL_ok HOK.out x most 0 i
          obtain ⟨M, hM⟩ : ∃ M, metL P x most 0 i = M := ⟨_, rfl⟩
          rw [hM] at hR e4 hM1 hM2
          obtain ⟨m, hm⟩ : ∃ m, M.length = m := ⟨_, rfl⟩
          rw [hm] at e4 hM1
          subst e4
          have HR := Lib.hid hR
          have HB4 := Lib.hid hB
          have HM := Lib.hid hM
          have HMM := Lib.hid hm
          have hns := hR.ns (fun n hn => by have := hM2 n hn; omega) (by omega)

          cases gk with
          | zero =>
            obtain rfl : i = n := by omega
            have hlt : ¬ (i : Int) < (i : Int) := by omega
            clear hR hB hns hM2 hM hm
            go_wp2
            go_roundg 1
            case measure => omega
            case rel => exact ⟨1, by omega, by go_num, by rw [if_neg (by omega), show 1 - 1 = 0 from rfl, HM.out]; exact HR.out, HB4.out⟩
          | succ g2 =>
            have hlt : (i : Int) < (n : Int) := by omega
            have hiP : i < P.length := by rw [HN.out]; omega
            obtain ⟨b5, off, rfl, -, -, hc⟩ := (HP.out.later hB).pn.cell (by omega)
            obtain ⟨y0, y1⟩ := hc i hiP
            obtain ⟨p, hp⟩ : ∃ p, P[i] = p := ⟨_, rfl⟩
            rw [hp] at y0 y1
            have HPP := Lib.hid hp
            have ki2 := ki _ M p.n wr hns
            obtain ⟨z, hz⟩ : ∃ z, inL M p.n = z := ⟨_, rfl⟩
            rw [hz] at ki2
            have HZ := Lib.hid hz
            clear hR hB hns hM2 hM hm hc hp hz
            by_cases hge : x ≤ p.a
            · have hd : decide (x ≤ p.a) = true := decide_eq_true hge
              have HS := Lib.hid (met_step HM.out (sq0_yes hiP HPP.out hge))
              clear hge
              cases z with
              | true =>
                have HST := Lib.hid (HS.out.trans (stepF_in HZ.out))
                go_wp2_with (go_at_call 17; (with_reducible refine ki2.mono ?_); rintro e w5 ⟨rfl, rfl⟩)
                go_roundg g2
                case measure => omega
                case rel => exact ⟨i + 1, by omega, by go_num, by rw [HST.out]; exact HR.out, HB4.out⟩
              | false =>
                by_cases hl : (m : Int) < most
                · have hl2 : decide ((m : Int) < most) = true := decide_eq_true hl
                  have HST := Lib.hid (HS.out.trans (stepF_new HZ.out (by rw [HMM.out]; exact hl)))
                  have hr := HR.out
                  have hB1 := HB4.out.size
                  clear hl
                  go_wp2_with (first | (go_at_call 17; (with_reducible refine ki2.mono ?_); rintro e w5 ⟨rfl, rfl⟩) | (at_builtin; refine wpList_irow rfl _ _ rfl w1.heap.size (.slice a4 m d4) M rfl p.n rfl hr hB1 (by rw [HMM.out]; omega) ?_))
                  intro v6 w6 hr6 hb6 G6
                  have HR6 := Lib.hid hr6
                  have HB6 := Lib.hid (HB4.out.trans hb6)
                  clear hr6 hb6 G6 hr hB1
                  go_wp2
                  go_roundg g2
                  case measure => omega
                  case rel => exact ⟨i + 1, by omega, by go_num, by rw [HST.out]; exact HR6.out, HB6.out⟩
                · have hl2 : decide ((m : Int) < most) = false := decide_eq_false hl
                  have HST := Lib.hid (HS.out.trans (stepF_full (by rw [HMM.out]; exact hl)))
                  clear hl
                  go_wp2_with (go_at_call 17; (with_reducible refine ki2.mono ?_); rintro e w5 ⟨rfl, rfl⟩)
                  go_roundg g2
                  case measure => omega
                  case rel => exact ⟨i + 1, by omega, by go_num, by rw [HST.out]; exact HR.out, HB4.out⟩
            · have hd : decide (x ≤ p.a) = false := decide_eq_false hge
              have HS := Lib.hid (met_skip HM.out (sq0_no hiP HPP.out hge))
              clear hge
              go_wp2_with (go_at_call 17; (with_reducible refine ki2.mono ?_); rintro e w5 ⟨rfl, rfl⟩)
              go_roundg g2
              case measure => omega
              case rel => exact ⟨i + 1, by omega, by go_num, by rw [HS.out]; exact HR.out, HB4.out⟩
      ·
        obtain rfl : g = 0 := by omega
        have HR0 := Lib.hid (show IRow w3 w1.heap.size (.slice a3 m1 d3) (metL P x most 1 0) from by rw [if_neg (by omega)] at hR; unfold metL at hR ⊢; rw [sqL_turn P x n (by rw [HN.out]; exact Nat.le_refl _)]; exact hR)
        have HB3 := Lib.hid hB
        clear hR hm1 hB hk
        have hkl : (1 : Int) < 2 := by omega
        go_wp2
        go_loopg [9, 11] n (fun g2 out ii wy => ∃ i : Nat, i + g2 = n ∧ ii = .int .i64 (i : Int) ∧ IRow wy w1.heap.size out (metL P x most 1 i) ∧ Below w1.heap.size w1 wy)
        case atStart => exact ⟨0, by omega, rfl, HR0.out, HB3.out⟩
        case round =>
          clear HR0 HB3
          obtain ⟨i, hi, rfl, hR, hB⟩ := hrel
          obtain ⟨a4, d4, e4⟩ := hR.slice
          obtain ⟨hM1, hM2⟩ := metL_ok HOK.out x most 1 i
          obtain ⟨M, hM⟩ : ∃ M, metL P x most 1 i = M := ⟨_, rfl⟩
          rw [hM] at hR e4 hM1 hM2
          obtain ⟨m, hm⟩ : ∃ m, M.length = m := ⟨_, rfl⟩
          rw [hm] at e4 hM1
          subst e4
          have HR := Lib.hid hR
          have HB4 := Lib.hid hB
          have HM := Lib.hid hM
          have HMM := Lib.hid hm
          have hns := hR.ns (fun n hn => by have := hM2 n hn; omega) (by omega)

          cases gk with
          | zero =>
            obtain rfl : i = n := by omega
            have hlt : ¬ (i : Int) < (i : Int) := by omega
            clear hR hB hns hM2 hM hm
            go_wp2
            go_roundg 0
            case measure => omega
            case rel => exact ⟨2, by omega, by go_num, by rw [if_neg (by omega), show 2 - 1 = 1 from rfl, HM.out]; exact HR.out, HB4.out⟩
          | succ g2 =>
            have hlt : (i : Int) < (n : Int) := by omega
            have hiP : i < P.length := by rw [HN.out]; omega
            obtain ⟨b5, off, rfl, -, -, hc⟩ := (HP.out.later hB).pn.cell (by omega)
            obtain ⟨y0, y1⟩ := hc i hiP
            obtain ⟨p, hp⟩ : ∃ p, P[i] = p := ⟨_, rfl⟩
            rw [hp] at y0 y1
            have HPP := Lib.hid hp
            have ki2 := ki _ M p.n wr hns
            obtain ⟨z, hz⟩ : ∃ z, inL M p.n = z := ⟨_, rfl⟩
            rw [hz] at ki2
            have HZ := Lib.hid hz
            clear hR hB hns hM2 hM hm hc hp hz
            by_cases hge : x ≤ p.a
            · have hd : decide (x ≤ p.a) = true := decide_eq_true hge
              have HS := Lib.hid (met_skip HM.out (sq1_no hiP HPP.out hge))
              clear hge
              go_wp2_with (go_at_call 17; (with_reducible refine ki2.mono ?_); rintro e w5 ⟨rfl, rfl⟩)
              go_roundg g2
              case measure => omega
              case rel => exact ⟨i + 1, by omega, by go_num, by rw [HS.out]; exact HR.out, HB4.out⟩
            · have hd : decide (x ≤ p.a) = false := decide_eq_false hge
              have HS := Lib.hid (met_step HM.out (sq1_yes hiP HPP.out hge))
              clear hge
              cases z with
              | true =>
                have HST := Lib.hid (HS.out.trans (stepF_in HZ.out))
                go_wp2_with (go_at_call 17; (with_reducible refine ki2.mono ?_); rintro e w5 ⟨rfl, rfl⟩)
                go_roundg g2
                case measure => omega
                case rel => exact ⟨i + 1, by omega, by go_num, by rw [HST.out]; exact HR.out, HB4.out⟩
              | false =>
                by_cases hl : (m : Int) < most
                · have hl2 : decide ((m : Int) < most) = true := decide_eq_true hl
                  have HST := Lib.hid (HS.out.trans (stepF_new HZ.out (by rw [HMM.out]; exact hl)))
                  have hr := HR.out
                  have hB1 := HB4.out.size
                  clear hl
                  go_wp2_with (first | (go_at_call 17; (with_reducible refine ki2.mono ?_); rintro e w5 ⟨rfl, rfl⟩) | (at_builtin; refine wpList_irow rfl _ _ rfl w1.heap.size (.slice a4 m d4) M rfl p.n rfl hr hB1 (by rw [HMM.out]; omega) ?_))
                  intro v6 w6 hr6 hb6 G6
                  have HR6 := Lib.hid hr6
                  have HB6 := Lib.hid (HB4.out.trans hb6)
                  clear hr6 hb6 G6 hr hB1
                  go_wp2
                  go_roundg g2
                  case measure => omega
                  case rel => exact ⟨i + 1, by omega, by go_num, by rw [HST.out]; exact HR6.out, HB6.out⟩
                · have hl2 : decide ((m : Int) < most) = false := decide_eq_false hl
                  have HST := Lib.hid (HS.out.trans (stepF_full (by rw [HMM.out]; exact hl)))
                  clear hl
                  go_wp2_with (go_at_call 17; (with_reducible refine ki2.mono ?_); rintro e w5 ⟨rfl, rfl⟩)
                  go_roundg g2
                  case measure => omega
                  case rel => exact ⟨i + 1, by omega, by go_num, by rw [HST.out]; exact HR.out, HB4.out⟩
end Go.Proofs.Ytmmkbedheeeecaa
