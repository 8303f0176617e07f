/- The walk of RingMoves. -/
import Derived.Test.YtmmkbedheeeecaaRingLaw
set_option maxRecDepth 20000
set_option linter.unusedSimpArgs false
namespace Go.Proofs.Ytmmkbedheeeecaa.ringMoves
open Go.RowKit Go.Proofs.Ytmmkbedheeeecaa

theorem filter_next {l : List Int} {n : Int} {k : Nat} (h : k < l.length) : (l.take (k + 1)).filter (nq n) = (l.take k).filter (nq n) ++ if l[k] = n then [] else [l[k]] := by
  rw [List.take_add_one, List.getElem?_eq_getElem h, List.filter_append]
  by_cases c : l[k] = n
  · simp [nq, c]
  · simp [nq, c]
theorem filter_no {l : List Int} {n y : Int} {k : Nat} (h : k < l.length) (e : l[k] = y) (c : y = n) : (l.take (k + 1)).filter (nq n) = (l.take k).filter (nq n) := by rw [filter_next h, e, if_pos c, List.append_nil]
theorem filter_yes {l : List Int} {n y : Int} {k : Nat} (h : k < l.length) (e : l[k] = y) (c : ¬ y = n) : (l.take (k + 1)).filter (nq n) = (l.take k).filter (nq n) ++ [y] := by rw [filter_next h, e, if_neg c]
theorem filter_len (l : List Int) (n : Int) (k : Nat) : ((l.take k).filter (nq n)).length ≤ l.length := by
  have h1 := List.length_filter_le (nq n) (l.take k)
  rw [List.length_take] at h1
  omega
theorem more_mem {l : List Int} {n : Int} (x : Int) : x ∈ l.filter (nq n) ↔ x ∈ l.filter (nq n) ++ [n] ∧ x ≠ n := by
  rw [List.mem_append, List.mem_singleton, List.mem_filter]
  unfold nq
  by_cases c : x = n <;> simp [c]
theorem _root_.Go.Proofs.Ytmmkbedheeeecaa.IRow.small2 {w : World} {B : Nat} {v : Value} {l : List Int} (h : IRow w B v l) (hw : ∀ n ∈ l, 0 ≤ n ∧ n ≤ 15) (hl : l.length ≤ 128) : Ns w v l := h.ns (fun n hn => by have := hw n hn; omega) (by omega)
set_option maxHeartbeats 8000000 in
theorem walk (a0 : Option Addr) (len0 cap0 : Nat) (more : Int) (a2 : Option Addr) (len2 cap2 : Nat) (w : World) (h0 : ArgInts w a0 len0 cap0) (_ : -9223372036854775808 ≤ more ∧ more ≤ 9223372036854775807) (h2 : ArgStrs w a2 len2 cap2) :
    Calls Try.prog 5 #[.slice a0 len0 cap0, .int .i64 more, .slice a2 len2 cap2] w fun e w' => e = .returned (.bool true) ∧ Below w.heap.size w w' := by
  have ka := awake_is w
  obtain ⟨l0, hl0, hc0⟩ := ns_of_args h0
  obtain ⟨S, hS⟩ := ss_of_args h2
  have HS := Lib.hid hS
  obtain ⟨a2', cap2', e2⟩ := hS.slice
  injection e2 with e2a e2b e2c
  subst e2a e2b e2c
  have hS63 := hS.size
  clear h0 h2 hS
  have kf := fun w h => few_is (.slice a0 len0 cap0) l0 w.heap.size w h hc0
  have H0 := Lib.hid hl0
  clear hl0 hc0
  obtain ⟨n, hn⟩ : ∃ n, bits .and .i64 more 15 = n := ⟨_, rfl⟩
  have hn15 : 0 ≤ n ∧ n ≤ 15 := by rw [← hn, and15]; omega
  have HN15 := Lib.hid hn15
  clear hn15
  have kn := fun ep v l w h => new_is ep v l w h
  have kp := fun b v1 v2 ep N P key most w h hs hk => prefer_is b v1 v2 ep N P key most w h hs hk
  have ks := fun s t w ht => short_is s t 100 100 w rfl (by omega) ht
  go_enter Try.func5, Try.ntmps5
  go_wp2_with (first
    | (go_at_call 8; (with_reducible refine ka.mono ?_); rintro e w1 ⟨rfl, hB⟩; (have kf2 := kf w1 (H0.out.later hB)); (have HB1 := Lib.hid hB); clear hB kf)
    | (go_at_call 12; (with_reducible refine kf2.mono ?_); rintro e w2 ⟨va, rfl, hA, rfl⟩; (have HA := Lib.hid hA); clear hA kf2))
  obtain ⟨A, hA⟩ : ∃ A, l0.take 12 = A := ⟨_, rfl⟩
  have hA12 : A.length ≤ 12 := by rw [← hA, List.length_take]; omega
  rw [hA] at HA
  obtain ⟨aA, cA, rfl⟩ := HA.out.slice
  obtain ⟨na, hna⟩ : ∃ na, A.length = na := ⟨_, rfl⟩
  have HNA := Lib.hid hna
  rw [hna] at hA12
  have HAA : Hid (Ns w1 (.slice aA na cA) A) := by rw [← hna]; exact HA
  rw [hna]
  clear hA hna HA ka hn
  go_loopg [10, 11] na (fun g out i wr => ∃ k : Nat, k + g = na ∧ i = .int .i64 (k : Int) ∧ IRow wr w1.heap.size out ((A.take k).filter (nq n)) ∧ Below w1.heap.size w1 wr)
  case atStart => exact ⟨0, by omega, rfl, IRow.nil _ _, Below.refl _ _⟩
  case round =>
    obtain ⟨k, hk, rfl, hR, hB⟩ := hrel
    obtain ⟨w3, hw3⟩ : ∃ w3, w3 = wr := ⟨_, rfl⟩
    subst hw3
    obtain ⟨a3, d3, e3⟩ := hR.slice
    obtain ⟨M, hM⟩ : ∃ M, (A.take k).filter (nq n) = M := ⟨_, rfl⟩
    have hMl := filter_len A n k
    rw [hM] at hR e3 hMl
    obtain ⟨m, hm⟩ : ∃ m, M.length = m := ⟨_, rfl⟩
    rw [hm] at e3
    have HM := Lib.hid hM
    have HMM := Lib.hid hm
    have hm12 : m ≤ 12 := by rw [← hm]; have := HNA.out; omega
    subst e3
    have HR := Lib.hid hR
    have HB := Lib.hid hB
    clear hR hB hM hMl hm
    cases gk with
    | succ g =>
      have hlt : (k : Int) < (na : Int) := by omega
      have hkA : k < A.length := by rw [HNA.out]; omega
      obtain ⟨-, b, off, rfl, hc⟩ := (HAA.out.later HB.out).cell (by omega)
      have c1 := hc k hkA
      obtain ⟨y, hy⟩ : ∃ y, A[k] = y := ⟨_, rfl⟩
      rw [hy] at c1
      have HY := Lib.hid hy
      clear hc hy
      by_cases hyn : y = n
      · have hq : (y != n) = false := by simpa using hyn
        have HX := Lib.hid ((filter_no hkA HY.out hyn).trans HM.out)
        clear hyn
        go_wp2
        go_roundg g
        case measure => omega
        case rel => exact ⟨k + 1, by omega, by go_num, by rw [HX.out]; exact HR.out, HB.out⟩
      · have hq : (y != n) = true := by simpa using hyn
        have HX := Lib.hid (filter_yes hkA HY.out hyn)
        have hr := HR.out
        have hB1 := HB.out.size
        clear hyn
        go_wp2_with (at_builtin; refine wpList_irow rfl _ _ rfl w1.heap.size (.slice a3 m d3) M rfl y rfl hr hB1 (by rw [HMM.out]; omega) ?_)
        intro v4 w4 hr4 hb4 G4
        have HR4 := Lib.hid hr4
        have HB4 := Lib.hid (HB.out.trans hb4)
        clear hr4 hb4 G4 hr hB1
        go_wp2
        go_roundg g
        case measure => omega
        case rel => exact ⟨k + 1, by omega, by go_num, by rw [HX.out, HM.out]; exact HR4.out, HB4.out⟩
    | zero =>
      obtain rfl : k = na := by omega
      have hlt : ¬ (k : Int) < (k : Int) := by omega
      have HM2 := Lib.hid (show A.filter (nq n) = M by rw [← HM.out, List.take_of_length_le (by rw [HNA.out]; exact Nat.le_refl _)])
      have hMw : ∀ x ∈ M, -9223372036854775808 ≤ x ∧ x ≤ 9223372036854775807 := by
        rw [← HM2.out]; exact fun x hx => HAA.out.wide x (List.mem_filter.1 hx).1
      have HMW := Lib.hid hMw
      have hnM := HR.out.ns hMw (by rw [HMM.out]; omega)
      have hB1 := HB.out.size
      clear hMw
      go_wp2_with (at_builtin; refine wpList_ints rfl _ _ rfl w1.heap.size (.slice none 0 0) (.slice a3 m d3) [] M rfl rfl (IRow.nil _ _) hnM hB1 (by rw [HMM.out]; simp; omega) ?_)
      intro v5 w5 hr5 hb5 G5
      try rw [List.nil_append] at hr5
      obtain ⟨hk5, hap5⟩ := G5.keep HR.out (Apart.nil _).symm
      have hbel5 := G5.below (IRow.nil w3 w3.heap.size) (Nat.le_refl _) (Nat.le_refl _)
      have HB5 := Lib.hid (bel_next HB.out hbel5)
      obtain ⟨a5, d5, e5⟩ := hr5.slice
      rw [HMM.out] at e5
      subst e5
      have HR5 := Lib.hid hr5
      have HK5 := Lib.hid (And.intro hk5 hap5)
      have hB5 := HB5.out.size
      clear hb5 G5 hbel5 hnM hB1 hk5 hap5
      go_wp2_with (at_builtin; refine wpList_irow rfl _ _ rfl w1.heap.size (.slice a5 m d5) M rfl n rfl hr5 hB5 (by rw [HMM.out]; omega) ?_)
      intro v6 w6 hr6 hb6 G6
      obtain ⟨hk6, -⟩ := G6.keep HK5.out.1 HK5.out.2
      have hn1 : Ns w6 (.slice a3 m d3) M := IRow.ns hk6 HMW.out (by rw [HMM.out]; omega)
      have hn2 : Ns w6 v6 (M ++ [n]) := IRow.ns hr6 (fun x hx => by
        rcases List.mem_append.1 hx with h | h
        · exact HMW.out x h
        · rw [List.mem_singleton] at h; subst h; have := HN15.out; omega) (by rw [List.length_append, HMM.out]; simp; omega)
      have k1 := kn 1 _ M w6 hn1
      have HN2 := Lib.hid hn2
      have HB6 := Lib.hid (bel_next HB1.out (HB5.out.trans hb6))
      obtain ⟨a6, d6, e6⟩ := hr6.slice
      obtain ⟨m6, hm6⟩ : ∃ m6, (M ++ [n]).length = m6 := ⟨_, rfl⟩
      rw [hm6] at e6
      subst e6
      clear hr6 hb6 G6 hk6 hr5 hB5 HK5 HR5 hn1 hn2 hm6
      go_wp2_with (first
        | (go_at_call 13; (with_reducible refine k1.mono ?_); rintro e w7 ⟨b1, v1, v2, rfl, hR, hB⟩; (have k2 := kn 2 _ (M ++ [n]) w7 (HN2.out.later hB)); (have HR7 := Lib.hid hR); (have HB7 := Lib.hid (bel_next HB6.out hB)); clear hR hB k1)
        | (go_at_call 13; (with_reducible refine k2.mono ?_); rintro e w8 ⟨b2, v3, v4, rfl, hR, hB⟩; (have HRA := Lib.hid (HR7.out.later hB)); (have HRB := Lib.hid hR); (have HB8 := Lib.hid (bel_next HB7.out hB)); clear hR hB k2 HR7 HB7 HB6))
      have hsrt1 := srt_rises (ptsL (nodesL M))
      have hsrt2 := srt_rises (ptsL (nodesL (M ++ [n])))
      have HMO := Lib.hid (fun (x : Int) => (show x ∈ M ↔ x ∈ M ++ [n] ∧ x ≠ n by rw [← HM2.out]; exact more_mem x))
      have hk1 := fun key most W h hk => kp b1 v1 v2 1 (nodesL M) (srt (ptsL (nodesL M))) key most W h hsrt1 hk
      have hk2 := fun key most W h hk => kp b2 v3 v4 2 (nodesL (M ++ [n])) (srt (ptsL (nodesL (M ++ [n])))) key most W h hsrt2 hk
      have HPA := Lib.hid (fun x y => preferL_ok (pok_srt (nodesL_ok M)) x y)
      have HPB := Lib.hid (fun x y => preferL_ok (pok_srt (nodesL_ok (M ++ [n]))) x y)
      have HXA := Lib.hid (fun x y => prefer_all M x y)
      have HXB := Lib.hid (fun x y => prefer_all (M ++ [n]) x y)
      clear hsrt1 hsrt2 kp kn HR HB HM HN2 HMW HAA HNA HMM HM2 hm12 hA12 HB5
      go_loopg [15] 30 (fun g i wr => ∃ k : Nat, k + g = 30 ∧ i = .int .i64 (k : Int) ∧ Below w8.heap.size w8 wr)
      case atStart => exact ⟨0, by omega, rfl, Below.refl _ _⟩
      case round =>
        obtain ⟨k, hk, rfl, hB⟩ := hrel
        obtain ⟨w9, hw9⟩ : ∃ w9, w9 = wr := ⟨_, rfl⟩
        subst hw9
        have HB9 := Lib.hid hB
        clear hB
        by_cases hks : k < S.length
        · have hks2 : (k : Int) < (S.length : Int) := by omega
          cases gk with
          | zero =>
            obtain rfl : k = 30 := by omega
            have h30 : ¬ ((30 : Nat) : Int) < 30 := by omega
            go_wp2
            go_ret
            exact ⟨rfl, bel_next HB8.out HB9.out⟩
          | succ g =>
            have h30 : (k : Int) < 30 := by omega
            obtain ⟨bs, offs, rfl, hcs⟩ := ((HS.out.later HB8.out).later HB9.out).cell (by omega)
            have cs := hcs k hks
            obtain ⟨s, hs⟩ : ∃ s, S[k] = s := ⟨_, rfl⟩
            have hsm : s.size ≤ maxLen := by rw [← hs]; exact HS.out.texts _ (List.getElem_mem _)
            rw [hs] at cs
            obtain ⟨t, ht⟩ : ∃ t, cutB s 100 = t := ⟨_, rfl⟩
            have htm : t.size ≤ maxLen := by rw [← ht]; exact cutB_size s 100 hsm
            have ks1 := fun W => ks s t W (Lib.hid ht)
            obtain ⟨q, hq⟩ : ∃ q : Nat, k % 4 = q := ⟨_, rfl⟩
            have hrem : Int.tmod (k : Int) 4 = (q : Int) := by rw [← hq, Int.tmod_eq_emod_of_nonneg (by omega)]; omega
            have hq4 : q < 4 := by omega
            have hw1 : IntKind.i64.wrap (1 + (q : Int)) = 1 + (q : Int) := by rw [IntKind.wrap_i64]; omega
            have kx := hk1 t (1 + (q : Int)) w9 (HRA.out.later HB9.out) htm
            have ky := fun W h => hk2 t (1 + (q : Int)) W h htm
            obtain ⟨ox1, ox2⟩ := HPA.out (hashI t) (1 + (q : Int))
            obtain ⟨oy1, oy2⟩ := HPB.out (hashI t) (1 + (q : Int))
            have ex := HXA.out (hashI t) (1 + (q : Int))
            have ey := HXB.out (hashI t) (1 + (q : Int))
            obtain ⟨X, hX⟩ : ∃ X, preferL (srt (ptsL (nodesL M))) (hashI t) (1 + (q : Int)) = X := ⟨_, rfl⟩
            obtain ⟨Y, hY⟩ : ∃ Y, preferL (srt (ptsL (nodesL (M ++ [n])))) (hashI t) (1 + (q : Int)) = Y := ⟨_, rfl⟩
            rw [hX] at kx ox1 ox2 ex
            rw [hY] at ky oy1 oy2 ey
            obtain ⟨z1, z2, z3, z4, z5⟩ := moves_ok HMO.out (hashI t) (1 + (q : Int)).toNat ex.symm ey.symm rfl
            have Z := Lib.hid (And.intro z1 (And.intro z2 (And.intro z3 (And.intro z4 z5))))
            have OX := Lib.hid (And.intro ox1 ox2)
            have OY := Lib.hid (And.intro oy1 oy2)
            have HRB9 := Lib.hid (HRB.out.later HB9.out)
            clear hcs hs hsm ht htm hq z1 z2 z3 z4 z5 ox1 ox2 oy1 oy2 ex ey hX hY
            go_wp2_with (first
              | (go_at_call 9; (with_reducible refine (ks1 _).mono ?_); rintro e w2 ⟨rfl, rfl⟩)
              | (go_at_call 21; (with_reducible refine kx.mono ?_); rintro e wx ⟨vx, rfl, hr, hB⟩; (have HX := Lib.hid hr); (have HBX := Lib.hid hB); (have ky2 := ky wx (HRB9.out.later hB)); clear hr hB kx ky)
              | (go_at_call 21; (with_reducible refine ky2.mono ?_); rintro e wy ⟨vy, rfl, hr, hB⟩; (have HY := Lib.hid hr); (have HBY := Lib.hid hB); clear hr hB ky2))
            obtain ⟨ax, cx, rfl⟩ := HX.out.slice
            obtain ⟨ay, cy, rfl⟩ := HY.out.slice
            obtain ⟨lx, hlx⟩ : ∃ lx, X.length = lx := ⟨_, rfl⟩
            obtain ⟨ly, hly⟩ : ∃ ly, Y.length = ly := ⟨_, rfl⟩
            rw [hlx, hly]
            have hl1 : lx ≤ 128 := by rw [← hlx]; exact OX.out.1
            have hl2 : ly ≤ 128 := by rw [← hly]; exact OY.out.1
            have HLX := Lib.hid hlx
            have HLY := Lib.hid hly
            have HXR := Lib.hid (show IRow wx w9.heap.size (.slice ax lx cx) X by have h := HX.out; rw [hlx] at h; exact h)
            have HYR := Lib.hid (show IRow wy wx.heap.size (.slice ay ly cy) Y by have h := HY.out; rw [hly] at h; exact h)
            clear hlx hly HX HY
            have HYN := Lib.hid (IRow.small2 HYR.out OY.out.2 OY.out.1)
            go_loopg [20, 21] ly (fun g2 out j wr => ∃ i : Nat, i + g2 = ly ∧ j = .int .i64 (i : Int) ∧ IRow wr wy.heap.size out ((Y.take i).filter (nq n)) ∧ Below wy.heap.size wy wr)
            case atStart => exact ⟨0, by omega, rfl, IRow.nil _ _, Below.refl _ _⟩
            case round =>
              obtain ⟨i, hi, rfl, hR, hB⟩ := hrel
              obtain ⟨w10, hw10⟩ : ∃ w10, w10 = wr := ⟨_, rfl⟩
              subst hw10
              obtain ⟨a3, d3, e3⟩ := hR.slice
              obtain ⟨R, hRR⟩ : ∃ R, (Y.take i).filter (nq n) = R := ⟨_, rfl⟩
              have hRl := filter_len Y n i
              rw [hRR] at hR e3 hRl
              obtain ⟨m, hm⟩ : ∃ m, R.length = m := ⟨_, rfl⟩
              rw [hm] at e3
              have HRR := Lib.hid hRR
              have HMM := Lib.hid hm
              have hm128 : m ≤ 128 := by rw [← hm]; have := HLY.out; omega
              subst e3
              have HR := Lib.hid (show IRow w10 wy.heap.size (.slice a3 m d3) R from hR)
              have HB := Lib.hid hB
              clear hR hB hRR hRl hm
              cases gk with
              | succ g2 =>
                have hlt : (i : Int) < (ly : Int) := by omega
                have hkY : i < Y.length := by rw [HLY.out]; omega
                obtain ⟨-, b, off, rfl, hc⟩ := (HYN.out.later HB.out).cell (by omega)
                have c1 := hc i hkY
                obtain ⟨y, hy⟩ : ∃ y, Y[i] = y := ⟨_, rfl⟩
                rw [hy] at c1
                have HYY := Lib.hid hy
                clear hc hy
                by_cases hyn : y = n
                · have hq : (y != n) = false := by simpa using hyn
                  have HX := Lib.hid ((filter_no hkY HYY.out hyn).trans HRR.out)
                  clear hyn
                  go_wp2
                  go_roundg g2
                  case measure => omega
                  case rel => exact ⟨i + 1, by omega, by go_num, by rw [HX.out]; exact HR.out, HB.out⟩
                · have hq : (y != n) = true := by simpa using hyn
                  have HX := Lib.hid (filter_yes hkY HYY.out hyn)
                  have hr := HR.out
                  have hB1 := HB.out.size
                  clear hyn
                  go_wp2_with (at_builtin; refine wpList_irow rfl _ _ rfl wy.heap.size (.slice a3 m d3) R rfl y rfl hr hB1 (by rw [HMM.out]; omega) ?_)
                  intro v4 w4 hr4 hb4 G4
                  have HR4 := Lib.hid hr4
                  have HB4 := Lib.hid (HB.out.trans hb4)
                  clear hr4 hb4 G4 hr hB1
                  go_wp2
                  go_roundg g2
                  case measure => omega
                  case rel => exact ⟨i + 1, by omega, by go_num, by rw [HX.out, HRR.out]; exact HR4.out, HB4.out⟩
              | zero =>
                obtain rfl : i = ly := by omega
                have hlt : ¬ (i : Int) < (i : Int) := by omega
                have HR2 := Lib.hid (show Y.filter (nq n) = R by rw [← HRR.out, List.take_of_length_le (by rw [HLY.out]; exact Nat.le_refl _)])
                obtain ⟨z1, z2, z3, z4, z5⟩ := Z.out
                rw [HR2.out, HMM.out] at z1 z2 z3 z4 z5
                rw [HLY.out] at z1 z2
                rw [HLX.out] at z3 z4
                have hw2 : IntKind.i64.wrap ((i : Int) - (m : Int)) = (i : Int) - (m : Int) := by rw [IntKind.wrap_i64]; omega
                have hw3 : IntKind.i64.wrap ((lx : Int) - (m : Int)) = (lx : Int) - (m : Int) := by rw [IntKind.wrap_i64]; omega
                have g1 : decide ((1 : Int) < (i : Int) - (m : Int)) = false := decide_eq_false (by omega)
                have g3 : decide (lx < m) = false := decide_eq_false (by omega)
                have g4 : decide ((1 : Int) < (lx : Int) - (m : Int)) = false := decide_eq_false (by omega)
                have hcx := HXR.out.cap
                obtain ⟨pc, cc, ⟨rc1, rc2⟩, nc⟩ := cutI_head ax lx cx m (by have := HLX.out; omega) z3
                have hN1 := nc ((IRow.small2 HXR.out OX.out.2 OX.out.1).later ((bel_next HBY.out HB.out))) HLX.out
                have hN2 : Ns w10 (.slice a3 m d3) R := IRow.ns HR.out (fun x hx => by
                  rw [← HR2.out] at hx
                  have := OY.out.2 x (List.mem_filter.1 hx).1
                  omega) (by rw [HMM.out]; omega)
                have k5 := sameN _ _ _ _ true w10 hN1 hN2 (by unfold sameL; rw [z5]; simp)
                clear z1 z2 z3 z4 z5 hN1 hN2 hcx nc
                go_wp2_with (go_at_call 18; (with_reducible refine k5.mono ?_); rintro e w11 ⟨rfl, hB⟩; (have HB11 := Lib.hid (bel_next (bel_next (bel_next HB9.out HBX.out) (bel_next HBY.out HB.out)) hB)); clear hB k5)
                go_roundg g
                case measure => omega
                case rel => exact ⟨k + 1, by omega, by go_num, HB11.out⟩
        · have hks2 : ¬ (k : Int) < (S.length : Int) := by omega
          go_wp2
          go_ret
          exact ⟨rfl, bel_next HB8.out HB9.out⟩
end Go.Proofs.Ytmmkbedheeeecaa.ringMoves
