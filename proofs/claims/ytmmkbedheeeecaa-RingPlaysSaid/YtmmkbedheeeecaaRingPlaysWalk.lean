/- The walk of RingPlays. -/
import Derived.Test.YtmmkbedheeeecaaRingLaw2
import Derived.BigQuiet
import Derived.Deep.RegionHeld
set_option maxRecDepth 20000
set_option linter.unusedSimpArgs false
namespace Go.Proofs.Ytmmkbedheeeecaa.ringPlays
open Go.RowKit Go.Proofs.Ytmmkbedheeeecaa

/-- What is asked lies in a box. -/
structure KeyAt (W : World) (b : Nat) (s : ByteArray) (e m n p : Int) : Prop where
  c0 : W.cell? ⟨b, 0, none⟩ = some (.string s)
  c1 : W.cell? ⟨b, 1, none⟩ = some (.int .i64 e)
  c2 : W.cell? ⟨b, 2, none⟩ = some (.int .i64 m)
  c3 : W.cell? ⟨b, 3, none⟩ = some (.int .i64 n)
  c4 : W.cell? ⟨b, 4, none⟩ = some (.int .i64 p)
theorem KeyAt.later {W W' : World} {b : Nat} {s : ByteArray} {e m n p : Int} (h : KeyAt W b s e m n p) (k : Below W.heap.size W W') : KeyAt W' b s e m n p := by
  have hb := World.block_lt_of_cell? W _ h.c0
  exact ⟨(k.cell (p := ⟨b, 0, none⟩) hb).trans h.c0, (k.cell (p := ⟨b, 1, none⟩) hb).trans h.c1, (k.cell (p := ⟨b, 2, none⟩) hb).trans h.c2, (k.cell (p := ⟨b, 3, none⟩) hb).trans h.c3, (k.cell (p := ⟨b, 4, none⟩) hb).trans h.c4⟩
theorem key_new (w : World) (s : ByteArray) (e m n p : Int) (T : TypeId) : KeyAt (w.alloc (.cells #[.string s, .int .i64 e, .int .i64 m, .int .i64 n, .int .i64 p] T)) w.heap.size s e m n p := ⟨by simp, by simp, by simp, by simp, by simp⟩
theorem moved_yes {X Y : List Int} {k : Nat} {y : Int} (hk : k < Y.length) (hy : Y[k] = y) (h : inL X y = true) : (Y.take (k + 1)).filter (notIn X) = (Y.take k).filter (notIn X) := by
  rw [List.take_add_one, List.getElem?_eq_getElem hk, List.filter_append, hy]; simp [notIn, h]
theorem moved_no {X Y : List Int} {k : Nat} {y : Int} (hk : k < Y.length) (hy : Y[k] = y) (h : inL X y = false) : (Y.take (k + 1)).filter (notIn X) = (Y.take k).filter (notIn X) ++ [y] := by
  rw [List.take_add_one, List.getElem?_eq_getElem hk, List.filter_append, hy]; simp [notIn, h]
theorem moved_len (X Y : List Int) (k : Nat) : ((Y.take k).filter (notIn X)).length ≤ Y.length := by
  have h1 := List.length_filter_le (notIn X) (Y.take k)
  rw [List.length_take] at h1
  omega
theorem _root_.Go.Proofs.Ytmmkbedheeeecaa.IRow.small2 {w : World} {B : Nat} {v : Value} {l : List Int} (h : IRow w B v l) (hw : ∀ n ∈ l, 0 ≤ n ∧ n ≤ 15) (hl : l.length ≤ 128) : Ns w v l := h.ns (fun n hn => by have := hw n hn; omega) (by omega)
set_option maxHeartbeats 8000000 in
theorem walk (a0 : Option Addr) (len0 cap0 : Nat) (a1 : Option Addr) (len1 cap1 : Nat) (K : KeyI) (w : World) (h0 : ArgInts w a0 len0 cap0) (h1 : ArgInts w a1 len1 cap1) (hK : K.fits) :
    Calls Try.prog 4 #[.slice a0 len0 cap0, .slice a1 len1 cap1, K.v] w fun e w' => e = .returned (.bool true) ∧ Below w.heap.size w w' := by
  obtain ⟨s, ep, most, node, place⟩ := K
  unfold KeyI.v
  dsimp only
  have hsm : s.size ≤ maxLen := hK.s
  have hpl : -9223372036854775808 ≤ place ∧ place ≤ 9223372036854775807 := hK.p
  have ka := awake_is
  have kf := fun W k => few2_is h0 W k
  have kg := fun W k => few2_is h1 W k
  clear h0 h1 hK
  obtain ⟨t, ht⟩ : ∃ t, cutB s 100 = t := ⟨_, rfl⟩
  have htm : t.size ≤ maxLen := by rw [← ht]; exact cutB_size s 100 hsm
  have ks := fun W => short_is s t 100 100 W rfl (by omega) (Lib.hid ht)
  have kn := fun ep v l w h => new_is ep v l w h
  have kr := fun v l w h => rpoints_is v l w h
  have HB0 := Lib.hid ((Below.refl w.heap.size w).alloc (Nat.le_refl _) (.cells #[.string s, .int .i64 ep, .int .i64 most, .int .i64 node, .int .i64 place] 29))
  have HK0 := Lib.hid (key_new w s ep most node place 29)
  clear ht hsm
  go_enter Try.func4, Try.ntmps4
  go_upto_region 1 with fail
  obtain ⟨b0, hb0⟩ : ∃ b, w.heap.size = b := ⟨_, rfl⟩
  rw [hb0] at HK0
  rw [show Value.pointer (some ⟨w.heap.size, 0, none⟩) = Value.pointer (some ⟨b0, 0, none⟩) by rw [hb0]]
  clear hb0
  generalize w.alloc (.cells #[.string s, .int .i64 ep, .int .i64 most, .int .i64 node, .int .i64 place] 29) = w0 at *
  have ka0 := ka w0
  clear ka
  go_upto_region 4 with (first
    | (go_at_call 8; (with_reducible refine ka0.mono ?_); rintro e w1 ⟨rfl, hB⟩; (have kf2 := kf w1 (bel_next HB0.out hB)); (have kg2 := kg w1 (bel_next HB0.out hB)); (have HB1 := Lib.hid (bel_next HB0.out hB)); (have HK1 := Lib.hid (HK0.out.later hB)); clear hB kf kg)
    | (go_at_call 12; (with_reducible refine kf2.mono ?_); rintro e w2 ⟨A, aA, na, cA, rfl, hl, hA12, hA, rfl⟩; (have HA := Lib.hid hA); (have HAL := Lib.hid hl); clear hA hl kf2)
    | (go_at_call 12; (with_reducible refine kg2.mono ?_); rintro e w2 ⟨C, aC, nc, cC, rfl, hl, hC12, hC, rfl⟩; (have HC := Lib.hid hC); (have HCL := Lib.hid hl); clear hC hl kg2))
  have c0 := HK1.out.c0
  have c1 := HK1.out.c1
  have k1 := kn ep _ A w1 HA.out
  go_upto_region 6 with (first
    | (go_at_call 9; (with_reducible refine (ks _).mono ?_); rintro e w2 ⟨rfl, rfl⟩)
    | (go_at_call 13; (with_reducible refine k1.mono ?_); rintro e w2 ⟨b1, v1, v2, rfl, hR, hB⟩; (have HRA := Lib.hid hR); (have HB2 := Lib.hid (bel_next HB1.out hB)); (have HK2 := Lib.hid (HK1.out.later hB)); (have HA2 := Lib.hid (HA.out.later hB)); (have HC2 := Lib.hid (HC.out.later hB)); clear hR hB k1))
  clear c0 c1
  have k2 := kn 0 _ C w2 HC2.out
  go_upto_region 8 with (first
    | (go_at_call 13; (with_reducible refine k2.mono ?_); rintro e w3 ⟨b2, v3, v4, rfl, hR, hB⟩; (have HRB := Lib.hid hR); (have HRA3 := Lib.hid (HRA.out.later hB)); (have HB3 := Lib.hid (bel_next HB2.out hB)); (have HK3 := Lib.hid (HK2.out.later hB)); (have HA3 := Lib.hid (HA2.out.later hB)); (have HC3 := Lib.hid (HC2.out.later hB)); (have k3 := kr _ A w3 (HA2.out.later hB)); clear hR hB k2)
    | (go_at_call 14; (with_reducible refine k3.mono ?_); rintro e w4 ⟨vp, rfl, hr, hB⟩; (have HP := Lib.hid hr); (have HB4 := Lib.hid (bel_next HB3.out hB)); (have HK4 := Lib.hid (HK3.out.later hB)); (have HRA4 := Lib.hid (HRA3.out.later hB)); (have HRB4 := Lib.hid (HRB.out.later hB)); (have HA4 := Lib.hid (HA3.out.later hB)); (have HC4 := Lib.hid (HC3.out.later hB)); clear hr hB k3))
  clear HRA HRA3 HRB HB1 HB2 HB3 HK0 HK1 HK2 HK3 HA HA2 HA3 HC HC2 HC3 kn kr ks HB0 ka0
  have HRISA := Lib.hid (srt_rises (ptsL (nodesL A)))
  have HRISB := Lib.hid (srt_rises (ptsL (nodesL C)))
  have k6 := fun W h => rprefer_is (.slice aA na cA) A t most W h htm
  have k7 := fun W h => rprefer_is (.slice aC nc cC) C t most W h htm
  have HND := Lib.hid (fun W h => rnodes_is (.slice aA na cA) A W h)
  have HN3 := Lib.hid (nodesL_ok A)
  generalize nodesL A = NA at *
  generalize nodesL C = NC at *
  generalize srt (ptsL NA) = P at *
  generalize srt (ptsL NC) = PC at *
  obtain ⟨h, hh⟩ : ∃ h, hashI t = h := ⟨_, rfl⟩
  have HPR := Lib.hid (fun W k => prefer_is b1 v1 v2 ep NA P t most W k HRISA.out htm)
  have HMO := Lib.hid (fun W k1 k2 => moved_is b1 v1 v2 ep NA P b2 v3 v4 0 NC PC t most W k1 HRISA.out k2 HRISB.out htm)
  have HHO := Lib.hid (fun W k => holds_is b1 v1 v2 ep NA P t most node W k HRISA.out htm)
  rw [hh] at k6 k7 HPR HMO HHO
  obtain ⟨X, hX⟩ : ∃ X, preferL P h most = X := ⟨_, rfl⟩
  obtain ⟨Y, hY⟩ : ∃ Y, preferL PC h most = Y := ⟨_, rfl⟩
  have HXO := Lib.hid (preferL_ok HRA4.out.pok h most)
  have HYO := Lib.hid (preferL_ok HRB4.out.pok h most)
  rw [hX] at k6 HPR HMO HHO HXO
  rw [hY] at k7 HMO HYO
  have HK6 := Lib.hid k6
  have HK7 := Lib.hid k7
  clear k6 k7 hX hY hh
  have HINX := Lib.hid (fun v y W h => in_is v X y W h)
  have c4 := HK4.out.c4
  obtain ⟨ap, cp, rfl⟩ := HP.out.slice
  obtain ⟨np, hnp⟩ : ∃ n, P.length = n := ⟨_, rfl⟩
  have HNP := Lib.hid hnp
  have hnp128 : np ≤ 128 := by rw [← hnp]; exact HRA4.out.pok.1
  have HPN := Lib.hid HP.out.pn
  rw [hnp] at HPN ⊢
  clear HP hnp
  by_cases hin : 0 ≤ place ∧ place < (np : Int)
  · obtain ⟨i, rfl⟩ := Int.eq_ofNat_of_zero_le hin.1
    have hi : i < np := by omega
    have hi2 : (i : Int) < (np : Int) := by omega
    have hi0 : (0 : Int) ≤ (i : Int) := by omega
    have hiP : i < P.length := by rw [HNP.out]; exact hi
    have k5 := at_yes b1 v1 v2 ep NA P i w4 HRA4.out hiP
    obtain ⟨p, hp⟩ : ∃ p, P[i] = p := ⟨_, rfl⟩
    rw [hp] at k5
    obtain ⟨bp, off, rfl, -, hbp, hc⟩ := HPN.out.cell (by omega)
    obtain ⟨y0, y1⟩ := hc i hiP
    rw [hp] at y0 y1
    have Y0 := Lib.hid y0
    have Y1 := Lib.hid y1
    have hq1 : (p.a != p.a) = false := by simp
    have hq2 : (p.n != p.n) = false := by simp
    clear hc hp y0 y1 hin
    go_upto_region 9 with (go_at_call 15; (with_reducible refine k5.mono ?_); rintro e w5 ⟨rfl, hB⟩; (have HB5 := Lib.hid (bel_next HB4.out hB)); (have HK5 := Lib.hid (HK4.out.later hB)); (have HRA5 := Lib.hid (HRA4.out.later hB)); (have HRB5 := Lib.hid (HRB4.out.later hB)); (have HA5 := Lib.hid (HA4.out.later hB)); (have HC5 := Lib.hid (HC4.out.later hB)); clear HB4 HK4 HRA4 HRB4 HA4 HC4 c4; (have y0 := (hB.cell (p := ⟨bp, off + i * 2, none⟩) hbp).trans Y0.out); (have y1 := (hB.cell (p := ⟨bp, off + i * 2 + 1, none⟩) hbp).trans Y1.out); clear hB k5)
    have c4 := HK5.out.c4
    have c2 := HK5.out.c2
    go_upto_region 14 with fail
    clear y0 y1 c4 hq1 hq2 hi2 hi0
    have k6 := HK6.out w5 HA5.out
    go_upto_region 18 with (first
      | (go_at_call 16; (with_reducible refine k6.mono ?_); rintro e w6 ⟨vx, rfl, hr, hB⟩; (have HX := Lib.hid hr); (have HBX := Lib.hid hB); (have k7 := HK7.out w6 (HC5.out.later hB)); (have c2 := (HK5.out.later hB).c2); clear hr hB k6)
      | (go_at_call 16; (with_reducible refine k7.mono ?_); rintro e w7 ⟨vy, rfl, hr, hB⟩; (have HY := Lib.hid hr); (have HB7 := Lib.hid (bel_next HBX.out hB)); (have HXN := Lib.hid ((HX.out.small2 HXO.out.2 HXO.out.1).later hB)); clear hr hB k7 c2))
    obtain ⟨ax, cx, rfl⟩ := HX.out.slice
    obtain ⟨ay, cy, rfl⟩ := HY.out.slice
    obtain ⟨lx, hlx⟩ : ∃ lx, X.length = lx := ⟨_, rfl⟩
    obtain ⟨ly, hly⟩ : ∃ ly, Y.length = ly := ⟨_, rfl⟩
    have hl2 : ly ≤ 128 := by rw [← hly]; exact HYO.out.1
    have HLX := Lib.hid hlx
    have HLY := Lib.hid hly
    rw [hlx, hly]
    rw [hlx] at HXN
    have HYN := Lib.hid (HY.out.small2 HYO.out.2 HYO.out.1)
    rw [hly] at HYN
    have HRA7 := Lib.hid (HRA5.out.later HB7.out)
    have HRB7 := Lib.hid (HRB5.out.later HB7.out)
    have HK77 := Lib.hid (HK5.out.later HB7.out)
    have HA7 := Lib.hid (HA5.out.later HB7.out)
    have HBB7 := Lib.hid (bel_next HB5.out HB7.out)
    clear hlx hly HX HY HBX HRA5 HRB5 HK5 HA5 HB5 HB7
    go_loopg [18, 19] ly (fun g2 out j wr => ∃ k : Nat, k + g2 = ly ∧ j = .int .i64 (k : Int) ∧ IRow wr w7.heap.size out ((Y.take k).filter (notIn X)) ∧ Below w7.heap.size w7 wr)
    case atStart => exact ⟨0, by omega, rfl, IRow.nil _ _, Below.refl _ _⟩
    case round =>
      obtain ⟨k, hk, rfl, hR, hB⟩ := hrel
      obtain ⟨w10, hw10⟩ : ∃ w10, w10 = wr := ⟨_, rfl⟩
      subst hw10
      obtain ⟨a3, d3, e3⟩ := hR.slice
      obtain ⟨R, hRR⟩ : ∃ R, (Y.take k).filter (notIn X) = R := ⟨_, rfl⟩
      have hRl := moved_len X Y k
      rw [hRR] at hR e3 hRl
      obtain ⟨m, hm⟩ : ∃ m, R.length = m := ⟨_, rfl⟩
      rw [hm] at e3
      have HRR := Lib.hid hRR
      have HMM := Lib.hid hm
      have hm128 : m ≤ 128 := by rw [← hm]; have := HLY.out; omega
      subst e3
      have HR := Lib.hid hR
      have HB := Lib.hid hB
      clear hR hB hRR hRl hm
      cases gk with
      | succ g2 =>
        have hlt : (k : Int) < (ly : Int) := by omega
        have hkY : k < Y.length := by rw [HLY.out]; omega
        obtain ⟨-, b, off, rfl, hc⟩ := (HYN.out.later HB.out).cell (by omega)
        have c1 := hc k hkY
        obtain ⟨y, hy⟩ : ∃ y, Y[k] = y := ⟨_, rfl⟩
        rw [hy] at c1
        have HYY := Lib.hid hy
        have ki := HINX.out (.slice ax lx cx) y w10 (HXN.out.later HB.out)
        obtain ⟨z, hz⟩ : ∃ z, inL X y = z := ⟨_, rfl⟩
        rw [hz] at ki
        have HZ := Lib.hid hz
        clear hc hy hz
        cases z with
        | true =>
          have HXS := Lib.hid ((moved_yes hkY HYY.out HZ.out).trans HRR.out)
          go_wp2_with (go_at_call 17; (with_reducible refine ki.mono ?_); rintro e w2 ⟨rfl, rfl⟩)
          go_roundg g2
          case measure => omega
          case rel => exact ⟨k + 1, by omega, by go_num, by rw [HXS.out]; exact HR.out, HB.out⟩
        | false =>
          have HXS := Lib.hid (moved_no hkY HYY.out HZ.out)
          have hr := HR.out
          have hB1 := HB.out.size
          go_wp2_with (first | (go_at_call 17; (with_reducible refine ki.mono ?_); rintro e w2 ⟨rfl, rfl⟩) | (at_builtin; refine wpList_irow rfl _ _ rfl w7.heap.size (.slice a3 m d3) R rfl y rfl hr hB1 (by rw [HMM.out]; omega) ?_))
          intro v8 w8 hr8 hb8 G8
          have HR8 := Lib.hid hr8
          have HB8 := Lib.hid (HB.out.trans hb8)
          clear hr8 hb8 G8 hr hB1
          go_wp2
          go_roundg g2
          case measure => omega
          case rel => exact ⟨k + 1, by omega, by go_num, by rw [HXS.out, HRR.out]; exact HR8.out, HB8.out⟩
      | zero =>
        obtain rfl : k = ly := by omega
        have hlt : ¬ (k : Int) < (k : Int) := by omega
        have HMV := Lib.hid (show Y.filter (notIn X) = R by rw [← HRR.out, List.take_of_length_le (by rw [HLY.out]; exact Nat.le_refl _)])
        have n1 := nodes_is b1 v1 v2 ep NA P w10 (HRA7.out.later HB.out)
        have hRn : ∀ n ∈ R, 0 ≤ n ∧ n ≤ 15 := fun n hn => by rw [← HMV.out] at hn; exact HYO.out.2 n (List.mem_filter.1 hn).1
        have HRN := Lib.hid (HR.out.small2 hRn (by rw [HMM.out]; exact hm128))
        have HRN3 := Lib.hid hRn
        have HWB := Lib.hid (fun W (k : Below w10.heap.size w10 W) => bel_next HB.out k)
        clear hRn
        go_upto_region 26 with (first
          | (go_at_call 19; (with_reducible refine n1.mono ?_); rintro e u1 ⟨x1, rfl, hr, hB⟩; (have HX1 := Lib.hid (IRow.small hr HN3.out.2 HN3.out.1)); (have HU1 := Lib.hid hB); (have n2 := HND.out u1 (HA7.out.later (HWB.out _ hB))); clear hr hB n1)
          | (go_at_call 20; (with_reducible refine n2.mono ?_); rintro e u2 ⟨x2, rfl, hr, hB⟩; (have s1 := sameN x1 x2 NA NA true u2 (HX1.out.later hB) (IRow.small hr HN3.out.2 HN3.out.1) (by unfold sameL; simp)); (have HU2 := Lib.hid (bel_next HU1.out hB)); clear hr hB n2 HX1 HU1)
          | (go_at_call 18; (with_reducible refine s1.mono ?_); rintro e u3 ⟨rfl, hB⟩; (have HU3 := Lib.hid (bel_next HU2.out hB)); (have c2 := (HK77.out.later (HWB.out _ HU3.out)).c2); (have p1 := HPR.out u3 (HRA7.out.later (HWB.out _ HU3.out))); clear hB s1 HU2)
          | (go_at_call 21; (with_reducible refine p1.mono ?_); rintro e u4 ⟨x4, rfl, hr, hB⟩; (have HU4 := Lib.hid (bel_next HU3.out hB)); (have s2 := sameN x4 (.slice ax lx cx) X X true u4 (hr.small2 HXO.out.2 HXO.out.1) (HXN.out.later (HWB.out _ HU4.out)) (by unfold sameL; simp)); clear hr hB p1 HU3 c2)
          | (go_at_call 18; (with_reducible refine s2.mono ?_); rintro e u5 ⟨rfl, hB⟩; (have HU5 := Lib.hid (bel_next HU4.out hB)); (have c2 := (HK77.out.later (HWB.out _ HU5.out)).c2); (have m1 := HMO.out u5 (HRA7.out.later (HWB.out _ HU5.out)) (HRB7.out.later (HWB.out _ HU5.out))); (rw [HMV.out] at m1); clear hB s2 HU4)
          | (go_at_call 22; (with_reducible refine m1.mono ?_); rintro e u6 ⟨x6, rfl, hr, hB⟩; (have HU6 := Lib.hid (bel_next HU5.out hB)); (have s3 := sameN x6 (.slice a3 m d3) R R true u6 (hr.small2 HRN3.out (by rw [HMM.out]; exact hm128)) (by have := HRN.out.later HU6.out; exact this) (by unfold sameL; simp)); clear hr hB m1 HU5 c2)
          | (go_at_call 18; (with_reducible refine s3.mono ?_); rintro e u7 ⟨rfl, hB⟩; (have HU7 := Lib.hid (bel_next HU6.out hB)); clear hB s3 HU6))
        have HKU := Lib.hid (HK77.out.later (HWB.out _ HU7.out))
        have HRAU := Lib.hid (HRA7.out.later (HWB.out _ HU7.out))
        have HXU := Lib.hid (HXN.out.later (HWB.out _ HU7.out))
        have HBU := Lib.hid (bel_next HBB7.out (HWB.out _ HU7.out))
        obtain ⟨z, hz⟩ : ∃ z, inL X node = z := ⟨_, rfl⟩
        have HZ := Lib.hid hz
        clear hz
        refine wp_region_held_drew (S := fun W => KeyAt W b0 s ep most node (i : Int)) (by kernel_rfl) (KeyAt.later HKU.out (Below.refl _ _).drew) (fun hHeld => ?_)
        have HRAD := Lib.hid (HRAU.out.later (Below.refl _ u7).drew)
        have HXD := Lib.hid (HXU.out.later (Below.refl _ u7).drew)
        have HBD := Lib.hid (bel_next HBU.out (Below.refl _ u7).drew)
        clear HRAU HXU HBU
        generalize u7.drew = wd at *
        refine wpAnyH_take (i := 0) (oi := ?ra1o) (v := ?ra1v) ?ra1h (by kernel_rfl) (by kernel_rfl) (by kernel_rfl) ?ra1q ?ra1y hHeld ?ra1r
        case ra1h => (simp only [List.getElem?_toArray, List.getElem?_cons_zero]; rfl)
        case ra1q => exact fun _ _ _ h => h
        case ra1y => (refine Or.inl ⟨by first | kernel_rfl | rfl, ?_⟩; intro w hSw; (try dsimp only at hSw); obtain ⟨q0, q1, q2, q3, q4⟩ := hSw; go_simp <;> (try with_reducible rfl))
        try simp only [Act.put, List.setIfInBounds_toArray, List.set_cons_zero, List.set_cons_succ]
        refine wpAnyH_take (i := 1) (oi := ?ra2o) (v := ?ra2v) ?ra2h (by kernel_rfl) (by kernel_rfl) (by kernel_rfl) ?ra2q ?ra2y hHeld ?ra2r
        case ra2h => (simp only [List.getElem?_toArray, List.getElem?_cons_succ, List.getElem?_cons_zero]; rfl)
        case ra2q => exact fun _ _ _ h => h
        case ra2y => (refine Or.inl ⟨by first | kernel_rfl | rfl, ?_⟩; intro w hSw; (try dsimp only at hSw); obtain ⟨q0, q1, q2, q3, q4⟩ := hSw; go_simp <;> (try with_reducible rfl))
        try simp only [Act.put, List.setIfInBounds_toArray, List.set_cons_zero, List.set_cons_succ]
        refine wpAnyH_take (i := 2) (oi := ?ra3o) (v := ?ra3v) ?ra3h (by kernel_rfl) (by kernel_rfl) (by kernel_rfl) ?ra3q ?ra3y hHeld ?ra3r
        case ra3h => (simp only [List.getElem?_toArray, List.getElem?_cons_succ, List.getElem?_cons_zero]; rfl)
        case ra3q => exact fun _ _ _ h => h
        case ra3y => (refine Or.inl ⟨by first | kernel_rfl | rfl, ?_⟩; intro w hSw; (try dsimp only at hSw); obtain ⟨q0, q1, q2, q3, q4⟩ := hSw; go_simp <;> (try with_reducible rfl))
        try simp only [Act.put, List.setIfInBounds_toArray, List.set_cons_zero, List.set_cons_succ]
        refine wpAnyH_take (i := 3) (oi := ?ra4o) (v := ?ra4v) ?ra4h (by kernel_rfl) (by kernel_rfl) (by kernel_rfl) ?ra4q ?ra4y hHeld ?ra4r
        case ra4h => (simp only [List.getElem?_toArray, List.getElem?_cons_succ, List.getElem?_cons_zero]; rfl)
        case ra4q => exact fun _ _ _ h => h
        case ra4y => (refine Or.inl ⟨by first | kernel_rfl | rfl, ?_⟩; intro w hSw; (try dsimp only at hSw); obtain ⟨q0, q1, q2, q3, q4⟩ := hSw; go_simp <;> (try with_reducible rfl))
        try simp only [Act.put, List.setIfInBounds_toArray, List.set_cons_zero, List.set_cons_succ]
        refine wpAnyH_take (i := 4) (oi := ?ra5o) (v := ?ra5v) ?ra5h (by kernel_rfl) (by kernel_rfl) (by kernel_rfl) ?ra5q ?ra5y hHeld ?ra5r
        case ra5h => (simp only [List.getElem?_toArray, List.getElem?_cons_succ, List.getElem?_cons_zero]; rfl)
        case ra5q => exact fun _ _ _ h => h
        case ra5y => (refine Or.inl ⟨by first | kernel_rfl | rfl, ?_⟩; intro w hSw; (try dsimp only at hSw); obtain ⟨q0, q1, q2, q3, q4⟩ := hSw; go_simp <;> (try with_reducible rfl))
        try simp only [Act.put, List.setIfInBounds_toArray, List.set_cons_zero, List.set_cons_succ]
        refine wpAnyH_take (i := 5) (oi := ?ra6o) (v := ?ra6v) ?ra6h (by kernel_rfl) (by kernel_rfl) (by kernel_rfl) ?ra6q ?ra6y hHeld ?ra6r
        case ra6h => (simp only [List.getElem?_toArray, List.getElem?_cons_succ, List.getElem?_cons_zero]; rfl)
        case ra6q => exact fun _ _ _ h => h
        case ra6y => (refine Or.inl ⟨by first | kernel_rfl | rfl, ?_⟩; intro w hSw; (try dsimp only at hSw); obtain ⟨q0, q1, q2, q3, q4⟩ := hSw; go_simp <;> (try with_reducible rfl))
        try simp only [Act.put, List.setIfInBounds_toArray, List.set_cons_zero, List.set_cons_succ]
        refine wpAnyH_take (i := 6) (oi := ?ra7o) (v := ?ra7v) ?ra7h (by kernel_rfl) (by kernel_rfl) (by kernel_rfl) ?ra7q ?ra7y hHeld ?ra7r
        case ra7h => (simp only [List.getElem?_toArray, List.getElem?_cons_succ, List.getElem?_cons_zero]; rfl)
        case ra7q => exact fun _ _ _ h => h
        case ra7y => (refine Or.inl ⟨by first | kernel_rfl | rfl, ?_⟩; intro w hSw; (try dsimp only at hSw); obtain ⟨q0, q1, q2, q3, q4⟩ := hSw; go_simp <;> (try with_reducible rfl))
        try simp only [Act.put, List.setIfInBounds_toArray, List.set_cons_zero, List.set_cons_succ]
        refine wpAnyH_take (i := 7) (oi := ?ra8o) (v := ?ra8v) ?ra8h (by kernel_rfl) (by kernel_rfl) (by kernel_rfl) ?ra8q ?ra8y hHeld ?ra8r
        case ra8h => (simp only [List.getElem?_toArray, List.getElem?_cons_succ, List.getElem?_cons_zero]; rfl)
        case ra8q => exact fun _ _ _ h => h
        case ra8y => (refine Or.inl ⟨by first | kernel_rfl | rfl, ?_⟩; intro w hSw; (try dsimp only at hSw); obtain ⟨q0, q1, q2, q3, q4⟩ := hSw; go_simp <;> (try with_reducible rfl))
        try simp only [Act.put, List.setIfInBounds_toArray, List.set_cons_zero, List.set_cons_succ]
        refine wpAnyH_take (i := 8) (oi := ?ra9o) (v := ?ra9v) ?ra9h (by kernel_rfl) (by kernel_rfl) (by kernel_rfl) ?ra9q ?ra9y hHeld ?ra9r
        case ra9h => (simp only [List.getElem?_toArray, List.getElem?_cons_succ, List.getElem?_cons_zero]; rfl)
        case ra9q => exact fun _ _ _ h => h
        case ra9y => (refine Or.inl ⟨by first | kernel_rfl | rfl, ?_⟩; intro w hSw; (try dsimp only at hSw); obtain ⟨q0, q1, q2, q3, q4⟩ := hSw; go_simp <;> (try with_reducible rfl))
        try simp only [Act.put, List.setIfInBounds_toArray, List.set_cons_zero, List.set_cons_succ]
        refine wpAnyH_take (i := 9) (oi := ?ra10o) (v := ?ra10v) ?ra10h (by kernel_rfl) (by kernel_rfl) (by kernel_rfl) ?ra10q ?ra10y hHeld ?ra10r
        case ra10h => (simp only [List.getElem?_toArray, List.getElem?_cons_succ, List.getElem?_cons_zero]; rfl)
        case ra10q => exact fun _ _ _ h => h
        case ra10y => (refine Or.inl ⟨by first | kernel_rfl | rfl, ?_⟩; intro w hSw; (try dsimp only at hSw); obtain ⟨q0, q1, q2, q3, q4⟩ := hSw; go_simp <;> (try with_reducible rfl))
        try simp only [Act.put, List.setIfInBounds_toArray, List.set_cons_zero, List.set_cons_succ]
        refine wpAnyH_take (i := 10) (oi := ?ra11o) (v := ?ra11v) ?ra11h (by kernel_rfl) (by kernel_rfl) (by kernel_rfl) ?ra11q ?ra11y hHeld ?ra11r
        case ra11h => (simp only [List.getElem?_toArray, List.getElem?_cons_succ, List.getElem?_cons_zero]; rfl)
        case ra11q => exact fun _ _ _ h => h
        case ra11y => (refine Or.inl ⟨by first | kernel_rfl | rfl, ?_⟩; intro w hSw; (try dsimp only at hSw); obtain ⟨q0, q1, q2, q3, q4⟩ := hSw; go_simp <;> (try with_reducible rfl))
        try simp only [Act.put, List.setIfInBounds_toArray, List.set_cons_zero, List.set_cons_succ]
        refine wpAnyH_take (i := 11) (oi := ?ra12o) (v := ?ra12v) ?ra12h (by kernel_rfl) (by kernel_rfl) (by kernel_rfl) ?ra12q ?ra12y hHeld ?ra12r
        case ra12h => (simp only [List.getElem?_toArray, List.getElem?_cons_succ, List.getElem?_cons_zero]; rfl)
        case ra12q => exact fun _ _ _ h => h
        case ra12y => (refine Or.inl ⟨by first | kernel_rfl | rfl, ?_⟩; intro w hSw; (try dsimp only at hSw); obtain ⟨q0, q1, q2, q3, q4⟩ := hSw; go_simp <;> (try with_reducible rfl))
        try simp only [Act.put, List.setIfInBounds_toArray, List.set_cons_zero, List.set_cons_succ]
        refine wpAnyH_take (i := 13) (oi := ?ra13o) (v := ?ra13v) ?ra13h (by kernel_rfl) (by kernel_rfl) (by kernel_rfl) ?ra13q ?ra13y hHeld ?ra13r
        case ra13h => (simp only [List.getElem?_toArray, List.getElem?_cons_succ, List.getElem?_cons_zero]; rfl)
        case ra13q => exact fun _ _ _ h => h
        case ra13y => (refine Or.inl ⟨by first | kernel_rfl | rfl, ?_⟩; intro w hSw; (try dsimp only at hSw); obtain ⟨q0, q1, q2, q3, q4⟩ := hSw; go_simp <;> (try with_reducible rfl))
        try simp only [Act.put, List.setIfInBounds_toArray, List.set_cons_zero, List.set_cons_succ]
        refine wpAnyH_take (i := 14) (oi := ?ra14o) (v := ?ra14v) ?ra14h (by kernel_rfl) (by kernel_rfl) (by kernel_rfl) ?ra14q ?ra14y hHeld ?ra14r
        case ra14h => (simp only [List.getElem?_toArray, List.getElem?_cons_succ, List.getElem?_cons_zero]; rfl)
        case ra14q => exact fun _ _ _ h => h
        case ra14y => (refine Or.inl ⟨by first | kernel_rfl | rfl, ?_⟩; intro w hSw; (try dsimp only at hSw); obtain ⟨q0, q1, q2, q3, q4⟩ := hSw; go_simp <;> (try with_reducible rfl))
        try simp only [Act.put, List.setIfInBounds_toArray, List.set_cons_zero, List.set_cons_succ]
        refine wpAnyH_ready (rs := [12]) (by kernel_rfl) (by simp) ?_
        refine (AllReadyH.cons rfl (fun K hK => ?_) AllReadyH.nil)
        go_simp
        ((with_reducible refine (epoch_is b1 v1 v2 ep NA P _ HRAD.out).mono ?_); rintro e w2 ⟨rfl, rfl⟩)
        refine hK.out _ _ (hHeld) (fun hHeld => ?_)
        clear hK K
        try simp only [Act.put, List.setIfInBounds_toArray, List.set_cons_zero, List.set_cons_succ]
        refine wpAnyH_take (i := 15) (oi := ?ra15o) (v := ?ra15v) ?ra15h (by kernel_rfl) (by kernel_rfl) (by kernel_rfl) ?ra15q ?ra15y hHeld ?ra15r
        case ra15h => (simp only [List.getElem?_toArray, List.getElem?_cons_succ, List.getElem?_cons_zero]; rfl)
        case ra15q => exact fun _ _ _ h => h
        case ra15y => (refine Or.inl ⟨by first | kernel_rfl | rfl, ?_⟩; intro w hSw; (try dsimp only at hSw); obtain ⟨q0, q1, q2, q3, q4⟩ := hSw; go_simp <;> (try with_reducible rfl))
        try simp only [Act.put, List.setIfInBounds_toArray, List.set_cons_zero, List.set_cons_succ]
        refine wpAnyH_take (i := 16) (oi := ?ra16o) (v := ?ra16v) ?ra16h (by kernel_rfl) (by kernel_rfl) (by kernel_rfl) ?ra16q ?ra16y hHeld ?ra16r
        case ra16h => (simp only [List.getElem?_toArray, List.getElem?_cons_succ, List.getElem?_cons_zero]; rfl)
        case ra16q => exact fun _ _ _ h => h
        case ra16y => (refine Or.inl ⟨by first | kernel_rfl | rfl, ?_⟩; intro w hSw; (try dsimp only at hSw); obtain ⟨q0, q1, q2, q3, q4⟩ := hSw; go_simp <;> (try with_reducible rfl))
        try simp only [Act.put, List.setIfInBounds_toArray, List.set_cons_zero, List.set_cons_succ]
        refine wpAnyH_take (i := 17) (oi := ?ra17o) (v := ?ra17v) ?ra17h (by kernel_rfl) (by kernel_rfl) (by kernel_rfl) ?ra17q ?ra17y hHeld ?ra17r
        case ra17h => (simp only [List.getElem?_toArray, List.getElem?_cons_succ, List.getElem?_cons_zero]; rfl)
        case ra17q => exact fun _ _ _ h => h
        case ra17y => (refine Or.inl ⟨by first | kernel_rfl | rfl, ?_⟩; intro w hSw; (try dsimp only at hSw); obtain ⟨q0, q1, q2, q3, q4⟩ := hSw; go_simp <;> (try with_reducible rfl))
        try simp only [Act.put, List.setIfInBounds_toArray, List.set_cons_zero, List.set_cons_succ]
        refine wpAnyH_take (i := 18) (oi := ?ra18o) (v := ?ra18v) ?ra18h (by kernel_rfl) (by kernel_rfl) (by kernel_rfl) ?ra18q ?ra18y hHeld ?ra18r
        case ra18h => (simp only [List.getElem?_toArray, List.getElem?_cons_succ, List.getElem?_cons_zero]; rfl)
        case ra18q => exact fun _ _ _ h => h
        case ra18y => (refine Or.inl ⟨by first | kernel_rfl | rfl, ?_⟩; intro w hSw; (try dsimp only at hSw); obtain ⟨q0, q1, q2, q3, q4⟩ := hSw; go_simp <;> (try with_reducible rfl))
        try simp only [Act.put, List.setIfInBounds_toArray, List.set_cons_zero, List.set_cons_succ]
        refine wpAnyH_take (i := 19) (oi := ?ra19o) (v := ?ra19v) ?ra19h (by kernel_rfl) (by kernel_rfl) (by kernel_rfl) ?ra19q ?ra19y hHeld ?ra19r
        case ra19h => (simp only [List.getElem?_toArray, List.getElem?_cons_succ, List.getElem?_cons_zero]; rfl)
        case ra19q => exact fun _ _ _ h => h
        case ra19y => (refine Or.inl ⟨by first | kernel_rfl | rfl, ?_⟩; intro w hSw; (try dsimp only at hSw); obtain ⟨q0, q1, q2, q3, q4⟩ := hSw; go_simp <;> (try with_reducible rfl))
        try simp only [Act.put, List.setIfInBounds_toArray, List.set_cons_zero, List.set_cons_succ]
        refine wpAnyH_take (i := 20) (oi := ?ra20o) (v := ?ra20v) ?ra20h (by kernel_rfl) (by kernel_rfl) (by kernel_rfl) ?ra20q ?ra20y hHeld ?ra20r
        case ra20h => (simp only [List.getElem?_toArray, List.getElem?_cons_succ, List.getElem?_cons_zero]; rfl)
        case ra20q => exact fun _ _ _ h => h
        case ra20y => (refine Or.inl ⟨by first | kernel_rfl | rfl, ?_⟩; intro w hSw; (try dsimp only at hSw); obtain ⟨q0, q1, q2, q3, q4⟩ := hSw; go_simp <;> (try with_reducible rfl))
        try simp only [Act.put, List.setIfInBounds_toArray, List.set_cons_zero, List.set_cons_succ]
        refine wpAnyH_take (i := 21) (oi := ?ra21o) (v := ?ra21v) ?ra21h (by kernel_rfl) (by kernel_rfl) (by kernel_rfl) ?ra21q ?ra21y hHeld ?ra21r
        case ra21h => (simp only [List.getElem?_toArray, List.getElem?_cons_succ, List.getElem?_cons_zero]; rfl)
        case ra21q => exact fun _ _ _ h => h
        case ra21y => (refine Or.inl ⟨by first | kernel_rfl | rfl, ?_⟩; intro w hSw; (try dsimp only at hSw); obtain ⟨q0, q1, q2, q3, q4⟩ := hSw; go_simp <;> (try with_reducible rfl))
        try simp only [Act.put, List.setIfInBounds_toArray, List.set_cons_zero, List.set_cons_succ]
        refine wpAnyH_take (i := 22) (oi := ?ra22o) (v := ?ra22v) ?ra22h (by kernel_rfl) (by kernel_rfl) (by kernel_rfl) ?ra22q ?ra22y hHeld ?ra22r
        case ra22h => (simp only [List.getElem?_toArray, List.getElem?_cons_succ, List.getElem?_cons_zero]; rfl)
        case ra22q => exact fun _ _ _ h => h
        case ra22y => (refine Or.inl ⟨by first | kernel_rfl | rfl, ?_⟩; intro w hSw; (try dsimp only at hSw); obtain ⟨q0, q1, q2, q3, q4⟩ := hSw; go_simp <;> (try with_reducible rfl))
        try simp only [Act.put, List.setIfInBounds_toArray, List.set_cons_zero, List.set_cons_succ]
        refine wpAnyH_take (i := 23) (oi := ?ra23o) (v := ?ra23v) ?ra23h (by kernel_rfl) (by kernel_rfl) (by kernel_rfl) ?ra23q ?ra23y hHeld ?ra23r
        case ra23h => (simp only [List.getElem?_toArray, List.getElem?_cons_succ, List.getElem?_cons_zero]; rfl)
        case ra23q => exact fun _ _ _ h => h
        case ra23y => (refine Or.inl ⟨by first | kernel_rfl | rfl, ?_⟩; intro w hSw; (try dsimp only at hSw); obtain ⟨q0, q1, q2, q3, q4⟩ := hSw; go_simp <;> (try with_reducible rfl))
        try simp only [Act.put, List.setIfInBounds_toArray, List.set_cons_zero, List.set_cons_succ]
        refine wpAnyH_take (i := 25) (oi := ?ra24o) (v := ?ra24v) ?ra24h (by kernel_rfl) (by kernel_rfl) (by kernel_rfl) ?ra24q ?ra24y hHeld ?ra24r
        case ra24h => (simp only [List.getElem?_toArray, List.getElem?_cons_succ, List.getElem?_cons_zero]; rfl)
        case ra24q => exact fun _ _ _ h => h
        case ra24y => (refine Or.inl ⟨by first | kernel_rfl | rfl, ?_⟩; intro w hSw; (try dsimp only at hSw); obtain ⟨q0, q1, q2, q3, q4⟩ := hSw; go_simp <;> (try with_reducible rfl))
        try simp only [Act.put, List.setIfInBounds_toArray, List.set_cons_zero, List.set_cons_succ]
        refine wpAnyH_take (i := 26) (oi := ?ra25o) (v := ?ra25v) ?ra25h (by kernel_rfl) (by kernel_rfl) (by kernel_rfl) ?ra25q ?ra25y hHeld ?ra25r
        case ra25h => (simp only [List.getElem?_toArray, List.getElem?_cons_succ, List.getElem?_cons_zero]; rfl)
        case ra25q => exact fun _ _ _ h => h
        case ra25y => (refine Or.inl ⟨by first | kernel_rfl | rfl, ?_⟩; intro w hSw; (try dsimp only at hSw); obtain ⟨q0, q1, q2, q3, q4⟩ := hSw; go_simp <;> (try with_reducible rfl))
        try simp only [Act.put, List.setIfInBounds_toArray, List.set_cons_zero, List.set_cons_succ]
        refine wpAnyH_take (i := 27) (oi := ?ra26o) (v := ?ra26v) ?ra26h (by kernel_rfl) (by kernel_rfl) (by kernel_rfl) ?ra26q ?ra26y hHeld ?ra26r
        case ra26h => (simp only [List.getElem?_toArray, List.getElem?_cons_succ, List.getElem?_cons_zero]; rfl)
        case ra26q => exact fun _ _ _ h => h
        case ra26y => (refine Or.inl ⟨by first | kernel_rfl | rfl, ?_⟩; intro w hSw; (try dsimp only at hSw); obtain ⟨q0, q1, q2, q3, q4⟩ := hSw; go_simp <;> (try with_reducible rfl))
        try simp only [Act.put, List.setIfInBounds_toArray, List.set_cons_zero, List.set_cons_succ]
        refine wpAnyH_ready (rs := [24]) (by kernel_rfl) (by simp) ?_
        refine (AllReadyH.cons rfl (fun K hK => ?_) AllReadyH.nil)
        go_simp
        ((with_reducible refine (HHO.out _ HRAD.out).mono ?_); rintro e w12 ⟨rfl, hB⟩; (rw [HZ.out]); (have HKH := Lib.hid (hHeld.later hB)); (have HB12 := Lib.hid (bel_next HBD.out hB)); (have HX12 := Lib.hid (HXD.out.later hB)); clear hB)
        refine hK.out _ _ (HKH.out) (fun hHeld => ?_)
        clear hK K
        try simp only [Act.put, List.setIfInBounds_toArray, List.set_cons_zero, List.set_cons_succ]
        refine wpAnyH_ready (rs := [28]) (by kernel_rfl) (by simp) ?_
        refine (AllReadyH.cons rfl (fun K hK => ?_) AllReadyH.nil)
        go_simp
        ((with_reducible refine (HINX.out _ node _ HX12.out).mono ?_); rintro e w13 ⟨rfl, rfl⟩; (rw [HZ.out]))
        refine hK.out _ _ (hHeld) (fun hHeld => ?_)
        clear hK K
        try simp only [Act.put, List.setIfInBounds_toArray, List.set_cons_zero, List.set_cons_succ]
        refine wpAnyH_take (i := 29) (oi := ?ra27o) (v := ?ra27v) ?ra27h (by kernel_rfl) (by kernel_rfl) (by kernel_rfl) ?ra27q ?ra27y hHeld ?ra27r
        case ra27h => (simp only [List.getElem?_toArray, List.getElem?_cons_succ, List.getElem?_cons_zero]; rfl)
        case ra27q => exact fun _ _ _ h => h
        case ra27y => (refine Or.inl ⟨by first | kernel_rfl | rfl, ?_⟩; intro w hSw; (try dsimp only at hSw); obtain ⟨q0, q1, q2, q3, q4⟩ := hSw; go_simp <;> (try with_reducible rfl))
        try simp only [Act.put, List.setIfInBounds_toArray, List.set_cons_zero, List.set_cons_succ]
        refine wpAnyH_take (i := 30) (oi := ?ra28o) (v := ?ra28v) ?ra28h (by kernel_rfl) (by kernel_rfl) (by kernel_rfl) ?ra28q ?ra28y hHeld ?ra28r
        case ra28h => (simp only [List.getElem?_toArray, List.getElem?_cons_succ, List.getElem?_cons_zero]; rfl)
        case ra28q => exact fun _ _ _ h => h
        case ra28y => (refine Or.inl ⟨by first | kernel_rfl | rfl, ?_⟩; intro w hSw; (try dsimp only at hSw); obtain ⟨q0, q1, q2, q3, q4⟩ := hSw; go_simp <;> (try with_reducible rfl))
        try simp only [Act.put, List.setIfInBounds_toArray, List.set_cons_zero, List.set_cons_succ]
        refine wpAnyH_take (i := 31) (oi := ?ra29o) (v := ?ra29v) ?ra29h (by kernel_rfl) (by kernel_rfl) (by kernel_rfl) ?ra29q ?ra29y hHeld ?ra29r
        case ra29h => (simp only [List.getElem?_toArray, List.getElem?_cons_succ, List.getElem?_cons_zero]; rfl)
        case ra29q => exact fun _ _ _ h => h
        case ra29y => (refine Or.inl ⟨by first | kernel_rfl | rfl, ?_⟩; intro w hSw; (try dsimp only at hSw); obtain ⟨q0, q1, q2, q3, q4⟩ := hSw; go_simp <;> (try with_reducible rfl))
        try simp only [Act.put, List.setIfInBounds_toArray, List.set_cons_zero, List.set_cons_succ]
        refine wpAnyH_done (by kernel_rfl) ?_ _
        go_wp2
        go_ret
        exact ⟨by cases z <;> simp, HB12.out⟩
  · have k5 := at_no b1 v1 v2 ep NA P place w4 HRA4.out (by rw [HNP.out]; omega)
    go_upto_region 9 with (go_at_call 15; (with_reducible refine k5.mono ?_); rintro e w5 ⟨rfl, hB⟩; (have HB5 := Lib.hid (bel_next HB4.out hB)); (have HK5 := Lib.hid (HK4.out.later hB)); (have HRA5 := Lib.hid (HRA4.out.later hB)); (have HRB5 := Lib.hid (HRB4.out.later hB)); (have HA5 := Lib.hid (HA4.out.later hB)); (have HC5 := Lib.hid (HC4.out.later hB)); clear HB4 HK4 HRA4 HRB4 HA4 HC4 c4; clear hB k5)
    have c4 := HK5.out.c4
    have c2 := HK5.out.c2
    by_cases hp0 : 0 ≤ place
    · have hd : ¬ place < (np : Int) := by omega
      clear hin
      go_upto_region 14 with fail
      clear c4
      have k6 := HK6.out w5 HA5.out
      go_upto_region 18 with (first
        | (go_at_call 16; (with_reducible refine k6.mono ?_); rintro e w6 ⟨vx, rfl, hr, hB⟩; (have HX := Lib.hid hr); (have HBX := Lib.hid hB); (have k7 := HK7.out w6 (HC5.out.later hB)); (have c2 := (HK5.out.later hB).c2); clear hr hB k6)
        | (go_at_call 16; (with_reducible refine k7.mono ?_); rintro e w7 ⟨vy, rfl, hr, hB⟩; (have HY := Lib.hid hr); (have HB7 := Lib.hid (bel_next HBX.out hB)); (have HXN := Lib.hid ((HX.out.small2 HXO.out.2 HXO.out.1).later hB)); clear hr hB k7 c2))
      obtain ⟨ax, cx, rfl⟩ := HX.out.slice
      obtain ⟨ay, cy, rfl⟩ := HY.out.slice
      obtain ⟨lx, hlx⟩ : ∃ lx, X.length = lx := ⟨_, rfl⟩
      obtain ⟨ly, hly⟩ : ∃ ly, Y.length = ly := ⟨_, rfl⟩
      have hl2 : ly ≤ 128 := by rw [← hly]; exact HYO.out.1
      have HLX := Lib.hid hlx
      have HLY := Lib.hid hly
      rw [hlx, hly]
      rw [hlx] at HXN
      have HYN := Lib.hid (HY.out.small2 HYO.out.2 HYO.out.1)
      rw [hly] at HYN
      have HRA7 := Lib.hid (HRA5.out.later HB7.out)
      have HRB7 := Lib.hid (HRB5.out.later HB7.out)
      have HK77 := Lib.hid (HK5.out.later HB7.out)
      have HA7 := Lib.hid (HA5.out.later HB7.out)
      have HBB7 := Lib.hid (bel_next HB5.out HB7.out)
      clear hlx hly HX HY HBX HRA5 HRB5 HK5 HA5 HB5 HB7
      go_loopg [18, 19] ly (fun g2 out j wr => ∃ k : Nat, k + g2 = ly ∧ j = .int .i64 (k : Int) ∧ IRow wr w7.heap.size out ((Y.take k).filter (notIn X)) ∧ Below w7.heap.size w7 wr)
      case atStart => exact ⟨0, by omega, rfl, IRow.nil _ _, Below.refl _ _⟩
      case round =>
        obtain ⟨k, hk, rfl, hR, hB⟩ := hrel
        obtain ⟨w10, hw10⟩ : ∃ w10, w10 = wr := ⟨_, rfl⟩
        subst hw10
        obtain ⟨a3, d3, e3⟩ := hR.slice
        obtain ⟨R, hRR⟩ : ∃ R, (Y.take k).filter (notIn X) = R := ⟨_, rfl⟩
        have hRl := moved_len X Y k
        rw [hRR] at hR e3 hRl
        obtain ⟨m, hm⟩ : ∃ m, R.length = m := ⟨_, rfl⟩
        rw [hm] at e3
        have HRR := Lib.hid hRR
        have HMM := Lib.hid hm
        have hm128 : m ≤ 128 := by rw [← hm]; have := HLY.out; omega
        subst e3
        have HR := Lib.hid hR
        have HB := Lib.hid hB
        clear hR hB hRR hRl hm
        cases gk with
        | succ g2 =>
          have hlt : (k : Int) < (ly : Int) := by omega
          have hkY : k < Y.length := by rw [HLY.out]; omega
          obtain ⟨-, b, off, rfl, hc⟩ := (HYN.out.later HB.out).cell (by omega)
          have c1 := hc k hkY
          obtain ⟨y, hy⟩ : ∃ y, Y[k] = y := ⟨_, rfl⟩
          rw [hy] at c1
          have HYY := Lib.hid hy
          have ki := HINX.out (.slice ax lx cx) y w10 (HXN.out.later HB.out)
          obtain ⟨z, hz⟩ : ∃ z, inL X y = z := ⟨_, rfl⟩
          rw [hz] at ki
          have HZ := Lib.hid hz
          clear hc hy hz
          cases z with
          | true =>
            have HXS := Lib.hid ((moved_yes hkY HYY.out HZ.out).trans HRR.out)
            go_wp2_with (go_at_call 17; (with_reducible refine ki.mono ?_); rintro e w2 ⟨rfl, rfl⟩)
            go_roundg g2
            case measure => omega
            case rel => exact ⟨k + 1, by omega, by go_num, by rw [HXS.out]; exact HR.out, HB.out⟩
          | false =>
            have HXS := Lib.hid (moved_no hkY HYY.out HZ.out)
            have hr := HR.out
            have hB1 := HB.out.size
            go_wp2_with (first | (go_at_call 17; (with_reducible refine ki.mono ?_); rintro e w2 ⟨rfl, rfl⟩) | (at_builtin; refine wpList_irow rfl _ _ rfl w7.heap.size (.slice a3 m d3) R rfl y rfl hr hB1 (by rw [HMM.out]; omega) ?_))
            intro v8 w8 hr8 hb8 G8
            have HR8 := Lib.hid hr8
            have HB8 := Lib.hid (HB.out.trans hb8)
            clear hr8 hb8 G8 hr hB1
            go_wp2
            go_roundg g2
            case measure => omega
            case rel => exact ⟨k + 1, by omega, by go_num, by rw [HXS.out, HRR.out]; exact HR8.out, HB8.out⟩
        | zero =>
          obtain rfl : k = ly := by omega
          have hlt : ¬ (k : Int) < (k : Int) := by omega
          have HMV := Lib.hid (show Y.filter (notIn X) = R by rw [← HRR.out, List.take_of_length_le (by rw [HLY.out]; exact Nat.le_refl _)])
          have n1 := nodes_is b1 v1 v2 ep NA P w10 (HRA7.out.later HB.out)
          have hRn : ∀ n ∈ R, 0 ≤ n ∧ n ≤ 15 := fun n hn => by rw [← HMV.out] at hn; exact HYO.out.2 n (List.mem_filter.1 hn).1
          have HRN := Lib.hid (HR.out.small2 hRn (by rw [HMM.out]; exact hm128))
          have HRN3 := Lib.hid hRn
          have HWB := Lib.hid (fun W (k : Below w10.heap.size w10 W) => bel_next HB.out k)
          clear hRn
          go_upto_region 26 with (first
            | (go_at_call 19; (with_reducible refine n1.mono ?_); rintro e u1 ⟨x1, rfl, hr, hB⟩; (have HX1 := Lib.hid (IRow.small hr HN3.out.2 HN3.out.1)); (have HU1 := Lib.hid hB); (have n2 := HND.out u1 (HA7.out.later (HWB.out _ hB))); clear hr hB n1)
            | (go_at_call 20; (with_reducible refine n2.mono ?_); rintro e u2 ⟨x2, rfl, hr, hB⟩; (have s1 := sameN x1 x2 NA NA true u2 (HX1.out.later hB) (IRow.small hr HN3.out.2 HN3.out.1) (by unfold sameL; simp)); (have HU2 := Lib.hid (bel_next HU1.out hB)); clear hr hB n2 HX1 HU1)
            | (go_at_call 18; (with_reducible refine s1.mono ?_); rintro e u3 ⟨rfl, hB⟩; (have HU3 := Lib.hid (bel_next HU2.out hB)); (have c2 := (HK77.out.later (HWB.out _ HU3.out)).c2); (have p1 := HPR.out u3 (HRA7.out.later (HWB.out _ HU3.out))); clear hB s1 HU2)
            | (go_at_call 21; (with_reducible refine p1.mono ?_); rintro e u4 ⟨x4, rfl, hr, hB⟩; (have HU4 := Lib.hid (bel_next HU3.out hB)); (have s2 := sameN x4 (.slice ax lx cx) X X true u4 (hr.small2 HXO.out.2 HXO.out.1) (HXN.out.later (HWB.out _ HU4.out)) (by unfold sameL; simp)); clear hr hB p1 HU3 c2)
            | (go_at_call 18; (with_reducible refine s2.mono ?_); rintro e u5 ⟨rfl, hB⟩; (have HU5 := Lib.hid (bel_next HU4.out hB)); (have c2 := (HK77.out.later (HWB.out _ HU5.out)).c2); (have m1 := HMO.out u5 (HRA7.out.later (HWB.out _ HU5.out)) (HRB7.out.later (HWB.out _ HU5.out))); (rw [HMV.out] at m1); clear hB s2 HU4)
            | (go_at_call 22; (with_reducible refine m1.mono ?_); rintro e u6 ⟨x6, rfl, hr, hB⟩; (have HU6 := Lib.hid (bel_next HU5.out hB)); (have s3 := sameN x6 (.slice a3 m d3) R R true u6 (hr.small2 HRN3.out (by rw [HMM.out]; exact hm128)) (by have := HRN.out.later HU6.out; exact this) (by unfold sameL; simp)); clear hr hB m1 HU5 c2)
            | (go_at_call 18; (with_reducible refine s3.mono ?_); rintro e u7 ⟨rfl, hB⟩; (have HU7 := Lib.hid (bel_next HU6.out hB)); clear hB s3 HU6))
          have HKU := Lib.hid (HK77.out.later (HWB.out _ HU7.out))
          have HRAU := Lib.hid (HRA7.out.later (HWB.out _ HU7.out))
          have HXU := Lib.hid (HXN.out.later (HWB.out _ HU7.out))
          have HBU := Lib.hid (bel_next HBB7.out (HWB.out _ HU7.out))
          obtain ⟨z, hz⟩ : ∃ z, inL X node = z := ⟨_, rfl⟩
          have HZ := Lib.hid hz
          clear hz
          refine wp_region_held_drew (S := fun W => KeyAt W b0 s ep most node place) (by kernel_rfl) (KeyAt.later HKU.out (Below.refl _ _).drew) (fun hHeld => ?_)
          have HRAD := Lib.hid (HRAU.out.later (Below.refl _ u7).drew)
          have HXD := Lib.hid (HXU.out.later (Below.refl _ u7).drew)
          have HBD := Lib.hid (bel_next HBU.out (Below.refl _ u7).drew)
          clear HRAU HXU HBU
          generalize u7.drew = wd at *
          refine wpAnyH_take (i := 0) (oi := ?rb1o) (v := ?rb1v) ?rb1h (by kernel_rfl) (by kernel_rfl) (by kernel_rfl) ?rb1q ?rb1y hHeld ?rb1r
          case rb1h => (simp only [List.getElem?_toArray, List.getElem?_cons_zero]; rfl)
          case rb1q => exact fun _ _ _ h => h
          case rb1y => (refine Or.inl ⟨by first | kernel_rfl | rfl, ?_⟩; intro w hSw; (try dsimp only at hSw); obtain ⟨q0, q1, q2, q3, q4⟩ := hSw; go_simp <;> (try with_reducible rfl))
          try simp only [Act.put, List.setIfInBounds_toArray, List.set_cons_zero, List.set_cons_succ]
          refine wpAnyH_take (i := 1) (oi := ?rb2o) (v := ?rb2v) ?rb2h (by kernel_rfl) (by kernel_rfl) (by kernel_rfl) ?rb2q ?rb2y hHeld ?rb2r
          case rb2h => (simp only [List.getElem?_toArray, List.getElem?_cons_succ, List.getElem?_cons_zero]; rfl)
          case rb2q => exact fun _ _ _ h => h
          case rb2y => (refine Or.inl ⟨by first | kernel_rfl | rfl, ?_⟩; intro w hSw; (try dsimp only at hSw); obtain ⟨q0, q1, q2, q3, q4⟩ := hSw; go_simp <;> (try with_reducible rfl))
          try simp only [Act.put, List.setIfInBounds_toArray, List.set_cons_zero, List.set_cons_succ]
          refine wpAnyH_take (i := 2) (oi := ?rb3o) (v := ?rb3v) ?rb3h (by kernel_rfl) (by kernel_rfl) (by kernel_rfl) ?rb3q ?rb3y hHeld ?rb3r
          case rb3h => (simp only [List.getElem?_toArray, List.getElem?_cons_succ, List.getElem?_cons_zero]; rfl)
          case rb3q => exact fun _ _ _ h => h
          case rb3y => (refine Or.inl ⟨by first | kernel_rfl | rfl, ?_⟩; intro w hSw; (try dsimp only at hSw); obtain ⟨q0, q1, q2, q3, q4⟩ := hSw; go_simp <;> (try with_reducible rfl))
          try simp only [Act.put, List.setIfInBounds_toArray, List.set_cons_zero, List.set_cons_succ]
          refine wpAnyH_take (i := 3) (oi := ?rb4o) (v := ?rb4v) ?rb4h (by kernel_rfl) (by kernel_rfl) (by kernel_rfl) ?rb4q ?rb4y hHeld ?rb4r
          case rb4h => (simp only [List.getElem?_toArray, List.getElem?_cons_succ, List.getElem?_cons_zero]; rfl)
          case rb4q => exact fun _ _ _ h => h
          case rb4y => (refine Or.inl ⟨by first | kernel_rfl | rfl, ?_⟩; intro w hSw; (try dsimp only at hSw); obtain ⟨q0, q1, q2, q3, q4⟩ := hSw; go_simp <;> (try with_reducible rfl))
          try simp only [Act.put, List.setIfInBounds_toArray, List.set_cons_zero, List.set_cons_succ]
          refine wpAnyH_take (i := 4) (oi := ?rb5o) (v := ?rb5v) ?rb5h (by kernel_rfl) (by kernel_rfl) (by kernel_rfl) ?rb5q ?rb5y hHeld ?rb5r
          case rb5h => (simp only [List.getElem?_toArray, List.getElem?_cons_succ, List.getElem?_cons_zero]; rfl)
          case rb5q => exact fun _ _ _ h => h
          case rb5y => (refine Or.inl ⟨by first | kernel_rfl | rfl, ?_⟩; intro w hSw; (try dsimp only at hSw); obtain ⟨q0, q1, q2, q3, q4⟩ := hSw; go_simp <;> (try with_reducible rfl))
          try simp only [Act.put, List.setIfInBounds_toArray, List.set_cons_zero, List.set_cons_succ]
          refine wpAnyH_take (i := 5) (oi := ?rb6o) (v := ?rb6v) ?rb6h (by kernel_rfl) (by kernel_rfl) (by kernel_rfl) ?rb6q ?rb6y hHeld ?rb6r
          case rb6h => (simp only [List.getElem?_toArray, List.getElem?_cons_succ, List.getElem?_cons_zero]; rfl)
          case rb6q => exact fun _ _ _ h => h
          case rb6y => (refine Or.inl ⟨by first | kernel_rfl | rfl, ?_⟩; intro w hSw; (try dsimp only at hSw); obtain ⟨q0, q1, q2, q3, q4⟩ := hSw; go_simp <;> (try with_reducible rfl))
          try simp only [Act.put, List.setIfInBounds_toArray, List.set_cons_zero, List.set_cons_succ]
          refine wpAnyH_take (i := 6) (oi := ?rb7o) (v := ?rb7v) ?rb7h (by kernel_rfl) (by kernel_rfl) (by kernel_rfl) ?rb7q ?rb7y hHeld ?rb7r
          case rb7h => (simp only [List.getElem?_toArray, List.getElem?_cons_succ, List.getElem?_cons_zero]; rfl)
          case rb7q => exact fun _ _ _ h => h
          case rb7y => (refine Or.inl ⟨by first | kernel_rfl | rfl, ?_⟩; intro w hSw; (try dsimp only at hSw); obtain ⟨q0, q1, q2, q3, q4⟩ := hSw; go_simp <;> (try with_reducible rfl))
          try simp only [Act.put, List.setIfInBounds_toArray, List.set_cons_zero, List.set_cons_succ]
          refine wpAnyH_take (i := 7) (oi := ?rb8o) (v := ?rb8v) ?rb8h (by kernel_rfl) (by kernel_rfl) (by kernel_rfl) ?rb8q ?rb8y hHeld ?rb8r
          case rb8h => (simp only [List.getElem?_toArray, List.getElem?_cons_succ, List.getElem?_cons_zero]; rfl)
          case rb8q => exact fun _ _ _ h => h
          case rb8y => (refine Or.inl ⟨by first | kernel_rfl | rfl, ?_⟩; intro w hSw; (try dsimp only at hSw); obtain ⟨q0, q1, q2, q3, q4⟩ := hSw; go_simp <;> (try with_reducible rfl))
          try simp only [Act.put, List.setIfInBounds_toArray, List.set_cons_zero, List.set_cons_succ]
          refine wpAnyH_take (i := 8) (oi := ?rb9o) (v := ?rb9v) ?rb9h (by kernel_rfl) (by kernel_rfl) (by kernel_rfl) ?rb9q ?rb9y hHeld ?rb9r
          case rb9h => (simp only [List.getElem?_toArray, List.getElem?_cons_succ, List.getElem?_cons_zero]; rfl)
          case rb9q => exact fun _ _ _ h => h
          case rb9y => (refine Or.inl ⟨by first | kernel_rfl | rfl, ?_⟩; intro w hSw; (try dsimp only at hSw); obtain ⟨q0, q1, q2, q3, q4⟩ := hSw; go_simp <;> (try with_reducible rfl))
          try simp only [Act.put, List.setIfInBounds_toArray, List.set_cons_zero, List.set_cons_succ]
          refine wpAnyH_take (i := 9) (oi := ?rb10o) (v := ?rb10v) ?rb10h (by kernel_rfl) (by kernel_rfl) (by kernel_rfl) ?rb10q ?rb10y hHeld ?rb10r
          case rb10h => (simp only [List.getElem?_toArray, List.getElem?_cons_succ, List.getElem?_cons_zero]; rfl)
          case rb10q => exact fun _ _ _ h => h
          case rb10y => (refine Or.inl ⟨by first | kernel_rfl | rfl, ?_⟩; intro w hSw; (try dsimp only at hSw); obtain ⟨q0, q1, q2, q3, q4⟩ := hSw; go_simp <;> (try with_reducible rfl))
          try simp only [Act.put, List.setIfInBounds_toArray, List.set_cons_zero, List.set_cons_succ]
          refine wpAnyH_take (i := 10) (oi := ?rb11o) (v := ?rb11v) ?rb11h (by kernel_rfl) (by kernel_rfl) (by kernel_rfl) ?rb11q ?rb11y hHeld ?rb11r
          case rb11h => (simp only [List.getElem?_toArray, List.getElem?_cons_succ, List.getElem?_cons_zero]; rfl)
          case rb11q => exact fun _ _ _ h => h
          case rb11y => (refine Or.inl ⟨by first | kernel_rfl | rfl, ?_⟩; intro w hSw; (try dsimp only at hSw); obtain ⟨q0, q1, q2, q3, q4⟩ := hSw; go_simp <;> (try with_reducible rfl))
          try simp only [Act.put, List.setIfInBounds_toArray, List.set_cons_zero, List.set_cons_succ]
          refine wpAnyH_take (i := 11) (oi := ?rb12o) (v := ?rb12v) ?rb12h (by kernel_rfl) (by kernel_rfl) (by kernel_rfl) ?rb12q ?rb12y hHeld ?rb12r
          case rb12h => (simp only [List.getElem?_toArray, List.getElem?_cons_succ, List.getElem?_cons_zero]; rfl)
          case rb12q => exact fun _ _ _ h => h
          case rb12y => (refine Or.inl ⟨by first | kernel_rfl | rfl, ?_⟩; intro w hSw; (try dsimp only at hSw); obtain ⟨q0, q1, q2, q3, q4⟩ := hSw; go_simp <;> (try with_reducible rfl))
          try simp only [Act.put, List.setIfInBounds_toArray, List.set_cons_zero, List.set_cons_succ]
          refine wpAnyH_take (i := 13) (oi := ?rb13o) (v := ?rb13v) ?rb13h (by kernel_rfl) (by kernel_rfl) (by kernel_rfl) ?rb13q ?rb13y hHeld ?rb13r
          case rb13h => (simp only [List.getElem?_toArray, List.getElem?_cons_succ, List.getElem?_cons_zero]; rfl)
          case rb13q => exact fun _ _ _ h => h
          case rb13y => (refine Or.inl ⟨by first | kernel_rfl | rfl, ?_⟩; intro w hSw; (try dsimp only at hSw); obtain ⟨q0, q1, q2, q3, q4⟩ := hSw; go_simp <;> (try with_reducible rfl))
          try simp only [Act.put, List.setIfInBounds_toArray, List.set_cons_zero, List.set_cons_succ]
          refine wpAnyH_take (i := 14) (oi := ?rb14o) (v := ?rb14v) ?rb14h (by kernel_rfl) (by kernel_rfl) (by kernel_rfl) ?rb14q ?rb14y hHeld ?rb14r
          case rb14h => (simp only [List.getElem?_toArray, List.getElem?_cons_succ, List.getElem?_cons_zero]; rfl)
          case rb14q => exact fun _ _ _ h => h
          case rb14y => (refine Or.inl ⟨by first | kernel_rfl | rfl, ?_⟩; intro w hSw; (try dsimp only at hSw); obtain ⟨q0, q1, q2, q3, q4⟩ := hSw; go_simp <;> (try with_reducible rfl))
          try simp only [Act.put, List.setIfInBounds_toArray, List.set_cons_zero, List.set_cons_succ]
          refine wpAnyH_ready (rs := [12]) (by kernel_rfl) (by simp) ?_
          refine (AllReadyH.cons rfl (fun K hK => ?_) AllReadyH.nil)
          go_simp
          ((with_reducible refine (epoch_is b1 v1 v2 ep NA P _ HRAD.out).mono ?_); rintro e w2 ⟨rfl, rfl⟩)
          refine hK.out _ _ (hHeld) (fun hHeld => ?_)
          clear hK K
          try simp only [Act.put, List.setIfInBounds_toArray, List.set_cons_zero, List.set_cons_succ]
          refine wpAnyH_take (i := 15) (oi := ?rb15o) (v := ?rb15v) ?rb15h (by kernel_rfl) (by kernel_rfl) (by kernel_rfl) ?rb15q ?rb15y hHeld ?rb15r
          case rb15h => (simp only [List.getElem?_toArray, List.getElem?_cons_succ, List.getElem?_cons_zero]; rfl)
          case rb15q => exact fun _ _ _ h => h
          case rb15y => (refine Or.inl ⟨by first | kernel_rfl | rfl, ?_⟩; intro w hSw; (try dsimp only at hSw); obtain ⟨q0, q1, q2, q3, q4⟩ := hSw; go_simp <;> (try with_reducible rfl))
          try simp only [Act.put, List.setIfInBounds_toArray, List.set_cons_zero, List.set_cons_succ]
          refine wpAnyH_take (i := 16) (oi := ?rb16o) (v := ?rb16v) ?rb16h (by kernel_rfl) (by kernel_rfl) (by kernel_rfl) ?rb16q ?rb16y hHeld ?rb16r
          case rb16h => (simp only [List.getElem?_toArray, List.getElem?_cons_succ, List.getElem?_cons_zero]; rfl)
          case rb16q => exact fun _ _ _ h => h
          case rb16y => (refine Or.inl ⟨by first | kernel_rfl | rfl, ?_⟩; intro w hSw; (try dsimp only at hSw); obtain ⟨q0, q1, q2, q3, q4⟩ := hSw; go_simp <;> (try with_reducible rfl))
          try simp only [Act.put, List.setIfInBounds_toArray, List.set_cons_zero, List.set_cons_succ]
          refine wpAnyH_take (i := 17) (oi := ?rb17o) (v := ?rb17v) ?rb17h (by kernel_rfl) (by kernel_rfl) (by kernel_rfl) ?rb17q ?rb17y hHeld ?rb17r
          case rb17h => (simp only [List.getElem?_toArray, List.getElem?_cons_succ, List.getElem?_cons_zero]; rfl)
          case rb17q => exact fun _ _ _ h => h
          case rb17y => (refine Or.inl ⟨by first | kernel_rfl | rfl, ?_⟩; intro w hSw; (try dsimp only at hSw); obtain ⟨q0, q1, q2, q3, q4⟩ := hSw; go_simp <;> (try with_reducible rfl))
          try simp only [Act.put, List.setIfInBounds_toArray, List.set_cons_zero, List.set_cons_succ]
          refine wpAnyH_take (i := 18) (oi := ?rb18o) (v := ?rb18v) ?rb18h (by kernel_rfl) (by kernel_rfl) (by kernel_rfl) ?rb18q ?rb18y hHeld ?rb18r
          case rb18h => (simp only [List.getElem?_toArray, List.getElem?_cons_succ, List.getElem?_cons_zero]; rfl)
          case rb18q => exact fun _ _ _ h => h
          case rb18y => (refine Or.inl ⟨by first | kernel_rfl | rfl, ?_⟩; intro w hSw; (try dsimp only at hSw); obtain ⟨q0, q1, q2, q3, q4⟩ := hSw; go_simp <;> (try with_reducible rfl))
          try simp only [Act.put, List.setIfInBounds_toArray, List.set_cons_zero, List.set_cons_succ]
          refine wpAnyH_take (i := 19) (oi := ?rb19o) (v := ?rb19v) ?rb19h (by kernel_rfl) (by kernel_rfl) (by kernel_rfl) ?rb19q ?rb19y hHeld ?rb19r
          case rb19h => (simp only [List.getElem?_toArray, List.getElem?_cons_succ, List.getElem?_cons_zero]; rfl)
          case rb19q => exact fun _ _ _ h => h
          case rb19y => (refine Or.inl ⟨by first | kernel_rfl | rfl, ?_⟩; intro w hSw; (try dsimp only at hSw); obtain ⟨q0, q1, q2, q3, q4⟩ := hSw; go_simp <;> (try with_reducible rfl))
          try simp only [Act.put, List.setIfInBounds_toArray, List.set_cons_zero, List.set_cons_succ]
          refine wpAnyH_take (i := 20) (oi := ?rb20o) (v := ?rb20v) ?rb20h (by kernel_rfl) (by kernel_rfl) (by kernel_rfl) ?rb20q ?rb20y hHeld ?rb20r
          case rb20h => (simp only [List.getElem?_toArray, List.getElem?_cons_succ, List.getElem?_cons_zero]; rfl)
          case rb20q => exact fun _ _ _ h => h
          case rb20y => (refine Or.inl ⟨by first | kernel_rfl | rfl, ?_⟩; intro w hSw; (try dsimp only at hSw); obtain ⟨q0, q1, q2, q3, q4⟩ := hSw; go_simp <;> (try with_reducible rfl))
          try simp only [Act.put, List.setIfInBounds_toArray, List.set_cons_zero, List.set_cons_succ]
          refine wpAnyH_take (i := 21) (oi := ?rb21o) (v := ?rb21v) ?rb21h (by kernel_rfl) (by kernel_rfl) (by kernel_rfl) ?rb21q ?rb21y hHeld ?rb21r
          case rb21h => (simp only [List.getElem?_toArray, List.getElem?_cons_succ, List.getElem?_cons_zero]; rfl)
          case rb21q => exact fun _ _ _ h => h
          case rb21y => (refine Or.inl ⟨by first | kernel_rfl | rfl, ?_⟩; intro w hSw; (try dsimp only at hSw); obtain ⟨q0, q1, q2, q3, q4⟩ := hSw; go_simp <;> (try with_reducible rfl))
          try simp only [Act.put, List.setIfInBounds_toArray, List.set_cons_zero, List.set_cons_succ]
          refine wpAnyH_take (i := 22) (oi := ?rb22o) (v := ?rb22v) ?rb22h (by kernel_rfl) (by kernel_rfl) (by kernel_rfl) ?rb22q ?rb22y hHeld ?rb22r
          case rb22h => (simp only [List.getElem?_toArray, List.getElem?_cons_succ, List.getElem?_cons_zero]; rfl)
          case rb22q => exact fun _ _ _ h => h
          case rb22y => (refine Or.inl ⟨by first | kernel_rfl | rfl, ?_⟩; intro w hSw; (try dsimp only at hSw); obtain ⟨q0, q1, q2, q3, q4⟩ := hSw; go_simp <;> (try with_reducible rfl))
          try simp only [Act.put, List.setIfInBounds_toArray, List.set_cons_zero, List.set_cons_succ]
          refine wpAnyH_take (i := 23) (oi := ?rb23o) (v := ?rb23v) ?rb23h (by kernel_rfl) (by kernel_rfl) (by kernel_rfl) ?rb23q ?rb23y hHeld ?rb23r
          case rb23h => (simp only [List.getElem?_toArray, List.getElem?_cons_succ, List.getElem?_cons_zero]; rfl)
          case rb23q => exact fun _ _ _ h => h
          case rb23y => (refine Or.inl ⟨by first | kernel_rfl | rfl, ?_⟩; intro w hSw; (try dsimp only at hSw); obtain ⟨q0, q1, q2, q3, q4⟩ := hSw; go_simp <;> (try with_reducible rfl))
          try simp only [Act.put, List.setIfInBounds_toArray, List.set_cons_zero, List.set_cons_succ]
          refine wpAnyH_take (i := 25) (oi := ?rb24o) (v := ?rb24v) ?rb24h (by kernel_rfl) (by kernel_rfl) (by kernel_rfl) ?rb24q ?rb24y hHeld ?rb24r
          case rb24h => (simp only [List.getElem?_toArray, List.getElem?_cons_succ, List.getElem?_cons_zero]; rfl)
          case rb24q => exact fun _ _ _ h => h
          case rb24y => (refine Or.inl ⟨by first | kernel_rfl | rfl, ?_⟩; intro w hSw; (try dsimp only at hSw); obtain ⟨q0, q1, q2, q3, q4⟩ := hSw; go_simp <;> (try with_reducible rfl))
          try simp only [Act.put, List.setIfInBounds_toArray, List.set_cons_zero, List.set_cons_succ]
          refine wpAnyH_take (i := 26) (oi := ?rb25o) (v := ?rb25v) ?rb25h (by kernel_rfl) (by kernel_rfl) (by kernel_rfl) ?rb25q ?rb25y hHeld ?rb25r
          case rb25h => (simp only [List.getElem?_toArray, List.getElem?_cons_succ, List.getElem?_cons_zero]; rfl)
          case rb25q => exact fun _ _ _ h => h
          case rb25y => (refine Or.inl ⟨by first | kernel_rfl | rfl, ?_⟩; intro w hSw; (try dsimp only at hSw); obtain ⟨q0, q1, q2, q3, q4⟩ := hSw; go_simp <;> (try with_reducible rfl))
          try simp only [Act.put, List.setIfInBounds_toArray, List.set_cons_zero, List.set_cons_succ]
          refine wpAnyH_take (i := 27) (oi := ?rb26o) (v := ?rb26v) ?rb26h (by kernel_rfl) (by kernel_rfl) (by kernel_rfl) ?rb26q ?rb26y hHeld ?rb26r
          case rb26h => (simp only [List.getElem?_toArray, List.getElem?_cons_succ, List.getElem?_cons_zero]; rfl)
          case rb26q => exact fun _ _ _ h => h
          case rb26y => (refine Or.inl ⟨by first | kernel_rfl | rfl, ?_⟩; intro w hSw; (try dsimp only at hSw); obtain ⟨q0, q1, q2, q3, q4⟩ := hSw; go_simp <;> (try with_reducible rfl))
          try simp only [Act.put, List.setIfInBounds_toArray, List.set_cons_zero, List.set_cons_succ]
          refine wpAnyH_ready (rs := [24]) (by kernel_rfl) (by simp) ?_
          refine (AllReadyH.cons rfl (fun K hK => ?_) AllReadyH.nil)
          go_simp
          ((with_reducible refine (HHO.out _ HRAD.out).mono ?_); rintro e w12 ⟨rfl, hB⟩; (rw [HZ.out]); (have HKH := Lib.hid (hHeld.later hB)); (have HB12 := Lib.hid (bel_next HBD.out hB)); (have HX12 := Lib.hid (HXD.out.later hB)); clear hB)
          refine hK.out _ _ (HKH.out) (fun hHeld => ?_)
          clear hK K
          try simp only [Act.put, List.setIfInBounds_toArray, List.set_cons_zero, List.set_cons_succ]
          refine wpAnyH_ready (rs := [28]) (by kernel_rfl) (by simp) ?_
          refine (AllReadyH.cons rfl (fun K hK => ?_) AllReadyH.nil)
          go_simp
          ((with_reducible refine (HINX.out _ node _ HX12.out).mono ?_); rintro e w13 ⟨rfl, rfl⟩; (rw [HZ.out]))
          refine hK.out _ _ (hHeld) (fun hHeld => ?_)
          clear hK K
          try simp only [Act.put, List.setIfInBounds_toArray, List.set_cons_zero, List.set_cons_succ]
          refine wpAnyH_take (i := 29) (oi := ?rb27o) (v := ?rb27v) ?rb27h (by kernel_rfl) (by kernel_rfl) (by kernel_rfl) ?rb27q ?rb27y hHeld ?rb27r
          case rb27h => (simp only [List.getElem?_toArray, List.getElem?_cons_succ, List.getElem?_cons_zero]; rfl)
          case rb27q => exact fun _ _ _ h => h
          case rb27y => (refine Or.inl ⟨by first | kernel_rfl | rfl, ?_⟩; intro w hSw; (try dsimp only at hSw); obtain ⟨q0, q1, q2, q3, q4⟩ := hSw; go_simp <;> (try with_reducible rfl))
          try simp only [Act.put, List.setIfInBounds_toArray, List.set_cons_zero, List.set_cons_succ]
          refine wpAnyH_take (i := 30) (oi := ?rb28o) (v := ?rb28v) ?rb28h (by kernel_rfl) (by kernel_rfl) (by kernel_rfl) ?rb28q ?rb28y hHeld ?rb28r
          case rb28h => (simp only [List.getElem?_toArray, List.getElem?_cons_succ, List.getElem?_cons_zero]; rfl)
          case rb28q => exact fun _ _ _ h => h
          case rb28y => (refine Or.inl ⟨by first | kernel_rfl | rfl, ?_⟩; intro w hSw; (try dsimp only at hSw); obtain ⟨q0, q1, q2, q3, q4⟩ := hSw; go_simp <;> (try with_reducible rfl))
          try simp only [Act.put, List.setIfInBounds_toArray, List.set_cons_zero, List.set_cons_succ]
          refine wpAnyH_take (i := 31) (oi := ?rb29o) (v := ?rb29v) ?rb29h (by kernel_rfl) (by kernel_rfl) (by kernel_rfl) ?rb29q ?rb29y hHeld ?rb29r
          case rb29h => (simp only [List.getElem?_toArray, List.getElem?_cons_succ, List.getElem?_cons_zero]; rfl)
          case rb29q => exact fun _ _ _ h => h
          case rb29y => (refine Or.inl ⟨by first | kernel_rfl | rfl, ?_⟩; intro w hSw; (try dsimp only at hSw); obtain ⟨q0, q1, q2, q3, q4⟩ := hSw; go_simp <;> (try with_reducible rfl))
          try simp only [Act.put, List.setIfInBounds_toArray, List.set_cons_zero, List.set_cons_succ]
          refine wpAnyH_done (by kernel_rfl) ?_ _
          go_wp2
          go_ret
          exact ⟨by cases z <;> simp, HB12.out⟩
    · clear hin
      go_upto_region 14 with fail
      clear c4
      have k6 := HK6.out w5 HA5.out
      go_upto_region 18 with (first
        | (go_at_call 16; (with_reducible refine k6.mono ?_); rintro e w6 ⟨vx, rfl, hr, hB⟩; (have HX := Lib.hid hr); (have HBX := Lib.hid hB); (have k7 := HK7.out w6 (HC5.out.later hB)); (have c2 := (HK5.out.later hB).c2); clear hr hB k6)
        | (go_at_call 16; (with_reducible refine k7.mono ?_); rintro e w7 ⟨vy, rfl, hr, hB⟩; (have HY := Lib.hid hr); (have HB7 := Lib.hid (bel_next HBX.out hB)); (have HXN := Lib.hid ((HX.out.small2 HXO.out.2 HXO.out.1).later hB)); clear hr hB k7 c2))
      obtain ⟨ax, cx, rfl⟩ := HX.out.slice
      obtain ⟨ay, cy, rfl⟩ := HY.out.slice
      obtain ⟨lx, hlx⟩ : ∃ lx, X.length = lx := ⟨_, rfl⟩
      obtain ⟨ly, hly⟩ : ∃ ly, Y.length = ly := ⟨_, rfl⟩
      have hl2 : ly ≤ 128 := by rw [← hly]; exact HYO.out.1
      have HLX := Lib.hid hlx
      have HLY := Lib.hid hly
      rw [hlx, hly]
      rw [hlx] at HXN
      have HYN := Lib.hid (HY.out.small2 HYO.out.2 HYO.out.1)
      rw [hly] at HYN
      have HRA7 := Lib.hid (HRA5.out.later HB7.out)
      have HRB7 := Lib.hid (HRB5.out.later HB7.out)
      have HK77 := Lib.hid (HK5.out.later HB7.out)
      have HA7 := Lib.hid (HA5.out.later HB7.out)
      have HBB7 := Lib.hid (bel_next HB5.out HB7.out)
      clear hlx hly HX HY HBX HRA5 HRB5 HK5 HA5 HB5 HB7
      go_loopg [18, 19] ly (fun g2 out j wr => ∃ k : Nat, k + g2 = ly ∧ j = .int .i64 (k : Int) ∧ IRow wr w7.heap.size out ((Y.take k).filter (notIn X)) ∧ Below w7.heap.size w7 wr)
      case atStart => exact ⟨0, by omega, rfl, IRow.nil _ _, Below.refl _ _⟩
      case round =>
        obtain ⟨k, hk, rfl, hR, hB⟩ := hrel
        obtain ⟨w10, hw10⟩ : ∃ w10, w10 = wr := ⟨_, rfl⟩
        subst hw10
        obtain ⟨a3, d3, e3⟩ := hR.slice
        obtain ⟨R, hRR⟩ : ∃ R, (Y.take k).filter (notIn X) = R := ⟨_, rfl⟩
        have hRl := moved_len X Y k
        rw [hRR] at hR e3 hRl
        obtain ⟨m, hm⟩ : ∃ m, R.length = m := ⟨_, rfl⟩
        rw [hm] at e3
        have HRR := Lib.hid hRR
        have HMM := Lib.hid hm
        have hm128 : m ≤ 128 := by rw [← hm]; have := HLY.out; omega
        subst e3
        have HR := Lib.hid hR
        have HB := Lib.hid hB
        clear hR hB hRR hRl hm
        cases gk with
        | succ g2 =>
          have hlt : (k : Int) < (ly : Int) := by omega
          have hkY : k < Y.length := by rw [HLY.out]; omega
          obtain ⟨-, b, off, rfl, hc⟩ := (HYN.out.later HB.out).cell (by omega)
          have c1 := hc k hkY
          obtain ⟨y, hy⟩ : ∃ y, Y[k] = y := ⟨_, rfl⟩
          rw [hy] at c1
          have HYY := Lib.hid hy
          have ki := HINX.out (.slice ax lx cx) y w10 (HXN.out.later HB.out)
          obtain ⟨z, hz⟩ : ∃ z, inL X y = z := ⟨_, rfl⟩
          rw [hz] at ki
          have HZ := Lib.hid hz
          clear hc hy hz
          cases z with
          | true =>
            have HXS := Lib.hid ((moved_yes hkY HYY.out HZ.out).trans HRR.out)
            go_wp2_with (go_at_call 17; (with_reducible refine ki.mono ?_); rintro e w2 ⟨rfl, rfl⟩)
            go_roundg g2
            case measure => omega
            case rel => exact ⟨k + 1, by omega, by go_num, by rw [HXS.out]; exact HR.out, HB.out⟩
          | false =>
            have HXS := Lib.hid (moved_no hkY HYY.out HZ.out)
            have hr := HR.out
            have hB1 := HB.out.size
            go_wp2_with (first | (go_at_call 17; (with_reducible refine ki.mono ?_); rintro e w2 ⟨rfl, rfl⟩) | (at_builtin; refine wpList_irow rfl _ _ rfl w7.heap.size (.slice a3 m d3) R rfl y rfl hr hB1 (by rw [HMM.out]; omega) ?_))
            intro v8 w8 hr8 hb8 G8
            have HR8 := Lib.hid hr8
            have HB8 := Lib.hid (HB.out.trans hb8)
            clear hr8 hb8 G8 hr hB1
            go_wp2
            go_roundg g2
            case measure => omega
            case rel => exact ⟨k + 1, by omega, by go_num, by rw [HXS.out, HRR.out]; exact HR8.out, HB8.out⟩
        | zero =>
          obtain rfl : k = ly := by omega
          have hlt : ¬ (k : Int) < (k : Int) := by omega
          have HMV := Lib.hid (show Y.filter (notIn X) = R by rw [← HRR.out, List.take_of_length_le (by rw [HLY.out]; exact Nat.le_refl _)])
          have n1 := nodes_is b1 v1 v2 ep NA P w10 (HRA7.out.later HB.out)
          have hRn : ∀ n ∈ R, 0 ≤ n ∧ n ≤ 15 := fun n hn => by rw [← HMV.out] at hn; exact HYO.out.2 n (List.mem_filter.1 hn).1
          have HRN := Lib.hid (HR.out.small2 hRn (by rw [HMM.out]; exact hm128))
          have HRN3 := Lib.hid hRn
          have HWB := Lib.hid (fun W (k : Below w10.heap.size w10 W) => bel_next HB.out k)
          clear hRn
          go_upto_region 26 with (first
            | (go_at_call 19; (with_reducible refine n1.mono ?_); rintro e u1 ⟨x1, rfl, hr, hB⟩; (have HX1 := Lib.hid (IRow.small hr HN3.out.2 HN3.out.1)); (have HU1 := Lib.hid hB); (have n2 := HND.out u1 (HA7.out.later (HWB.out _ hB))); clear hr hB n1)
            | (go_at_call 20; (with_reducible refine n2.mono ?_); rintro e u2 ⟨x2, rfl, hr, hB⟩; (have s1 := sameN x1 x2 NA NA true u2 (HX1.out.later hB) (IRow.small hr HN3.out.2 HN3.out.1) (by unfold sameL; simp)); (have HU2 := Lib.hid (bel_next HU1.out hB)); clear hr hB n2 HX1 HU1)
            | (go_at_call 18; (with_reducible refine s1.mono ?_); rintro e u3 ⟨rfl, hB⟩; (have HU3 := Lib.hid (bel_next HU2.out hB)); (have c2 := (HK77.out.later (HWB.out _ HU3.out)).c2); (have p1 := HPR.out u3 (HRA7.out.later (HWB.out _ HU3.out))); clear hB s1 HU2)
            | (go_at_call 21; (with_reducible refine p1.mono ?_); rintro e u4 ⟨x4, rfl, hr, hB⟩; (have HU4 := Lib.hid (bel_next HU3.out hB)); (have s2 := sameN x4 (.slice ax lx cx) X X true u4 (hr.small2 HXO.out.2 HXO.out.1) (HXN.out.later (HWB.out _ HU4.out)) (by unfold sameL; simp)); clear hr hB p1 HU3 c2)
            | (go_at_call 18; (with_reducible refine s2.mono ?_); rintro e u5 ⟨rfl, hB⟩; (have HU5 := Lib.hid (bel_next HU4.out hB)); (have c2 := (HK77.out.later (HWB.out _ HU5.out)).c2); (have m1 := HMO.out u5 (HRA7.out.later (HWB.out _ HU5.out)) (HRB7.out.later (HWB.out _ HU5.out))); (rw [HMV.out] at m1); clear hB s2 HU4)
            | (go_at_call 22; (with_reducible refine m1.mono ?_); rintro e u6 ⟨x6, rfl, hr, hB⟩; (have HU6 := Lib.hid (bel_next HU5.out hB)); (have s3 := sameN x6 (.slice a3 m d3) R R true u6 (hr.small2 HRN3.out (by rw [HMM.out]; exact hm128)) (by have := HRN.out.later HU6.out; exact this) (by unfold sameL; simp)); clear hr hB m1 HU5 c2)
            | (go_at_call 18; (with_reducible refine s3.mono ?_); rintro e u7 ⟨rfl, hB⟩; (have HU7 := Lib.hid (bel_next HU6.out hB)); clear hB s3 HU6))
          have HKU := Lib.hid (HK77.out.later (HWB.out _ HU7.out))
          have HRAU := Lib.hid (HRA7.out.later (HWB.out _ HU7.out))
          have HXU := Lib.hid (HXN.out.later (HWB.out _ HU7.out))
          have HBU := Lib.hid (bel_next HBB7.out (HWB.out _ HU7.out))
          obtain ⟨z, hz⟩ : ∃ z, inL X node = z := ⟨_, rfl⟩
          have HZ := Lib.hid hz
          clear hz
          refine wp_region_held_drew (S := fun W => KeyAt W b0 s ep most node place) (by kernel_rfl) (KeyAt.later HKU.out (Below.refl _ _).drew) (fun hHeld => ?_)
          have HRAD := Lib.hid (HRAU.out.later (Below.refl _ u7).drew)
          have HXD := Lib.hid (HXU.out.later (Below.refl _ u7).drew)
          have HBD := Lib.hid (bel_next HBU.out (Below.refl _ u7).drew)
          clear HRAU HXU HBU
          generalize u7.drew = wd at *
          refine wpAnyH_take (i := 0) (oi := ?rc1o) (v := ?rc1v) ?rc1h (by kernel_rfl) (by kernel_rfl) (by kernel_rfl) ?rc1q ?rc1y hHeld ?rc1r
          case rc1h => (simp only [List.getElem?_toArray, List.getElem?_cons_zero]; rfl)
          case rc1q => exact fun _ _ _ h => h
          case rc1y => (refine Or.inl ⟨by first | kernel_rfl | rfl, ?_⟩; intro w hSw; (try dsimp only at hSw); obtain ⟨q0, q1, q2, q3, q4⟩ := hSw; go_simp <;> (try with_reducible rfl))
          try simp only [Act.put, List.setIfInBounds_toArray, List.set_cons_zero, List.set_cons_succ]
          refine wpAnyH_take (i := 1) (oi := ?rc2o) (v := ?rc2v) ?rc2h (by kernel_rfl) (by kernel_rfl) (by kernel_rfl) ?rc2q ?rc2y hHeld ?rc2r
          case rc2h => (simp only [List.getElem?_toArray, List.getElem?_cons_succ, List.getElem?_cons_zero]; rfl)
          case rc2q => exact fun _ _ _ h => h
          case rc2y => (refine Or.inl ⟨by first | kernel_rfl | rfl, ?_⟩; intro w hSw; (try dsimp only at hSw); obtain ⟨q0, q1, q2, q3, q4⟩ := hSw; go_simp <;> (try with_reducible rfl))
          try simp only [Act.put, List.setIfInBounds_toArray, List.set_cons_zero, List.set_cons_succ]
          refine wpAnyH_take (i := 2) (oi := ?rc3o) (v := ?rc3v) ?rc3h (by kernel_rfl) (by kernel_rfl) (by kernel_rfl) ?rc3q ?rc3y hHeld ?rc3r
          case rc3h => (simp only [List.getElem?_toArray, List.getElem?_cons_succ, List.getElem?_cons_zero]; rfl)
          case rc3q => exact fun _ _ _ h => h
          case rc3y => (refine Or.inl ⟨by first | kernel_rfl | rfl, ?_⟩; intro w hSw; (try dsimp only at hSw); obtain ⟨q0, q1, q2, q3, q4⟩ := hSw; go_simp <;> (try with_reducible rfl))
          try simp only [Act.put, List.setIfInBounds_toArray, List.set_cons_zero, List.set_cons_succ]
          refine wpAnyH_take (i := 3) (oi := ?rc4o) (v := ?rc4v) ?rc4h (by kernel_rfl) (by kernel_rfl) (by kernel_rfl) ?rc4q ?rc4y hHeld ?rc4r
          case rc4h => (simp only [List.getElem?_toArray, List.getElem?_cons_succ, List.getElem?_cons_zero]; rfl)
          case rc4q => exact fun _ _ _ h => h
          case rc4y => (refine Or.inl ⟨by first | kernel_rfl | rfl, ?_⟩; intro w hSw; (try dsimp only at hSw); obtain ⟨q0, q1, q2, q3, q4⟩ := hSw; go_simp <;> (try with_reducible rfl))
          try simp only [Act.put, List.setIfInBounds_toArray, List.set_cons_zero, List.set_cons_succ]
          refine wpAnyH_take (i := 4) (oi := ?rc5o) (v := ?rc5v) ?rc5h (by kernel_rfl) (by kernel_rfl) (by kernel_rfl) ?rc5q ?rc5y hHeld ?rc5r
          case rc5h => (simp only [List.getElem?_toArray, List.getElem?_cons_succ, List.getElem?_cons_zero]; rfl)
          case rc5q => exact fun _ _ _ h => h
          case rc5y => (refine Or.inl ⟨by first | kernel_rfl | rfl, ?_⟩; intro w hSw; (try dsimp only at hSw); obtain ⟨q0, q1, q2, q3, q4⟩ := hSw; go_simp <;> (try with_reducible rfl))
          try simp only [Act.put, List.setIfInBounds_toArray, List.set_cons_zero, List.set_cons_succ]
          refine wpAnyH_take (i := 5) (oi := ?rc6o) (v := ?rc6v) ?rc6h (by kernel_rfl) (by kernel_rfl) (by kernel_rfl) ?rc6q ?rc6y hHeld ?rc6r
          case rc6h => (simp only [List.getElem?_toArray, List.getElem?_cons_succ, List.getElem?_cons_zero]; rfl)
          case rc6q => exact fun _ _ _ h => h
          case rc6y => (refine Or.inl ⟨by first | kernel_rfl | rfl, ?_⟩; intro w hSw; (try dsimp only at hSw); obtain ⟨q0, q1, q2, q3, q4⟩ := hSw; go_simp <;> (try with_reducible rfl))
          try simp only [Act.put, List.setIfInBounds_toArray, List.set_cons_zero, List.set_cons_succ]
          refine wpAnyH_take (i := 6) (oi := ?rc7o) (v := ?rc7v) ?rc7h (by kernel_rfl) (by kernel_rfl) (by kernel_rfl) ?rc7q ?rc7y hHeld ?rc7r
          case rc7h => (simp only [List.getElem?_toArray, List.getElem?_cons_succ, List.getElem?_cons_zero]; rfl)
          case rc7q => exact fun _ _ _ h => h
          case rc7y => (refine Or.inl ⟨by first | kernel_rfl | rfl, ?_⟩; intro w hSw; (try dsimp only at hSw); obtain ⟨q0, q1, q2, q3, q4⟩ := hSw; go_simp <;> (try with_reducible rfl))
          try simp only [Act.put, List.setIfInBounds_toArray, List.set_cons_zero, List.set_cons_succ]
          refine wpAnyH_take (i := 7) (oi := ?rc8o) (v := ?rc8v) ?rc8h (by kernel_rfl) (by kernel_rfl) (by kernel_rfl) ?rc8q ?rc8y hHeld ?rc8r
          case rc8h => (simp only [List.getElem?_toArray, List.getElem?_cons_succ, List.getElem?_cons_zero]; rfl)
          case rc8q => exact fun _ _ _ h => h
          case rc8y => (refine Or.inl ⟨by first | kernel_rfl | rfl, ?_⟩; intro w hSw; (try dsimp only at hSw); obtain ⟨q0, q1, q2, q3, q4⟩ := hSw; go_simp <;> (try with_reducible rfl))
          try simp only [Act.put, List.setIfInBounds_toArray, List.set_cons_zero, List.set_cons_succ]
          refine wpAnyH_take (i := 8) (oi := ?rc9o) (v := ?rc9v) ?rc9h (by kernel_rfl) (by kernel_rfl) (by kernel_rfl) ?rc9q ?rc9y hHeld ?rc9r
          case rc9h => (simp only [List.getElem?_toArray, List.getElem?_cons_succ, List.getElem?_cons_zero]; rfl)
          case rc9q => exact fun _ _ _ h => h
          case rc9y => (refine Or.inl ⟨by first | kernel_rfl | rfl, ?_⟩; intro w hSw; (try dsimp only at hSw); obtain ⟨q0, q1, q2, q3, q4⟩ := hSw; go_simp <;> (try with_reducible rfl))
          try simp only [Act.put, List.setIfInBounds_toArray, List.set_cons_zero, List.set_cons_succ]
          refine wpAnyH_take (i := 9) (oi := ?rc10o) (v := ?rc10v) ?rc10h (by kernel_rfl) (by kernel_rfl) (by kernel_rfl) ?rc10q ?rc10y hHeld ?rc10r
          case rc10h => (simp only [List.getElem?_toArray, List.getElem?_cons_succ, List.getElem?_cons_zero]; rfl)
          case rc10q => exact fun _ _ _ h => h
          case rc10y => (refine Or.inl ⟨by first | kernel_rfl | rfl, ?_⟩; intro w hSw; (try dsimp only at hSw); obtain ⟨q0, q1, q2, q3, q4⟩ := hSw; go_simp <;> (try with_reducible rfl))
          try simp only [Act.put, List.setIfInBounds_toArray, List.set_cons_zero, List.set_cons_succ]
          refine wpAnyH_take (i := 10) (oi := ?rc11o) (v := ?rc11v) ?rc11h (by kernel_rfl) (by kernel_rfl) (by kernel_rfl) ?rc11q ?rc11y hHeld ?rc11r
          case rc11h => (simp only [List.getElem?_toArray, List.getElem?_cons_succ, List.getElem?_cons_zero]; rfl)
          case rc11q => exact fun _ _ _ h => h
          case rc11y => (refine Or.inl ⟨by first | kernel_rfl | rfl, ?_⟩; intro w hSw; (try dsimp only at hSw); obtain ⟨q0, q1, q2, q3, q4⟩ := hSw; go_simp <;> (try with_reducible rfl))
          try simp only [Act.put, List.setIfInBounds_toArray, List.set_cons_zero, List.set_cons_succ]
          refine wpAnyH_take (i := 11) (oi := ?rc12o) (v := ?rc12v) ?rc12h (by kernel_rfl) (by kernel_rfl) (by kernel_rfl) ?rc12q ?rc12y hHeld ?rc12r
          case rc12h => (simp only [List.getElem?_toArray, List.getElem?_cons_succ, List.getElem?_cons_zero]; rfl)
          case rc12q => exact fun _ _ _ h => h
          case rc12y => (refine Or.inl ⟨by first | kernel_rfl | rfl, ?_⟩; intro w hSw; (try dsimp only at hSw); obtain ⟨q0, q1, q2, q3, q4⟩ := hSw; go_simp <;> (try with_reducible rfl))
          try simp only [Act.put, List.setIfInBounds_toArray, List.set_cons_zero, List.set_cons_succ]
          refine wpAnyH_take (i := 13) (oi := ?rc13o) (v := ?rc13v) ?rc13h (by kernel_rfl) (by kernel_rfl) (by kernel_rfl) ?rc13q ?rc13y hHeld ?rc13r
          case rc13h => (simp only [List.getElem?_toArray, List.getElem?_cons_succ, List.getElem?_cons_zero]; rfl)
          case rc13q => exact fun _ _ _ h => h
          case rc13y => (refine Or.inl ⟨by first | kernel_rfl | rfl, ?_⟩; intro w hSw; (try dsimp only at hSw); obtain ⟨q0, q1, q2, q3, q4⟩ := hSw; go_simp <;> (try with_reducible rfl))
          try simp only [Act.put, List.setIfInBounds_toArray, List.set_cons_zero, List.set_cons_succ]
          refine wpAnyH_take (i := 14) (oi := ?rc14o) (v := ?rc14v) ?rc14h (by kernel_rfl) (by kernel_rfl) (by kernel_rfl) ?rc14q ?rc14y hHeld ?rc14r
          case rc14h => (simp only [List.getElem?_toArray, List.getElem?_cons_succ, List.getElem?_cons_zero]; rfl)
          case rc14q => exact fun _ _ _ h => h
          case rc14y => (refine Or.inl ⟨by first | kernel_rfl | rfl, ?_⟩; intro w hSw; (try dsimp only at hSw); obtain ⟨q0, q1, q2, q3, q4⟩ := hSw; go_simp <;> (try with_reducible rfl))
          try simp only [Act.put, List.setIfInBounds_toArray, List.set_cons_zero, List.set_cons_succ]
          refine wpAnyH_ready (rs := [12]) (by kernel_rfl) (by simp) ?_
          refine (AllReadyH.cons rfl (fun K hK => ?_) AllReadyH.nil)
          go_simp
          ((with_reducible refine (epoch_is b1 v1 v2 ep NA P _ HRAD.out).mono ?_); rintro e w2 ⟨rfl, rfl⟩)
          refine hK.out _ _ (hHeld) (fun hHeld => ?_)
          clear hK K
          try simp only [Act.put, List.setIfInBounds_toArray, List.set_cons_zero, List.set_cons_succ]
          refine wpAnyH_take (i := 15) (oi := ?rc15o) (v := ?rc15v) ?rc15h (by kernel_rfl) (by kernel_rfl) (by kernel_rfl) ?rc15q ?rc15y hHeld ?rc15r
          case rc15h => (simp only [List.getElem?_toArray, List.getElem?_cons_succ, List.getElem?_cons_zero]; rfl)
          case rc15q => exact fun _ _ _ h => h
          case rc15y => (refine Or.inl ⟨by first | kernel_rfl | rfl, ?_⟩; intro w hSw; (try dsimp only at hSw); obtain ⟨q0, q1, q2, q3, q4⟩ := hSw; go_simp <;> (try with_reducible rfl))
          try simp only [Act.put, List.setIfInBounds_toArray, List.set_cons_zero, List.set_cons_succ]
          refine wpAnyH_take (i := 16) (oi := ?rc16o) (v := ?rc16v) ?rc16h (by kernel_rfl) (by kernel_rfl) (by kernel_rfl) ?rc16q ?rc16y hHeld ?rc16r
          case rc16h => (simp only [List.getElem?_toArray, List.getElem?_cons_succ, List.getElem?_cons_zero]; rfl)
          case rc16q => exact fun _ _ _ h => h
          case rc16y => (refine Or.inl ⟨by first | kernel_rfl | rfl, ?_⟩; intro w hSw; (try dsimp only at hSw); obtain ⟨q0, q1, q2, q3, q4⟩ := hSw; go_simp <;> (try with_reducible rfl))
          try simp only [Act.put, List.setIfInBounds_toArray, List.set_cons_zero, List.set_cons_succ]
          refine wpAnyH_take (i := 17) (oi := ?rc17o) (v := ?rc17v) ?rc17h (by kernel_rfl) (by kernel_rfl) (by kernel_rfl) ?rc17q ?rc17y hHeld ?rc17r
          case rc17h => (simp only [List.getElem?_toArray, List.getElem?_cons_succ, List.getElem?_cons_zero]; rfl)
          case rc17q => exact fun _ _ _ h => h
          case rc17y => (refine Or.inl ⟨by first | kernel_rfl | rfl, ?_⟩; intro w hSw; (try dsimp only at hSw); obtain ⟨q0, q1, q2, q3, q4⟩ := hSw; go_simp <;> (try with_reducible rfl))
          try simp only [Act.put, List.setIfInBounds_toArray, List.set_cons_zero, List.set_cons_succ]
          refine wpAnyH_take (i := 18) (oi := ?rc18o) (v := ?rc18v) ?rc18h (by kernel_rfl) (by kernel_rfl) (by kernel_rfl) ?rc18q ?rc18y hHeld ?rc18r
          case rc18h => (simp only [List.getElem?_toArray, List.getElem?_cons_succ, List.getElem?_cons_zero]; rfl)
          case rc18q => exact fun _ _ _ h => h
          case rc18y => (refine Or.inl ⟨by first | kernel_rfl | rfl, ?_⟩; intro w hSw; (try dsimp only at hSw); obtain ⟨q0, q1, q2, q3, q4⟩ := hSw; go_simp <;> (try with_reducible rfl))
          try simp only [Act.put, List.setIfInBounds_toArray, List.set_cons_zero, List.set_cons_succ]
          refine wpAnyH_take (i := 19) (oi := ?rc19o) (v := ?rc19v) ?rc19h (by kernel_rfl) (by kernel_rfl) (by kernel_rfl) ?rc19q ?rc19y hHeld ?rc19r
          case rc19h => (simp only [List.getElem?_toArray, List.getElem?_cons_succ, List.getElem?_cons_zero]; rfl)
          case rc19q => exact fun _ _ _ h => h
          case rc19y => (refine Or.inl ⟨by first | kernel_rfl | rfl, ?_⟩; intro w hSw; (try dsimp only at hSw); obtain ⟨q0, q1, q2, q3, q4⟩ := hSw; go_simp <;> (try with_reducible rfl))
          try simp only [Act.put, List.setIfInBounds_toArray, List.set_cons_zero, List.set_cons_succ]
          refine wpAnyH_take (i := 20) (oi := ?rc20o) (v := ?rc20v) ?rc20h (by kernel_rfl) (by kernel_rfl) (by kernel_rfl) ?rc20q ?rc20y hHeld ?rc20r
          case rc20h => (simp only [List.getElem?_toArray, List.getElem?_cons_succ, List.getElem?_cons_zero]; rfl)
          case rc20q => exact fun _ _ _ h => h
          case rc20y => (refine Or.inl ⟨by first | kernel_rfl | rfl, ?_⟩; intro w hSw; (try dsimp only at hSw); obtain ⟨q0, q1, q2, q3, q4⟩ := hSw; go_simp <;> (try with_reducible rfl))
          try simp only [Act.put, List.setIfInBounds_toArray, List.set_cons_zero, List.set_cons_succ]
          refine wpAnyH_take (i := 21) (oi := ?rc21o) (v := ?rc21v) ?rc21h (by kernel_rfl) (by kernel_rfl) (by kernel_rfl) ?rc21q ?rc21y hHeld ?rc21r
          case rc21h => (simp only [List.getElem?_toArray, List.getElem?_cons_succ, List.getElem?_cons_zero]; rfl)
          case rc21q => exact fun _ _ _ h => h
          case rc21y => (refine Or.inl ⟨by first | kernel_rfl | rfl, ?_⟩; intro w hSw; (try dsimp only at hSw); obtain ⟨q0, q1, q2, q3, q4⟩ := hSw; go_simp <;> (try with_reducible rfl))
          try simp only [Act.put, List.setIfInBounds_toArray, List.set_cons_zero, List.set_cons_succ]
          refine wpAnyH_take (i := 22) (oi := ?rc22o) (v := ?rc22v) ?rc22h (by kernel_rfl) (by kernel_rfl) (by kernel_rfl) ?rc22q ?rc22y hHeld ?rc22r
          case rc22h => (simp only [List.getElem?_toArray, List.getElem?_cons_succ, List.getElem?_cons_zero]; rfl)
          case rc22q => exact fun _ _ _ h => h
          case rc22y => (refine Or.inl ⟨by first | kernel_rfl | rfl, ?_⟩; intro w hSw; (try dsimp only at hSw); obtain ⟨q0, q1, q2, q3, q4⟩ := hSw; go_simp <;> (try with_reducible rfl))
          try simp only [Act.put, List.setIfInBounds_toArray, List.set_cons_zero, List.set_cons_succ]
          refine wpAnyH_take (i := 23) (oi := ?rc23o) (v := ?rc23v) ?rc23h (by kernel_rfl) (by kernel_rfl) (by kernel_rfl) ?rc23q ?rc23y hHeld ?rc23r
          case rc23h => (simp only [List.getElem?_toArray, List.getElem?_cons_succ, List.getElem?_cons_zero]; rfl)
          case rc23q => exact fun _ _ _ h => h
          case rc23y => (refine Or.inl ⟨by first | kernel_rfl | rfl, ?_⟩; intro w hSw; (try dsimp only at hSw); obtain ⟨q0, q1, q2, q3, q4⟩ := hSw; go_simp <;> (try with_reducible rfl))
          try simp only [Act.put, List.setIfInBounds_toArray, List.set_cons_zero, List.set_cons_succ]
          refine wpAnyH_take (i := 25) (oi := ?rc24o) (v := ?rc24v) ?rc24h (by kernel_rfl) (by kernel_rfl) (by kernel_rfl) ?rc24q ?rc24y hHeld ?rc24r
          case rc24h => (simp only [List.getElem?_toArray, List.getElem?_cons_succ, List.getElem?_cons_zero]; rfl)
          case rc24q => exact fun _ _ _ h => h
          case rc24y => (refine Or.inl ⟨by first | kernel_rfl | rfl, ?_⟩; intro w hSw; (try dsimp only at hSw); obtain ⟨q0, q1, q2, q3, q4⟩ := hSw; go_simp <;> (try with_reducible rfl))
          try simp only [Act.put, List.setIfInBounds_toArray, List.set_cons_zero, List.set_cons_succ]
          refine wpAnyH_take (i := 26) (oi := ?rc25o) (v := ?rc25v) ?rc25h (by kernel_rfl) (by kernel_rfl) (by kernel_rfl) ?rc25q ?rc25y hHeld ?rc25r
          case rc25h => (simp only [List.getElem?_toArray, List.getElem?_cons_succ, List.getElem?_cons_zero]; rfl)
          case rc25q => exact fun _ _ _ h => h
          case rc25y => (refine Or.inl ⟨by first | kernel_rfl | rfl, ?_⟩; intro w hSw; (try dsimp only at hSw); obtain ⟨q0, q1, q2, q3, q4⟩ := hSw; go_simp <;> (try with_reducible rfl))
          try simp only [Act.put, List.setIfInBounds_toArray, List.set_cons_zero, List.set_cons_succ]
          refine wpAnyH_take (i := 27) (oi := ?rc26o) (v := ?rc26v) ?rc26h (by kernel_rfl) (by kernel_rfl) (by kernel_rfl) ?rc26q ?rc26y hHeld ?rc26r
          case rc26h => (simp only [List.getElem?_toArray, List.getElem?_cons_succ, List.getElem?_cons_zero]; rfl)
          case rc26q => exact fun _ _ _ h => h
          case rc26y => (refine Or.inl ⟨by first | kernel_rfl | rfl, ?_⟩; intro w hSw; (try dsimp only at hSw); obtain ⟨q0, q1, q2, q3, q4⟩ := hSw; go_simp <;> (try with_reducible rfl))
          try simp only [Act.put, List.setIfInBounds_toArray, List.set_cons_zero, List.set_cons_succ]
          refine wpAnyH_ready (rs := [24]) (by kernel_rfl) (by simp) ?_
          refine (AllReadyH.cons rfl (fun K hK => ?_) AllReadyH.nil)
          go_simp
          ((with_reducible refine (HHO.out _ HRAD.out).mono ?_); rintro e w12 ⟨rfl, hB⟩; (rw [HZ.out]); (have HKH := Lib.hid (hHeld.later hB)); (have HB12 := Lib.hid (bel_next HBD.out hB)); (have HX12 := Lib.hid (HXD.out.later hB)); clear hB)
          refine hK.out _ _ (HKH.out) (fun hHeld => ?_)
          clear hK K
          try simp only [Act.put, List.setIfInBounds_toArray, List.set_cons_zero, List.set_cons_succ]
          refine wpAnyH_ready (rs := [28]) (by kernel_rfl) (by simp) ?_
          refine (AllReadyH.cons rfl (fun K hK => ?_) AllReadyH.nil)
          go_simp
          ((with_reducible refine (HINX.out _ node _ HX12.out).mono ?_); rintro e w13 ⟨rfl, rfl⟩; (rw [HZ.out]))
          refine hK.out _ _ (hHeld) (fun hHeld => ?_)
          clear hK K
          try simp only [Act.put, List.setIfInBounds_toArray, List.set_cons_zero, List.set_cons_succ]
          refine wpAnyH_take (i := 29) (oi := ?rc27o) (v := ?rc27v) ?rc27h (by kernel_rfl) (by kernel_rfl) (by kernel_rfl) ?rc27q ?rc27y hHeld ?rc27r
          case rc27h => (simp only [List.getElem?_toArray, List.getElem?_cons_succ, List.getElem?_cons_zero]; rfl)
          case rc27q => exact fun _ _ _ h => h
          case rc27y => (refine Or.inl ⟨by first | kernel_rfl | rfl, ?_⟩; intro w hSw; (try dsimp only at hSw); obtain ⟨q0, q1, q2, q3, q4⟩ := hSw; go_simp <;> (try with_reducible rfl))
          try simp only [Act.put, List.setIfInBounds_toArray, List.set_cons_zero, List.set_cons_succ]
          refine wpAnyH_take (i := 30) (oi := ?rc28o) (v := ?rc28v) ?rc28h (by kernel_rfl) (by kernel_rfl) (by kernel_rfl) ?rc28q ?rc28y hHeld ?rc28r
          case rc28h => (simp only [List.getElem?_toArray, List.getElem?_cons_succ, List.getElem?_cons_zero]; rfl)
          case rc28q => exact fun _ _ _ h => h
          case rc28y => (refine Or.inl ⟨by first | kernel_rfl | rfl, ?_⟩; intro w hSw; (try dsimp only at hSw); obtain ⟨q0, q1, q2, q3, q4⟩ := hSw; go_simp <;> (try with_reducible rfl))
          try simp only [Act.put, List.setIfInBounds_toArray, List.set_cons_zero, List.set_cons_succ]
          refine wpAnyH_take (i := 31) (oi := ?rc29o) (v := ?rc29v) ?rc29h (by kernel_rfl) (by kernel_rfl) (by kernel_rfl) ?rc29q ?rc29y hHeld ?rc29r
          case rc29h => (simp only [List.getElem?_toArray, List.getElem?_cons_succ, List.getElem?_cons_zero]; rfl)
          case rc29q => exact fun _ _ _ h => h
          case rc29y => (refine Or.inl ⟨by first | kernel_rfl | rfl, ?_⟩; intro w hSw; (try dsimp only at hSw); obtain ⟨q0, q1, q2, q3, q4⟩ := hSw; go_simp <;> (try with_reducible rfl))
          try simp only [Act.put, List.setIfInBounds_toArray, List.set_cons_zero, List.set_cons_succ]
          refine wpAnyH_done (by kernel_rfl) ?_ _
          go_wp2
          go_ret
          exact ⟨by cases z <;> simp, HB12.out⟩
end Go.Proofs.Ytmmkbedheeeecaa.ringPlays
