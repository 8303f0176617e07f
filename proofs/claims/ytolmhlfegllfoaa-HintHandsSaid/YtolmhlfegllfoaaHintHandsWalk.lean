/- HintHands. -/
import Derived.Test.YtolmhlfegllfoaaHintHandsMath
import Derived.Test.YtolmhlfegllfoaaHintDropsWalk
import Derived.Test.YtolmhlfegllfoaaHiArgs
import Derived.Deep.CutRange
import Derived.BigQuiet
set_option maxRecDepth 20000
set_option linter.unusedSimpArgs false
set_option linter.unusedVariables false
namespace Go.Proofs.Ytolmhlfegllfoaa.Qu.Hi
open Go.RowKit Go.Maps Go.Proofs.Ytolmhlfegllfoaa.Vi Go.Proofs.Ytolmhlfegllfoaa.Mk

theorem pt_map {w w' : World} {B b mm g : Nat} {room : Int} {L : List Hk} {p : Pt} (h : PtAt w g p) (hA : HiAt w B b (some mm) room L) (k : w.grownBy w' (some mm)) : PtAt w' g p := by
  obtain ⟨c0, c1, c2, c3, c4, c5⟩ := h
  have hne := hA.cell_off c0
  exact ⟨k.cell c0 hne, k.cell c1 hne, k.cell c2 hne, k.cell c3 hne, k.cell c4 hne, k.cell c5 hne⟩
theorem in_take (K : List Pt) (s : Pt) {j : Nat} (h : j < K.length) : decide (s ∈ K.take (j + 1)) = (decide (s ∈ K.take j) || K[j].same s) := by
  rw [List.take_succ_eq_append_getElem h, Bool.eq_iff_iff]
  simp only [decide_eq_true_eq, Bool.or_eq_true, List.mem_append, List.mem_singleton, Pt.same_iff]
  exact or_congr Iff.rfl ⟨Eq.symm, Eq.symm⟩
namespace hintHands
set_option maxHeartbeats 32000000 in
theorem walk (a0 : Option Addr) (len0 cap0 : Nat) (a1 : Option Addr) (len1 cap1 : Nat) (most : Int) (w : World) (ha0 : ArgPts w a0 len0 cap0) (ha1 : ArgInts w a1 len1 cap1) (ht : -9223372036854775808 ≤ most ∧ most ≤ 9223372036854775807) : Calls Try.prog 4 #[.slice a0 len0 cap0, .slice a1 len1 cap1, .int .i64 most] w fun e w' => e = .returned (.bool true) ∧ Below w.heap.size w w' := by
  obtain ⟨l, hl, hP, hlen, hfit⟩ := ha0.has
  obtain ⟨nl, hN, hc⟩ := ns_of_args ha1
  have hcap : len1 ≤ cap1 := by
    obtain ⟨a', n', c', e, h⟩ := hc.out
    injection e with e1 e2 e3
    subst e2 e3
    exact h
  obtain ⟨m1, hm1⟩ : ∃ m1, m1 = min len1 12 := ⟨_, rfl⟩
  have HNS := Lib.hid (ns_cut hN hm1)
  obtain ⟨ns, hns⟩ : ∃ ns, nl.take 12 = ns := ⟨_, rfl⟩
  rw [hns] at HNS
  have HL0 := Lib.hid hl
  have HP := Lib.hid hP
  have HFT := Lib.hid hfit
  have ka := awake_is w
  have knw := fun W => new_is 600 W
  have ksm := fun (p : Pt) (W : World) (h : p.fits) => small_is p W h.s
  have HCAP := Lib.hid (show capH 600 = 600 by decide)
  obtain ⟨q0, mk, q0q, hmk, q0c⟩ := tm10 most
  have HCP := Lib.hid hcap
  have HMN := Lib.hid hm1
  have HQC := Lib.hid (And.intro q0q q0c)
  clear ha0 ha1 hl hP hfit hN hc hns hcap hm1 q0q q0c ht
  obtain ⟨AL, hAL⟩ : ∃ AL, nodesL ns = AL := ⟨_, rfl⟩
  have HAD := Lib.hid (show AL.Nodup by rw [← hAL]; exact nodes_nodup ns)
  have HAI := Lib.hid (show AddI ns AL [] [] by rw [← hAL]; exact AddI.nil ns)
  have krn := fun (W : World) (h : Ns W (.slice a1 m1 cap1) ns) => rnodes_is _ ns W h
  rw [hAL] at krn
  obtain ⟨n, hn⟩ : ∃ n, AL.length = n := ⟨_, rfl⟩
  have HN := Lib.hid hn
  have hn16 : n ≤ 16 := by rw [← hn, ← hAL]; exact pick_len _
  clear hn hAL
  go_enter Try.func4, Try.ntmps4
  go_upto_if 30 with (first
    | (go_at_call 9; (with_reducible refine (knw _).mono ?_); rintro e w2 ⟨b, mm, rfl, hH2, hb2⟩; (rw [HCAP.out] at hH2); (have H2 := Lib.hid hH2); (have HB2 := Lib.hid (bel_next HB1.out hb2)); clear hb2 hH2)
    | (go_at_call 8; (with_reducible refine ka.mono ?_); rintro e w1 ⟨rfl, hb1⟩; (have HB1 := Lib.hid hb1); clear hb1))
  go_cut [1] from 31 (fun v wx => v = .slice a1 m1 cap1 ∧ w2 = wx)
  case first =>
    by_cases h12 : 12 < len1
    · have hx1 : (12 : Int) < (len1 : Int) := by omega
      have hx2 : (12 : Int) ≤ (cap1 : Int) := by have := HCP.out; omega
      obtain rfl : m1 = 12 := by rw [HMN.out]; omega
      clear h12
      go_wp2
      go_meet
      exact ⟨rfl, rfl⟩
    · have hx1 : ¬ (12 : Int) < (len1 : Int) := by omega
      obtain rfl : m1 = len1 := by rw [HMN.out]; omega
      clear h12
      go_wp2
      go_meet
      exact ⟨rfl, rfl⟩
  case rest =>
  obtain ⟨rfl, rfl⟩ := hcut
  have HBB := Lib.hid HB1.out.size
  go_wp2_with (go_at_call 27; (with_reducible refine (krn _ (Ns.later HNS.out HB2.out)).mono ?_); rintro e w3 ⟨v3, rfl, hR3, hb3⟩; (obtain ⟨an, cn, rfl⟩ := hR3.slice); (rw [HN.out]); (have HS3 := Lib.hid (show HaS w w3 w1.heap.size b mm AL (.slice an n cn) (.slice none 0 0) [] [] from ⟨H2.out.later hb3, bel_next HB2.out hb3, (by (rw [← HN.out]; exact own_base hR3 HB2.out.size)), PRow.nil _ _⟩)); clear hR3 hb3)
  clear H2 HB2
  go_loopw [10, 11, 12, 13, 14, 15] (fun s10 s11 _ _ _ _ wr => ∃ (k r : Nat) (ak : Option Addr) (ck : Nat) (K : List Pt) (L : List Hk), k ≤ 30 ∧ r ≤ k ∧ s10 = .slice ak r ck ∧ s11 = .int .i64 (k : Int) ∧ Hid (HaS w wr w1.heap.size b mm AL (.slice an n cn) (.slice ak r ck) K L) ∧ Hid (AddI ns AL K L) ∧ Hid (K.length = r)) (fun _ s11 _ _ _ _ _ => 30 - (intOf s11).toNat)
  case atStart => exact ⟨0, 0, none, 0, [], [], by omega, by omega, rfl, rfl, HS3, HAI, Lib.hid rfl⟩
  case round =>
  obtain ⟨k, r, ak, ck, K, L, hk, hrk, rfl, rfl, HS, HI, HKL⟩ := hrel
  obtain ⟨w4, hw4⟩ : ∃ x, x = wr := ⟨_, rfl⟩
  subst hw4
  clear HS3 HAI
  obtain ⟨z, hz⟩ : ∃ z, decide (k < len0 ∧ k < 30) = z := ⟨_, rfl⟩
  go_upto_region 10 with fail
  go_cut [42] from 35 to 82 (fun v wx => v = .bool z ∧ w4 = wx)
  case first =>
    by_cases hk1 : k < len0
    · have hx1 : (k : Int) < (len0 : Int) := by omega
      by_cases hk2 : k < 30
      · have hx2 : (k : Int) < 30 := by omega
        obtain rfl : z = true := by rw [← hz]; exact decide_eq_true ⟨hk1, hk2⟩
        clear hz
        go_wp2
        go_meet
        exact ⟨rfl, rfl⟩
      · have hx2 : ¬ (k : Int) < 30 := by omega
        obtain rfl : z = false := by rw [← hz]; exact decide_eq_false fun h => hk2 h.2
        clear hz
        go_wp2
        go_meet
        exact ⟨rfl, rfl⟩
    · have hx1 : ¬ (k : Int) < (len0 : Int) := by omega
      obtain rfl : z = false := by rw [← hz]; exact decide_eq_false fun h => hk1 h.1
      clear hz
      go_wp2
      go_meet
      exact ⟨rfl, rfl⟩
  case rest =>
  obtain ⟨rfl, rfl⟩ := hcut
  cases z with
  | true =>
    have hgo := of_decide_eq_true hz
    have hkl : k < l.length := by rw [HL0.out]; exact hgo.1
    have hk1 : (k : Int) < (len0 : Int) := by omega
    have hP3 := HP.out.below HS.out.bel
    rcases hP3.at_ with he | ⟨g, off, rfl, hg, hc⟩
    · rw [he] at hkl; simp at hkl
    · obtain ⟨y0, y1, y2, y3, y4, y5⟩ := hc k hkl
      have hpf := HFT.out _ (List.getElem_mem hkl)
      obtain ⟨p, hp⟩ : ∃ p, l[k] = p := ⟨_, rfl⟩
      rw [hp] at hpf y0 y1 y2 y3 y4 y5
      have ks3 := ksm p w4 hpf
      have hsf := short_fits hpf
      have hss := short_size p
      obtain ⟨s, hs⟩ : ∃ s, Pt.short p = s := ⟨_, rfl⟩
      rw [hs] at ks3 hsf hss
      have kadd : ∀ W, HaS w W w1.heap.size b mm AL (.slice an n cn) (.slice ak r ck) K L → Calls Try.prog 16 #[.pointer (some ⟨b, 0, none⟩), ptV s, .slice a1 m1 cap1] W (AddDone W w1.heap.size b (some mm) 600 L s ns) := fun W hD => add_is hD.at_ s hsf (by omega) _ ns (Ns.later HNS.out hD.bel)
      have kcp : ∀ W, Calls Try.prog 28 #[ptV s] W fun e w' => e = .returned (.int .i64 s.err) ∧ Below W.heap.size W w' := fun W => rcheckp_is s W (by omega)
      have HOK := Lib.hid (HI.out.ok (p := s) (by rw [HKL.out]; omega) (by rw [HN.out]; exact hn16))
      have HNX := Lib.hid (HI.out.next HAD.out (p := s) (by rw [HKL.out]; omega) (by rw [HN.out]; exact hn16))
      have hqq := fun (x : Pt) (W : World) => eql_run6 x s W
      unfold ptV at ks3 kadd kcp hqq
      clear hc hP3 hp hpf hs hsf hss hkl hz
      have hk30 : k < 30 := hgo.2
      clear hgo
      go_wp2_with (go_at_call 11; (with_reducible refine ks3.mono ?_); rintro e w5 ⟨rfl, hb5⟩; (have HS5 := Lib.hid ((HS.out.later hb5).later ((Below.refl _ _).alloc (Nat.le_refl _) (.cells #[.string s.s, .int .i64 s.t, .int .i64 s.v, .int .i64 s.st.c, .int .i64 s.st.s, .int .i64 s.st.q] 31)))); (have HX5 := Lib.hid (PtAt.new w5 s)); clear hb5)
      go_loopw [13, 14] (fun s13 s14 wr => ∃ (j : Nat) (had : Bool), j ≤ r ∧ s13 = .bool had ∧ s14 = .int .i64 (j : Int) ∧ Hid (had = decide (s ∈ K.take j)) ∧ Hid (HaS w wr w1.heap.size b mm AL (.slice an n cn) (.slice ak r ck) K L) ∧ Hid (PtAt wr w5.heap.size s)) (fun _ s14 _ => r - (intOf s14).toNat)
      case atStart => exact ⟨0, false, by omega, rfl, rfl, Lib.hid (by simp), HS5, HX5⟩
      case round =>
        obtain ⟨j, had, hj, rfl, rfl, HH, HS6, HX6⟩ := hrel
        obtain ⟨w6, hw6⟩ : ∃ x, x = wr := ⟨_, rfl⟩
        subst hw6
        clear HS5 HX5
        by_cases hjr : j < r
        · have hjr2 : (j : Int) < (r : Int) := by omega
          have hjK : j < K.length := by rw [HKL.out]; exact hjr
          have HIT := Lib.hid (in_take K s hjK)
          rw [← HH.out] at HIT
          rcases HS6.out.kept.pts.at_ with he | ⟨g2, off2, rfl, hg2, hc2⟩
          · rw [he] at hjK; simp at hjK
          · obtain ⟨x, hxK⟩ : ∃ x, x = K[j] := ⟨_, rfl⟩
            have hx : PtO w6 g2 (off2 + j * 6) x := by rw [hxK]; exact hc2 j hjK
            have HIT2 : Hid (decide (s ∈ K.take (j + 1)) = (had || x.same s)) := Lib.hid (by rw [HIT.out, hxK])
            obtain ⟨y0, y1, y2, y3, y4, y5⟩ := hx
            obtain ⟨u0, u1, u2, u3, u4, u5⟩ := HX6.out
            clear hc2 hxK hjK HIT
            cases had with
            | true =>
              go_wp2_with fail
              go_quiet (fail)
              go_wp2
              go_roundw
              case rel => exact ⟨j + 1, true, by omega, rfl, by go_num, Lib.hid (by rw [HIT2.out]; rfl), Lib.hid (HS6.out.later (below_drewN (Below.refl _ _) _)), Lib.hid (HX6.out.below (below_drewN (Below.refl w6.heap.size w6) _) HX6.out.room)⟩
              case measure => simp [intOf]; omega
            | false =>
              have hq2 := hqq x
              obtain ⟨e2, he2⟩ : ∃ e2, x.same s = e2 := ⟨_, rfl⟩
              rw [he2] at hq2 HIT2
              clear he2 hqq
              go_wp2_with fail
              go_quiet (fail)
              go_wp2
              go_roundw
              case rel => exact ⟨j + 1, e2, by omega, rfl, by go_num, Lib.hid (by rw [HIT2.out]; rfl), Lib.hid (HS6.out.later (below_drewN (Below.refl _ _) _)), Lib.hid (HX6.out.below (below_drewN (Below.refl w6.heap.size w6) _) HX6.out.room)⟩
              case measure => simp [intOf]; omega
        · obtain rfl : j = r := by omega
          have hjr2 : ¬ (j : Int) < (j : Int) := by omega
          have HHD := Lib.hid (show had = decide (s ∈ K) by rw [HH.out, List.take_of_length_le (by rw [HKL.out]; exact Nat.le_refl _)])
          obtain ⟨u0, u1, u2, u3, u4, u5⟩ := HX6.out
          clear HH hjr hj hqq y0 y1 y2 y3 y4 y5
          by_cases he : s.err = 0
          · rw [he] at kcp
            have HO := Lib.hid (show addOk L 600 s ns = true by rw [HOK.out]; exact decide_eq_true he)
            cases had with
            | true =>
              have HNK := Lib.hid (show AddI ns AL K (addL L 600 s ns) by
                have := HNX.out
                rw [if_neg (fun h => h.2 (of_decide_eq_true HHD.out.symm))] at this
                exact this)
              clear he HNX
              go_wp2_with (first
                | (go_at_call 28; (with_reducible refine (kcp _).mono ?_); rintro e w8 ⟨rfl, hb8⟩; (have HS8 := Lib.hid (HS7.out.later hb8)); (have HX8 := Lib.hid (HX7.out.below hb8 HX7.out.room)); (obtain ⟨u0, u1, u2, u3, u4, u5⟩ := HX8.out); clear hb8)
                | (go_at_call 16; (with_reducible refine (kadd _ HS6.out).mono ?_); rintro e w7 ⟨he7, hH7, hg7⟩; (rw [HO.out] at he7); subst he7; (have HS7 := Lib.hid (HS6.out.map HBB.out hH7 hg7)); (have HX7 := Lib.hid (pt_map HX6.out HS6.out.at_ hg7)); (obtain ⟨u0, u1, u2, u3, u4, u5⟩ := HX7.out); clear hH7 hg7))
              go_roundw
              case rel => exact ⟨k + 1, j, ak, ck, K, _, by omega, by omega, rfl, by go_num, HS8, HNK, HKL⟩
              case measure => simp [intOf]; omega
            | false =>
              have HNK := Lib.hid (show AddI ns AL (K ++ [s]) (addL L 600 s ns) by
                have := HNX.out
                rw [if_pos ⟨he, of_decide_eq_false HHD.out.symm⟩] at this
                exact this)
              clear he HNX
              go_wp2_with (first
                | (at_builtin; refine wpList_appP (w := w8) rfl _ _ rfl w.heap.size j (.slice ak j ck) K s w8.heap.size rfl rfl rfl HKL HS8.out.kept ?hl9 HS8.out.bel.size ?_; (case hl9 => omega); intro a9 c9 w9 hr9 hg9 _ _; (have HS9 := Lib.hid (HS8.out.app hr9.out hg9)); clear hr9 hg9)
                | (go_at_call 28; (with_reducible refine (kcp _).mono ?_); rintro e w8 ⟨rfl, hb8⟩; (have HS8 := Lib.hid (HS7.out.later hb8)); (have HX8 := Lib.hid (HX7.out.below hb8 HX7.out.room)); (obtain ⟨u0, u1, u2, u3, u4, u5⟩ := HX8.out); clear hb8)
                | (go_at_call 16; (with_reducible refine (kadd _ HS6.out).mono ?_); rintro e w7 ⟨he7, hH7, hg7⟩; (rw [HO.out] at he7); subst he7; (have HS7 := Lib.hid (HS6.out.map HBB.out hH7 hg7)); (have HX7 := Lib.hid (pt_map HX6.out HS6.out.at_ hg7)); (obtain ⟨u0, u1, u2, u3, u4, u5⟩ := HX7.out); clear hH7 hg7))
              go_roundw
              case rel => exact ⟨k + 1, j + 1, a9, c9, K ++ [s], _, by omega, by omega, rfl, by go_num, HS9, HNK, Lib.hid (by rw [List.length_append, HKL.out]; rfl)⟩
              case measure => simp [intOf]; omega
          · have he1 : s.err = 1 := by unfold Pt.err at *; split at he <;> simp_all
            rw [he1] at kcp
            have HO := Lib.hid (show addOk L 600 s ns = false by rw [HOK.out]; exact decide_eq_false he)
            have HNK := Lib.hid (show AddI ns AL K (addL L 600 s ns) by
              have := HNX.out
              rw [if_neg (fun h => he h.1)] at this
              exact this)
            clear he he1 HNX
            go_wp2_with (first
                | (go_at_call 28; (with_reducible refine (kcp _).mono ?_); rintro e w8 ⟨rfl, hb8⟩; (have HS8 := Lib.hid (HS7.out.later hb8)); (have HX8 := Lib.hid (HX7.out.below hb8 HX7.out.room)); (obtain ⟨u0, u1, u2, u3, u4, u5⟩ := HX8.out); clear hb8)
                | (go_at_call 16; (with_reducible refine (kadd _ HS6.out).mono ?_); rintro e w7 ⟨he7, hH7, hg7⟩; (rw [HO.out] at he7); subst he7; (have HS7 := Lib.hid (HS6.out.map HBB.out hH7 hg7)); (have HX7 := Lib.hid (pt_map HX6.out HS6.out.at_ hg7)); (obtain ⟨u0, u1, u2, u3, u4, u5⟩ := HX7.out); clear hH7 hg7))
            go_roundw
            case rel => exact ⟨k + 1, j, ak, ck, K, _, by omega, by omega, rfl, by go_num, HS8, HNK, HKL⟩
            case measure => simp [intOf]; omega
  | false =>
  clear hz
  obtain ⟨w5, hw5⟩ : ∃ x, x = w4 := ⟨_, rfl⟩
  subst hw5
  have hr30 : r ≤ 30 := by omega
  have HLL := Lib.hid (show ((L.length : Nat) : Int) = (r : Int) * (n : Int) by rw [HI.out.ln, HKL.out, HN.out]; exact Int.natCast_mul r n)
  have hrn : r * n ≤ 30 * 16 := Nat.mul_le_mul hr30 hn16
  have hmul : IntKind.i64.wrap ((r : Int) * (n : Int)) = (r : Int) * (n : Int) := by
    have h1 : ((r * n : Nat) : Int) = (r : Int) * (n : Int) := Int.natCast_mul r n
    rw [IntKind.wrap_i64]; omega
  have HOU := Lib.hid HI.out.out
  clear hrn hk hrk HI
  obtain ⟨q0q, q0c⟩ := HQC.out
  go_upto_if 86 with fail
  go_cut [16] from 87 (fun v wx => v = .int .i64 (mk : Int) ∧ w5 = wx)
  case first =>
    rcases q0c with ⟨c1, c2⟩ | ⟨c1, c2⟩
    all_goals (go_wp2_with fail; go_meet; exact ⟨by simp [*], rfl⟩)
  case rest =>
  obtain ⟨rfl, rfl⟩ := hcut
  clear q0c q0q
  obtain ⟨m, hm⟩ : ∃ m : Nat, m = mk + 1 := ⟨_, rfl⟩
  have hwm : IntKind.i64.wrap ((mk : Int) + 1) = (m : Int) := by rw [IntKind.wrap_i64]; omega
  have hm1 : 1 ≤ m := by omega
  have HM := Lib.hid (show (m : Int).toNat = m from Int.toNat_natCast m)
  clear hm
  have kln := len_is HS.out.at_
  rw [HLL.out] at kln
  go_wp2_with (go_at_call 25; (with_reducible refine kln.mono ?_); rintro e w6 ⟨rfl, rfl⟩)
  clear kln hmul HLL
  go_loopw [17, 18, 19, 20, 21, 22, 23] (fun s17 _ _ _ _ _ _ wr => ∃ (i : Nat) (L : List Hk), i ≤ n ∧ s17 = .int .i64 (i : Int) ∧ Hid (HaS w wr w1.heap.size b mm AL (.slice an n cn) (.slice ak r ck) K L) ∧ Hid (OutI AL K L i)) (fun s17 _ _ _ _ _ _ _ => n - (intOf s17).toNat)
  case atStart => exact ⟨0, L, by omega, rfl, HS, HOU⟩
  case round =>
  obtain ⟨i, L, hi, rfl, HS, HOU⟩ := hrel
  obtain ⟨w6, hw6⟩ : ∃ x, x = wr := ⟨_, rfl⟩
  subst hw6
  by_cases hin : i < n
  · have hin2 : (i : Int) < (n : Int) := by omega
    have hil : i < AL.length := by rw [HN.out]; exact hin
    have HIL := Lib.hid hil
    obtain ⟨q, hq⟩ : ∃ q, AL[i] = q := ⟨_, rfl⟩
    have HQ := Lib.hid hq
    have HT := Lib.hid (HOU.out.turn hil hq)
    clear hil hq
    go_wp2
    go_loopw [18, 19, 20, 21, 22, 23] (fun s18 s19 _ _ _ _ wr => ∃ (turn told : Nat) (L : List Hk), turn ≤ told ∧ s18 = .int .i64 (told : Int) ∧ s19 = .int .i64 (turn : Int) ∧ Hid (HaS w wr w1.heap.size b mm AL (.slice an n cn) (.slice ak r ck) K L) ∧ Hid (TurnI AL K L i q told)) (fun _ s19 _ _ _ _ _ => 40 - (intOf s19).toNat)
    case atStart => exact ⟨0, 0, L, by omega, rfl, rfl, HS, HT⟩
    case round =>
      obtain ⟨turn, told, L2, htt, rfl, rfl, HS2, HT2⟩ := hrel
      obtain ⟨w8, hw8⟩ : ∃ x, x = wr := ⟨_, rfl⟩
      subst hw8
      clear HS HT HOU
      have htr : told ≤ 30 := by have h1 := HT2.out.ln; have h2 := HKL.out; omega
      have htn : (turn : Int) < 40 := by omega
      obtain ⟨gA, rfl, -, hgA, hcA⟩ := HS2.out.all.cell (by rw [HN.out]; omega)
      have z0 := irow_at' HS2.out.all HIL.out HQ.out
      have kf := for_some HS2.out.at_ q (m : Int)
      unfold ForDone at kf
      obtain ⟨F, hF⟩ : ∃ F, forL L2 q (m : Int) = F := ⟨_, rfl⟩
      have HF := Lib.hid hF
      rw [hF] at kf
      obtain ⟨f, hf⟩ : ∃ f, F.length = f := ⟨_, rfl⟩
      have HFL := Lib.hid hf
      have hfm : f ≤ m := by
        have h1 := for_most L2 q (m : Int)
        rw [hF, hf, HM.out] at h1
        exact h1
      have hf30 : f ≤ 30 - told := by
        have h1 := left_len HS2.out.at_.good q (m : Int)
        have h2 := HT2.out.ln
        have h3 := HKL.out
        rw [hF, hf] at h1
        omega
      clear hcA hF hf
      by_cases hf0 : f = 0
      · subst hf0
        have HEN := Lib.hid (HT2.out.end_ HIL.out HQ.out (for_none (most := (m : Int)) (by omega) (by rw [HF.out]; exact HFL.out)))
        have HTR := Lib.hid (show told = r by rw [HEN.out.2]; exact HKL.out)
        obtain rfl := HTR.out
        go_wp2_with (go_at_call 19; (with_reducible refine kf.mono ?_); rintro e w9 ⟨v9, rfl, hR9, hb9⟩; (obtain ⟨af, cf, rfl⟩ := hR9.slice); (rw [HFL.out]); (have HS9 := Lib.hid (HS2.out.later hb9)); clear hb9 hR9 kf)
        go_roundw
        case rel => exact ⟨i + 1, L2, by omega, by go_num, HS9, Lib.hid HEN.out.1⟩
        case measure => simp [intOf]; omega
      · have hfz : ¬ (f : Int) = 0 := by omega
        have hfz2 : ((f : Int) == 0) = false := by simpa using hf0
        have hfm2 : ¬ (m : Int) < (f : Int) := by omega
        have HTA := Lib.hid (HT2.out.ack HAD.out HIL.out HQ.out (most := (m : Int)) HS2.out.at_.good)
        have hac := ack_count HS2.out.at_.good q (m : Int)
        rw [HF.out, HFL.out] at HTA hac
        have HC1 := Lib.hid (show ((L2.length : Nat) : Int) - ((ackL L2 q F).length : Int) = (f : Int) by omega)
        have HC2 := Lib.hid (show (((ackL L2 q F).length : Nat) : Int) - ((ackL (ackL L2 q F) q F).length : Int) = 0 by rw [ack_twice]; omega)
        have HFB := Lib.hid (show ∀ p ∈ F, Hk.big ⟨p, q⟩ from fun p hp => (HS2.out.at_.good.fine _ (of_mem.1 (for_mem (by rw [HF.out]; exact hp)))).big)
        have HFK := Lib.hid (show ∀ p ∈ F, p ∈ K from fun p hp => HT2.out.sub p (for_mem (by rw [HF.out]; exact hp)))
        have kak : ∀ (W : World) (LL : List Hk) (af : Option Addr) (cf : Nat), HiAt W w1.heap.size b (some mm) 600 LL → Pts W W.heap.size af F → Calls Try.prog 12 #[.pointer (some ⟨b, 0, none⟩), .int .i64 q, .slice af f cf] W (AckDone W w1.heap.size b (some mm) 600 LL q F) := fun W LL af cf h hS => by
          have := ack_is h q af cf F hS (by rw [HFL.out]; omega) HFB.out
          rw [HFL.out] at this
          exact this
        clear hac
        go_wp2_with (first
          | (go_at_call 12; (with_reducible refine (kak _ _ _ _ HS10.out.at_ HF10.out.pts).mono ?_); rintro e w11 ⟨rfl, hH11, hg11⟩; (rw [HC2.out]); (rw [ack_twice] at hH11); (have HS11 := Lib.hid (HS10.out.map HBB.out hH11 hg11)); (have HF11 := Lib.hid (prow_map HF10.out HS10.out.at_ hg11)); (have z0 := irow_at' HS11.out.all HIL.out HQ.out); clear hH11 hg11)
          | (go_at_call 12; (with_reducible refine (kak _ _ _ _ HS9.out.at_ HF9.out.pts).mono ?_); rintro e w10 ⟨rfl, hH10, hg10⟩; (rw [HC1.out]); (have HS10 := Lib.hid (HS9.out.map HBB.out hH10 hg10)); (have HF10 := Lib.hid (prow_map HF9.out HS9.out.at_ hg10)); (have z0 := irow_at' HS10.out.all HIL.out HQ.out); clear hH10 hg10)
          | (go_at_call 19; (with_reducible refine kf.mono ?_); rintro e w9 ⟨v9, rfl, hR9, hb9⟩; (obtain ⟨af, cf, rfl⟩ := hR9.slice); (rw [HFL.out]); (rw [HFL.out] at hR9); (have HS9 := Lib.hid (HS2.out.later hb9)); (have HF9 := Lib.hid (show PRow w9 w8.heap.size (.slice af f cf) F from hR9)); (have z0 := irow_at' HS9.out.all HIL.out HQ.out); clear hb9 hR9 kf))
        go_loopw [21, 22, 23] (fun s21 _ _ wr => ∃ (j : Nat), j ≤ f ∧ s21 = .int .i64 (j : Int) ∧ Hid (HaS w wr w1.heap.size b mm AL (.slice (some ⟨gA, 0, none⟩) n cn) (.slice ak r ck) K (ackL L2 q F)) ∧ Hid (PRow wr w8.heap.size (.slice af f cf) F)) (fun s21 _ _ _ => f - (intOf s21).toNat)
        case atStart => exact ⟨0, by omega, rfl, HS11, HF11⟩
        case round =>
          obtain ⟨j, hj, rfl, HS3, HF3⟩ := hrel
          obtain ⟨w12, hw12⟩ : ∃ x, x = wr := ⟨_, rfl⟩
          subst hw12
          clear HS9 HS10 HS11 HF9 HF10 HF11 z0
          by_cases hjf : j < f
          · have hjf2 : (j : Int) < (f : Int) := by omega
            have hjF : j < F.length := by rw [HFL.out]; exact hjf
            have HJF := Lib.hid hjF
            obtain ⟨s, hsF⟩ : ∃ s, s = F[j] := ⟨_, rfl⟩
            have HSF := Lib.hid hsF
            have HSK := Lib.hid (show s ∈ K by rw [hsF]; exact HFK.out _ (List.getElem_mem hjF))
            clear hsF hjF
            go_wp2
            go_loopw [22, 23] (fun s22 s23 wr => ∃ (k : Nat) (had : Bool), k ≤ r ∧ s22 = .bool had ∧ s23 = .int .i64 (k : Int) ∧ Hid (had = decide (s ∈ K.take k)) ∧ Hid (HaS w wr w1.heap.size b mm AL (.slice (some ⟨gA, 0, none⟩) n cn) (.slice ak r ck) K (ackL L2 q F)) ∧ Hid (PRow wr w8.heap.size (.slice af f cf) F)) (fun _ s23 _ => r - (intOf s23).toNat)
            case atStart => exact ⟨0, false, by omega, rfl, rfl, Lib.hid (by simp), HS3, HF3⟩
            case round =>
              obtain ⟨k, had, hk, rfl, rfl, HH, HS4, HF4⟩ := hrel
              obtain ⟨w13, hw13⟩ : ∃ x, x = wr := ⟨_, rfl⟩
              subst hw13
              clear HS3 HF3
              by_cases hkr : k < r
              · have hkr2 : (k : Int) < (r : Int) := by omega
                have hkK : k < K.length := by rw [HKL.out]; exact hkr
                have HIT := Lib.hid (in_take K s hkK)
                rw [← HH.out] at HIT
                rcases HS4.out.kept.pts.at_ with he | ⟨g2, off2, rfl, hg2, hc2⟩
                · rw [he] at hkK; simp at hkK
                · obtain ⟨x, hxK⟩ : ∃ x, x = K[k] := ⟨_, rfl⟩
                  have hx : PtO w13 g2 (off2 + k * 6) x := by rw [hxK]; exact hc2 k hkK
                  have HIT2 : Hid (decide (s ∈ K.take (k + 1)) = (had || x.same s)) := Lib.hid (by rw [HIT.out, hxK])
                  rcases HF4.out.pts.at_ with he | ⟨g3, off3, rfl, hg3, hc3⟩
                  · have := HJF.out; rw [he] at this; simp at this
                  · have hs : PtO w13 g3 (off3 + j * 6) s := by rw [HSF.out]; exact hc3 j HJF.out
                    obtain ⟨y0, y1, y2, y3, y4, y5⟩ := hx
                    obtain ⟨u0, u1, u2, u3, u4, u5⟩ := hs
                    clear hc2 hxK hkK HIT hc3
                    cases had with
                    | true =>
                      go_wp2_with fail
                      go_quiet (fail)
                      go_wp2
                      go_roundw
                      case rel => exact ⟨k + 1, true, by omega, rfl, by go_num, Lib.hid (by rw [HIT2.out]; rfl), Lib.hid (HS4.out.later (below_drewN (Below.refl _ _) _)), Lib.hid (PRow.later HF4.out (below_drewN (Below.refl w13.heap.size w13) _))⟩
                      case measure => simp [intOf]; omega
                    | false =>
                      have hq2 := fun W => eql_run6 x s W
                      unfold ptV at hq2
                      obtain ⟨e2, he2⟩ : ∃ e2, x.same s = e2 := ⟨_, rfl⟩
                      rw [he2] at hq2 HIT2
                      clear he2
                      go_wp2_with fail
                      go_quiet (fail)
                      go_wp2
                      go_roundw
                      case rel => exact ⟨k + 1, e2, by omega, rfl, by go_num, Lib.hid (by rw [HIT2.out]; rfl), Lib.hid (HS4.out.later (below_drewN (Below.refl _ _) _)), Lib.hid (PRow.later HF4.out (below_drewN (Below.refl w13.heap.size w13) _))⟩
                      case measure => simp [intOf]; omega
              · obtain rfl : k = r := by omega
                have hkr2 : ¬ (k : Int) < (k : Int) := by omega
                obtain rfl : had = true := by
                  rw [HH.out, List.take_of_length_le (by rw [HKL.out]; exact Nat.le_refl _)]
                  exact decide_eq_true HSK.out
                clear HH hkr hk
                go_wp2
                go_roundw
                case rel => exact ⟨j + 1, by omega, by go_num, HS4, HF4⟩
                case measure => simp [intOf]; omega
          · obtain rfl : j = f := by omega
            have hjf2 : ¬ (j : Int) < (j : Int) := by omega
            clear hjf hj
            go_wp2
            go_roundw
            case rel => exact ⟨turn + 1, told + j, _, by omega, by go_num, by go_num, HS3, HTA⟩
            case measure => simp [intOf]; omega
  · obtain rfl : i = n := by omega
    have hin2 : ¬ (i : Int) < (i : Int) := by omega
    have h0 := HOU.out.none_ (by rw [HN.out]; exact Nat.le_refl _)
    subst h0
    have kln := len_is HS.out.at_
    have knd := nodes_some HS.out.at_
    rw [nodesH_nil] at knd
    clear hin hi
    go_wp2_with (first
      | (go_at_call 24; (with_reducible refine knd.mono ?_); rintro e w8 ⟨v8, rfl, hR8, hb8⟩; (obtain ⟨a8, c8, rfl⟩ := hR8.slice); (have HB8 := Lib.hid (bel_next HS.out.bel hb8)); clear hb8 hR8)
      | (go_at_call 25; (with_reducible refine kln.mono ?_); rintro e w7 ⟨rfl, rfl⟩))
    go_ret
    exact ⟨rfl, HB8.out⟩
end hintHands
end Go.Proofs.Ytolmhlfegllfoaa.Qu.Hi
