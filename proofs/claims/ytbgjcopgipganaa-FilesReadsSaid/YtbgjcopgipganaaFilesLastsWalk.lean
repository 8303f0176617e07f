/- The walk of FilesLasts. -/
import Derived.Test.YtbgjcopgipganaaFilesLastsMath
set_option maxRecDepth 20000
set_option linter.unusedSimpArgs false
set_option linter.unusedVariables false
namespace Go.Proofs.Ytbgjcopgipganaa
open Go.RowKit Go.Maps Go.Shelf

theorem One.picks {w0 w : World} {b : Nat} {S : FS} {L : Lay} {v : Value} {l : List Int} (h : One w0 w b S L) (hI : Is w0 v l) : ∀ W, Frm (mods b S L) w W → Is W v l := fun W k =>
  hI.keep (fun bb off _ hb => (k.block bb (Nat.lt_of_lt_of_le hb h.bel.size) (fun hm => by have := h.lo bb hm; omega)).trans (h.bel.block bb hb)) (Nat.le_trans h.bel.size k.size)
theorem lb_2n {q r : Nat} (hq : q ≠ r) (s : ByteArray) (k : Nat) (h : s.size ≤ 99000) : appendS (LB0 q r s k ⟨#[]⟩ 0) TB NEW3 = (0, LB0 q r s k NEW3 0) := by
  rw [lb_2 hq s k h]; rfl
theorem fresh_ne {w : World} {b q r k : Nat} {s : ByteArray} {L : Lay} (h : FsAt w b (LA q s k) L) (hr : w.heap.size ≤ r) : q ≠ r := fun e => by
  have := h.fresh_id hr
  exact this (by rw [← e]; unfold ids LA; simp)
theorem pick_first {l : List Int} (x : Int) (h : l[0]? = some x) : (pickI l 0 1 : Int) = Int.tmod (absI x) 2 := by
  have h1 : 0 ≤ absI x := by unfold absI; split <;> omega
  unfold pickI
  rw [h, Int.tmod_eq_emod_of_nonneg h1]
  dsimp only
  have := Int.emod_nonneg (absI x) (show (2 : Int) ≠ 0 by decide)
  show ((absI x % (((1 : Nat) : Int) + 1)).toNat : Int) = _
  rw [show (((1 : Nat) : Int) + 1) = 2 from rfl]
  omega
namespace filesLasts
set_option maxHeartbeats 16000000 in
theorem walk (a0 : Option Addr) (n0 c0 : Nat) (a1 : Option Addr) (n1 c1 : Nat) (a2 : Option Addr) (n2 c2 : Nat) (w : World) (h0 : ArgStrs w a0 n0 c0) (h1 : ArgStrs w a1 n1 c1) (h2 : ArgInts w a2 n2 c2) : Calls Try.prog 4 #[.slice a0 n0 c0, .slice a1 n1 c1, .slice a2 n2 c2] w fun e w' => e = .returned (.bool true) ∧ Below w.heap.size w w' := by
  obtain ⟨l0, e0, s0⟩ := ss_of_args h0
  obtain ⟨l1, e1, s1⟩ := ss_of_args h1
  obtain ⟨p, ep, sp⟩ := is_of_args h2
  have HS0 := Lib.hid s0
  have HS1 := Lib.hid s1
  have HSP := Lib.hid sp
  have HE0 := Lib.hid e0
  have HE1 := Lib.hid e1
  have HEP := Lib.hid ep
  have ka := awake_is w
  have kc := fun s w => short_is s (cutB s 100) 100 100 w rfl (by omega) (Lib.hid rfl)
  clear h0 h1 h2 s0 s1 sp e0 e1 ep
  go_enter Try.func4, Try.ntmps4
  go_wp2_with (first
    | (go_at_call 10; (with_reducible refine ka.mono ?_); rintro e w1 ⟨rfl, hB⟩; (have HB1 := Lib.hid hB); (have k2 := new_dir 100000 w1); clear hB ka)
    | (go_at_call 11; (with_reducible refine k2.mono ?_); rintro e w2 ⟨b, L2, rfl, hD, hB, hl⟩; (have hO : One w w2 b (emptyS 100000) L2 := ⟨hD.at_, fun i hi => Nat.le_trans HB1.out.size (hl i hi), bel_next HB1.out hB⟩); (have k3 := create_dir (S := emptyS 100000) TA hD (by decide) ta_len); (have HO2 := Lib.hid hO); clear hD hB hl k2 hO HB1)
    | (go_at_call 14; (with_reducible refine k3.mono ?_); rintro e w3 ⟨q, hq, L3, rfl, hW, hD⟩; (rw [la_1] at hW hD); (rw [la_1]); (have k4 := syncdir_dir hD); (rw [la_2] at k4); (have HO3 := Lib.hid (HO2.out.turn hW)); clear hq hW hD k3 HO2)
    | (go_at_call 22; (with_reducible refine k4.mono ?_); rintro e w4 ⟨L4, rfl, hW, hD⟩; (have HO4 := Lib.hid (HO3.out.turn hW)); (have HD4 := Lib.hid hD); clear hW hD k4 HO3))
  go_loopg [9, 10] 5 (fun g fv ii wr => ∃ i : Nat, i + g = 5 ∧ ii = .int .i64 (i : Int) ∧ ∃ f L, fv = .string f ∧ f.size ≤ 100 * i ∧ One w wr b (LA q f 0) L ∧ Dir wr b (LA q f 0) L)
  case atStart => exact ⟨0, by omega, rfl, ⟨#[]⟩, L4, rfl, Nat.le_refl _, HO4.out, HD4.out⟩
  case round =>
    obtain ⟨i, hi, rfl, f, L, rfl, hfs, hO, hD⟩ := hrel
    have HO := Lib.hid hO
    have HD := Lib.hid hD
    clear hO hD HO4 HD4
    by_cases hin : i < n0
    · have hin' : (i : Int) < (n0 : Int) := by omega
      by_cases h5 : i < 5
      · have h5' : (i : Int) < 5 := by omega
        cases gk with
        | zero => exact absurd h5 (by omega)
        | succ g =>
          have hil : i < l0.length := by rw [HE0.out]; exact hin
          obtain ⟨bb, off, rfl, hc⟩ := (show Ss wr (.slice a0 l0.length c0) l0 from by rw [HE0.out]; exact HS0.out.later HO.out.bel).cell (by omega)
          have cc := hc i hil
          obtain ⟨x, hx⟩ : ∃ x, l0[i] = x := ⟨_, rfl⟩
          rw [hx] at cc
          clear hc hx
          have kx := kc x wr
          have hts := cutB_size x 100
          obtain ⟨t, ht⟩ : ∃ t, cutB x 100 = t := ⟨_, rfl⟩
          rw [ht] at kx hts
          clear ht
          have kap := append_dir TA t HD.out ta_len (by omega)
          rw [la_app q f t 0 (by omega)] at kap
          go_wp2_with (first
            | (go_at_call 13; (with_reducible refine kx.mono ?_); rintro e w5 ⟨rfl, rfl⟩)
            | (go_at_call 30; (with_reducible refine kap.mono ?_); rintro e w6 ⟨L6, rfl, hW, hD6⟩; (have HO6 := Lib.hid (HO.out.turn hW)); (have HD6 := Lib.hid hD6); clear hW hD6 kap))
          go_roundg g
          case measure => omega
          case rel => exact ⟨i + 1, by omega, by go_num, f ++ t, L6, rfl, by rw [ByteArray.size_append]; omega, HO6.out, HD6.out⟩
      · have h5' : ¬ (i : Int) < 5 := by omega
        have hf5 : f.size ≤ 500 := by omega
        clear hi h5 hin
        have ks := sync_dir TA HD.out ta_len
        rw [la_sync] at ks
        go_wp2_with (go_at_call 16; (with_reducible refine ks.mono ?_); rintro e w7 ⟨L7, rfl, hW, hD7⟩; (have HO7 := Lib.hid (HO.out.turn hW)); (have HD7 := Lib.hid hD7); clear hW hD7 ks)
        clear HO HD
        go_loopg [12, 13] 5 (fun g fv ii wr => ∃ j : Nat, j + g = 5 ∧ ii = .int .i64 (j : Int) ∧ ∃ s L, fv = .string s ∧ f.size ≤ s.size ∧ s.size ≤ 500 + 100 * j ∧ One w wr b (LA q s f.size) L ∧ Dir wr b (LA q s f.size) L)
        case atStart => exact ⟨0, by omega, rfl, f, L7, rfl, Nat.le_refl _, by omega, HO7.out, HD7.out⟩
        case round =>
          obtain ⟨j, hj, rfl, s, L, rfl, hfl, hss, hO, hD⟩ := hrel
          have HO := Lib.hid hO
          have HD := Lib.hid hD
          clear hO hD HO7 HD7
          by_cases hjn : j < n1
          · have hjn' : (j : Int) < (n1 : Int) := by omega
            by_cases h5j : j < 5
            · have h5j' : (j : Int) < 5 := by omega
              cases gk with
              | zero => exact absurd h5j (by omega)
              | succ g =>
                have hil : j < l1.length := by rw [HE1.out]; exact hjn
                obtain ⟨bb, off, rfl, hc⟩ := (show Ss wr (.slice a1 l1.length c1) l1 from by rw [HE1.out]; exact HS1.out.later HO.out.bel).cell (by omega)
                have cc := hc j hil
                obtain ⟨x, hx⟩ : ∃ x, l1[j] = x := ⟨_, rfl⟩
                rw [hx] at cc
                clear hc hx
                have kx := kc x wr
                have hts := cutB_size x 100
                obtain ⟨t, ht⟩ : ∃ t, cutB x 100 = t := ⟨_, rfl⟩
                rw [ht] at kx hts
                clear ht
                have kap := append_dir TA t HD.out ta_len (by omega)
                rw [la_app q s t f.size (by omega)] at kap
                go_wp2_with (first
                  | (go_at_call 13; (with_reducible refine kx.mono ?_); rintro e w5 ⟨rfl, rfl⟩)
                  | (go_at_call 30; (with_reducible refine kap.mono ?_); rintro e w6 ⟨L6, rfl, hW, hD6⟩; (have HO6 := Lib.hid (HO.out.turn hW)); (have HD6 := Lib.hid hD6); clear hW hD6 kap))
                go_roundg g
                case measure => omega
                case rel => exact ⟨j + 1, by omega, by go_num, s ++ t, L6, rfl, by rw [ByteArray.size_append]; omega, by rw [ByteArray.size_append]; omega, HO6.out, HD6.out⟩
            · have h5j' : ¬ (j : Int) < 5 := by omega
              clear h5j hjn
              have hs9 : s.size ≤ 99000 := by omega
              clear hj
              have kb := create_dir TB HD.out (by show 0 ≤ 1000000; decide) tb_len
              cases p with
              | nil =>
                have hn2 : n2 = 0 := by have := HEP.out; simp at this; omega
                subst hn2
                have hz : ¬ (0 : Int) < 0 := by decide
                have hpk : pickI [] 0 1 = 0 := rfl
                have hmod : Int.tmod 0 2 = 0 := rfl
                have hlt0 : ¬ (0 : Int) < 0 := by decide
                go_wp2_with (first
                  | (go_at_call 14; (with_reducible refine kb.mono ?_); rintro e w8 ⟨r, hr, L8, rfl, hW, hD8⟩; (have HNE := Lib.hid (fresh_ne HD.out.at_ hr)); (rw [lb_1] at hW hD8); (have k9 := append_dir TB NEW3 hD8 tb_len (by decide)); (rw [lb_2n HNE.out s f.size hs9] at k9); (have HO8 := Lib.hid (HO.out.turn hW)); clear hW hD8 hr kb)
                  | (go_at_call 30; (with_reducible refine k9.mono ?_); rintro e w9 ⟨L9, rfl, hW, hD9⟩; (have k10 := sync_dir TB hD9 tb_len); (rw [lb_3 HNE.out] at k10); (have HO9 := Lib.hid (HO8.out.turn hW)); clear hW hD9 k9 HO8)
                  | (go_at_call 16; (with_reducible refine k10.mono ?_); rintro e w10 ⟨L10, rfl, hW, hD10⟩; (have HO10 := Lib.hid (HO9.out.turn hW)); (have hD10' : Dir w10 b (LB0 q r s f.size NEW3 3) L10 := hD10); (have k11 := crash_dir (.slice a2 0 c2) [] hD10'.at_ hD10'.whole (by show 1 ≤ 1000000; decide) (HO10.out.picks HSP.out)); clear hW hD10 hD10' k10 HO9)
                  | (go_at_call 24; go_loud ((with_reducible refine k11.mono ?_); rintro e w11 ⟨L11, rfl, hW, hD11⟩; (have HO11 := Lib.hid (HO10.out.turn hW)); (have HD11 := Lib.hid hD11); (obtain ⟨m, hm1, hm2, ra, rb⟩ := lb_4 HNE.out s f.size [] hfl); (rw [hpk, if_neg (by decide)] at rb); (have k12 := read_is b _ L11 TA w11 hD11.at_ hD11.whole.sane ta_len); (rw [ra] at k12); (have HXB := Lib.hid rb); (have hus : (s.extract 0 m).size = m := by rw [ByteArray.size_extract]; omega); (obtain ⟨u, hu⟩ : ∃ u, s.extract 0 m = u := ⟨_, rfl⟩); (rw [hu] at k12 hus); (subst hus); (have g1 : (f.size : Int) ≤ (u.size : Int) := by omega); (have g2 : (u.size : Int) ≤ (s.size : Int) := by omega); clear hW hD11 k11 HO10 ra rb))
                  | (go_at_call 32; (with_reducible refine k12.mono ?_); rintro e w12 ⟨rfl, hB⟩; (have HO12 := Lib.hid (HO11.out.below hB)); (have k13 := read_is b _ L11 TB w12 HO12.out.at_ HD11.out.whole.sane tb_len); (rw [HXB.out] at k13); clear hB k12 HO11)
                  | (go_at_call 32; (with_reducible refine k13.mono ?_); rintro e w13 ⟨rfl, hB⟩; (have HO13 := Lib.hid (HO12.out.below hB)); clear hB k13 HO12))
                go_ret
                exact ⟨rfl, HO13.out.bel⟩
              | cons x pt =>
                have hz : (0 : Int) < (n2 : Int) := by have := HEP.out; simp at this; omega
                have hzn : 0 < n2 := by omega
                have hxw := HSP.out.wide x List.mem_cons_self
                have hpx := pick_first (l := x :: pt) x rfl
                have hHI := (show Is wr (.slice a2 (x :: pt).length c2) (x :: pt) from by rw [HEP.out]; exact HSP.out.later HO.out.bel)
                obtain ⟨bp, offp, rfl, hcp⟩ := hHI.cell (by simp)
                have HCP := Lib.hid (show ∃ bq offq, (some (⟨bp, offp, none⟩ : Addr)) = some ⟨bq, offq, none⟩ ∧ bq < w.heap.size ∧ w.cell? ⟨bq, offq, none⟩ = some (.int .i64 x) from by
                  obtain ⟨b9, o9, e9, hc9⟩ := HSP.out.cell0 (by have := HEP.out; simp at this; omega)
                  exact ⟨b9, o9, e9, hc9⟩)
                clear hHI hcp
                have hx1 : IntKind.i64.wrap (x + 1) = x + 1 ∨ ¬ x < 0 := by
                  by_cases hx0 : x < 0
                  · exact Or.inl (by rw [IntKind.wrap_i64]; omega)
                  · exact Or.inr hx0
                by_cases hneg : x < 0
                · have hx2 : IntKind.i64.wrap (x + 1) = x + 1 := by rw [IntKind.wrap_i64]; omega
                  have hx3 : IntKind.i64.wrap (-(x + 1)) = -(x + 1) := by rw [IntKind.wrap_i64]; omega
                  have hpx' : (pickI (x :: pt) 0 1 : Int) = Int.tmod (-(x + 1)) 2 := by rw [hpx]; unfold absI; rw [if_pos hneg]
                  have hpl := pickI_le (x :: pt) 0 1
                  obtain ⟨pk, hpk⟩ : ∃ pk, pickI (x :: pt) 0 1 = pk := ⟨_, rfl⟩
                  rw [hpk] at hpx' hpl
                  have hmod : Int.tmod (-(x + 1)) 2 = (pk : Int) := hpx'.symm
                  have hmw : IntKind.i64.wrap (pk : Int) = (pk : Int) := by rw [IntKind.wrap_i64]; omega
                  clear hpx hpx' hx1
                  match pk, hpl with
                  | 0, _ =>
                    go_wp2_with (first
                      | (go_at_call 14; (with_reducible refine kb.mono ?_); rintro e w8 ⟨r, hr, L8, rfl, hW, hD8⟩; (have HNE := Lib.hid (fresh_ne HD.out.at_ hr)); (rw [lb_1] at hW hD8); (have k9 := append_dir TB NEW3 hD8 tb_len (by decide)); (rw [lb_2n HNE.out s f.size hs9] at k9); (have HO8 := Lib.hid (HO.out.turn hW)); clear hW hD8 hr kb)
                      | (go_at_call 30; (with_reducible refine k9.mono ?_); rintro e w9 ⟨L9, rfl, hW, hD9⟩; (have k10 := sync_dir TB hD9 tb_len); (rw [lb_3 HNE.out] at k10); (have HO9 := Lib.hid (HO8.out.turn hW)); clear hW hD9 k9 HO8)
                      | (go_at_call 16; (with_reducible refine k10.mono ?_); rintro e w10 ⟨L10, rfl, hW, hD10⟩; (have HO10 := Lib.hid (HO9.out.turn hW)); (have hD10' : Dir w10 b (LB0 q r s f.size NEW3 3) L10 := hD10); (have k11 := crash_dir (.slice (some ⟨bp, offp, none⟩) n2 c2) (x :: pt) hD10'.at_ hD10'.whole (by show 1 ≤ 1000000; decide) (HO10.out.picks HSP.out)); (obtain ⟨bq, offq, eq1, hbq, hcq⟩ := HCP.out); (injection eq1 with eq1; injection eq1 with eq1 eq2; subst eq1 eq2); (have hcx : w10.cell? ⟨bp, offp, none⟩ = some (.int .i64 x) := (HO10.out.bel.cell (p := ⟨bp, offp, none⟩) hbq).trans hcq); clear hcq; clear hW hD10 hD10' k10 HO9)
                      | (go_at_call 24; go_loud ((with_reducible refine k11.mono ?_); rintro e w11 ⟨L11, rfl, hW, hD11⟩; (have HO11 := Lib.hid (HO10.out.turn hW)); (have HD11 := Lib.hid hD11); (obtain ⟨m, hm1, hm2, ra, rb⟩ := lb_4 HNE.out s f.size (x :: pt) hfl); (rw [hpk, if_neg (by decide)] at rb); (have k12 := read_is b _ L11 TA w11 hD11.at_ hD11.whole.sane ta_len); (rw [ra] at k12); (have HXB := Lib.hid rb); (have hus : (s.extract 0 m).size = m := by rw [ByteArray.size_extract]; omega); (obtain ⟨u, hu⟩ : ∃ u, s.extract 0 m = u := ⟨_, rfl⟩); (rw [hu] at k12 hus); (subst hus); (have g1 : (f.size : Int) ≤ (u.size : Int) := by omega); (have g2 : (u.size : Int) ≤ (s.size : Int) := by omega); clear hW hD11 k11 HO10 ra rb))
                      | (go_at_call 32; (with_reducible refine k12.mono ?_); rintro e w12 ⟨rfl, hB⟩; (have HO12 := Lib.hid (HO11.out.below hB)); (have k13 := read_is b _ L11 TB w12 HO12.out.at_ HD11.out.whole.sane tb_len); (rw [HXB.out] at k13); clear hB k12 HO11)
                      | (go_at_call 32; (with_reducible refine k13.mono ?_); rintro e w13 ⟨rfl, hB⟩; (have HO13 := Lib.hid (HO12.out.below hB)); clear hB k13 HO12))
                    go_ret
                    exact ⟨rfl, HO13.out.bel⟩
                  | 1, _ =>
                    go_wp2_with (first
                      | (go_at_call 14; (with_reducible refine kb.mono ?_); rintro e w8 ⟨r, hr, L8, rfl, hW, hD8⟩; (have HNE := Lib.hid (fresh_ne HD.out.at_ hr)); (rw [lb_1] at hW hD8); (have k9 := append_dir TB NEW3 hD8 tb_len (by decide)); (rw [lb_2n HNE.out s f.size hs9] at k9); (have HO8 := Lib.hid (HO.out.turn hW)); clear hW hD8 hr kb)
                      | (go_at_call 30; (with_reducible refine k9.mono ?_); rintro e w9 ⟨L9, rfl, hW, hD9⟩; (have k10 := sync_dir TB hD9 tb_len); (rw [lb_3 HNE.out] at k10); (have HO9 := Lib.hid (HO8.out.turn hW)); clear hW hD9 k9 HO8)
                      | (go_at_call 16; (with_reducible refine k10.mono ?_); rintro e w10 ⟨L10, rfl, hW, hD10⟩; (have HO10 := Lib.hid (HO9.out.turn hW)); (have hD10' : Dir w10 b (LB0 q r s f.size NEW3 3) L10 := hD10); (have k11 := crash_dir (.slice (some ⟨bp, offp, none⟩) n2 c2) (x :: pt) hD10'.at_ hD10'.whole (by show 1 ≤ 1000000; decide) (HO10.out.picks HSP.out)); (obtain ⟨bq, offq, eq1, hbq, hcq⟩ := HCP.out); (injection eq1 with eq1; injection eq1 with eq1 eq2; subst eq1 eq2); (have hcx : w10.cell? ⟨bp, offp, none⟩ = some (.int .i64 x) := (HO10.out.bel.cell (p := ⟨bp, offp, none⟩) hbq).trans hcq); clear hcq; clear hW hD10 hD10' k10 HO9)
                      | (go_at_call 24; go_loud ((with_reducible refine k11.mono ?_); rintro e w11 ⟨L11, rfl, hW, hD11⟩; (have HO11 := Lib.hid (HO10.out.turn hW)); (have HD11 := Lib.hid hD11); (obtain ⟨m, hm1, hm2, ra, rb⟩ := lb_4 HNE.out s f.size (x :: pt) hfl); (rw [hpk, if_pos rfl] at rb); (have k12 := read_is b _ L11 TA w11 hD11.at_ hD11.whole.sane ta_len); (rw [ra] at k12); (have HXB := Lib.hid rb); (have hus : (s.extract 0 m).size = m := by rw [ByteArray.size_extract]; omega); (obtain ⟨u, hu⟩ : ∃ u, s.extract 0 m = u := ⟨_, rfl⟩); (rw [hu] at k12 hus); (subst hus); (have g1 : (f.size : Int) ≤ (u.size : Int) := by omega); (have g2 : (u.size : Int) ≤ (s.size : Int) := by omega); clear hW hD11 k11 HO10 ra rb))
                      | (go_at_call 32; (with_reducible refine k12.mono ?_); rintro e w12 ⟨rfl, hB⟩; (have HO12 := Lib.hid (HO11.out.below hB)); (have k13 := read_is b _ L11 TB w12 HO12.out.at_ HD11.out.whole.sane tb_len); (rw [HXB.out] at k13); clear hB k12 HO11)
                      | (go_at_call 32; (with_reducible refine k13.mono ?_); rintro e w13 ⟨rfl, hB⟩; (have HO13 := Lib.hid (HO12.out.below hB)); clear hB k13 HO12))
                    go_ret
                    exact ⟨rfl, HO13.out.bel⟩
                · have hpx' : (pickI (x :: pt) 0 1 : Int) = Int.tmod x 2 := by rw [hpx]; unfold absI; rw [if_neg hneg]
                  have hpl := pickI_le (x :: pt) 0 1
                  obtain ⟨pk, hpk⟩ : ∃ pk, pickI (x :: pt) 0 1 = pk := ⟨_, rfl⟩
                  rw [hpk] at hpx' hpl
                  have hmod : Int.tmod x 2 = (pk : Int) := hpx'.symm
                  have hmw : IntKind.i64.wrap (pk : Int) = (pk : Int) := by rw [IntKind.wrap_i64]; omega
                  clear hpx hpx' hx1
                  match pk, hpl with
                  | 0, _ =>
                    go_wp2_with (first
                      | (go_at_call 14; (with_reducible refine kb.mono ?_); rintro e w8 ⟨r, hr, L8, rfl, hW, hD8⟩; (have HNE := Lib.hid (fresh_ne HD.out.at_ hr)); (rw [lb_1] at hW hD8); (have k9 := append_dir TB NEW3 hD8 tb_len (by decide)); (rw [lb_2n HNE.out s f.size hs9] at k9); (have HO8 := Lib.hid (HO.out.turn hW)); clear hW hD8 hr kb)
                      | (go_at_call 30; (with_reducible refine k9.mono ?_); rintro e w9 ⟨L9, rfl, hW, hD9⟩; (have k10 := sync_dir TB hD9 tb_len); (rw [lb_3 HNE.out] at k10); (have HO9 := Lib.hid (HO8.out.turn hW)); clear hW hD9 k9 HO8)
                      | (go_at_call 16; (with_reducible refine k10.mono ?_); rintro e w10 ⟨L10, rfl, hW, hD10⟩; (have HO10 := Lib.hid (HO9.out.turn hW)); (have hD10' : Dir w10 b (LB0 q r s f.size NEW3 3) L10 := hD10); (have k11 := crash_dir (.slice (some ⟨bp, offp, none⟩) n2 c2) (x :: pt) hD10'.at_ hD10'.whole (by show 1 ≤ 1000000; decide) (HO10.out.picks HSP.out)); (obtain ⟨bq, offq, eq1, hbq, hcq⟩ := HCP.out); (injection eq1 with eq1; injection eq1 with eq1 eq2; subst eq1 eq2); (have hcx : w10.cell? ⟨bp, offp, none⟩ = some (.int .i64 x) := (HO10.out.bel.cell (p := ⟨bp, offp, none⟩) hbq).trans hcq); clear hcq; clear hW hD10 hD10' k10 HO9)
                      | (go_at_call 24; go_loud ((with_reducible refine k11.mono ?_); rintro e w11 ⟨L11, rfl, hW, hD11⟩; (have HO11 := Lib.hid (HO10.out.turn hW)); (have HD11 := Lib.hid hD11); (obtain ⟨m, hm1, hm2, ra, rb⟩ := lb_4 HNE.out s f.size (x :: pt) hfl); (rw [hpk, if_neg (by decide)] at rb); (have k12 := read_is b _ L11 TA w11 hD11.at_ hD11.whole.sane ta_len); (rw [ra] at k12); (have HXB := Lib.hid rb); (have hus : (s.extract 0 m).size = m := by rw [ByteArray.size_extract]; omega); (obtain ⟨u, hu⟩ : ∃ u, s.extract 0 m = u := ⟨_, rfl⟩); (rw [hu] at k12 hus); (subst hus); (have g1 : (f.size : Int) ≤ (u.size : Int) := by omega); (have g2 : (u.size : Int) ≤ (s.size : Int) := by omega); clear hW hD11 k11 HO10 ra rb))
                      | (go_at_call 32; (with_reducible refine k12.mono ?_); rintro e w12 ⟨rfl, hB⟩; (have HO12 := Lib.hid (HO11.out.below hB)); (have k13 := read_is b _ L11 TB w12 HO12.out.at_ HD11.out.whole.sane tb_len); (rw [HXB.out] at k13); clear hB k12 HO11)
                      | (go_at_call 32; (with_reducible refine k13.mono ?_); rintro e w13 ⟨rfl, hB⟩; (have HO13 := Lib.hid (HO12.out.below hB)); clear hB k13 HO12))
                    go_ret
                    exact ⟨rfl, HO13.out.bel⟩
                  | 1, _ =>
                    go_wp2_with (first
                      | (go_at_call 14; (with_reducible refine kb.mono ?_); rintro e w8 ⟨r, hr, L8, rfl, hW, hD8⟩; (have HNE := Lib.hid (fresh_ne HD.out.at_ hr)); (rw [lb_1] at hW hD8); (have k9 := append_dir TB NEW3 hD8 tb_len (by decide)); (rw [lb_2n HNE.out s f.size hs9] at k9); (have HO8 := Lib.hid (HO.out.turn hW)); clear hW hD8 hr kb)
                      | (go_at_call 30; (with_reducible refine k9.mono ?_); rintro e w9 ⟨L9, rfl, hW, hD9⟩; (have k10 := sync_dir TB hD9 tb_len); (rw [lb_3 HNE.out] at k10); (have HO9 := Lib.hid (HO8.out.turn hW)); clear hW hD9 k9 HO8)
                      | (go_at_call 16; (with_reducible refine k10.mono ?_); rintro e w10 ⟨L10, rfl, hW, hD10⟩; (have HO10 := Lib.hid (HO9.out.turn hW)); (have hD10' : Dir w10 b (LB0 q r s f.size NEW3 3) L10 := hD10); (have k11 := crash_dir (.slice (some ⟨bp, offp, none⟩) n2 c2) (x :: pt) hD10'.at_ hD10'.whole (by show 1 ≤ 1000000; decide) (HO10.out.picks HSP.out)); (obtain ⟨bq, offq, eq1, hbq, hcq⟩ := HCP.out); (injection eq1 with eq1; injection eq1 with eq1 eq2; subst eq1 eq2); (have hcx : w10.cell? ⟨bp, offp, none⟩ = some (.int .i64 x) := (HO10.out.bel.cell (p := ⟨bp, offp, none⟩) hbq).trans hcq); clear hcq; clear hW hD10 hD10' k10 HO9)
                      | (go_at_call 24; go_loud ((with_reducible refine k11.mono ?_); rintro e w11 ⟨L11, rfl, hW, hD11⟩; (have HO11 := Lib.hid (HO10.out.turn hW)); (have HD11 := Lib.hid hD11); (obtain ⟨m, hm1, hm2, ra, rb⟩ := lb_4 HNE.out s f.size (x :: pt) hfl); (rw [hpk, if_pos rfl] at rb); (have k12 := read_is b _ L11 TA w11 hD11.at_ hD11.whole.sane ta_len); (rw [ra] at k12); (have HXB := Lib.hid rb); (have hus : (s.extract 0 m).size = m := by rw [ByteArray.size_extract]; omega); (obtain ⟨u, hu⟩ : ∃ u, s.extract 0 m = u := ⟨_, rfl⟩); (rw [hu] at k12 hus); (subst hus); (have g1 : (f.size : Int) ≤ (u.size : Int) := by omega); (have g2 : (u.size : Int) ≤ (s.size : Int) := by omega); clear hW hD11 k11 HO10 ra rb))
                      | (go_at_call 32; (with_reducible refine k12.mono ?_); rintro e w12 ⟨rfl, hB⟩; (have HO12 := Lib.hid (HO11.out.below hB)); (have k13 := read_is b _ L11 TB w12 HO12.out.at_ HD11.out.whole.sane tb_len); (rw [HXB.out] at k13); clear hB k12 HO11)
                      | (go_at_call 32; (with_reducible refine k13.mono ?_); rintro e w13 ⟨rfl, hB⟩; (have HO13 := Lib.hid (HO12.out.below hB)); clear hB k13 HO12))
                    go_ret
                    exact ⟨rfl, HO13.out.bel⟩
          · have hjn' : ¬ (j : Int) < (n1 : Int) := by omega
            clear hjn
            have hs9 : s.size ≤ 99000 := by omega
            clear hj
            have kb := create_dir TB HD.out (by show 0 ≤ 1000000; decide) tb_len
            cases p with
            | nil =>
              have hn2 : n2 = 0 := by have := HEP.out; simp at this; omega
              subst hn2
              have hz : ¬ (0 : Int) < 0 := by decide
              have hpk : pickI [] 0 1 = 0 := rfl
              have hmod : Int.tmod 0 2 = 0 := rfl
              have hlt0 : ¬ (0 : Int) < 0 := by decide
              go_wp2_with (first
                | (go_at_call 14; (with_reducible refine kb.mono ?_); rintro e w8 ⟨r, hr, L8, rfl, hW, hD8⟩; (have HNE := Lib.hid (fresh_ne HD.out.at_ hr)); (rw [lb_1] at hW hD8); (have k9 := append_dir TB NEW3 hD8 tb_len (by decide)); (rw [lb_2n HNE.out s f.size hs9] at k9); (have HO8 := Lib.hid (HO.out.turn hW)); clear hW hD8 hr kb)
                | (go_at_call 30; (with_reducible refine k9.mono ?_); rintro e w9 ⟨L9, rfl, hW, hD9⟩; (have k10 := sync_dir TB hD9 tb_len); (rw [lb_3 HNE.out] at k10); (have HO9 := Lib.hid (HO8.out.turn hW)); clear hW hD9 k9 HO8)
                | (go_at_call 16; (with_reducible refine k10.mono ?_); rintro e w10 ⟨L10, rfl, hW, hD10⟩; (have HO10 := Lib.hid (HO9.out.turn hW)); (have hD10' : Dir w10 b (LB0 q r s f.size NEW3 3) L10 := hD10); (have k11 := crash_dir (.slice a2 0 c2) [] hD10'.at_ hD10'.whole (by show 1 ≤ 1000000; decide) (HO10.out.picks HSP.out)); clear hW hD10 hD10' k10 HO9)
                | (go_at_call 24; go_loud ((with_reducible refine k11.mono ?_); rintro e w11 ⟨L11, rfl, hW, hD11⟩; (have HO11 := Lib.hid (HO10.out.turn hW)); (have HD11 := Lib.hid hD11); (obtain ⟨m, hm1, hm2, ra, rb⟩ := lb_4 HNE.out s f.size [] hfl); (rw [hpk, if_neg (by decide)] at rb); (have k12 := read_is b _ L11 TA w11 hD11.at_ hD11.whole.sane ta_len); (rw [ra] at k12); (have HXB := Lib.hid rb); (have hus : (s.extract 0 m).size = m := by rw [ByteArray.size_extract]; omega); (obtain ⟨u, hu⟩ : ∃ u, s.extract 0 m = u := ⟨_, rfl⟩); (rw [hu] at k12 hus); (subst hus); (have g1 : (f.size : Int) ≤ (u.size : Int) := by omega); (have g2 : (u.size : Int) ≤ (s.size : Int) := by omega); clear hW hD11 k11 HO10 ra rb))
                | (go_at_call 32; (with_reducible refine k12.mono ?_); rintro e w12 ⟨rfl, hB⟩; (have HO12 := Lib.hid (HO11.out.below hB)); (have k13 := read_is b _ L11 TB w12 HO12.out.at_ HD11.out.whole.sane tb_len); (rw [HXB.out] at k13); clear hB k12 HO11)
                | (go_at_call 32; (with_reducible refine k13.mono ?_); rintro e w13 ⟨rfl, hB⟩; (have HO13 := Lib.hid (HO12.out.below hB)); clear hB k13 HO12))
              go_ret
              exact ⟨rfl, HO13.out.bel⟩
            | cons x pt =>
              have hz : (0 : Int) < (n2 : Int) := by have := HEP.out; simp at this; omega
              have hzn : 0 < n2 := by omega
              have hxw := HSP.out.wide x List.mem_cons_self
              have hpx := pick_first (l := x :: pt) x rfl
              have hHI := (show Is wr (.slice a2 (x :: pt).length c2) (x :: pt) from by rw [HEP.out]; exact HSP.out.later HO.out.bel)
              obtain ⟨bp, offp, rfl, hcp⟩ := hHI.cell (by simp)
              have HCP := Lib.hid (show ∃ bq offq, (some (⟨bp, offp, none⟩ : Addr)) = some ⟨bq, offq, none⟩ ∧ bq < w.heap.size ∧ w.cell? ⟨bq, offq, none⟩ = some (.int .i64 x) from by
                obtain ⟨b9, o9, e9, hc9⟩ := HSP.out.cell0 (by have := HEP.out; simp at this; omega)
                exact ⟨b9, o9, e9, hc9⟩)
              clear hHI hcp
              have hx1 : IntKind.i64.wrap (x + 1) = x + 1 ∨ ¬ x < 0 := by
                by_cases hx0 : x < 0
                · exact Or.inl (by rw [IntKind.wrap_i64]; omega)
                · exact Or.inr hx0
              by_cases hneg : x < 0
              · have hx2 : IntKind.i64.wrap (x + 1) = x + 1 := by rw [IntKind.wrap_i64]; omega
                have hx3 : IntKind.i64.wrap (-(x + 1)) = -(x + 1) := by rw [IntKind.wrap_i64]; omega
                have hpx' : (pickI (x :: pt) 0 1 : Int) = Int.tmod (-(x + 1)) 2 := by rw [hpx]; unfold absI; rw [if_pos hneg]
                have hpl := pickI_le (x :: pt) 0 1
                obtain ⟨pk, hpk⟩ : ∃ pk, pickI (x :: pt) 0 1 = pk := ⟨_, rfl⟩
                rw [hpk] at hpx' hpl
                have hmod : Int.tmod (-(x + 1)) 2 = (pk : Int) := hpx'.symm
                have hmw : IntKind.i64.wrap (pk : Int) = (pk : Int) := by rw [IntKind.wrap_i64]; omega
                clear hpx hpx' hx1
                match pk, hpl with
                | 0, _ =>
                  go_wp2_with (first
                    | (go_at_call 14; (with_reducible refine kb.mono ?_); rintro e w8 ⟨r, hr, L8, rfl, hW, hD8⟩; (have HNE := Lib.hid (fresh_ne HD.out.at_ hr)); (rw [lb_1] at hW hD8); (have k9 := append_dir TB NEW3 hD8 tb_len (by decide)); (rw [lb_2n HNE.out s f.size hs9] at k9); (have HO8 := Lib.hid (HO.out.turn hW)); clear hW hD8 hr kb)
                    | (go_at_call 30; (with_reducible refine k9.mono ?_); rintro e w9 ⟨L9, rfl, hW, hD9⟩; (have k10 := sync_dir TB hD9 tb_len); (rw [lb_3 HNE.out] at k10); (have HO9 := Lib.hid (HO8.out.turn hW)); clear hW hD9 k9 HO8)
                    | (go_at_call 16; (with_reducible refine k10.mono ?_); rintro e w10 ⟨L10, rfl, hW, hD10⟩; (have HO10 := Lib.hid (HO9.out.turn hW)); (have hD10' : Dir w10 b (LB0 q r s f.size NEW3 3) L10 := hD10); (have k11 := crash_dir (.slice (some ⟨bp, offp, none⟩) n2 c2) (x :: pt) hD10'.at_ hD10'.whole (by show 1 ≤ 1000000; decide) (HO10.out.picks HSP.out)); (obtain ⟨bq, offq, eq1, hbq, hcq⟩ := HCP.out); (injection eq1 with eq1; injection eq1 with eq1 eq2; subst eq1 eq2); (have hcx : w10.cell? ⟨bp, offp, none⟩ = some (.int .i64 x) := (HO10.out.bel.cell (p := ⟨bp, offp, none⟩) hbq).trans hcq); clear hcq; clear hW hD10 hD10' k10 HO9)
                    | (go_at_call 24; go_loud ((with_reducible refine k11.mono ?_); rintro e w11 ⟨L11, rfl, hW, hD11⟩; (have HO11 := Lib.hid (HO10.out.turn hW)); (have HD11 := Lib.hid hD11); (obtain ⟨m, hm1, hm2, ra, rb⟩ := lb_4 HNE.out s f.size (x :: pt) hfl); (rw [hpk, if_neg (by decide)] at rb); (have k12 := read_is b _ L11 TA w11 hD11.at_ hD11.whole.sane ta_len); (rw [ra] at k12); (have HXB := Lib.hid rb); (have hus : (s.extract 0 m).size = m := by rw [ByteArray.size_extract]; omega); (obtain ⟨u, hu⟩ : ∃ u, s.extract 0 m = u := ⟨_, rfl⟩); (rw [hu] at k12 hus); (subst hus); (have g1 : (f.size : Int) ≤ (u.size : Int) := by omega); (have g2 : (u.size : Int) ≤ (s.size : Int) := by omega); clear hW hD11 k11 HO10 ra rb))
                    | (go_at_call 32; (with_reducible refine k12.mono ?_); rintro e w12 ⟨rfl, hB⟩; (have HO12 := Lib.hid (HO11.out.below hB)); (have k13 := read_is b _ L11 TB w12 HO12.out.at_ HD11.out.whole.sane tb_len); (rw [HXB.out] at k13); clear hB k12 HO11)
                    | (go_at_call 32; (with_reducible refine k13.mono ?_); rintro e w13 ⟨rfl, hB⟩; (have HO13 := Lib.hid (HO12.out.below hB)); clear hB k13 HO12))
                  go_ret
                  exact ⟨rfl, HO13.out.bel⟩
                | 1, _ =>
                  go_wp2_with (first
                    | (go_at_call 14; (with_reducible refine kb.mono ?_); rintro e w8 ⟨r, hr, L8, rfl, hW, hD8⟩; (have HNE := Lib.hid (fresh_ne HD.out.at_ hr)); (rw [lb_1] at hW hD8); (have k9 := append_dir TB NEW3 hD8 tb_len (by decide)); (rw [lb_2n HNE.out s f.size hs9] at k9); (have HO8 := Lib.hid (HO.out.turn hW)); clear hW hD8 hr kb)
                    | (go_at_call 30; (with_reducible refine k9.mono ?_); rintro e w9 ⟨L9, rfl, hW, hD9⟩; (have k10 := sync_dir TB hD9 tb_len); (rw [lb_3 HNE.out] at k10); (have HO9 := Lib.hid (HO8.out.turn hW)); clear hW hD9 k9 HO8)
                    | (go_at_call 16; (with_reducible refine k10.mono ?_); rintro e w10 ⟨L10, rfl, hW, hD10⟩; (have HO10 := Lib.hid (HO9.out.turn hW)); (have hD10' : Dir w10 b (LB0 q r s f.size NEW3 3) L10 := hD10); (have k11 := crash_dir (.slice (some ⟨bp, offp, none⟩) n2 c2) (x :: pt) hD10'.at_ hD10'.whole (by show 1 ≤ 1000000; decide) (HO10.out.picks HSP.out)); (obtain ⟨bq, offq, eq1, hbq, hcq⟩ := HCP.out); (injection eq1 with eq1; injection eq1 with eq1 eq2; subst eq1 eq2); (have hcx : w10.cell? ⟨bp, offp, none⟩ = some (.int .i64 x) := (HO10.out.bel.cell (p := ⟨bp, offp, none⟩) hbq).trans hcq); clear hcq; clear hW hD10 hD10' k10 HO9)
                    | (go_at_call 24; go_loud ((with_reducible refine k11.mono ?_); rintro e w11 ⟨L11, rfl, hW, hD11⟩; (have HO11 := Lib.hid (HO10.out.turn hW)); (have HD11 := Lib.hid hD11); (obtain ⟨m, hm1, hm2, ra, rb⟩ := lb_4 HNE.out s f.size (x :: pt) hfl); (rw [hpk, if_pos rfl] at rb); (have k12 := read_is b _ L11 TA w11 hD11.at_ hD11.whole.sane ta_len); (rw [ra] at k12); (have HXB := Lib.hid rb); (have hus : (s.extract 0 m).size = m := by rw [ByteArray.size_extract]; omega); (obtain ⟨u, hu⟩ : ∃ u, s.extract 0 m = u := ⟨_, rfl⟩); (rw [hu] at k12 hus); (subst hus); (have g1 : (f.size : Int) ≤ (u.size : Int) := by omega); (have g2 : (u.size : Int) ≤ (s.size : Int) := by omega); clear hW hD11 k11 HO10 ra rb))
                    | (go_at_call 32; (with_reducible refine k12.mono ?_); rintro e w12 ⟨rfl, hB⟩; (have HO12 := Lib.hid (HO11.out.below hB)); (have k13 := read_is b _ L11 TB w12 HO12.out.at_ HD11.out.whole.sane tb_len); (rw [HXB.out] at k13); clear hB k12 HO11)
                    | (go_at_call 32; (with_reducible refine k13.mono ?_); rintro e w13 ⟨rfl, hB⟩; (have HO13 := Lib.hid (HO12.out.below hB)); clear hB k13 HO12))
                  go_ret
                  exact ⟨rfl, HO13.out.bel⟩
              · have hpx' : (pickI (x :: pt) 0 1 : Int) = Int.tmod x 2 := by rw [hpx]; unfold absI; rw [if_neg hneg]
                have hpl := pickI_le (x :: pt) 0 1
                obtain ⟨pk, hpk⟩ : ∃ pk, pickI (x :: pt) 0 1 = pk := ⟨_, rfl⟩
                rw [hpk] at hpx' hpl
                have hmod : Int.tmod x 2 = (pk : Int) := hpx'.symm
                have hmw : IntKind.i64.wrap (pk : Int) = (pk : Int) := by rw [IntKind.wrap_i64]; omega
                clear hpx hpx' hx1
                match pk, hpl with
                | 0, _ =>
                  go_wp2_with (first
                    | (go_at_call 14; (with_reducible refine kb.mono ?_); rintro e w8 ⟨r, hr, L8, rfl, hW, hD8⟩; (have HNE := Lib.hid (fresh_ne HD.out.at_ hr)); (rw [lb_1] at hW hD8); (have k9 := append_dir TB NEW3 hD8 tb_len (by decide)); (rw [lb_2n HNE.out s f.size hs9] at k9); (have HO8 := Lib.hid (HO.out.turn hW)); clear hW hD8 hr kb)
                    | (go_at_call 30; (with_reducible refine k9.mono ?_); rintro e w9 ⟨L9, rfl, hW, hD9⟩; (have k10 := sync_dir TB hD9 tb_len); (rw [lb_3 HNE.out] at k10); (have HO9 := Lib.hid (HO8.out.turn hW)); clear hW hD9 k9 HO8)
                    | (go_at_call 16; (with_reducible refine k10.mono ?_); rintro e w10 ⟨L10, rfl, hW, hD10⟩; (have HO10 := Lib.hid (HO9.out.turn hW)); (have hD10' : Dir w10 b (LB0 q r s f.size NEW3 3) L10 := hD10); (have k11 := crash_dir (.slice (some ⟨bp, offp, none⟩) n2 c2) (x :: pt) hD10'.at_ hD10'.whole (by show 1 ≤ 1000000; decide) (HO10.out.picks HSP.out)); (obtain ⟨bq, offq, eq1, hbq, hcq⟩ := HCP.out); (injection eq1 with eq1; injection eq1 with eq1 eq2; subst eq1 eq2); (have hcx : w10.cell? ⟨bp, offp, none⟩ = some (.int .i64 x) := (HO10.out.bel.cell (p := ⟨bp, offp, none⟩) hbq).trans hcq); clear hcq; clear hW hD10 hD10' k10 HO9)
                    | (go_at_call 24; go_loud ((with_reducible refine k11.mono ?_); rintro e w11 ⟨L11, rfl, hW, hD11⟩; (have HO11 := Lib.hid (HO10.out.turn hW)); (have HD11 := Lib.hid hD11); (obtain ⟨m, hm1, hm2, ra, rb⟩ := lb_4 HNE.out s f.size (x :: pt) hfl); (rw [hpk, if_neg (by decide)] at rb); (have k12 := read_is b _ L11 TA w11 hD11.at_ hD11.whole.sane ta_len); (rw [ra] at k12); (have HXB := Lib.hid rb); (have hus : (s.extract 0 m).size = m := by rw [ByteArray.size_extract]; omega); (obtain ⟨u, hu⟩ : ∃ u, s.extract 0 m = u := ⟨_, rfl⟩); (rw [hu] at k12 hus); (subst hus); (have g1 : (f.size : Int) ≤ (u.size : Int) := by omega); (have g2 : (u.size : Int) ≤ (s.size : Int) := by omega); clear hW hD11 k11 HO10 ra rb))
                    | (go_at_call 32; (with_reducible refine k12.mono ?_); rintro e w12 ⟨rfl, hB⟩; (have HO12 := Lib.hid (HO11.out.below hB)); (have k13 := read_is b _ L11 TB w12 HO12.out.at_ HD11.out.whole.sane tb_len); (rw [HXB.out] at k13); clear hB k12 HO11)
                    | (go_at_call 32; (with_reducible refine k13.mono ?_); rintro e w13 ⟨rfl, hB⟩; (have HO13 := Lib.hid (HO12.out.below hB)); clear hB k13 HO12))
                  go_ret
                  exact ⟨rfl, HO13.out.bel⟩
                | 1, _ =>
                  go_wp2_with (first
                    | (go_at_call 14; (with_reducible refine kb.mono ?_); rintro e w8 ⟨r, hr, L8, rfl, hW, hD8⟩; (have HNE := Lib.hid (fresh_ne HD.out.at_ hr)); (rw [lb_1] at hW hD8); (have k9 := append_dir TB NEW3 hD8 tb_len (by decide)); (rw [lb_2n HNE.out s f.size hs9] at k9); (have HO8 := Lib.hid (HO.out.turn hW)); clear hW hD8 hr kb)
                    | (go_at_call 30; (with_reducible refine k9.mono ?_); rintro e w9 ⟨L9, rfl, hW, hD9⟩; (have k10 := sync_dir TB hD9 tb_len); (rw [lb_3 HNE.out] at k10); (have HO9 := Lib.hid (HO8.out.turn hW)); clear hW hD9 k9 HO8)
                    | (go_at_call 16; (with_reducible refine k10.mono ?_); rintro e w10 ⟨L10, rfl, hW, hD10⟩; (have HO10 := Lib.hid (HO9.out.turn hW)); (have hD10' : Dir w10 b (LB0 q r s f.size NEW3 3) L10 := hD10); (have k11 := crash_dir (.slice (some ⟨bp, offp, none⟩) n2 c2) (x :: pt) hD10'.at_ hD10'.whole (by show 1 ≤ 1000000; decide) (HO10.out.picks HSP.out)); (obtain ⟨bq, offq, eq1, hbq, hcq⟩ := HCP.out); (injection eq1 with eq1; injection eq1 with eq1 eq2; subst eq1 eq2); (have hcx : w10.cell? ⟨bp, offp, none⟩ = some (.int .i64 x) := (HO10.out.bel.cell (p := ⟨bp, offp, none⟩) hbq).trans hcq); clear hcq; clear hW hD10 hD10' k10 HO9)
                    | (go_at_call 24; go_loud ((with_reducible refine k11.mono ?_); rintro e w11 ⟨L11, rfl, hW, hD11⟩; (have HO11 := Lib.hid (HO10.out.turn hW)); (have HD11 := Lib.hid hD11); (obtain ⟨m, hm1, hm2, ra, rb⟩ := lb_4 HNE.out s f.size (x :: pt) hfl); (rw [hpk, if_pos rfl] at rb); (have k12 := read_is b _ L11 TA w11 hD11.at_ hD11.whole.sane ta_len); (rw [ra] at k12); (have HXB := Lib.hid rb); (have hus : (s.extract 0 m).size = m := by rw [ByteArray.size_extract]; omega); (obtain ⟨u, hu⟩ : ∃ u, s.extract 0 m = u := ⟨_, rfl⟩); (rw [hu] at k12 hus); (subst hus); (have g1 : (f.size : Int) ≤ (u.size : Int) := by omega); (have g2 : (u.size : Int) ≤ (s.size : Int) := by omega); clear hW hD11 k11 HO10 ra rb))
                    | (go_at_call 32; (with_reducible refine k12.mono ?_); rintro e w12 ⟨rfl, hB⟩; (have HO12 := Lib.hid (HO11.out.below hB)); (have k13 := read_is b _ L11 TB w12 HO12.out.at_ HD11.out.whole.sane tb_len); (rw [HXB.out] at k13); clear hB k12 HO11)
                    | (go_at_call 32; (with_reducible refine k13.mono ?_); rintro e w13 ⟨rfl, hB⟩; (have HO13 := Lib.hid (HO12.out.below hB)); clear hB k13 HO12))
                  go_ret
                  exact ⟨rfl, HO13.out.bel⟩
    · have hin' : ¬ (i : Int) < (n0 : Int) := by omega
      have hf5 : f.size ≤ 500 := by omega
      clear hi hin
      have ks := sync_dir TA HD.out ta_len
      rw [la_sync] at ks
      go_wp2_with (go_at_call 16; (with_reducible refine ks.mono ?_); rintro e w7 ⟨L7, rfl, hW, hD7⟩; (have HO7 := Lib.hid (HO.out.turn hW)); (have HD7 := Lib.hid hD7); clear hW hD7 ks)
      clear HO HD
      go_loopg [12, 13] 5 (fun g fv ii wr => ∃ j : Nat, j + g = 5 ∧ ii = .int .i64 (j : Int) ∧ ∃ s L, fv = .string s ∧ f.size ≤ s.size ∧ s.size ≤ 500 + 100 * j ∧ One w wr b (LA q s f.size) L ∧ Dir wr b (LA q s f.size) L)
      case atStart => exact ⟨0, by omega, rfl, f, L7, rfl, Nat.le_refl _, by omega, HO7.out, HD7.out⟩
      case round =>
        obtain ⟨j, hj, rfl, s, L, rfl, hfl, hss, hO, hD⟩ := hrel
        have HO := Lib.hid hO
        have HD := Lib.hid hD
        clear hO hD HO7 HD7
        by_cases hjn : j < n1
        · have hjn' : (j : Int) < (n1 : Int) := by omega
          by_cases h5j : j < 5
          · have h5j' : (j : Int) < 5 := by omega
            cases gk with
            | zero => exact absurd h5j (by omega)
            | succ g =>
              have hil : j < l1.length := by rw [HE1.out]; exact hjn
              obtain ⟨bb, off, rfl, hc⟩ := (show Ss wr (.slice a1 l1.length c1) l1 from by rw [HE1.out]; exact HS1.out.later HO.out.bel).cell (by omega)
              have cc := hc j hil
              obtain ⟨x, hx⟩ : ∃ x, l1[j] = x := ⟨_, rfl⟩
              rw [hx] at cc
              clear hc hx
              have kx := kc x wr
              have hts := cutB_size x 100
              obtain ⟨t, ht⟩ : ∃ t, cutB x 100 = t := ⟨_, rfl⟩
              rw [ht] at kx hts
              clear ht
              have kap := append_dir TA t HD.out ta_len (by omega)
              rw [la_app q s t f.size (by omega)] at kap
              go_wp2_with (first
                | (go_at_call 13; (with_reducible refine kx.mono ?_); rintro e w5 ⟨rfl, rfl⟩)
                | (go_at_call 30; (with_reducible refine kap.mono ?_); rintro e w6 ⟨L6, rfl, hW, hD6⟩; (have HO6 := Lib.hid (HO.out.turn hW)); (have HD6 := Lib.hid hD6); clear hW hD6 kap))
              go_roundg g
              case measure => omega
              case rel => exact ⟨j + 1, by omega, by go_num, s ++ t, L6, rfl, by rw [ByteArray.size_append]; omega, by rw [ByteArray.size_append]; omega, HO6.out, HD6.out⟩
          · have h5j' : ¬ (j : Int) < 5 := by omega
            clear h5j hjn
            have hs9 : s.size ≤ 99000 := by omega
            clear hj
            have kb := create_dir TB HD.out (by show 0 ≤ 1000000; decide) tb_len
            cases p with
            | nil =>
              have hn2 : n2 = 0 := by have := HEP.out; simp at this; omega
              subst hn2
              have hz : ¬ (0 : Int) < 0 := by decide
              have hpk : pickI [] 0 1 = 0 := rfl
              have hmod : Int.tmod 0 2 = 0 := rfl
              have hlt0 : ¬ (0 : Int) < 0 := by decide
              go_wp2_with (first
                | (go_at_call 14; (with_reducible refine kb.mono ?_); rintro e w8 ⟨r, hr, L8, rfl, hW, hD8⟩; (have HNE := Lib.hid (fresh_ne HD.out.at_ hr)); (rw [lb_1] at hW hD8); (have k9 := append_dir TB NEW3 hD8 tb_len (by decide)); (rw [lb_2n HNE.out s f.size hs9] at k9); (have HO8 := Lib.hid (HO.out.turn hW)); clear hW hD8 hr kb)
                | (go_at_call 30; (with_reducible refine k9.mono ?_); rintro e w9 ⟨L9, rfl, hW, hD9⟩; (have k10 := sync_dir TB hD9 tb_len); (rw [lb_3 HNE.out] at k10); (have HO9 := Lib.hid (HO8.out.turn hW)); clear hW hD9 k9 HO8)
                | (go_at_call 16; (with_reducible refine k10.mono ?_); rintro e w10 ⟨L10, rfl, hW, hD10⟩; (have HO10 := Lib.hid (HO9.out.turn hW)); (have hD10' : Dir w10 b (LB0 q r s f.size NEW3 3) L10 := hD10); (have k11 := crash_dir (.slice a2 0 c2) [] hD10'.at_ hD10'.whole (by show 1 ≤ 1000000; decide) (HO10.out.picks HSP.out)); clear hW hD10 hD10' k10 HO9)
                | (go_at_call 24; go_loud ((with_reducible refine k11.mono ?_); rintro e w11 ⟨L11, rfl, hW, hD11⟩; (have HO11 := Lib.hid (HO10.out.turn hW)); (have HD11 := Lib.hid hD11); (obtain ⟨m, hm1, hm2, ra, rb⟩ := lb_4 HNE.out s f.size [] hfl); (rw [hpk, if_neg (by decide)] at rb); (have k12 := read_is b _ L11 TA w11 hD11.at_ hD11.whole.sane ta_len); (rw [ra] at k12); (have HXB := Lib.hid rb); (have hus : (s.extract 0 m).size = m := by rw [ByteArray.size_extract]; omega); (obtain ⟨u, hu⟩ : ∃ u, s.extract 0 m = u := ⟨_, rfl⟩); (rw [hu] at k12 hus); (subst hus); (have g1 : (f.size : Int) ≤ (u.size : Int) := by omega); (have g2 : (u.size : Int) ≤ (s.size : Int) := by omega); clear hW hD11 k11 HO10 ra rb))
                | (go_at_call 32; (with_reducible refine k12.mono ?_); rintro e w12 ⟨rfl, hB⟩; (have HO12 := Lib.hid (HO11.out.below hB)); (have k13 := read_is b _ L11 TB w12 HO12.out.at_ HD11.out.whole.sane tb_len); (rw [HXB.out] at k13); clear hB k12 HO11)
                | (go_at_call 32; (with_reducible refine k13.mono ?_); rintro e w13 ⟨rfl, hB⟩; (have HO13 := Lib.hid (HO12.out.below hB)); clear hB k13 HO12))
              go_ret
              exact ⟨rfl, HO13.out.bel⟩
            | cons x pt =>
              have hz : (0 : Int) < (n2 : Int) := by have := HEP.out; simp at this; omega
              have hzn : 0 < n2 := by omega
              have hxw := HSP.out.wide x List.mem_cons_self
              have hpx := pick_first (l := x :: pt) x rfl
              have hHI := (show Is wr (.slice a2 (x :: pt).length c2) (x :: pt) from by rw [HEP.out]; exact HSP.out.later HO.out.bel)
              obtain ⟨bp, offp, rfl, hcp⟩ := hHI.cell (by simp)
              have HCP := Lib.hid (show ∃ bq offq, (some (⟨bp, offp, none⟩ : Addr)) = some ⟨bq, offq, none⟩ ∧ bq < w.heap.size ∧ w.cell? ⟨bq, offq, none⟩ = some (.int .i64 x) from by
                obtain ⟨b9, o9, e9, hc9⟩ := HSP.out.cell0 (by have := HEP.out; simp at this; omega)
                exact ⟨b9, o9, e9, hc9⟩)
              clear hHI hcp
              have hx1 : IntKind.i64.wrap (x + 1) = x + 1 ∨ ¬ x < 0 := by
                by_cases hx0 : x < 0
                · exact Or.inl (by rw [IntKind.wrap_i64]; omega)
                · exact Or.inr hx0
              by_cases hneg : x < 0
              · have hx2 : IntKind.i64.wrap (x + 1) = x + 1 := by rw [IntKind.wrap_i64]; omega
                have hx3 : IntKind.i64.wrap (-(x + 1)) = -(x + 1) := by rw [IntKind.wrap_i64]; omega
                have hpx' : (pickI (x :: pt) 0 1 : Int) = Int.tmod (-(x + 1)) 2 := by rw [hpx]; unfold absI; rw [if_pos hneg]
                have hpl := pickI_le (x :: pt) 0 1
                obtain ⟨pk, hpk⟩ : ∃ pk, pickI (x :: pt) 0 1 = pk := ⟨_, rfl⟩
                rw [hpk] at hpx' hpl
                have hmod : Int.tmod (-(x + 1)) 2 = (pk : Int) := hpx'.symm
                have hmw : IntKind.i64.wrap (pk : Int) = (pk : Int) := by rw [IntKind.wrap_i64]; omega
                clear hpx hpx' hx1
                match pk, hpl with
                | 0, _ =>
                  go_wp2_with (first
                    | (go_at_call 14; (with_reducible refine kb.mono ?_); rintro e w8 ⟨r, hr, L8, rfl, hW, hD8⟩; (have HNE := Lib.hid (fresh_ne HD.out.at_ hr)); (rw [lb_1] at hW hD8); (have k9 := append_dir TB NEW3 hD8 tb_len (by decide)); (rw [lb_2n HNE.out s f.size hs9] at k9); (have HO8 := Lib.hid (HO.out.turn hW)); clear hW hD8 hr kb)
                    | (go_at_call 30; (with_reducible refine k9.mono ?_); rintro e w9 ⟨L9, rfl, hW, hD9⟩; (have k10 := sync_dir TB hD9 tb_len); (rw [lb_3 HNE.out] at k10); (have HO9 := Lib.hid (HO8.out.turn hW)); clear hW hD9 k9 HO8)
                    | (go_at_call 16; (with_reducible refine k10.mono ?_); rintro e w10 ⟨L10, rfl, hW, hD10⟩; (have HO10 := Lib.hid (HO9.out.turn hW)); (have hD10' : Dir w10 b (LB0 q r s f.size NEW3 3) L10 := hD10); (have k11 := crash_dir (.slice (some ⟨bp, offp, none⟩) n2 c2) (x :: pt) hD10'.at_ hD10'.whole (by show 1 ≤ 1000000; decide) (HO10.out.picks HSP.out)); (obtain ⟨bq, offq, eq1, hbq, hcq⟩ := HCP.out); (injection eq1 with eq1; injection eq1 with eq1 eq2; subst eq1 eq2); (have hcx : w10.cell? ⟨bp, offp, none⟩ = some (.int .i64 x) := (HO10.out.bel.cell (p := ⟨bp, offp, none⟩) hbq).trans hcq); clear hcq; clear hW hD10 hD10' k10 HO9)
                    | (go_at_call 24; go_loud ((with_reducible refine k11.mono ?_); rintro e w11 ⟨L11, rfl, hW, hD11⟩; (have HO11 := Lib.hid (HO10.out.turn hW)); (have HD11 := Lib.hid hD11); (obtain ⟨m, hm1, hm2, ra, rb⟩ := lb_4 HNE.out s f.size (x :: pt) hfl); (rw [hpk, if_neg (by decide)] at rb); (have k12 := read_is b _ L11 TA w11 hD11.at_ hD11.whole.sane ta_len); (rw [ra] at k12); (have HXB := Lib.hid rb); (have hus : (s.extract 0 m).size = m := by rw [ByteArray.size_extract]; omega); (obtain ⟨u, hu⟩ : ∃ u, s.extract 0 m = u := ⟨_, rfl⟩); (rw [hu] at k12 hus); (subst hus); (have g1 : (f.size : Int) ≤ (u.size : Int) := by omega); (have g2 : (u.size : Int) ≤ (s.size : Int) := by omega); clear hW hD11 k11 HO10 ra rb))
                    | (go_at_call 32; (with_reducible refine k12.mono ?_); rintro e w12 ⟨rfl, hB⟩; (have HO12 := Lib.hid (HO11.out.below hB)); (have k13 := read_is b _ L11 TB w12 HO12.out.at_ HD11.out.whole.sane tb_len); (rw [HXB.out] at k13); clear hB k12 HO11)
                    | (go_at_call 32; (with_reducible refine k13.mono ?_); rintro e w13 ⟨rfl, hB⟩; (have HO13 := Lib.hid (HO12.out.below hB)); clear hB k13 HO12))
                  go_ret
                  exact ⟨rfl, HO13.out.bel⟩
                | 1, _ =>
                  go_wp2_with (first
                    | (go_at_call 14; (with_reducible refine kb.mono ?_); rintro e w8 ⟨r, hr, L8, rfl, hW, hD8⟩; (have HNE := Lib.hid (fresh_ne HD.out.at_ hr)); (rw [lb_1] at hW hD8); (have k9 := append_dir TB NEW3 hD8 tb_len (by decide)); (rw [lb_2n HNE.out s f.size hs9] at k9); (have HO8 := Lib.hid (HO.out.turn hW)); clear hW hD8 hr kb)
                    | (go_at_call 30; (with_reducible refine k9.mono ?_); rintro e w9 ⟨L9, rfl, hW, hD9⟩; (have k10 := sync_dir TB hD9 tb_len); (rw [lb_3 HNE.out] at k10); (have HO9 := Lib.hid (HO8.out.turn hW)); clear hW hD9 k9 HO8)
                    | (go_at_call 16; (with_reducible refine k10.mono ?_); rintro e w10 ⟨L10, rfl, hW, hD10⟩; (have HO10 := Lib.hid (HO9.out.turn hW)); (have hD10' : Dir w10 b (LB0 q r s f.size NEW3 3) L10 := hD10); (have k11 := crash_dir (.slice (some ⟨bp, offp, none⟩) n2 c2) (x :: pt) hD10'.at_ hD10'.whole (by show 1 ≤ 1000000; decide) (HO10.out.picks HSP.out)); (obtain ⟨bq, offq, eq1, hbq, hcq⟩ := HCP.out); (injection eq1 with eq1; injection eq1 with eq1 eq2; subst eq1 eq2); (have hcx : w10.cell? ⟨bp, offp, none⟩ = some (.int .i64 x) := (HO10.out.bel.cell (p := ⟨bp, offp, none⟩) hbq).trans hcq); clear hcq; clear hW hD10 hD10' k10 HO9)
                    | (go_at_call 24; go_loud ((with_reducible refine k11.mono ?_); rintro e w11 ⟨L11, rfl, hW, hD11⟩; (have HO11 := Lib.hid (HO10.out.turn hW)); (have HD11 := Lib.hid hD11); (obtain ⟨m, hm1, hm2, ra, rb⟩ := lb_4 HNE.out s f.size (x :: pt) hfl); (rw [hpk, if_pos rfl] at rb); (have k12 := read_is b _ L11 TA w11 hD11.at_ hD11.whole.sane ta_len); (rw [ra] at k12); (have HXB := Lib.hid rb); (have hus : (s.extract 0 m).size = m := by rw [ByteArray.size_extract]; omega); (obtain ⟨u, hu⟩ : ∃ u, s.extract 0 m = u := ⟨_, rfl⟩); (rw [hu] at k12 hus); (subst hus); (have g1 : (f.size : Int) ≤ (u.size : Int) := by omega); (have g2 : (u.size : Int) ≤ (s.size : Int) := by omega); clear hW hD11 k11 HO10 ra rb))
                    | (go_at_call 32; (with_reducible refine k12.mono ?_); rintro e w12 ⟨rfl, hB⟩; (have HO12 := Lib.hid (HO11.out.below hB)); (have k13 := read_is b _ L11 TB w12 HO12.out.at_ HD11.out.whole.sane tb_len); (rw [HXB.out] at k13); clear hB k12 HO11)
                    | (go_at_call 32; (with_reducible refine k13.mono ?_); rintro e w13 ⟨rfl, hB⟩; (have HO13 := Lib.hid (HO12.out.below hB)); clear hB k13 HO12))
                  go_ret
                  exact ⟨rfl, HO13.out.bel⟩
              · have hpx' : (pickI (x :: pt) 0 1 : Int) = Int.tmod x 2 := by rw [hpx]; unfold absI; rw [if_neg hneg]
                have hpl := pickI_le (x :: pt) 0 1
                obtain ⟨pk, hpk⟩ : ∃ pk, pickI (x :: pt) 0 1 = pk := ⟨_, rfl⟩
                rw [hpk] at hpx' hpl
                have hmod : Int.tmod x 2 = (pk : Int) := hpx'.symm
                have hmw : IntKind.i64.wrap (pk : Int) = (pk : Int) := by rw [IntKind.wrap_i64]; omega
                clear hpx hpx' hx1
                match pk, hpl with
                | 0, _ =>
                  go_wp2_with (first
                    | (go_at_call 14; (with_reducible refine kb.mono ?_); rintro e w8 ⟨r, hr, L8, rfl, hW, hD8⟩; (have HNE := Lib.hid (fresh_ne HD.out.at_ hr)); (rw [lb_1] at hW hD8); (have k9 := append_dir TB NEW3 hD8 tb_len (by decide)); (rw [lb_2n HNE.out s f.size hs9] at k9); (have HO8 := Lib.hid (HO.out.turn hW)); clear hW hD8 hr kb)
                    | (go_at_call 30; (with_reducible refine k9.mono ?_); rintro e w9 ⟨L9, rfl, hW, hD9⟩; (have k10 := sync_dir TB hD9 tb_len); (rw [lb_3 HNE.out] at k10); (have HO9 := Lib.hid (HO8.out.turn hW)); clear hW hD9 k9 HO8)
                    | (go_at_call 16; (with_reducible refine k10.mono ?_); rintro e w10 ⟨L10, rfl, hW, hD10⟩; (have HO10 := Lib.hid (HO9.out.turn hW)); (have hD10' : Dir w10 b (LB0 q r s f.size NEW3 3) L10 := hD10); (have k11 := crash_dir (.slice (some ⟨bp, offp, none⟩) n2 c2) (x :: pt) hD10'.at_ hD10'.whole (by show 1 ≤ 1000000; decide) (HO10.out.picks HSP.out)); (obtain ⟨bq, offq, eq1, hbq, hcq⟩ := HCP.out); (injection eq1 with eq1; injection eq1 with eq1 eq2; subst eq1 eq2); (have hcx : w10.cell? ⟨bp, offp, none⟩ = some (.int .i64 x) := (HO10.out.bel.cell (p := ⟨bp, offp, none⟩) hbq).trans hcq); clear hcq; clear hW hD10 hD10' k10 HO9)
                    | (go_at_call 24; go_loud ((with_reducible refine k11.mono ?_); rintro e w11 ⟨L11, rfl, hW, hD11⟩; (have HO11 := Lib.hid (HO10.out.turn hW)); (have HD11 := Lib.hid hD11); (obtain ⟨m, hm1, hm2, ra, rb⟩ := lb_4 HNE.out s f.size (x :: pt) hfl); (rw [hpk, if_neg (by decide)] at rb); (have k12 := read_is b _ L11 TA w11 hD11.at_ hD11.whole.sane ta_len); (rw [ra] at k12); (have HXB := Lib.hid rb); (have hus : (s.extract 0 m).size = m := by rw [ByteArray.size_extract]; omega); (obtain ⟨u, hu⟩ : ∃ u, s.extract 0 m = u := ⟨_, rfl⟩); (rw [hu] at k12 hus); (subst hus); (have g1 : (f.size : Int) ≤ (u.size : Int) := by omega); (have g2 : (u.size : Int) ≤ (s.size : Int) := by omega); clear hW hD11 k11 HO10 ra rb))
                    | (go_at_call 32; (with_reducible refine k12.mono ?_); rintro e w12 ⟨rfl, hB⟩; (have HO12 := Lib.hid (HO11.out.below hB)); (have k13 := read_is b _ L11 TB w12 HO12.out.at_ HD11.out.whole.sane tb_len); (rw [HXB.out] at k13); clear hB k12 HO11)
                    | (go_at_call 32; (with_reducible refine k13.mono ?_); rintro e w13 ⟨rfl, hB⟩; (have HO13 := Lib.hid (HO12.out.below hB)); clear hB k13 HO12))
                  go_ret
                  exact ⟨rfl, HO13.out.bel⟩
                | 1, _ =>
                  go_wp2_with (first
                    | (go_at_call 14; (with_reducible refine kb.mono ?_); rintro e w8 ⟨r, hr, L8, rfl, hW, hD8⟩; (have HNE := Lib.hid (fresh_ne HD.out.at_ hr)); (rw [lb_1] at hW hD8); (have k9 := append_dir TB NEW3 hD8 tb_len (by decide)); (rw [lb_2n HNE.out s f.size hs9] at k9); (have HO8 := Lib.hid (HO.out.turn hW)); clear hW hD8 hr kb)
                    | (go_at_call 30; (with_reducible refine k9.mono ?_); rintro e w9 ⟨L9, rfl, hW, hD9⟩; (have k10 := sync_dir TB hD9 tb_len); (rw [lb_3 HNE.out] at k10); (have HO9 := Lib.hid (HO8.out.turn hW)); clear hW hD9 k9 HO8)
                    | (go_at_call 16; (with_reducible refine k10.mono ?_); rintro e w10 ⟨L10, rfl, hW, hD10⟩; (have HO10 := Lib.hid (HO9.out.turn hW)); (have hD10' : Dir w10 b (LB0 q r s f.size NEW3 3) L10 := hD10); (have k11 := crash_dir (.slice (some ⟨bp, offp, none⟩) n2 c2) (x :: pt) hD10'.at_ hD10'.whole (by show 1 ≤ 1000000; decide) (HO10.out.picks HSP.out)); (obtain ⟨bq, offq, eq1, hbq, hcq⟩ := HCP.out); (injection eq1 with eq1; injection eq1 with eq1 eq2; subst eq1 eq2); (have hcx : w10.cell? ⟨bp, offp, none⟩ = some (.int .i64 x) := (HO10.out.bel.cell (p := ⟨bp, offp, none⟩) hbq).trans hcq); clear hcq; clear hW hD10 hD10' k10 HO9)
                    | (go_at_call 24; go_loud ((with_reducible refine k11.mono ?_); rintro e w11 ⟨L11, rfl, hW, hD11⟩; (have HO11 := Lib.hid (HO10.out.turn hW)); (have HD11 := Lib.hid hD11); (obtain ⟨m, hm1, hm2, ra, rb⟩ := lb_4 HNE.out s f.size (x :: pt) hfl); (rw [hpk, if_pos rfl] at rb); (have k12 := read_is b _ L11 TA w11 hD11.at_ hD11.whole.sane ta_len); (rw [ra] at k12); (have HXB := Lib.hid rb); (have hus : (s.extract 0 m).size = m := by rw [ByteArray.size_extract]; omega); (obtain ⟨u, hu⟩ : ∃ u, s.extract 0 m = u := ⟨_, rfl⟩); (rw [hu] at k12 hus); (subst hus); (have g1 : (f.size : Int) ≤ (u.size : Int) := by omega); (have g2 : (u.size : Int) ≤ (s.size : Int) := by omega); clear hW hD11 k11 HO10 ra rb))
                    | (go_at_call 32; (with_reducible refine k12.mono ?_); rintro e w12 ⟨rfl, hB⟩; (have HO12 := Lib.hid (HO11.out.below hB)); (have k13 := read_is b _ L11 TB w12 HO12.out.at_ HD11.out.whole.sane tb_len); (rw [HXB.out] at k13); clear hB k12 HO11)
                    | (go_at_call 32; (with_reducible refine k13.mono ?_); rintro e w13 ⟨rfl, hB⟩; (have HO13 := Lib.hid (HO12.out.below hB)); clear hB k13 HO12))
                  go_ret
                  exact ⟨rfl, HO13.out.bel⟩
        · have hjn' : ¬ (j : Int) < (n1 : Int) := by omega
          clear hjn
          have hs9 : s.size ≤ 99000 := by omega
          clear hj
          have kb := create_dir TB HD.out (by show 0 ≤ 1000000; decide) tb_len
          cases p with
          | nil =>
            have hn2 : n2 = 0 := by have := HEP.out; simp at this; omega
            subst hn2
            have hz : ¬ (0 : Int) < 0 := by decide
            have hpk : pickI [] 0 1 = 0 := rfl
            have hmod : Int.tmod 0 2 = 0 := rfl
            have hlt0 : ¬ (0 : Int) < 0 := by decide
            go_wp2_with (first
              | (go_at_call 14; (with_reducible refine kb.mono ?_); rintro e w8 ⟨r, hr, L8, rfl, hW, hD8⟩; (have HNE := Lib.hid (fresh_ne HD.out.at_ hr)); (rw [lb_1] at hW hD8); (have k9 := append_dir TB NEW3 hD8 tb_len (by decide)); (rw [lb_2n HNE.out s f.size hs9] at k9); (have HO8 := Lib.hid (HO.out.turn hW)); clear hW hD8 hr kb)
              | (go_at_call 30; (with_reducible refine k9.mono ?_); rintro e w9 ⟨L9, rfl, hW, hD9⟩; (have k10 := sync_dir TB hD9 tb_len); (rw [lb_3 HNE.out] at k10); (have HO9 := Lib.hid (HO8.out.turn hW)); clear hW hD9 k9 HO8)
              | (go_at_call 16; (with_reducible refine k10.mono ?_); rintro e w10 ⟨L10, rfl, hW, hD10⟩; (have HO10 := Lib.hid (HO9.out.turn hW)); (have hD10' : Dir w10 b (LB0 q r s f.size NEW3 3) L10 := hD10); (have k11 := crash_dir (.slice a2 0 c2) [] hD10'.at_ hD10'.whole (by show 1 ≤ 1000000; decide) (HO10.out.picks HSP.out)); clear hW hD10 hD10' k10 HO9)
              | (go_at_call 24; go_loud ((with_reducible refine k11.mono ?_); rintro e w11 ⟨L11, rfl, hW, hD11⟩; (have HO11 := Lib.hid (HO10.out.turn hW)); (have HD11 := Lib.hid hD11); (obtain ⟨m, hm1, hm2, ra, rb⟩ := lb_4 HNE.out s f.size [] hfl); (rw [hpk, if_neg (by decide)] at rb); (have k12 := read_is b _ L11 TA w11 hD11.at_ hD11.whole.sane ta_len); (rw [ra] at k12); (have HXB := Lib.hid rb); (have hus : (s.extract 0 m).size = m := by rw [ByteArray.size_extract]; omega); (obtain ⟨u, hu⟩ : ∃ u, s.extract 0 m = u := ⟨_, rfl⟩); (rw [hu] at k12 hus); (subst hus); (have g1 : (f.size : Int) ≤ (u.size : Int) := by omega); (have g2 : (u.size : Int) ≤ (s.size : Int) := by omega); clear hW hD11 k11 HO10 ra rb))
              | (go_at_call 32; (with_reducible refine k12.mono ?_); rintro e w12 ⟨rfl, hB⟩; (have HO12 := Lib.hid (HO11.out.below hB)); (have k13 := read_is b _ L11 TB w12 HO12.out.at_ HD11.out.whole.sane tb_len); (rw [HXB.out] at k13); clear hB k12 HO11)
              | (go_at_call 32; (with_reducible refine k13.mono ?_); rintro e w13 ⟨rfl, hB⟩; (have HO13 := Lib.hid (HO12.out.below hB)); clear hB k13 HO12))
            go_ret
            exact ⟨rfl, HO13.out.bel⟩
          | cons x pt =>
            have hz : (0 : Int) < (n2 : Int) := by have := HEP.out; simp at this; omega
            have hzn : 0 < n2 := by omega
            have hxw := HSP.out.wide x List.mem_cons_self
            have hpx := pick_first (l := x :: pt) x rfl
            have hHI := (show Is wr (.slice a2 (x :: pt).length c2) (x :: pt) from by rw [HEP.out]; exact HSP.out.later HO.out.bel)
            obtain ⟨bp, offp, rfl, hcp⟩ := hHI.cell (by simp)
            have HCP := Lib.hid (show ∃ bq offq, (some (⟨bp, offp, none⟩ : Addr)) = some ⟨bq, offq, none⟩ ∧ bq < w.heap.size ∧ w.cell? ⟨bq, offq, none⟩ = some (.int .i64 x) from by
              obtain ⟨b9, o9, e9, hc9⟩ := HSP.out.cell0 (by have := HEP.out; simp at this; omega)
              exact ⟨b9, o9, e9, hc9⟩)
            clear hHI hcp
            have hx1 : IntKind.i64.wrap (x + 1) = x + 1 ∨ ¬ x < 0 := by
              by_cases hx0 : x < 0
              · exact Or.inl (by rw [IntKind.wrap_i64]; omega)
              · exact Or.inr hx0
            by_cases hneg : x < 0
            · have hx2 : IntKind.i64.wrap (x + 1) = x + 1 := by rw [IntKind.wrap_i64]; omega
              have hx3 : IntKind.i64.wrap (-(x + 1)) = -(x + 1) := by rw [IntKind.wrap_i64]; omega
              have hpx' : (pickI (x :: pt) 0 1 : Int) = Int.tmod (-(x + 1)) 2 := by rw [hpx]; unfold absI; rw [if_pos hneg]
              have hpl := pickI_le (x :: pt) 0 1
              obtain ⟨pk, hpk⟩ : ∃ pk, pickI (x :: pt) 0 1 = pk := ⟨_, rfl⟩
              rw [hpk] at hpx' hpl
              have hmod : Int.tmod (-(x + 1)) 2 = (pk : Int) := hpx'.symm
              have hmw : IntKind.i64.wrap (pk : Int) = (pk : Int) := by rw [IntKind.wrap_i64]; omega
              clear hpx hpx' hx1
              match pk, hpl with
              | 0, _ =>
                go_wp2_with (first
                  | (go_at_call 14; (with_reducible refine kb.mono ?_); rintro e w8 ⟨r, hr, L8, rfl, hW, hD8⟩; (have HNE := Lib.hid (fresh_ne HD.out.at_ hr)); (rw [lb_1] at hW hD8); (have k9 := append_dir TB NEW3 hD8 tb_len (by decide)); (rw [lb_2n HNE.out s f.size hs9] at k9); (have HO8 := Lib.hid (HO.out.turn hW)); clear hW hD8 hr kb)
                  | (go_at_call 30; (with_reducible refine k9.mono ?_); rintro e w9 ⟨L9, rfl, hW, hD9⟩; (have k10 := sync_dir TB hD9 tb_len); (rw [lb_3 HNE.out] at k10); (have HO9 := Lib.hid (HO8.out.turn hW)); clear hW hD9 k9 HO8)
                  | (go_at_call 16; (with_reducible refine k10.mono ?_); rintro e w10 ⟨L10, rfl, hW, hD10⟩; (have HO10 := Lib.hid (HO9.out.turn hW)); (have hD10' : Dir w10 b (LB0 q r s f.size NEW3 3) L10 := hD10); (have k11 := crash_dir (.slice (some ⟨bp, offp, none⟩) n2 c2) (x :: pt) hD10'.at_ hD10'.whole (by show 1 ≤ 1000000; decide) (HO10.out.picks HSP.out)); (obtain ⟨bq, offq, eq1, hbq, hcq⟩ := HCP.out); (injection eq1 with eq1; injection eq1 with eq1 eq2; subst eq1 eq2); (have hcx : w10.cell? ⟨bp, offp, none⟩ = some (.int .i64 x) := (HO10.out.bel.cell (p := ⟨bp, offp, none⟩) hbq).trans hcq); clear hcq; clear hW hD10 hD10' k10 HO9)
                  | (go_at_call 24; go_loud ((with_reducible refine k11.mono ?_); rintro e w11 ⟨L11, rfl, hW, hD11⟩; (have HO11 := Lib.hid (HO10.out.turn hW)); (have HD11 := Lib.hid hD11); (obtain ⟨m, hm1, hm2, ra, rb⟩ := lb_4 HNE.out s f.size (x :: pt) hfl); (rw [hpk, if_neg (by decide)] at rb); (have k12 := read_is b _ L11 TA w11 hD11.at_ hD11.whole.sane ta_len); (rw [ra] at k12); (have HXB := Lib.hid rb); (have hus : (s.extract 0 m).size = m := by rw [ByteArray.size_extract]; omega); (obtain ⟨u, hu⟩ : ∃ u, s.extract 0 m = u := ⟨_, rfl⟩); (rw [hu] at k12 hus); (subst hus); (have g1 : (f.size : Int) ≤ (u.size : Int) := by omega); (have g2 : (u.size : Int) ≤ (s.size : Int) := by omega); clear hW hD11 k11 HO10 ra rb))
                  | (go_at_call 32; (with_reducible refine k12.mono ?_); rintro e w12 ⟨rfl, hB⟩; (have HO12 := Lib.hid (HO11.out.below hB)); (have k13 := read_is b _ L11 TB w12 HO12.out.at_ HD11.out.whole.sane tb_len); (rw [HXB.out] at k13); clear hB k12 HO11)
                  | (go_at_call 32; (with_reducible refine k13.mono ?_); rintro e w13 ⟨rfl, hB⟩; (have HO13 := Lib.hid (HO12.out.below hB)); clear hB k13 HO12))
                go_ret
                exact ⟨rfl, HO13.out.bel⟩
              | 1, _ =>
                go_wp2_with (first
                  | (go_at_call 14; (with_reducible refine kb.mono ?_); rintro e w8 ⟨r, hr, L8, rfl, hW, hD8⟩; (have HNE := Lib.hid (fresh_ne HD.out.at_ hr)); (rw [lb_1] at hW hD8); (have k9 := append_dir TB NEW3 hD8 tb_len (by decide)); (rw [lb_2n HNE.out s f.size hs9] at k9); (have HO8 := Lib.hid (HO.out.turn hW)); clear hW hD8 hr kb)
                  | (go_at_call 30; (with_reducible refine k9.mono ?_); rintro e w9 ⟨L9, rfl, hW, hD9⟩; (have k10 := sync_dir TB hD9 tb_len); (rw [lb_3 HNE.out] at k10); (have HO9 := Lib.hid (HO8.out.turn hW)); clear hW hD9 k9 HO8)
                  | (go_at_call 16; (with_reducible refine k10.mono ?_); rintro e w10 ⟨L10, rfl, hW, hD10⟩; (have HO10 := Lib.hid (HO9.out.turn hW)); (have hD10' : Dir w10 b (LB0 q r s f.size NEW3 3) L10 := hD10); (have k11 := crash_dir (.slice (some ⟨bp, offp, none⟩) n2 c2) (x :: pt) hD10'.at_ hD10'.whole (by show 1 ≤ 1000000; decide) (HO10.out.picks HSP.out)); (obtain ⟨bq, offq, eq1, hbq, hcq⟩ := HCP.out); (injection eq1 with eq1; injection eq1 with eq1 eq2; subst eq1 eq2); (have hcx : w10.cell? ⟨bp, offp, none⟩ = some (.int .i64 x) := (HO10.out.bel.cell (p := ⟨bp, offp, none⟩) hbq).trans hcq); clear hcq; clear hW hD10 hD10' k10 HO9)
                  | (go_at_call 24; go_loud ((with_reducible refine k11.mono ?_); rintro e w11 ⟨L11, rfl, hW, hD11⟩; (have HO11 := Lib.hid (HO10.out.turn hW)); (have HD11 := Lib.hid hD11); (obtain ⟨m, hm1, hm2, ra, rb⟩ := lb_4 HNE.out s f.size (x :: pt) hfl); (rw [hpk, if_pos rfl] at rb); (have k12 := read_is b _ L11 TA w11 hD11.at_ hD11.whole.sane ta_len); (rw [ra] at k12); (have HXB := Lib.hid rb); (have hus : (s.extract 0 m).size = m := by rw [ByteArray.size_extract]; omega); (obtain ⟨u, hu⟩ : ∃ u, s.extract 0 m = u := ⟨_, rfl⟩); (rw [hu] at k12 hus); (subst hus); (have g1 : (f.size : Int) ≤ (u.size : Int) := by omega); (have g2 : (u.size : Int) ≤ (s.size : Int) := by omega); clear hW hD11 k11 HO10 ra rb))
                  | (go_at_call 32; (with_reducible refine k12.mono ?_); rintro e w12 ⟨rfl, hB⟩; (have HO12 := Lib.hid (HO11.out.below hB)); (have k13 := read_is b _ L11 TB w12 HO12.out.at_ HD11.out.whole.sane tb_len); (rw [HXB.out] at k13); clear hB k12 HO11)
                  | (go_at_call 32; (with_reducible refine k13.mono ?_); rintro e w13 ⟨rfl, hB⟩; (have HO13 := Lib.hid (HO12.out.below hB)); clear hB k13 HO12))
                go_ret
                exact ⟨rfl, HO13.out.bel⟩
            · have hpx' : (pickI (x :: pt) 0 1 : Int) = Int.tmod x 2 := by rw [hpx]; unfold absI; rw [if_neg hneg]
              have hpl := pickI_le (x :: pt) 0 1
              obtain ⟨pk, hpk⟩ : ∃ pk, pickI (x :: pt) 0 1 = pk := ⟨_, rfl⟩
              rw [hpk] at hpx' hpl
              have hmod : Int.tmod x 2 = (pk : Int) := hpx'.symm
              have hmw : IntKind.i64.wrap (pk : Int) = (pk : Int) := by rw [IntKind.wrap_i64]; omega
              clear hpx hpx' hx1
              match pk, hpl with
              | 0, _ =>
                go_wp2_with (first
                  | (go_at_call 14; (with_reducible refine kb.mono ?_); rintro e w8 ⟨r, hr, L8, rfl, hW, hD8⟩; (have HNE := Lib.hid (fresh_ne HD.out.at_ hr)); (rw [lb_1] at hW hD8); (have k9 := append_dir TB NEW3 hD8 tb_len (by decide)); (rw [lb_2n HNE.out s f.size hs9] at k9); (have HO8 := Lib.hid (HO.out.turn hW)); clear hW hD8 hr kb)
                  | (go_at_call 30; (with_reducible refine k9.mono ?_); rintro e w9 ⟨L9, rfl, hW, hD9⟩; (have k10 := sync_dir TB hD9 tb_len); (rw [lb_3 HNE.out] at k10); (have HO9 := Lib.hid (HO8.out.turn hW)); clear hW hD9 k9 HO8)
                  | (go_at_call 16; (with_reducible refine k10.mono ?_); rintro e w10 ⟨L10, rfl, hW, hD10⟩; (have HO10 := Lib.hid (HO9.out.turn hW)); (have hD10' : Dir w10 b (LB0 q r s f.size NEW3 3) L10 := hD10); (have k11 := crash_dir (.slice (some ⟨bp, offp, none⟩) n2 c2) (x :: pt) hD10'.at_ hD10'.whole (by show 1 ≤ 1000000; decide) (HO10.out.picks HSP.out)); (obtain ⟨bq, offq, eq1, hbq, hcq⟩ := HCP.out); (injection eq1 with eq1; injection eq1 with eq1 eq2; subst eq1 eq2); (have hcx : w10.cell? ⟨bp, offp, none⟩ = some (.int .i64 x) := (HO10.out.bel.cell (p := ⟨bp, offp, none⟩) hbq).trans hcq); clear hcq; clear hW hD10 hD10' k10 HO9)
                  | (go_at_call 24; go_loud ((with_reducible refine k11.mono ?_); rintro e w11 ⟨L11, rfl, hW, hD11⟩; (have HO11 := Lib.hid (HO10.out.turn hW)); (have HD11 := Lib.hid hD11); (obtain ⟨m, hm1, hm2, ra, rb⟩ := lb_4 HNE.out s f.size (x :: pt) hfl); (rw [hpk, if_neg (by decide)] at rb); (have k12 := read_is b _ L11 TA w11 hD11.at_ hD11.whole.sane ta_len); (rw [ra] at k12); (have HXB := Lib.hid rb); (have hus : (s.extract 0 m).size = m := by rw [ByteArray.size_extract]; omega); (obtain ⟨u, hu⟩ : ∃ u, s.extract 0 m = u := ⟨_, rfl⟩); (rw [hu] at k12 hus); (subst hus); (have g1 : (f.size : Int) ≤ (u.size : Int) := by omega); (have g2 : (u.size : Int) ≤ (s.size : Int) := by omega); clear hW hD11 k11 HO10 ra rb))
                  | (go_at_call 32; (with_reducible refine k12.mono ?_); rintro e w12 ⟨rfl, hB⟩; (have HO12 := Lib.hid (HO11.out.below hB)); (have k13 := read_is b _ L11 TB w12 HO12.out.at_ HD11.out.whole.sane tb_len); (rw [HXB.out] at k13); clear hB k12 HO11)
                  | (go_at_call 32; (with_reducible refine k13.mono ?_); rintro e w13 ⟨rfl, hB⟩; (have HO13 := Lib.hid (HO12.out.below hB)); clear hB k13 HO12))
                go_ret
                exact ⟨rfl, HO13.out.bel⟩
              | 1, _ =>
                go_wp2_with (first
                  | (go_at_call 14; (with_reducible refine kb.mono ?_); rintro e w8 ⟨r, hr, L8, rfl, hW, hD8⟩; (have HNE := Lib.hid (fresh_ne HD.out.at_ hr)); (rw [lb_1] at hW hD8); (have k9 := append_dir TB NEW3 hD8 tb_len (by decide)); (rw [lb_2n HNE.out s f.size hs9] at k9); (have HO8 := Lib.hid (HO.out.turn hW)); clear hW hD8 hr kb)
                  | (go_at_call 30; (with_reducible refine k9.mono ?_); rintro e w9 ⟨L9, rfl, hW, hD9⟩; (have k10 := sync_dir TB hD9 tb_len); (rw [lb_3 HNE.out] at k10); (have HO9 := Lib.hid (HO8.out.turn hW)); clear hW hD9 k9 HO8)
                  | (go_at_call 16; (with_reducible refine k10.mono ?_); rintro e w10 ⟨L10, rfl, hW, hD10⟩; (have HO10 := Lib.hid (HO9.out.turn hW)); (have hD10' : Dir w10 b (LB0 q r s f.size NEW3 3) L10 := hD10); (have k11 := crash_dir (.slice (some ⟨bp, offp, none⟩) n2 c2) (x :: pt) hD10'.at_ hD10'.whole (by show 1 ≤ 1000000; decide) (HO10.out.picks HSP.out)); (obtain ⟨bq, offq, eq1, hbq, hcq⟩ := HCP.out); (injection eq1 with eq1; injection eq1 with eq1 eq2; subst eq1 eq2); (have hcx : w10.cell? ⟨bp, offp, none⟩ = some (.int .i64 x) := (HO10.out.bel.cell (p := ⟨bp, offp, none⟩) hbq).trans hcq); clear hcq; clear hW hD10 hD10' k10 HO9)
                  | (go_at_call 24; go_loud ((with_reducible refine k11.mono ?_); rintro e w11 ⟨L11, rfl, hW, hD11⟩; (have HO11 := Lib.hid (HO10.out.turn hW)); (have HD11 := Lib.hid hD11); (obtain ⟨m, hm1, hm2, ra, rb⟩ := lb_4 HNE.out s f.size (x :: pt) hfl); (rw [hpk, if_pos rfl] at rb); (have k12 := read_is b _ L11 TA w11 hD11.at_ hD11.whole.sane ta_len); (rw [ra] at k12); (have HXB := Lib.hid rb); (have hus : (s.extract 0 m).size = m := by rw [ByteArray.size_extract]; omega); (obtain ⟨u, hu⟩ : ∃ u, s.extract 0 m = u := ⟨_, rfl⟩); (rw [hu] at k12 hus); (subst hus); (have g1 : (f.size : Int) ≤ (u.size : Int) := by omega); (have g2 : (u.size : Int) ≤ (s.size : Int) := by omega); clear hW hD11 k11 HO10 ra rb))
                  | (go_at_call 32; (with_reducible refine k12.mono ?_); rintro e w12 ⟨rfl, hB⟩; (have HO12 := Lib.hid (HO11.out.below hB)); (have k13 := read_is b _ L11 TB w12 HO12.out.at_ HD11.out.whole.sane tb_len); (rw [HXB.out] at k13); clear hB k12 HO11)
                  | (go_at_call 32; (with_reducible refine k13.mono ?_); rintro e w13 ⟨rfl, hB⟩; (have HO13 := Lib.hid (HO12.out.below hB)); clear hB k13 HO12))
                go_ret
                exact ⟨rfl, HO13.out.bel⟩
end filesLasts
end Go.Proofs.Ytbgjcopgipganaa
