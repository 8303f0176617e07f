/- The walk of law WindowSets. -/
import Derived.Test.YtdkenokjdiamhaaDoorWindowSetsMath
import Derived.Test.YtdkenokjdiamhaaDoorWindowRSpans
import Derived.Test.YtdkenokjdiamhaaDoorWindowArgs
import Derived.Deep.RegionHeld
set_option maxRecDepth 20000
namespace Go.Proofs.YtdkenokjdiamhaaDoor
open Go.RowKit

theorem setsOp8 (w : World) (a : OpI) : OpO (w.alloc (.cells #[.int .i64 a.k, .int .i64 a.f, .int .i64 a.n] 51)) w.heap.size 0 a := by constructor <;> simp [go_sem]
set_option maxHeartbeats 16000000 in
theorem windowSets.walk (a0 : Option Addr) (len cap : Nat) (t : Int) (w : World) (hl : ArgOps w a0 len cap) (ht : -9223372036854775808 ≤ t ∧ t ≤ 9223372036854775807) (hT : Tab w) :
    Calls Tryd.prog 5 #[.slice a0 len cap, .int .i64 t] w fun e w' => e = .returned (.bool true) ∧ Below w.heap.size w w' := by
  obtain ⟨l, hll, hops, hlen, -⟩ := hl.has
  have k0 := awake_is w hT
  have kn := setsNew_nil
  have HC := Lib.hid (show ∀ i (h : i < l.length) (wr : World), Below w.heap.size w wr → ∃ g off, a0 = some ⟨g, off, none⟩ ∧ OpO wr g (off + i * 3) l[i] from fun i h wr hb => by
    rcases hops.at_ with e | ⟨g, off, e, hg, hc⟩
    · rw [e] at h; simp at h
    · exact ⟨g, off, e, (hc i h).below hb hg⟩)
  have HTw := Lib.hid hT
  have HLL := Lib.hid hll
  clear hl hops hll hT
  go_enter Tryd.func5, Tryd.ntmps5
  go_wp2_with (first
    | (go_at_call 10; (with_reducible refine k0.mono ?_); rintro e w1 ⟨rfl, hb⟩; (have HB1 := Lib.hid hb); (have HT1 := Lib.hid (HTw.out.next hb)); clear hb)
    | (go_at_call 33; (with_reducible refine (kn _).mono ?_); rintro e w2 ⟨ba, va, Ta, rfl, hga, hsa, hoa, hb⟩; (obtain rfl := setsNewOk_nil hoa); (have HK := Lib.hid (SK.new 49 hsa (HT1.out.next hb) (bel_next HB1.out hb) (Nat.le_trans HB1.out.size hga))); clear hb hsa hga hoa))
  go_loopw [8] (fun x wr => ∃ (i : Nat) (va vy : Value) (La : List Sp) (B : List Bool), x = .int .i64 (i : Int) ∧ i ≤ 40 ∧ SK w ba w2.heap.size va vy La B wr ∧ BitsOf La B) (fun x _ => 40 - (intOf x).toNat)
  case atStart => exact ⟨0, va, _, [], [], rfl, Nat.zero_le _, HK.out, BitsOf.nil⟩
  case round =>
    obtain ⟨i, va, vy, La, B, rfl, hi, hSK, hBO⟩ := hrel
    obtain ⟨w3, hw3⟩ : ∃ x, x = wr := ⟨_, rfl⟩
    subst hw3
    have HSK := Lib.hid hSK
    have HBO := Lib.hid hBO
    clear hSK hBO HK
    by_cases hin : i < len
    · have hini : (i : Int) < (len : Int) := by omega
      by_cases hi40 : i < 40
      · have hi40i : (i : Int) < 40 := by omega
        have hiL : i < l.length := by rw [HLL.out]; exact hin
        have hwi : IntKind.i64.wrap ((i : Int) + 1) = (i : Int) + 1 := by rw [IntKind.wrap_i64]; omega
        obtain ⟨p, hp⟩ : ∃ p, l[i] = p := ⟨_, rfl⟩
        obtain ⟨g, off, rfl, cp⟩ := HC.out i hiL w3 HSK.out.bel
        rw [hp] at cp
        obtain ⟨p0, p1, p2⟩ := cp
        obtain ⟨s, hs⟩ : ∃ s, p.sp = s := ⟨_, rfl⟩
        have ksv := fun w => (show Calls Tryd.prog 34 #[.agg #[.int .i64 p.k, .int .i64 p.f, .int .i64 p.n]] w fun e w' => e = .returned (s.v) ∧ Below w.heap.size w w' by rw [← hs]; exact span_is p.k p.f p.n p.sp w (Lib.hid rfl))
        have hsb := opSp_bounds p.f p.n
        rw [show opSp p.f p.n = s from hs] at hsb
        have HSB := Lib.hid hsb
        unfold Sp.v at ksv
        clear hp hs hsb
        have hq : p.k.tmod 3 = 2 ∨ p.k.tmod 3 = -2 ∨ (¬ p.k.tmod 3 = 2 ∧ ¬ p.k.tmod 3 = -2) := by omega
        rcases hq with hq | hq | ⟨hq2, hqm⟩
        · go_wp2_with (first
            | (go_at_call 34; (with_reducible refine (ksv _).mono ?_); rintro e w4 ⟨rfl, hb⟩; (have ho4 := (setsOp8 w3 p).below hb (setsOp8 w3 p).room); (have h4 := ((HSK.out.keep ((Below.refl _ _).alloc (Nat.le_refl _) (.cells #[.int .i64 p.k, .int .i64 p.f, .int .i64 p.n] 51))).keep hb)); (have HNE := Lib.hid (show w4.heap.size ≠ ba by have := h4.set.room; omega)); (have HND := Lib.hid (show w4.heap.size ≠ w2.heap.size by have := h4.bits.room; omega)); (have HNV := Lib.hid (show va.ownBlock ≠ some w4.heap.size from fun e => by have := (World.ownsRow.lt h4.set.row _ e).2; omega)); (have HNY := Lib.hid (show vy.ownBlock ≠ some w4.heap.size from fun e => by have := (World.ownsRow.lt h4.bits.row _ e).2; omega)); (have H4 := Lib.hid (h4.keep ((Below.refl _ _).alloc (Nat.le_refl _) (.cells #[.int .i64 s.f, .int .i64 s.t] 26)))); (have HF4 := Lib.hid (SF.mk (w := w) (SpAt.new w4 s 26) H4.out.bel)); (have ho5 := ho4.below ((Below.refl w4.heap.size w4).alloc (Nat.le_refl _) (.cells #[.int .i64 s.f, .int .i64 s.t] 26)) ho4.room); (obtain ⟨o0, o1, o2⟩ := ho5); clear hb ho4 h4))
          refine wp_region_held_drew (S := (SF w w4.heap.size s)) (by kernel_rfl) HF4.out.drew (fun hHeld => ?_)
          refine wpAnyH_take (i := 0) (oi := ?oa1o) (v := ?oa1v) ?oa1h (by kernel_rfl) (by kernel_rfl) (by kernel_rfl) ?oa1q ?oa1y hHeld ?oa1r
          case oa1h => (simp only [List.getElem?_toArray, List.getElem?_cons_zero]; rfl)
          case oa1q => exact fun _ _ _ h => h
          case oa1y => (refine Or.inl ⟨by first | kernel_rfl | rfl, ?_⟩; intro w hSw; (try dsimp only at hSw); obtain ⟨⟨x0, x1⟩, -⟩ := hSw; go_simp <;> (try with_reducible rfl))
          try simp only [Act.put, List.setIfInBounds_toArray, List.set_cons_zero, List.set_cons_succ]
          refine wpAnyH_take (i := 1) (oi := ?oa2o) (v := ?oa2v) ?oa2h (by kernel_rfl) (by kernel_rfl) (by kernel_rfl) ?oa2q ?oa2y hHeld ?oa2r
          case oa2h => (simp only [List.getElem?_toArray, List.getElem?_cons_succ, List.getElem?_cons_zero]; rfl)
          case oa2q => exact fun _ _ _ h => h
          case oa2y => (refine Or.inl ⟨by first | kernel_rfl | rfl, ?_⟩; intro w hSw; (try dsimp only at hSw); obtain ⟨⟨x0, x1⟩, -⟩ := hSw; go_simp <;> (try with_reducible rfl))
          try simp only [Act.put, List.setIfInBounds_toArray, List.set_cons_zero, List.set_cons_succ]
          refine wpAnyH_take (i := 3) (oi := ?oa3o) (v := ?oa3v) ?oa3h (by kernel_rfl) (by kernel_rfl) (by kernel_rfl) ?oa3q ?oa3y hHeld ?oa3r
          case oa3h => (simp only [List.getElem?_toArray, List.getElem?_cons_succ, List.getElem?_cons_zero]; rfl)
          case oa3q => exact fun _ _ _ h => h
          case oa3y => (refine Or.inl ⟨by first | kernel_rfl | rfl, ?_⟩; intro w hSw; (try dsimp only at hSw); obtain ⟨⟨x0, x1⟩, -⟩ := hSw; go_simp <;> (try with_reducible rfl))
          try simp only [Act.put, List.setIfInBounds_toArray, List.set_cons_zero, List.set_cons_succ]
          refine wpAnyH_take (i := 4) (oi := ?oa4o) (v := ?oa4v) ?oa4h (by kernel_rfl) (by kernel_rfl) (by kernel_rfl) ?oa4q ?oa4y hHeld ?oa4r
          case oa4h => (simp only [List.getElem?_toArray, List.getElem?_cons_succ, List.getElem?_cons_zero]; rfl)
          case oa4q => exact fun _ _ _ h => h
          case oa4y => (refine Or.inl ⟨by first | kernel_rfl | rfl, ?_⟩; intro w hSw; (try dsimp only at hSw); obtain ⟨⟨x0, x1⟩, -⟩ := hSw; go_simp <;> (try with_reducible rfl))
          try simp only [Act.put, List.setIfInBounds_toArray, List.set_cons_zero, List.set_cons_succ]
          refine wpAnyH_ready (rs := [2]) (by kernel_rfl) (by simp) ?_
          refine (AllReadyH.cons rfl (fun K hK => ?_) AllReadyH.nil)
          go_simp
          (have kt := take_is ba va La s _ H4.out.drew.set HBO.out.canon (by have := HBO.out.few; omega)); unfold Sp.v at kt; (with_reducible refine kt.mono ?_); rintro e w30 ⟨T, ⟨va2, rfl, hset, hmv⟩, hok⟩; (have H30 := Lib.hid (H4.out.drew.moveA HTw.out hmv hset)); (obtain ⟨hbo, hch⟩ := HBO.out.take (by have := HSB.out; omega) hok); (have HBO2 := Lib.hid hbo); (have HHK := Lib.hid (hHeld.at_.moves hmv HNE.out HNV.out)); (obtain ⟨zz, hzz⟩ : ∃ z, changed T La = z := ⟨_, rfl⟩); rw [hzz]; rw [hzz] at hch; (have hqq : (zz == zz) = true := by simp)
          refine hK.out _ _ (SF.mk HHK.out H30.out.bel) (fun hHeld => ?_)
          clear hK K
          try simp only [Act.put, List.setIfInBounds_toArray, List.set_cons_zero, List.set_cons_succ]
          refine wpAnyH_ready (rs := [5]) (by kernel_rfl) (by simp) ?_
          refine (AllReadyH.cons rfl (fun K hK => ?_) AllReadyH.nil)
          go_simp
          (have kmk := rmark_is s false w2.heap.size vy B w30 H30.out.bits (by have := HBO.out.len; omega) (fun _ => by have := HSB.out; omega)); rw [← hch] at kmk; unfold Sp.v at kmk; (with_reducible refine kmk.mono ?_); rintro e w31 ⟨vy2, rfl, hset2, hmv2⟩; (have H31 := Lib.hid (H30.out.moveB HTw.out hmv2 hset2)); (have HHK2 := Lib.hid (HHK.out.moves hmv2 HND.out HNY.out)); clear kmk
          refine hK.out _ _ (SF.mk HHK2.out H31.out.bel) (fun hHeld => ?_)
          clear hK K
          try simp only [Act.put, List.setIfInBounds_toArray, List.set_cons_zero, List.set_cons_succ]
          refine wpAnyH_take (i := 6) (oi := ?oa5o) (v := ?oa5v) ?oa5h (by kernel_rfl) (by kernel_rfl) (by kernel_rfl) ?oa5q ?oa5y hHeld ?oa5r
          case oa5h => (simp only [List.getElem?_toArray, List.getElem?_cons_succ, List.getElem?_cons_zero]; rfl)
          case oa5q => exact fun _ _ _ h => h
          case oa5y => (refine Or.inl ⟨by first | kernel_rfl | rfl, ?_⟩; intro w hSw; (try dsimp only at hSw); obtain ⟨⟨x0, x1⟩, -⟩ := hSw; go_simp <;> (try with_reducible rfl))
          try simp only [Act.put, List.setIfInBounds_toArray, List.set_cons_zero, List.set_cons_succ]
          refine wpAnyH_take (i := 7) (oi := ?oa6o) (v := ?oa6v) ?oa6h (by kernel_rfl) (by kernel_rfl) (by kernel_rfl) ?oa6q ?oa6y hHeld ?oa6r
          case oa6h => (simp only [List.getElem?_toArray, List.getElem?_cons_succ, List.getElem?_cons_zero]; rfl)
          case oa6q => exact fun _ _ _ h => h
          case oa6y => (refine Or.inl ⟨by first | kernel_rfl | rfl, ?_⟩; intro w hSw; (try dsimp only at hSw); obtain ⟨⟨x0, x1⟩, -⟩ := hSw; go_simp <;> (try with_reducible rfl))
          try simp only [Act.put, List.setIfInBounds_toArray, List.set_cons_zero, List.set_cons_succ]
          refine wpAnyH_done (by kernel_rfl) ?_ _
          obtain ⟨B2, hB2⟩ : ∃ B2, (markB B s false).1 = B2 := ⟨_, rfl⟩
          rw [hB2] at HBO2 H31
          clear hHeld HHK HHK2 HF4 H4 H30 hch hset hset2 hmv hmv2 hok hbo hB2
          obtain ⟨n, hn⟩ : ∃ n, T.length = n := ⟨_, rfl⟩
          have HN := Lib.hid hn
          have hnb : n ≤ 1000 := by have := HBO2.out.few; omega
          obtain ⟨ay, cy, hvy⟩ := H31.out.bits.row.slice
          obtain ⟨m, hm⟩ : ∃ m, B2.length = m := ⟨_, rfl⟩
          rw [hm] at hvy
          have HM := Lib.hid hm
          subst hvy
          have krs := rspans_is w2.heap.size _ B2 _ H31.out.bits (by have := HBO2.out.len; omega)
          rw [HBO2.out.spans] at krs
          have hsame := fun (x y : Option Addr) (cx cy : Nat) (wr : World) (h1 : Sps wr wr.heap.size x T) (h2 : Sps wr wr.heap.size y T) => same_is x y cx cy T T true wr h1 h2 (by omega) (by omega) (Lib.hid (by simp))
          rw [hn] at hsame
          clear hn hm hqq hzz
          go_wp2_with (go_at_call 38; (with_reducible refine krs.mono ?_); rintro e w5 ⟨v5, rfl, hR, hb⟩; (obtain ⟨a5, c5, rfl⟩ := hR.slice); (rw [HN.out]); (have H5 := Lib.hid (H31.out.keep hb)); (have HP5 := Lib.hid hR.sps); clear hR hb)
          go_loopw [14, 15] (fun z x wr => ∃ k : Nat, x = .int .i64 (k : Int) ∧ k ≤ n ∧ z = .int .i64 (sumS (T.take k)) ∧ SK w ba w2.heap.size va2 (.slice ay m cy) T B2 wr ∧ Below w5.heap.size w5 wr) (fun _ x _ => n - (intOf x).toNat)
          case atStart => exact ⟨0, rfl, Nat.zero_le _, rfl, H5.out, Below.refl _ _⟩
          case round =>
            obtain ⟨k, rfl, hk, rfl, hSK6, hB6⟩ := hrel
            obtain ⟨w6, hw6⟩ : ∃ x, x = wr := ⟨_, rfl⟩
            subst hw6
            have hfew := fewOk HBO2.out.canon HBO2.out.lt
            have hbd := hfew.bound k
            obtain ⟨z, hz⟩ : ∃ z, sumS (T.take k) = z := ⟨_, rfl⟩
            rw [hz] at hbd ⊢
            have H6 := Lib.hid hSK6
            have HB6 := Lib.hid hB6
            clear hSK6 hB6
            by_cases hkn : k < n
            · have hkni : (k : Int) < (n : Int) := by omega
              have hkL : k < T.length := by rw [HN.out]; exact hkn
              rcases HP5.out.at_ with h0 | ⟨g5, off5, rfl, hgw, hc⟩
              · rw [h0] at hkL; simp at hkL
              · obtain ⟨u, hu⟩ : ∃ u, T[k] = u := ⟨_, rfl⟩
                have cq := (hc k hkL).below HB6.out hgw
                rw [hu] at cq
                obtain ⟨u0, u1⟩ := cq
                have hue : 0 ≤ u.f ∧ u.f ≤ u.t ∧ u.t ≤ 1099511627777 := hfew.each u (by rw [← hu]; exact List.getElem_mem hkL)
                have HNX := Lib.hid (show sumS (T.take (k + 1)) = z + u.t - u.f by rw [List.take_succ_eq_append_getElem hkL, sumS_snoc, hz, hu]; omega)
                have hwk : IntKind.i64.wrap ((k : Int) + 1) = (k : Int) + 1 := by rw [IntKind.wrap_i64]; omega
                have hw1 : IntKind.i64.wrap (z + u.t) = z + u.t := by rw [IntKind.wrap_i64]; omega
                have hw2 : IntKind.i64.wrap (z + u.t - u.f) = z + u.t - u.f := by rw [IntKind.wrap_i64]; omega
                clear hc hu hz hbd hue hfew
                go_wp2_with fail
                go_quiet (fail)
                go_wp2
                go_roundw
                case rel => exact ⟨k + 1, by go_num, hkn, by rw [HNX.out], H6.out.keep (by first | exact Below.refl _ _ | exact (Below.refl _ _).drew | exact below_drewN (Below.refl _ _) _), by first | exact HB6.out | exact HB6.out.drew | exact below_drewN HB6.out _⟩
                case measure => simp [intOf]; omega
            · have hkni : ¬ (k : Int) < (n : Int) := by omega
              have HZ := Lib.hid (show sumS T = z by rw [← hz, List.take_of_length_le (by rw [HN.out]; omega)])
              have HFW := Lib.hid hfew
              have kps := pspans_is ba va2 T w6 H6.out.set (by have := HBO2.out.few; omega)
              have HPS6 := Lib.hid ((HP5.out.below HB6.out).mono HB6.out.size)
              have hzz : (z == z) = true := by simp
              clear hz hbd hfew
              by_cases ht0 : 0 ≤ t
              · obtain ⟨tn, rfl⟩ : ∃ tn : Nat, t = (tn : Int) := ⟨t.toNat, by omega⟩
                by_cases htm : tn < m
                · have htmi : (tn : Int) < (m : Int) := by omega
                  obtain ⟨gy, rfl, -⟩ := setsBit H6.out.bits HM.out htm
                  have HBI := Lib.hid (HBO2.out.in_ (t := (tn : Int)) (z := B2.getD tn false) (by rw [Int.toNat_natCast]; exact ⟨fun h => ⟨(by omega), h⟩, fun h => h.2⟩))
                  cases hbit : B2.getD tn false with
                  | true =>
                    rw [hbit] at HBI
                    have HBT := Lib.hid hbit
                    clear hbit
                    go_wp2_with (first
                      | (go_at_call 39; (with_reducible refine kps.mono ?_); rintro e w7 ⟨v7, rfl, hR, hb⟩; (obtain ⟨a7, c7, rfl⟩ := hR.slice); (rw [HN.out]); (have H7 := Lib.hid (H6.out.keep hb)); (have kss := hsame a7 a5 c7 c5 w7 hR.sps ((HPS6.out.below hb).mono hb.size)); clear hR hb)
                      | (go_at_call 18; (with_reducible refine kss.mono ?_); rintro e w8 ⟨rfl, hb⟩; (have H8 := Lib.hid (H7.out.keep hb)); (obtain ⟨gz, hgz, hby⟩ := setsBit H8.out.bits HM.out htm); (injection hgz with hgz; injection hgz with hgz; subst hgz); rw [HBT.out] at hby; (have cyy := H8.out.bits.cell); clear hb)
                      | (go_at_call 40; (have kz := psize_is ba va2 T _ H8.out.set HFW.out); (with_reducible refine kz.mono ?_); rintro e w9 ⟨rfl, hb⟩; (rw [HZ.out]); (have H9 := Lib.hid (H8.out.keep hb)); clear hb)
                      | (go_at_call 41; (have kha := phas_is ba va2 T (tn : Int) w9 H9.out.tab (by omega) H9.out.set HBO2.out.canon (HBO2.out.canon.top (K := 1099511627777) (fun x hx => by have := HBO2.out.lt x hx; omega)) (by have := HBO2.out.few; omega)); (rw [HBI.out] at kha); (with_reducible refine kha.mono ?_); rintro e w10 ⟨rfl, hb⟩; (have H10 := Lib.hid (H9.out.keep hb)); clear hb))
                    go_roundw
                    case rel => exact ⟨i + 1, va2, _, T, B2, by go_num, hi40, H10.out, HBO2.out⟩
                    case measure => simp [intOf]; omega
                  | false =>
                    rw [hbit] at HBI
                    have HBT := Lib.hid hbit
                    clear hbit
                    go_wp2_with (first
                      | (go_at_call 39; (with_reducible refine kps.mono ?_); rintro e w7 ⟨v7, rfl, hR, hb⟩; (obtain ⟨a7, c7, rfl⟩ := hR.slice); (rw [HN.out]); (have H7 := Lib.hid (H6.out.keep hb)); (have kss := hsame a7 a5 c7 c5 w7 hR.sps ((HPS6.out.below hb).mono hb.size)); clear hR hb)
                      | (go_at_call 18; (with_reducible refine kss.mono ?_); rintro e w8 ⟨rfl, hb⟩; (have H8 := Lib.hid (H7.out.keep hb)); (obtain ⟨gz, hgz, hby⟩ := setsBit H8.out.bits HM.out htm); (injection hgz with hgz; injection hgz with hgz; subst hgz); rw [HBT.out] at hby; (have cyy := H8.out.bits.cell); clear hb)
                      | (go_at_call 40; (have kz := psize_is ba va2 T _ H8.out.set HFW.out); (with_reducible refine kz.mono ?_); rintro e w9 ⟨rfl, hb⟩; (rw [HZ.out]); (have H9 := Lib.hid (H8.out.keep hb)); clear hb)
                      | (go_at_call 41; (have kha := phas_is ba va2 T (tn : Int) w9 H9.out.tab (by omega) H9.out.set HBO2.out.canon (HBO2.out.canon.top (K := 1099511627777) (fun x hx => by have := HBO2.out.lt x hx; omega)) (by have := HBO2.out.few; omega)); (rw [HBI.out] at kha); (with_reducible refine kha.mono ?_); rintro e w10 ⟨rfl, hb⟩; (have H10 := Lib.hid (H9.out.keep hb)); clear hb))
                    go_roundw
                    case rel => exact ⟨i + 1, va2, _, T, B2, by go_num, hi40, H10.out, HBO2.out⟩
                    case measure => simp [intOf]; omega
                · have htmi : ¬ (tn : Int) < (m : Int) := by omega
                  have HBI := Lib.hid (HBO2.out.in_ (t := (tn : Int)) (z := false) ⟨fun h => (by cases h), fun h => by rw [Int.toNat_natCast] at h; have := getD_lt h.2; rw [HM.out] at this; omega⟩)
                  go_wp2_with (first
                    | (go_at_call 39; (with_reducible refine kps.mono ?_); rintro e w7 ⟨v7, rfl, hR, hb⟩; (obtain ⟨a7, c7, rfl⟩ := hR.slice); (rw [HN.out]); (have H7 := Lib.hid (H6.out.keep hb)); (have kss := hsame a7 a5 c7 c5 w7 hR.sps ((HPS6.out.below hb).mono hb.size)); clear hR hb)
                    | (go_at_call 18; (with_reducible refine kss.mono ?_); rintro e w8 ⟨rfl, hb⟩; (have H8 := Lib.hid (H7.out.keep hb)); (have cyy := H8.out.bits.cell); clear hb)
                    | (go_at_call 40; (have kz := psize_is ba va2 T _ H8.out.set HFW.out); (with_reducible refine kz.mono ?_); rintro e w9 ⟨rfl, hb⟩; (rw [HZ.out]); (have H9 := Lib.hid (H8.out.keep hb)); clear hb)
                    | (go_at_call 41; (have kha := phas_is ba va2 T (tn : Int) w9 H9.out.tab (by omega) H9.out.set HBO2.out.canon (HBO2.out.canon.top (K := 1099511627777) (fun x hx => by have := HBO2.out.lt x hx; omega)) (by have := HBO2.out.few; omega)); (rw [HBI.out] at kha); (with_reducible refine kha.mono ?_); rintro e w10 ⟨rfl, hb⟩; (have H10 := Lib.hid (H9.out.keep hb)); clear hb))
                  go_roundw
                  case rel => exact ⟨i + 1, va2, _, T, B2, by go_num, hi40, H10.out, HBO2.out⟩
                  case measure => simp [intOf]; omega
              · have HBI := Lib.hid (HBO2.out.in_ (t := t) (z := false) ⟨fun h => (by cases h), fun h => by omega⟩)
                go_wp2_with (first
                  | (go_at_call 39; (with_reducible refine kps.mono ?_); rintro e w7 ⟨v7, rfl, hR, hb⟩; (obtain ⟨a7, c7, rfl⟩ := hR.slice); (rw [HN.out]); (have H7 := Lib.hid (H6.out.keep hb)); (have kss := hsame a7 a5 c7 c5 w7 hR.sps ((HPS6.out.below hb).mono hb.size)); clear hR hb)
                  | (go_at_call 18; (with_reducible refine kss.mono ?_); rintro e w8 ⟨rfl, hb⟩; (have H8 := Lib.hid (H7.out.keep hb)); (have cyy := H8.out.bits.cell); clear hb)
                  | (go_at_call 40; (have kz := psize_is ba va2 T _ H8.out.set HFW.out); (with_reducible refine kz.mono ?_); rintro e w9 ⟨rfl, hb⟩; (rw [HZ.out]); (have H9 := Lib.hid (H8.out.keep hb)); clear hb)
                  | (go_at_call 41; (have kha := phas_is ba va2 T t w9 H9.out.tab (by omega) H9.out.set HBO2.out.canon (HBO2.out.canon.top (K := 1099511627777) (fun x hx => by have := HBO2.out.lt x hx; omega)) (by have := HBO2.out.few; omega)); (rw [HBI.out] at kha); (with_reducible refine kha.mono ?_); rintro e w10 ⟨rfl, hb⟩; (have H10 := Lib.hid (H9.out.keep hb)); clear hb))
                go_roundw
                case rel => exact ⟨i + 1, va2, _, T, B2, by go_num, hi40, H10.out, HBO2.out⟩
                case measure => simp [intOf]; omega
        · go_wp2_with (first
            | (go_at_call 34; (with_reducible refine (ksv _).mono ?_); rintro e w4 ⟨rfl, hb⟩; (have ho4 := (setsOp8 w3 p).below hb (setsOp8 w3 p).room); (have h4 := ((HSK.out.keep ((Below.refl _ _).alloc (Nat.le_refl _) (.cells #[.int .i64 p.k, .int .i64 p.f, .int .i64 p.n] 51))).keep hb)); (have HNE := Lib.hid (show w4.heap.size ≠ ba by have := h4.set.room; omega)); (have HND := Lib.hid (show w4.heap.size ≠ w2.heap.size by have := h4.bits.room; omega)); (have HNV := Lib.hid (show va.ownBlock ≠ some w4.heap.size from fun e => by have := (World.ownsRow.lt h4.set.row _ e).2; omega)); (have HNY := Lib.hid (show vy.ownBlock ≠ some w4.heap.size from fun e => by have := (World.ownsRow.lt h4.bits.row _ e).2; omega)); (have H4 := Lib.hid (h4.keep ((Below.refl _ _).alloc (Nat.le_refl _) (.cells #[.int .i64 s.f, .int .i64 s.t] 26)))); (have HF4 := Lib.hid (SF.mk (w := w) (SpAt.new w4 s 26) H4.out.bel)); (have ho5 := ho4.below ((Below.refl w4.heap.size w4).alloc (Nat.le_refl _) (.cells #[.int .i64 s.f, .int .i64 s.t] 26)) ho4.room); (obtain ⟨o0, o1, o2⟩ := ho5); clear hb ho4 h4))
          refine wp_region_held_drew (S := (SF w w4.heap.size s)) (by kernel_rfl) HF4.out.drew (fun hHeld => ?_)
          refine wpAnyH_take (i := 0) (oi := ?ob1o) (v := ?ob1v) ?ob1h (by kernel_rfl) (by kernel_rfl) (by kernel_rfl) ?ob1q ?ob1y hHeld ?ob1r
          case ob1h => (simp only [List.getElem?_toArray, List.getElem?_cons_zero]; rfl)
          case ob1q => exact fun _ _ _ h => h
          case ob1y => (refine Or.inl ⟨by first | kernel_rfl | rfl, ?_⟩; intro w hSw; (try dsimp only at hSw); obtain ⟨⟨x0, x1⟩, -⟩ := hSw; go_simp <;> (try with_reducible rfl))
          try simp only [Act.put, List.setIfInBounds_toArray, List.set_cons_zero, List.set_cons_succ]
          refine wpAnyH_take (i := 1) (oi := ?ob2o) (v := ?ob2v) ?ob2h (by kernel_rfl) (by kernel_rfl) (by kernel_rfl) ?ob2q ?ob2y hHeld ?ob2r
          case ob2h => (simp only [List.getElem?_toArray, List.getElem?_cons_succ, List.getElem?_cons_zero]; rfl)
          case ob2q => exact fun _ _ _ h => h
          case ob2y => (refine Or.inl ⟨by first | kernel_rfl | rfl, ?_⟩; intro w hSw; (try dsimp only at hSw); obtain ⟨⟨x0, x1⟩, -⟩ := hSw; go_simp <;> (try with_reducible rfl))
          try simp only [Act.put, List.setIfInBounds_toArray, List.set_cons_zero, List.set_cons_succ]
          refine wpAnyH_take (i := 3) (oi := ?ob3o) (v := ?ob3v) ?ob3h (by kernel_rfl) (by kernel_rfl) (by kernel_rfl) ?ob3q ?ob3y hHeld ?ob3r
          case ob3h => (simp only [List.getElem?_toArray, List.getElem?_cons_succ, List.getElem?_cons_zero]; rfl)
          case ob3q => exact fun _ _ _ h => h
          case ob3y => (refine Or.inl ⟨by first | kernel_rfl | rfl, ?_⟩; intro w hSw; (try dsimp only at hSw); obtain ⟨⟨x0, x1⟩, -⟩ := hSw; go_simp <;> (try with_reducible rfl))
          try simp only [Act.put, List.setIfInBounds_toArray, List.set_cons_zero, List.set_cons_succ]
          refine wpAnyH_take (i := 4) (oi := ?ob4o) (v := ?ob4v) ?ob4h (by kernel_rfl) (by kernel_rfl) (by kernel_rfl) ?ob4q ?ob4y hHeld ?ob4r
          case ob4h => (simp only [List.getElem?_toArray, List.getElem?_cons_succ, List.getElem?_cons_zero]; rfl)
          case ob4q => exact fun _ _ _ h => h
          case ob4y => (refine Or.inl ⟨by first | kernel_rfl | rfl, ?_⟩; intro w hSw; (try dsimp only at hSw); obtain ⟨⟨x0, x1⟩, -⟩ := hSw; go_simp <;> (try with_reducible rfl))
          try simp only [Act.put, List.setIfInBounds_toArray, List.set_cons_zero, List.set_cons_succ]
          refine wpAnyH_ready (rs := [2]) (by kernel_rfl) (by simp) ?_
          refine (AllReadyH.cons rfl (fun K hK => ?_) AllReadyH.nil)
          go_simp
          (have kt := take_is ba va La s _ H4.out.drew.set HBO.out.canon (by have := HBO.out.few; omega)); unfold Sp.v at kt; (with_reducible refine kt.mono ?_); rintro e w30 ⟨T, ⟨va2, rfl, hset, hmv⟩, hok⟩; (have H30 := Lib.hid (H4.out.drew.moveA HTw.out hmv hset)); (obtain ⟨hbo, hch⟩ := HBO.out.take (by have := HSB.out; omega) hok); (have HBO2 := Lib.hid hbo); (have HHK := Lib.hid (hHeld.at_.moves hmv HNE.out HNV.out)); (obtain ⟨zz, hzz⟩ : ∃ z, changed T La = z := ⟨_, rfl⟩); rw [hzz]; rw [hzz] at hch; (have hqq : (zz == zz) = true := by simp)
          refine hK.out _ _ (SF.mk HHK.out H30.out.bel) (fun hHeld => ?_)
          clear hK K
          try simp only [Act.put, List.setIfInBounds_toArray, List.set_cons_zero, List.set_cons_succ]
          refine wpAnyH_ready (rs := [5]) (by kernel_rfl) (by simp) ?_
          refine (AllReadyH.cons rfl (fun K hK => ?_) AllReadyH.nil)
          go_simp
          (have kmk := rmark_is s false w2.heap.size vy B w30 H30.out.bits (by have := HBO.out.len; omega) (fun _ => by have := HSB.out; omega)); rw [← hch] at kmk; unfold Sp.v at kmk; (with_reducible refine kmk.mono ?_); rintro e w31 ⟨vy2, rfl, hset2, hmv2⟩; (have H31 := Lib.hid (H30.out.moveB HTw.out hmv2 hset2)); (have HHK2 := Lib.hid (HHK.out.moves hmv2 HND.out HNY.out)); clear kmk
          refine hK.out _ _ (SF.mk HHK2.out H31.out.bel) (fun hHeld => ?_)
          clear hK K
          try simp only [Act.put, List.setIfInBounds_toArray, List.set_cons_zero, List.set_cons_succ]
          refine wpAnyH_take (i := 6) (oi := ?ob5o) (v := ?ob5v) ?ob5h (by kernel_rfl) (by kernel_rfl) (by kernel_rfl) ?ob5q ?ob5y hHeld ?ob5r
          case ob5h => (simp only [List.getElem?_toArray, List.getElem?_cons_succ, List.getElem?_cons_zero]; rfl)
          case ob5q => exact fun _ _ _ h => h
          case ob5y => (refine Or.inl ⟨by first | kernel_rfl | rfl, ?_⟩; intro w hSw; (try dsimp only at hSw); obtain ⟨⟨x0, x1⟩, -⟩ := hSw; go_simp <;> (try with_reducible rfl))
          try simp only [Act.put, List.setIfInBounds_toArray, List.set_cons_zero, List.set_cons_succ]
          refine wpAnyH_take (i := 7) (oi := ?ob6o) (v := ?ob6v) ?ob6h (by kernel_rfl) (by kernel_rfl) (by kernel_rfl) ?ob6q ?ob6y hHeld ?ob6r
          case ob6h => (simp only [List.getElem?_toArray, List.getElem?_cons_succ, List.getElem?_cons_zero]; rfl)
          case ob6q => exact fun _ _ _ h => h
          case ob6y => (refine Or.inl ⟨by first | kernel_rfl | rfl, ?_⟩; intro w hSw; (try dsimp only at hSw); obtain ⟨⟨x0, x1⟩, -⟩ := hSw; go_simp <;> (try with_reducible rfl))
          try simp only [Act.put, List.setIfInBounds_toArray, List.set_cons_zero, List.set_cons_succ]
          refine wpAnyH_done (by kernel_rfl) ?_ _
          obtain ⟨B2, hB2⟩ : ∃ B2, (markB B s false).1 = B2 := ⟨_, rfl⟩
          rw [hB2] at HBO2 H31
          clear hHeld HHK HHK2 HF4 H4 H30 hch hset hset2 hmv hmv2 hok hbo hB2
          obtain ⟨n, hn⟩ : ∃ n, T.length = n := ⟨_, rfl⟩
          have HN := Lib.hid hn
          have hnb : n ≤ 1000 := by have := HBO2.out.few; omega
          obtain ⟨ay, cy, hvy⟩ := H31.out.bits.row.slice
          obtain ⟨m, hm⟩ : ∃ m, B2.length = m := ⟨_, rfl⟩
          rw [hm] at hvy
          have HM := Lib.hid hm
          subst hvy
          have krs := rspans_is w2.heap.size _ B2 _ H31.out.bits (by have := HBO2.out.len; omega)
          rw [HBO2.out.spans] at krs
          have hsame := fun (x y : Option Addr) (cx cy : Nat) (wr : World) (h1 : Sps wr wr.heap.size x T) (h2 : Sps wr wr.heap.size y T) => same_is x y cx cy T T true wr h1 h2 (by omega) (by omega) (Lib.hid (by simp))
          rw [hn] at hsame
          clear hn hm hqq hzz
          go_wp2_with (go_at_call 38; (with_reducible refine krs.mono ?_); rintro e w5 ⟨v5, rfl, hR, hb⟩; (obtain ⟨a5, c5, rfl⟩ := hR.slice); (rw [HN.out]); (have H5 := Lib.hid (H31.out.keep hb)); (have HP5 := Lib.hid hR.sps); clear hR hb)
          go_loopw [14, 15] (fun z x wr => ∃ k : Nat, x = .int .i64 (k : Int) ∧ k ≤ n ∧ z = .int .i64 (sumS (T.take k)) ∧ SK w ba w2.heap.size va2 (.slice ay m cy) T B2 wr ∧ Below w5.heap.size w5 wr) (fun _ x _ => n - (intOf x).toNat)
          case atStart => exact ⟨0, rfl, Nat.zero_le _, rfl, H5.out, Below.refl _ _⟩
          case round =>
            obtain ⟨k, rfl, hk, rfl, hSK6, hB6⟩ := hrel
            obtain ⟨w6, hw6⟩ : ∃ x, x = wr := ⟨_, rfl⟩
            subst hw6
            have hfew := fewOk HBO2.out.canon HBO2.out.lt
            have hbd := hfew.bound k
            obtain ⟨z, hz⟩ : ∃ z, sumS (T.take k) = z := ⟨_, rfl⟩
            rw [hz] at hbd ⊢
            have H6 := Lib.hid hSK6
            have HB6 := Lib.hid hB6
            clear hSK6 hB6
            by_cases hkn : k < n
            · have hkni : (k : Int) < (n : Int) := by omega
              have hkL : k < T.length := by rw [HN.out]; exact hkn
              rcases HP5.out.at_ with h0 | ⟨g5, off5, rfl, hgw, hc⟩
              · rw [h0] at hkL; simp at hkL
              · obtain ⟨u, hu⟩ : ∃ u, T[k] = u := ⟨_, rfl⟩
                have cq := (hc k hkL).below HB6.out hgw
                rw [hu] at cq
                obtain ⟨u0, u1⟩ := cq
                have hue : 0 ≤ u.f ∧ u.f ≤ u.t ∧ u.t ≤ 1099511627777 := hfew.each u (by rw [← hu]; exact List.getElem_mem hkL)
                have HNX := Lib.hid (show sumS (T.take (k + 1)) = z + u.t - u.f by rw [List.take_succ_eq_append_getElem hkL, sumS_snoc, hz, hu]; omega)
                have hwk : IntKind.i64.wrap ((k : Int) + 1) = (k : Int) + 1 := by rw [IntKind.wrap_i64]; omega
                have hw1 : IntKind.i64.wrap (z + u.t) = z + u.t := by rw [IntKind.wrap_i64]; omega
                have hw2 : IntKind.i64.wrap (z + u.t - u.f) = z + u.t - u.f := by rw [IntKind.wrap_i64]; omega
                clear hc hu hz hbd hue hfew
                go_wp2_with fail
                go_quiet (fail)
                go_wp2
                go_roundw
                case rel => exact ⟨k + 1, by go_num, hkn, by rw [HNX.out], H6.out.keep (by first | exact Below.refl _ _ | exact (Below.refl _ _).drew | exact below_drewN (Below.refl _ _) _), by first | exact HB6.out | exact HB6.out.drew | exact below_drewN HB6.out _⟩
                case measure => simp [intOf]; omega
            · have hkni : ¬ (k : Int) < (n : Int) := by omega
              have HZ := Lib.hid (show sumS T = z by rw [← hz, List.take_of_length_le (by rw [HN.out]; omega)])
              have HFW := Lib.hid hfew
              have kps := pspans_is ba va2 T w6 H6.out.set (by have := HBO2.out.few; omega)
              have HPS6 := Lib.hid ((HP5.out.below HB6.out).mono HB6.out.size)
              have hzz : (z == z) = true := by simp
              clear hz hbd hfew
              by_cases ht0 : 0 ≤ t
              · obtain ⟨tn, rfl⟩ : ∃ tn : Nat, t = (tn : Int) := ⟨t.toNat, by omega⟩
                by_cases htm : tn < m
                · have htmi : (tn : Int) < (m : Int) := by omega
                  obtain ⟨gy, rfl, -⟩ := setsBit H6.out.bits HM.out htm
                  have HBI := Lib.hid (HBO2.out.in_ (t := (tn : Int)) (z := B2.getD tn false) (by rw [Int.toNat_natCast]; exact ⟨fun h => ⟨(by omega), h⟩, fun h => h.2⟩))
                  cases hbit : B2.getD tn false with
                  | true =>
                    rw [hbit] at HBI
                    have HBT := Lib.hid hbit
                    clear hbit
                    go_wp2_with (first
                      | (go_at_call 39; (with_reducible refine kps.mono ?_); rintro e w7 ⟨v7, rfl, hR, hb⟩; (obtain ⟨a7, c7, rfl⟩ := hR.slice); (rw [HN.out]); (have H7 := Lib.hid (H6.out.keep hb)); (have kss := hsame a7 a5 c7 c5 w7 hR.sps ((HPS6.out.below hb).mono hb.size)); clear hR hb)
                      | (go_at_call 18; (with_reducible refine kss.mono ?_); rintro e w8 ⟨rfl, hb⟩; (have H8 := Lib.hid (H7.out.keep hb)); (obtain ⟨gz, hgz, hby⟩ := setsBit H8.out.bits HM.out htm); (injection hgz with hgz; injection hgz with hgz; subst hgz); rw [HBT.out] at hby; (have cyy := H8.out.bits.cell); clear hb)
                      | (go_at_call 40; (have kz := psize_is ba va2 T _ H8.out.set HFW.out); (with_reducible refine kz.mono ?_); rintro e w9 ⟨rfl, hb⟩; (rw [HZ.out]); (have H9 := Lib.hid (H8.out.keep hb)); clear hb)
                      | (go_at_call 41; (have kha := phas_is ba va2 T (tn : Int) w9 H9.out.tab (by omega) H9.out.set HBO2.out.canon (HBO2.out.canon.top (K := 1099511627777) (fun x hx => by have := HBO2.out.lt x hx; omega)) (by have := HBO2.out.few; omega)); (rw [HBI.out] at kha); (with_reducible refine kha.mono ?_); rintro e w10 ⟨rfl, hb⟩; (have H10 := Lib.hid (H9.out.keep hb)); clear hb))
                    go_roundw
                    case rel => exact ⟨i + 1, va2, _, T, B2, by go_num, hi40, H10.out, HBO2.out⟩
                    case measure => simp [intOf]; omega
                  | false =>
                    rw [hbit] at HBI
                    have HBT := Lib.hid hbit
                    clear hbit
                    go_wp2_with (first
                      | (go_at_call 39; (with_reducible refine kps.mono ?_); rintro e w7 ⟨v7, rfl, hR, hb⟩; (obtain ⟨a7, c7, rfl⟩ := hR.slice); (rw [HN.out]); (have H7 := Lib.hid (H6.out.keep hb)); (have kss := hsame a7 a5 c7 c5 w7 hR.sps ((HPS6.out.below hb).mono hb.size)); clear hR hb)
                      | (go_at_call 18; (with_reducible refine kss.mono ?_); rintro e w8 ⟨rfl, hb⟩; (have H8 := Lib.hid (H7.out.keep hb)); (obtain ⟨gz, hgz, hby⟩ := setsBit H8.out.bits HM.out htm); (injection hgz with hgz; injection hgz with hgz; subst hgz); rw [HBT.out] at hby; (have cyy := H8.out.bits.cell); clear hb)
                      | (go_at_call 40; (have kz := psize_is ba va2 T _ H8.out.set HFW.out); (with_reducible refine kz.mono ?_); rintro e w9 ⟨rfl, hb⟩; (rw [HZ.out]); (have H9 := Lib.hid (H8.out.keep hb)); clear hb)
                      | (go_at_call 41; (have kha := phas_is ba va2 T (tn : Int) w9 H9.out.tab (by omega) H9.out.set HBO2.out.canon (HBO2.out.canon.top (K := 1099511627777) (fun x hx => by have := HBO2.out.lt x hx; omega)) (by have := HBO2.out.few; omega)); (rw [HBI.out] at kha); (with_reducible refine kha.mono ?_); rintro e w10 ⟨rfl, hb⟩; (have H10 := Lib.hid (H9.out.keep hb)); clear hb))
                    go_roundw
                    case rel => exact ⟨i + 1, va2, _, T, B2, by go_num, hi40, H10.out, HBO2.out⟩
                    case measure => simp [intOf]; omega
                · have htmi : ¬ (tn : Int) < (m : Int) := by omega
                  have HBI := Lib.hid (HBO2.out.in_ (t := (tn : Int)) (z := false) ⟨fun h => (by cases h), fun h => by rw [Int.toNat_natCast] at h; have := getD_lt h.2; rw [HM.out] at this; omega⟩)
                  go_wp2_with (first
                    | (go_at_call 39; (with_reducible refine kps.mono ?_); rintro e w7 ⟨v7, rfl, hR, hb⟩; (obtain ⟨a7, c7, rfl⟩ := hR.slice); (rw [HN.out]); (have H7 := Lib.hid (H6.out.keep hb)); (have kss := hsame a7 a5 c7 c5 w7 hR.sps ((HPS6.out.below hb).mono hb.size)); clear hR hb)
                    | (go_at_call 18; (with_reducible refine kss.mono ?_); rintro e w8 ⟨rfl, hb⟩; (have H8 := Lib.hid (H7.out.keep hb)); (have cyy := H8.out.bits.cell); clear hb)
                    | (go_at_call 40; (have kz := psize_is ba va2 T _ H8.out.set HFW.out); (with_reducible refine kz.mono ?_); rintro e w9 ⟨rfl, hb⟩; (rw [HZ.out]); (have H9 := Lib.hid (H8.out.keep hb)); clear hb)
                    | (go_at_call 41; (have kha := phas_is ba va2 T (tn : Int) w9 H9.out.tab (by omega) H9.out.set HBO2.out.canon (HBO2.out.canon.top (K := 1099511627777) (fun x hx => by have := HBO2.out.lt x hx; omega)) (by have := HBO2.out.few; omega)); (rw [HBI.out] at kha); (with_reducible refine kha.mono ?_); rintro e w10 ⟨rfl, hb⟩; (have H10 := Lib.hid (H9.out.keep hb)); clear hb))
                  go_roundw
                  case rel => exact ⟨i + 1, va2, _, T, B2, by go_num, hi40, H10.out, HBO2.out⟩
                  case measure => simp [intOf]; omega
              · have HBI := Lib.hid (HBO2.out.in_ (t := t) (z := false) ⟨fun h => (by cases h), fun h => by omega⟩)
                go_wp2_with (first
                  | (go_at_call 39; (with_reducible refine kps.mono ?_); rintro e w7 ⟨v7, rfl, hR, hb⟩; (obtain ⟨a7, c7, rfl⟩ := hR.slice); (rw [HN.out]); (have H7 := Lib.hid (H6.out.keep hb)); (have kss := hsame a7 a5 c7 c5 w7 hR.sps ((HPS6.out.below hb).mono hb.size)); clear hR hb)
                  | (go_at_call 18; (with_reducible refine kss.mono ?_); rintro e w8 ⟨rfl, hb⟩; (have H8 := Lib.hid (H7.out.keep hb)); (have cyy := H8.out.bits.cell); clear hb)
                  | (go_at_call 40; (have kz := psize_is ba va2 T _ H8.out.set HFW.out); (with_reducible refine kz.mono ?_); rintro e w9 ⟨rfl, hb⟩; (rw [HZ.out]); (have H9 := Lib.hid (H8.out.keep hb)); clear hb)
                  | (go_at_call 41; (have kha := phas_is ba va2 T t w9 H9.out.tab (by omega) H9.out.set HBO2.out.canon (HBO2.out.canon.top (K := 1099511627777) (fun x hx => by have := HBO2.out.lt x hx; omega)) (by have := HBO2.out.few; omega)); (rw [HBI.out] at kha); (with_reducible refine kha.mono ?_); rintro e w10 ⟨rfl, hb⟩; (have H10 := Lib.hid (H9.out.keep hb)); clear hb))
                go_roundw
                case rel => exact ⟨i + 1, va2, _, T, B2, by go_num, hi40, H10.out, HBO2.out⟩
                case measure => simp [intOf]; omega
        · obtain ⟨q, hq⟩ : ∃ q, p.k.tmod 3 = q := ⟨_, rfl⟩
          rw [hq] at hq2 hqm
          have hb1 : (q == 2) = false := by simpa using hq2
          have hb2 : (q == -2) = false := by simpa using hqm
          go_wp2_with (first
            | (go_at_call 34; (with_reducible refine (ksv _).mono ?_); rintro e w4 ⟨rfl, hb⟩; (have ho4 := (setsOp8 w3 p).below hb (setsOp8 w3 p).room); (have h4 := ((HSK.out.keep ((Below.refl _ _).alloc (Nat.le_refl _) (.cells #[.int .i64 p.k, .int .i64 p.f, .int .i64 p.n] 51))).keep hb)); (have HNE := Lib.hid (show w4.heap.size ≠ ba by have := h4.set.room; omega)); (have HND := Lib.hid (show w4.heap.size ≠ w2.heap.size by have := h4.bits.room; omega)); (have HNV := Lib.hid (show va.ownBlock ≠ some w4.heap.size from fun e => by have := (World.ownsRow.lt h4.set.row _ e).2; omega)); (have HNY := Lib.hid (show vy.ownBlock ≠ some w4.heap.size from fun e => by have := (World.ownsRow.lt h4.bits.row _ e).2; omega)); (have H4 := Lib.hid (h4.keep ((Below.refl _ _).alloc (Nat.le_refl _) (.cells #[.int .i64 s.f, .int .i64 s.t] 26)))); (have HF4 := Lib.hid (SF.mk (w := w) (SpAt.new w4 s 26) H4.out.bel)); (have ho5 := ho4.below ((Below.refl w4.heap.size w4).alloc (Nat.le_refl _) (.cells #[.int .i64 s.f, .int .i64 s.t] 26)) ho4.room); (obtain ⟨o0, o1, o2⟩ := ho5); clear hb ho4 h4))
          refine wp_region_held_drew (S := (SF w w4.heap.size s)) (by kernel_rfl) HF4.out.drew (fun hHeld => ?_)
          refine wpAnyH_take (i := 0) (oi := ?oc1o) (v := ?oc1v) ?oc1h (by kernel_rfl) (by kernel_rfl) (by kernel_rfl) ?oc1q ?oc1y hHeld ?oc1r
          case oc1h => (simp only [List.getElem?_toArray, List.getElem?_cons_zero]; rfl)
          case oc1q => exact fun _ _ _ h => h
          case oc1y => (refine Or.inl ⟨by first | kernel_rfl | rfl, ?_⟩; intro w hSw; (try dsimp only at hSw); obtain ⟨⟨x0, x1⟩, -⟩ := hSw; go_simp <;> (try with_reducible rfl))
          try simp only [Act.put, List.setIfInBounds_toArray, List.set_cons_zero, List.set_cons_succ]
          refine wpAnyH_take (i := 1) (oi := ?oc2o) (v := ?oc2v) ?oc2h (by kernel_rfl) (by kernel_rfl) (by kernel_rfl) ?oc2q ?oc2y hHeld ?oc2r
          case oc2h => (simp only [List.getElem?_toArray, List.getElem?_cons_succ, List.getElem?_cons_zero]; rfl)
          case oc2q => exact fun _ _ _ h => h
          case oc2y => (refine Or.inl ⟨by first | kernel_rfl | rfl, ?_⟩; intro w hSw; (try dsimp only at hSw); obtain ⟨⟨x0, x1⟩, -⟩ := hSw; go_simp <;> (try with_reducible rfl))
          try simp only [Act.put, List.setIfInBounds_toArray, List.set_cons_zero, List.set_cons_succ]
          refine wpAnyH_take (i := 3) (oi := ?oc3o) (v := ?oc3v) ?oc3h (by kernel_rfl) (by kernel_rfl) (by kernel_rfl) ?oc3q ?oc3y hHeld ?oc3r
          case oc3h => (simp only [List.getElem?_toArray, List.getElem?_cons_succ, List.getElem?_cons_zero]; rfl)
          case oc3q => exact fun _ _ _ h => h
          case oc3y => (refine Or.inl ⟨by first | kernel_rfl | rfl, ?_⟩; intro w hSw; (try dsimp only at hSw); obtain ⟨⟨x0, x1⟩, -⟩ := hSw; go_simp <;> (try with_reducible rfl))
          try simp only [Act.put, List.setIfInBounds_toArray, List.set_cons_zero, List.set_cons_succ]
          refine wpAnyH_take (i := 4) (oi := ?oc4o) (v := ?oc4v) ?oc4h (by kernel_rfl) (by kernel_rfl) (by kernel_rfl) ?oc4q ?oc4y hHeld ?oc4r
          case oc4h => (simp only [List.getElem?_toArray, List.getElem?_cons_succ, List.getElem?_cons_zero]; rfl)
          case oc4q => exact fun _ _ _ h => h
          case oc4y => (refine Or.inl ⟨by first | kernel_rfl | rfl, ?_⟩; intro w hSw; (try dsimp only at hSw); obtain ⟨⟨x0, x1⟩, -⟩ := hSw; go_simp <;> (try with_reducible rfl))
          try simp only [Act.put, List.setIfInBounds_toArray, List.set_cons_zero, List.set_cons_succ]
          refine wpAnyH_ready (rs := [2]) (by kernel_rfl) (by simp) ?_
          refine (AllReadyH.cons rfl (fun K hK => ?_) AllReadyH.nil)
          go_simp
          (have kt := add_is ba va La s _ H4.out.drew.set HBO.out.canon (by have := HBO.out.few; omega)); unfold Sp.v at kt; (with_reducible refine kt.mono ?_); rintro e w30 ⟨T, ⟨va2, rfl, hset, hmv⟩, hok⟩; (have H30 := Lib.hid (H4.out.drew.moveA HTw.out hmv hset)); (obtain ⟨hbo, hch⟩ := HBO.out.add (by have := HSB.out; omega) hok); (have HBO2 := Lib.hid hbo); (have HHK := Lib.hid (hHeld.at_.moves hmv HNE.out HNV.out)); (obtain ⟨zz, hzz⟩ : ∃ z, changed T La = z := ⟨_, rfl⟩); rw [hzz]; rw [hzz] at hch; (have hqq : (zz == zz) = true := by simp)
          refine hK.out _ _ (SF.mk HHK.out H30.out.bel) (fun hHeld => ?_)
          clear hK K
          try simp only [Act.put, List.setIfInBounds_toArray, List.set_cons_zero, List.set_cons_succ]
          refine wpAnyH_ready (rs := [5]) (by kernel_rfl) (by simp) ?_
          refine (AllReadyH.cons rfl (fun K hK => ?_) AllReadyH.nil)
          go_simp
          (have kmk := rmark_is s true w2.heap.size vy B w30 H30.out.bits (by have := HBO.out.len; omega) (fun _ => by have := HSB.out; omega)); rw [← hch] at kmk; unfold Sp.v at kmk; (with_reducible refine kmk.mono ?_); rintro e w31 ⟨vy2, rfl, hset2, hmv2⟩; (have H31 := Lib.hid (H30.out.moveB HTw.out hmv2 hset2)); (have HHK2 := Lib.hid (HHK.out.moves hmv2 HND.out HNY.out)); clear kmk
          refine hK.out _ _ (SF.mk HHK2.out H31.out.bel) (fun hHeld => ?_)
          clear hK K
          try simp only [Act.put, List.setIfInBounds_toArray, List.set_cons_zero, List.set_cons_succ]
          refine wpAnyH_take (i := 6) (oi := ?oc5o) (v := ?oc5v) ?oc5h (by kernel_rfl) (by kernel_rfl) (by kernel_rfl) ?oc5q ?oc5y hHeld ?oc5r
          case oc5h => (simp only [List.getElem?_toArray, List.getElem?_cons_succ, List.getElem?_cons_zero]; rfl)
          case oc5q => exact fun _ _ _ h => h
          case oc5y => (refine Or.inl ⟨by first | kernel_rfl | rfl, ?_⟩; intro w hSw; (try dsimp only at hSw); obtain ⟨⟨x0, x1⟩, -⟩ := hSw; go_simp <;> (try with_reducible rfl))
          try simp only [Act.put, List.setIfInBounds_toArray, List.set_cons_zero, List.set_cons_succ]
          refine wpAnyH_take (i := 7) (oi := ?oc6o) (v := ?oc6v) ?oc6h (by kernel_rfl) (by kernel_rfl) (by kernel_rfl) ?oc6q ?oc6y hHeld ?oc6r
          case oc6h => (simp only [List.getElem?_toArray, List.getElem?_cons_succ, List.getElem?_cons_zero]; rfl)
          case oc6q => exact fun _ _ _ h => h
          case oc6y => (refine Or.inl ⟨by first | kernel_rfl | rfl, ?_⟩; intro w hSw; (try dsimp only at hSw); obtain ⟨⟨x0, x1⟩, -⟩ := hSw; go_simp <;> (try with_reducible rfl))
          try simp only [Act.put, List.setIfInBounds_toArray, List.set_cons_zero, List.set_cons_succ]
          refine wpAnyH_done (by kernel_rfl) ?_ _
          obtain ⟨B2, hB2⟩ : ∃ B2, (markB B s true).1 = B2 := ⟨_, rfl⟩
          rw [hB2] at HBO2 H31
          clear hHeld HHK HHK2 HF4 H4 H30 hch hset hset2 hmv hmv2 hok hbo hB2
          obtain ⟨n, hn⟩ : ∃ n, T.length = n := ⟨_, rfl⟩
          have HN := Lib.hid hn
          have hnb : n ≤ 1000 := by have := HBO2.out.few; omega
          obtain ⟨ay, cy, hvy⟩ := H31.out.bits.row.slice
          obtain ⟨m, hm⟩ : ∃ m, B2.length = m := ⟨_, rfl⟩
          rw [hm] at hvy
          have HM := Lib.hid hm
          subst hvy
          have krs := rspans_is w2.heap.size _ B2 _ H31.out.bits (by have := HBO2.out.len; omega)
          rw [HBO2.out.spans] at krs
          have hsame := fun (x y : Option Addr) (cx cy : Nat) (wr : World) (h1 : Sps wr wr.heap.size x T) (h2 : Sps wr wr.heap.size y T) => same_is x y cx cy T T true wr h1 h2 (by omega) (by omega) (Lib.hid (by simp))
          rw [hn] at hsame
          clear hn hm hqq hzz
          go_wp2_with (go_at_call 38; (with_reducible refine krs.mono ?_); rintro e w5 ⟨v5, rfl, hR, hb⟩; (obtain ⟨a5, c5, rfl⟩ := hR.slice); (rw [HN.out]); (have H5 := Lib.hid (H31.out.keep hb)); (have HP5 := Lib.hid hR.sps); clear hR hb)
          go_loopw [14, 15] (fun z x wr => ∃ k : Nat, x = .int .i64 (k : Int) ∧ k ≤ n ∧ z = .int .i64 (sumS (T.take k)) ∧ SK w ba w2.heap.size va2 (.slice ay m cy) T B2 wr ∧ Below w5.heap.size w5 wr) (fun _ x _ => n - (intOf x).toNat)
          case atStart => exact ⟨0, rfl, Nat.zero_le _, rfl, H5.out, Below.refl _ _⟩
          case round =>
            obtain ⟨k, rfl, hk, rfl, hSK6, hB6⟩ := hrel
            obtain ⟨w6, hw6⟩ : ∃ x, x = wr := ⟨_, rfl⟩
            subst hw6
            have hfew := fewOk HBO2.out.canon HBO2.out.lt
            have hbd := hfew.bound k
            obtain ⟨z, hz⟩ : ∃ z, sumS (T.take k) = z := ⟨_, rfl⟩
            rw [hz] at hbd ⊢
            have H6 := Lib.hid hSK6
            have HB6 := Lib.hid hB6
            clear hSK6 hB6
            by_cases hkn : k < n
            · have hkni : (k : Int) < (n : Int) := by omega
              have hkL : k < T.length := by rw [HN.out]; exact hkn
              rcases HP5.out.at_ with h0 | ⟨g5, off5, rfl, hgw, hc⟩
              · rw [h0] at hkL; simp at hkL
              · obtain ⟨u, hu⟩ : ∃ u, T[k] = u := ⟨_, rfl⟩
                have cq := (hc k hkL).below HB6.out hgw
                rw [hu] at cq
                obtain ⟨u0, u1⟩ := cq
                have hue : 0 ≤ u.f ∧ u.f ≤ u.t ∧ u.t ≤ 1099511627777 := hfew.each u (by rw [← hu]; exact List.getElem_mem hkL)
                have HNX := Lib.hid (show sumS (T.take (k + 1)) = z + u.t - u.f by rw [List.take_succ_eq_append_getElem hkL, sumS_snoc, hz, hu]; omega)
                have hwk : IntKind.i64.wrap ((k : Int) + 1) = (k : Int) + 1 := by rw [IntKind.wrap_i64]; omega
                have hw1 : IntKind.i64.wrap (z + u.t) = z + u.t := by rw [IntKind.wrap_i64]; omega
                have hw2 : IntKind.i64.wrap (z + u.t - u.f) = z + u.t - u.f := by rw [IntKind.wrap_i64]; omega
                clear hc hu hz hbd hue hfew
                go_wp2_with fail
                go_quiet (fail)
                go_wp2
                go_roundw
                case rel => exact ⟨k + 1, by go_num, hkn, by rw [HNX.out], H6.out.keep (by first | exact Below.refl _ _ | exact (Below.refl _ _).drew | exact below_drewN (Below.refl _ _) _), by first | exact HB6.out | exact HB6.out.drew | exact below_drewN HB6.out _⟩
                case measure => simp [intOf]; omega
            · have hkni : ¬ (k : Int) < (n : Int) := by omega
              have HZ := Lib.hid (show sumS T = z by rw [← hz, List.take_of_length_le (by rw [HN.out]; omega)])
              have HFW := Lib.hid hfew
              have kps := pspans_is ba va2 T w6 H6.out.set (by have := HBO2.out.few; omega)
              have HPS6 := Lib.hid ((HP5.out.below HB6.out).mono HB6.out.size)
              have hzz : (z == z) = true := by simp
              clear hz hbd hfew
              by_cases ht0 : 0 ≤ t
              · obtain ⟨tn, rfl⟩ : ∃ tn : Nat, t = (tn : Int) := ⟨t.toNat, by omega⟩
                by_cases htm : tn < m
                · have htmi : (tn : Int) < (m : Int) := by omega
                  obtain ⟨gy, rfl, -⟩ := setsBit H6.out.bits HM.out htm
                  have HBI := Lib.hid (HBO2.out.in_ (t := (tn : Int)) (z := B2.getD tn false) (by rw [Int.toNat_natCast]; exact ⟨fun h => ⟨(by omega), h⟩, fun h => h.2⟩))
                  cases hbit : B2.getD tn false with
                  | true =>
                    rw [hbit] at HBI
                    have HBT := Lib.hid hbit
                    clear hbit
                    go_wp2_with (first
                      | (go_at_call 39; (with_reducible refine kps.mono ?_); rintro e w7 ⟨v7, rfl, hR, hb⟩; (obtain ⟨a7, c7, rfl⟩ := hR.slice); (rw [HN.out]); (have H7 := Lib.hid (H6.out.keep hb)); (have kss := hsame a7 a5 c7 c5 w7 hR.sps ((HPS6.out.below hb).mono hb.size)); clear hR hb)
                      | (go_at_call 18; (with_reducible refine kss.mono ?_); rintro e w8 ⟨rfl, hb⟩; (have H8 := Lib.hid (H7.out.keep hb)); (obtain ⟨gz, hgz, hby⟩ := setsBit H8.out.bits HM.out htm); (injection hgz with hgz; injection hgz with hgz; subst hgz); rw [HBT.out] at hby; (have cyy := H8.out.bits.cell); clear hb)
                      | (go_at_call 40; (have kz := psize_is ba va2 T _ H8.out.set HFW.out); (with_reducible refine kz.mono ?_); rintro e w9 ⟨rfl, hb⟩; (rw [HZ.out]); (have H9 := Lib.hid (H8.out.keep hb)); clear hb)
                      | (go_at_call 41; (have kha := phas_is ba va2 T (tn : Int) w9 H9.out.tab (by omega) H9.out.set HBO2.out.canon (HBO2.out.canon.top (K := 1099511627777) (fun x hx => by have := HBO2.out.lt x hx; omega)) (by have := HBO2.out.few; omega)); (rw [HBI.out] at kha); (with_reducible refine kha.mono ?_); rintro e w10 ⟨rfl, hb⟩; (have H10 := Lib.hid (H9.out.keep hb)); clear hb))
                    go_roundw
                    case rel => exact ⟨i + 1, va2, _, T, B2, by go_num, hi40, H10.out, HBO2.out⟩
                    case measure => simp [intOf]; omega
                  | false =>
                    rw [hbit] at HBI
                    have HBT := Lib.hid hbit
                    clear hbit
                    go_wp2_with (first
                      | (go_at_call 39; (with_reducible refine kps.mono ?_); rintro e w7 ⟨v7, rfl, hR, hb⟩; (obtain ⟨a7, c7, rfl⟩ := hR.slice); (rw [HN.out]); (have H7 := Lib.hid (H6.out.keep hb)); (have kss := hsame a7 a5 c7 c5 w7 hR.sps ((HPS6.out.below hb).mono hb.size)); clear hR hb)
                      | (go_at_call 18; (with_reducible refine kss.mono ?_); rintro e w8 ⟨rfl, hb⟩; (have H8 := Lib.hid (H7.out.keep hb)); (obtain ⟨gz, hgz, hby⟩ := setsBit H8.out.bits HM.out htm); (injection hgz with hgz; injection hgz with hgz; subst hgz); rw [HBT.out] at hby; (have cyy := H8.out.bits.cell); clear hb)
                      | (go_at_call 40; (have kz := psize_is ba va2 T _ H8.out.set HFW.out); (with_reducible refine kz.mono ?_); rintro e w9 ⟨rfl, hb⟩; (rw [HZ.out]); (have H9 := Lib.hid (H8.out.keep hb)); clear hb)
                      | (go_at_call 41; (have kha := phas_is ba va2 T (tn : Int) w9 H9.out.tab (by omega) H9.out.set HBO2.out.canon (HBO2.out.canon.top (K := 1099511627777) (fun x hx => by have := HBO2.out.lt x hx; omega)) (by have := HBO2.out.few; omega)); (rw [HBI.out] at kha); (with_reducible refine kha.mono ?_); rintro e w10 ⟨rfl, hb⟩; (have H10 := Lib.hid (H9.out.keep hb)); clear hb))
                    go_roundw
                    case rel => exact ⟨i + 1, va2, _, T, B2, by go_num, hi40, H10.out, HBO2.out⟩
                    case measure => simp [intOf]; omega
                · have htmi : ¬ (tn : Int) < (m : Int) := by omega
                  have HBI := Lib.hid (HBO2.out.in_ (t := (tn : Int)) (z := false) ⟨fun h => (by cases h), fun h => by rw [Int.toNat_natCast] at h; have := getD_lt h.2; rw [HM.out] at this; omega⟩)
                  go_wp2_with (first
                    | (go_at_call 39; (with_reducible refine kps.mono ?_); rintro e w7 ⟨v7, rfl, hR, hb⟩; (obtain ⟨a7, c7, rfl⟩ := hR.slice); (rw [HN.out]); (have H7 := Lib.hid (H6.out.keep hb)); (have kss := hsame a7 a5 c7 c5 w7 hR.sps ((HPS6.out.below hb).mono hb.size)); clear hR hb)
                    | (go_at_call 18; (with_reducible refine kss.mono ?_); rintro e w8 ⟨rfl, hb⟩; (have H8 := Lib.hid (H7.out.keep hb)); (have cyy := H8.out.bits.cell); clear hb)
                    | (go_at_call 40; (have kz := psize_is ba va2 T _ H8.out.set HFW.out); (with_reducible refine kz.mono ?_); rintro e w9 ⟨rfl, hb⟩; (rw [HZ.out]); (have H9 := Lib.hid (H8.out.keep hb)); clear hb)
                    | (go_at_call 41; (have kha := phas_is ba va2 T (tn : Int) w9 H9.out.tab (by omega) H9.out.set HBO2.out.canon (HBO2.out.canon.top (K := 1099511627777) (fun x hx => by have := HBO2.out.lt x hx; omega)) (by have := HBO2.out.few; omega)); (rw [HBI.out] at kha); (with_reducible refine kha.mono ?_); rintro e w10 ⟨rfl, hb⟩; (have H10 := Lib.hid (H9.out.keep hb)); clear hb))
                  go_roundw
                  case rel => exact ⟨i + 1, va2, _, T, B2, by go_num, hi40, H10.out, HBO2.out⟩
                  case measure => simp [intOf]; omega
              · have HBI := Lib.hid (HBO2.out.in_ (t := t) (z := false) ⟨fun h => (by cases h), fun h => by omega⟩)
                go_wp2_with (first
                  | (go_at_call 39; (with_reducible refine kps.mono ?_); rintro e w7 ⟨v7, rfl, hR, hb⟩; (obtain ⟨a7, c7, rfl⟩ := hR.slice); (rw [HN.out]); (have H7 := Lib.hid (H6.out.keep hb)); (have kss := hsame a7 a5 c7 c5 w7 hR.sps ((HPS6.out.below hb).mono hb.size)); clear hR hb)
                  | (go_at_call 18; (with_reducible refine kss.mono ?_); rintro e w8 ⟨rfl, hb⟩; (have H8 := Lib.hid (H7.out.keep hb)); (have cyy := H8.out.bits.cell); clear hb)
                  | (go_at_call 40; (have kz := psize_is ba va2 T _ H8.out.set HFW.out); (with_reducible refine kz.mono ?_); rintro e w9 ⟨rfl, hb⟩; (rw [HZ.out]); (have H9 := Lib.hid (H8.out.keep hb)); clear hb)
                  | (go_at_call 41; (have kha := phas_is ba va2 T t w9 H9.out.tab (by omega) H9.out.set HBO2.out.canon (HBO2.out.canon.top (K := 1099511627777) (fun x hx => by have := HBO2.out.lt x hx; omega)) (by have := HBO2.out.few; omega)); (rw [HBI.out] at kha); (with_reducible refine kha.mono ?_); rintro e w10 ⟨rfl, hb⟩; (have H10 := Lib.hid (H9.out.keep hb)); clear hb))
                go_roundw
                case rel => exact ⟨i + 1, va2, _, T, B2, by go_num, hi40, H10.out, HBO2.out⟩
                case measure => simp [intOf]; omega
      · have hi40i : ¬ (i : Int) < 40 := by omega
        go_wp2
        go_ret
        exact ⟨rfl, HSK.out.bel⟩
    · have hini : ¬ (i : Int) < (len : Int) := by omega
      go_wp2
      go_ret
      exact ⟨rfl, HSK.out.bel⟩
end Go.Proofs.YtdkenokjdiamhaaDoor
