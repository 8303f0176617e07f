/- The walk of law BlockRanges: it returns true and turns nothing that was there. -/
import Derived.Test.YtkomfenjeoaelaaDoorBlockLive
import Derived.BigQuiet
import Derived.Test.YtkomfenjeoaelaaDoorBlockRangesMath
set_option maxRecDepth 20000
set_option linter.unusedSimpArgs false
namespace Go.Proofs.YtkomfenjeoaelaaDoor.blockRanges
open Go.RowKit Go.Proofs.YtkomfenjeoaelaaDoor Go.Proofs.YtkomfenjeoaelaaDoor.Vi Go.Proofs.YtkomfenjeoaelaaDoor.Mk Go.Proofs.YtkomfenjeoaelaaDoor.Crc

theorem and30 (n : Int) : bits .and .i64 n 1073741823 = n % 1073741824 := by
  have h15 : (BitVec.ofInt 64 1073741823).toNat = 2 ^ 30 - 1 := by decide
  have key : (BitVec.ofInt 64 n &&& BitVec.ofInt 64 1073741823).toNat = (n % ((2 ^ 64 : Nat) : Int)).toNat % 2 ^ 30 := by
    rw [BitVec.toNat_and, BitVec.toNat_ofInt, h15, Nat.and_two_pow_sub_one_eq_mod]
  show IntKind.i64.wrap ((BitVec.ofInt 64 n &&& BitVec.ofInt 64 1073741823).toNat : Nat) = n % 1073741824
  rw [key, IntKind.wrap_i64]
  omega
/-- The sorted points, the series' names. -/
structure RK (w : World) (q : Option Addr) (c : Nat) (m : List Pt) (B : Nat) (v : Value) (Z : List ByteArray) (wr : World) : Prop where
  l : Lst wr wr.heap.size q c m
  n : NRow wr B v Z
  bel : Below w.heap.size w wr
theorem RK.later {w w1 w2 : World} {q : Option Addr} {c : Nat} {m : List Pt} {B : Nat} {v : Value} {Z : List ByteArray} (h : RK w q c m B v Z w1) (k : Below w1.heap.size w1 w2) : RK w q c m B v Z w2 := ⟨h.l.later k, h.n.later k, bel_next h.bel k⟩

set_option maxHeartbeats 64000000 in
theorem walk (a0 : Option Addr) (n0 c0 : Nat) (x0 x1 : Int) (w : World) (ha : ArgPts w a0 n0 c0) (_h0 : -9223372036854775808 ≤ x0 ∧ x0 ≤ 9223372036854775807) (_h1 : -9223372036854775808 ≤ x1 ∧ x1 ≤ 9223372036854775807) (ht : Tab w) : Calls Tryd.prog 9 #[.slice a0 n0 c0, .agg #[.int .i64 x0, .int .i64 x1]] w fun e w' => e = .returned (.bool true) ∧ Below w.heap.size w w' := by
  obtain ⟨l, rfl, hP, hl, -⟩ := ha.has
  have kf1 := fun w h => few12_is a0 c0 l w h hl
  have hn1 := fewB_len l
  have hs1 : ∀ p ∈ fewB l, p.s.size ≤ 100000 := fun p hp => by have := fewB_short hp; omega
  obtain ⟨L, hL⟩ : ∃ L, fewB l = L := ⟨_, rfl⟩
  rw [hL] at kf1 hn1 hs1
  have kr := fun a c w h => rsort_is a c L w h (by omega)
  have hsr := srtR_srt L
  have hml := srtR_len L
  have hms : ∀ p ∈ srtR L, p.s.size ≤ 100000 := fun p hp => hs1 p (srtR_mem L hp)
  obtain ⟨n1, e1⟩ : ∃ n, L.length = n := ⟨_, rfl⟩
  rw [e1] at kr hml hn1
  obtain ⟨m, hm⟩ : ∃ m, srtR L = m := ⟨_, rfl⟩
  rw [hm] at kr hsr hml hms
  obtain ⟨nm, em⟩ : ∃ n, m.length = n := ⟨_, rfl⟩
  rw [em] at hml
  have hnm : nm ≤ 40 := by omega
  have E1 := Lib.hid e1
  have EM := Lib.hid em
  have kse := fun a c w h => series_is a c m w h (by omega) hms
  have krg := fun a c (s : ByteArray) (f t : Int) (h : okS f t = true) w hh => by
    have := range_is a c m s f t w hh (by omega) hsr hms
    unfold rangeL at this
    rw [if_pos h] at this
    exact this
  have kfi := fun a c s t w h => find_is a c m s t w h (by omega) hsr hms
  have kq := fun (X : List Pt) a b ca cb w h1 h2 (hx : X.length ≤ 1000) => rsamep_is a b ca cb X X true w h1 h2 (by omega) (by omega) (Lib.hid (decide_eq_true rfl))
  have hZs := sum_ser hsr
  have hZn := serN_len m m.length
  have hZm : ∀ n ∈ serL m, True := fun _ _ => trivial
  have hfs : ∀ x ∈ m, findL m x.s x.t = (x, true) := fun x hx => find_self hsr hx
  have hjn : ∀ s (f t u : Int), f ≤ t → t ≤ u → rngL m s f t ++ rngL m s t u = rngL m s f u := fun s f t u h1 h2 => rng_join h1 h2 hsr
  have hrl : ∀ s f t, (rngL m s f t).length ≤ nm := fun s f t => by have := rngL_len m s f t; omega
  obtain ⟨Z, hZe⟩ : ∃ Z, serL m = Z := ⟨_, rfl⟩
  rw [show serN m m.length = serL m from rfl, em, hZe] at hZn
  rw [hZe] at hZs kse
  rw [em] at kse krg kfi
  obtain ⟨nz, ez⟩ : ∃ n, Z.length = n := ⟨_, rfl⟩
  have EZ := Lib.hid ez
  rw [ez] at hZn
  have HFS := Lib.hid hfs
  have HJN := Lib.hid hjn
  have HRL := Lib.hid hrl
  have HZS := Lib.hid hZs
  have Hwhole := Lib.hid (show m.take m.length = m from List.take_length)
  have HOK := Lib.hid (fun k (h : k < m.length) => okN_snoc m k h)
  have HOKL := Lib.hid (fun k => show okN (m.take k) ≤ nm from by
    have h1 := List.length_filter_le (fun x : Pt => decide (0 ≤ x.t ∧ x.t ≤ 1099511627776)) (m.take k)
    rw [List.length_take] at h1
    unfold okN; omega)
  obtain ⟨va, hva⟩ : ∃ z, x0 % 1073741824 = z := ⟨_, rfl⟩
  obtain ⟨vb, hvb⟩ : ∃ z, x1 % 1073741824 = z := ⟨_, rfl⟩
  have q0 := and30 x0
  have q1 := and30 x1
  rw [hva] at q0
  rw [hvb] at q1
  have hva1 : 0 ≤ va ∧ va < 1073741824 := by omega
  have hvb1 : 0 ≤ vb ∧ vb < 1073741824 := by omega
  have HP := Lib.hid hP
  have HT := Lib.hid ht
  have ka := fun w h => awake_is w h
  have hB0 := (Below.refl w.heap.size w).alloc (Nat.le_refl _) (.cells #[.int .i64 x0, .int .i64 x1] 55)
  have hbx : (w.alloc (.cells #[.int .i64 x0, .int .i64 x1] 55)).cell? ⟨w.heap.size, 0, none⟩ = some (.int .i64 x0) ∧ (w.alloc (.cells #[.int .i64 x0, .int .i64 x1] 55)).cell? ⟨w.heap.size, 1, none⟩ = some (.int .i64 x1) := by constructor <;> simp [go_sem]
  have HBX := Lib.hid hbx
  have HB0 := Lib.hid hB0
  -- the two times in order
  obtain ⟨ta, hta⟩ : ∃ z, (if vb < va then vb else va) = z := ⟨_, rfl⟩
  obtain ⟨tb, htb⟩ : ∃ z, (if vb < va then va else vb) = z := ⟨_, rfl⟩
  have hab : 0 ≤ ta ∧ ta ≤ tb ∧ tb < 1073741824 := by rw [← hta, ← htb]; split <;> omega
  clear ha hP hL hm hZe hfs hjn hrl hZs hZm em ez e1 hva hvb hB0 hbx ht hs1 hms hsr _h0 _h1
  have hcase : (vb < va ∧ ta = vb ∧ tb = va) ∨ (¬ vb < va ∧ ta = va ∧ tb = vb) := by
    rw [← hta, ← htb]
    by_cases h : vb < va
    · left; rw [if_pos h, if_pos h]; exact ⟨h, rfl, rfl⟩
    · right; rw [if_neg h, if_neg h]; exact ⟨h, rfl, rfl⟩
  clear hta htb
  rcases hcase with ⟨hlt0, rfl, rfl⟩ | ⟨hlt0, rfl, rfl⟩
  · go_enter Tryd.func9, Tryd.ntmps9
    go_wp2_with (first
      | (go_at_call 10; (with_reducible refine (ka _ (HT.out.next HB0.out)).mono ?_); rintro e w1 ⟨rfl, hb1⟩; (have B1 := Lib.hid (bel_next HB0.out hb1)); (have X1 := Lib.hid (show w1.cell? ⟨w.heap.size, 0, none⟩ = some (.int .i64 x0) ∧ w1.cell? ⟨w.heap.size, 1, none⟩ = some (.int .i64 x1) from ⟨(hb1.cell (p := ⟨w.heap.size, 0, none⟩) (by simp)).trans HBX.out.1, (hb1.cell (p := ⟨w.heap.size, 1, none⟩) (by simp)).trans HBX.out.2⟩)); (have HP1 := Lib.hid ((HP.out.below B1.out).mono B1.out.size)); clear hb1 ka)
      | (go_at_call 11; (with_reducible refine (kf1 _ HP1.out).mono ?_); rintro e w2 ⟨v, rfl, hR, hb2⟩; (have hsl := hR.slice); (obtain ⟨p1, c1, rfl⟩ := hsl); (rw [E1.out] at hR ⊢); (have B2 := Lib.hid (bel_next B1.out hb2)); (have X2 := Lib.hid (show w2.cell? ⟨w.heap.size, 0, none⟩ = some (.int .i64 x0) ∧ w2.cell? ⟨w.heap.size, 1, none⟩ = some (.int .i64 x1) from ⟨(hb2.cell (p := ⟨w.heap.size, 0, none⟩) (World.block_lt_of_cell? w1 _ X1.out.1)).trans X1.out.1, (hb2.cell (p := ⟨w.heap.size, 1, none⟩) (World.block_lt_of_cell? w1 _ X1.out.2)).trans X1.out.2⟩)); (have HL2 := Lib.hid hR.lst); clear hR hb2 kf1)
      | (go_at_call 14; (with_reducible refine (kr _ _ _ HL2.out).mono ?_); rintro e w3 ⟨v, rfl, hR, hb3⟩; (have hsl := hR.slice); (obtain ⟨pm, cm, rfl⟩ := hsl); (rw [EM.out] at hR ⊢); (have B3 := Lib.hid (bel_next B2.out hb3)); (have y0 := (hb3.cell (p := ⟨w.heap.size, 0, none⟩) (World.block_lt_of_cell? w2 _ X2.out.1)).trans X2.out.1); (have y1 := (hb3.cell (p := ⟨w.heap.size, 1, none⟩) (World.block_lt_of_cell? w2 _ X2.out.2)).trans X2.out.2); (have HM3 := Lib.hid hR.lst); clear hR hb3 kr)
      | (go_at_call 25; (with_reducible refine (kse _ _ _ HM3.out).mono ?_); rintro e w4 ⟨v, rfl, hR, hb4⟩; (have hsl := hR.slice); (obtain ⟨pn, cn, rfl⟩ := hsl); (rw [EZ.out] at hR ⊢); (have K4 := Lib.hid (show RK w pm cm m w3.heap.size (.slice pn nz cn) Z w4 from ⟨HM3.out.later hb4, hR, bel_next B3.out hb4⟩)); clear hR hb4 kse y0 y1))
    go_loopw [10, 11] (fun s i wr => ∃ (k c : Nat), k ≤ nz ∧ i = .int .i64 (k : Int) ∧ s = .int .i64 (c : Int) ∧ Hid (((Z.take k).map fun n => (allR m n).length).sum = c) ∧ Hid (RK w pm cm m w3.heap.size (.slice pn nz cn) Z wr)) (fun _ i _ => nz - (intOf i).toNat)
    case atStart => exact ⟨0, 0, by omega, rfl, rfl, Lib.hid rfl, K4⟩
    case round =>
      obtain ⟨k, cs, hk, rfl, rfl, HC, K⟩ := hrel
      clear K4
      obtain ⟨w5, hw5⟩ : ∃ x, x = wr := ⟨_, rfl⟩
      subst hw5
      have hcs40 : cs ≤ nm := by
        have h1 := sum_le (N := Z) (fun n => (allR m n).length) k
        rw [HC.out, HZS.out] at h1
        have h2 := HOKL.out m.length
        rw [Hwhole.out] at h2
        omega
      by_cases hlt : k < nz
      · have hlti : (k : Int) < (nz : Int) := by omega
        have hkZ : k < Z.length := by rw [EZ.out]; exact hlt
        obtain ⟨gn, hpn, hgn, hzn⟩ := K.out.n.at_ (by omega)
        have hst := sum_step (N := Z) (fun n => (allR m n).length) hkZ
        have hnm0 := hzn k hkZ
        obtain ⟨s, hs⟩ : ∃ s, Z[k] = s := ⟨_, rfl⟩
        rw [hs] at hst hnm0
        rw [HC.out] at hst
        have HST := Lib.hid hst
        have HNM := Lib.hid hnm0
        have HGN := Lib.hid hgn
        have o1 : okS 0 ta = true := decide_eq_true (by omega)
        have o2 : okS ta tb = true := decide_eq_true (by omega)
        have o3 : okS tb 1099511627777 = true := decide_eq_true (by omega)
        have o4 : okS 0 1099511627777 = true := by decide
        have kr1 := fun a c w h => krg a c s 0 ta o1 w h
        have kr2 := fun a c w h => krg a c s ta tb o2 w h
        have kr3 := fun a c w h => krg a c s tb 1099511627777 o3 w h
        have kr4 := fun a c w h => krg a c s 0 1099511627777 o4 w h
        have hj1 := HJN.out s 0 ta tb (by omega) (by omega)
        have hj2 := HJN.out s 0 tb 1099511627777 (by omega) (by omega)
        have b1 := HRL.out s 0 ta
        have b2 := HRL.out s ta tb
        have b3 := HRL.out s tb 1099511627777
        have b4 := HRL.out s 0 1099511627777
        have hmem : ∀ x ∈ rngL m s 0 1099511627777, x ∈ m ∧ x.s = s := fun x hx => by
          have := List.mem_filter.1 hx
          exact ⟨this.1, (inR_iff.1 this.2).1⟩
        rw [show (allR m s) = rngL m s 0 1099511627777 from rfl] at HST
        obtain ⟨Y1, hY1⟩ : ∃ Y, rngL m s 0 ta = Y := ⟨_, rfl⟩
        obtain ⟨Y2, hY2⟩ : ∃ Y, rngL m s ta tb = Y := ⟨_, rfl⟩
        obtain ⟨Y3, hY3⟩ : ∃ Y, rngL m s tb 1099511627777 = Y := ⟨_, rfl⟩
        obtain ⟨Y4, hY4⟩ : ∃ Y, rngL m s 0 1099511627777 = Y := ⟨_, rfl⟩
        rw [hY1] at kr1 hj1 b1
        rw [hY2] at kr2 hj1 b2
        rw [hY3] at kr3 hj2 b3
        rw [hY4] at kr4 hj2 b4 hmem HST
        rw [← hj1] at hj2
        obtain ⟨d1, f1⟩ : ∃ n, Y1.length = n := ⟨_, rfl⟩
        obtain ⟨d2, f2⟩ : ∃ n, Y2.length = n := ⟨_, rfl⟩
        obtain ⟨d3, f3⟩ : ∃ n, Y3.length = n := ⟨_, rfl⟩
        obtain ⟨d4, f4⟩ : ∃ n, Y4.length = n := ⟨_, rfl⟩
        have f5 := congrArg List.length hj2
        rw [List.length_append, List.length_append, f1, f2, f3, f4] at f5
        rw [f1] at b1
        rw [f2] at b2
        rw [f3] at b3
        rw [f4] at b4 HST
        obtain ⟨d12, f12⟩ : ∃ n, d1 + d2 = n := ⟨_, rfl⟩
        rw [f12] at f5
        have kqA := kq Y4
        rw [f4] at kqA
        have G1 := Lib.hid f1
        have G2 := Lib.hid f2
        have G3 := Lib.hid f3
        have G4 := Lib.hid f4
        have G5 := Lib.hid f5
        have G12 := Lib.hid f12
        have HJ2 := Lib.hid hj2
        have HMEM := Lib.hid hmem
        have hwc : IntKind.i64.wrap ((cs : Int) + (d4 : Int)) = (cs : Int) + (d4 : Int) := by rw [IntKind.wrap_i64]; omega
        have z5 := HNM.out
        have hd12 : d12 ≤ 80 := by omega
        subst hpn
        clear hzn hs hst hnm0 hgn hj1 hj2 hmem hY1 hY2 hY3 hY4 f1 f2 f3 f4 f5 f12 o1 o2 o3 o4
        go_wp2_with (first
          | (go_at_call 20; first
            | ((with_reducible refine (kr1 _ _ _ K.out.l).mono ?_); rintro e w6 ⟨v, rfl, hR, hb6⟩; (have hsl := hR.slice); (obtain ⟨q1, s1, rfl⟩ := hsl); (rw [G1.out] at hR ⊢); (have K6 := Lib.hid (K.out.later hb6)); (have L6 := Lib.hid hR.lst); clear z5; (have z5 := (hb6.cell (p := ⟨gn, k, none⟩) HGN.out).trans HNM.out); (have Z6 := Lib.hid z5); clear hR hb6 kr1)
            | ((with_reducible refine (kr2 _ _ _ K6.out.l).mono ?_); rintro e w7 ⟨v, rfl, hR, hb7⟩; (have hsl := hR.slice); (obtain ⟨q2, s2, rfl⟩ := hsl); (rw [G2.out] at hR ⊢); (have K7 := Lib.hid (K6.out.later hb7)); (have L7 := Lib.hid (L6.out.later hb7)); (have M7 := Lib.hid hR.lst); clear z5; (have z5 := (hb7.cell (p := ⟨gn, k, none⟩) (World.block_lt_of_cell? w6 _ Z6.out)).trans Z6.out); (have Z7 := Lib.hid z5); clear hR hb7 kr2)
            | ((with_reducible refine (kr3 _ _ _ K7.out.l).mono ?_); rintro e w8 ⟨v, rfl, hR, hb8⟩; (have hsl := hR.slice); (obtain ⟨q3, s3, rfl⟩ := hsl); (rw [G3.out] at hR ⊢); (have K8 := Lib.hid (K7.out.later hb8)); (have L8 := Lib.hid (L7.out.later hb8)); (have M8 := Lib.hid (M7.out.later hb8)); (have N8 := Lib.hid hR.lst); clear z5; (have z5 := (hb8.cell (p := ⟨gn, k, none⟩) (World.block_lt_of_cell? w7 _ Z7.out)).trans Z7.out); (have Z8 := Lib.hid z5); clear hR hb8 kr3)
            | ((with_reducible refine (kr4 _ _ _ K8.out.l).mono ?_); rintro e w9 ⟨v, rfl, hR, hb9⟩; (have hsl := hR.slice); (obtain ⟨q4, s4, rfl⟩ := hsl); (rw [G4.out] at hR ⊢); (have K9 := Lib.hid (K8.out.later hb9)); (have L9 := Lib.hid (L8.out.later hb9)); (have M9 := Lib.hid (M8.out.later hb9)); (have N9 := Lib.hid (N8.out.later hb9)); (have O9 := Lib.hid hR.lst); clear z5; (have Z9 := Lib.hid ((hb9.cell (p := ⟨gn, k, none⟩) (World.block_lt_of_cell? w8 _ Z8.out)).trans Z8.out)); clear hR hb9 kr4))
          | (at_builtin; refine wpList_appN (w := w9) rfl _ _ rfl w9.heap.size 0 (.slice none 0 0) [] Y1 q1 d1 s1 w9.heap.size rfl rfl G1.out (Lib.hid rfl) (PRow.nil _ _) L9.out (by omega) (Nat.le_refl _) ?_; intro a3 c3 w10 hrow3 _ hb3 _; have R10 := Lib.hid (show PRow w10 w9.heap.size (.slice a3 d1 c3) Y1 by simpa using hrow3.out); have D10 := Lib.hid hb3; clear hrow3 hb3)
          | (at_builtin; refine wpList_appN (w := w10) rfl _ _ rfl w9.heap.size d1 (.slice a3 d1 c3) Y1 Y2 q2 d2 s2 w9.heap.size rfl rfl G2.out G1 R10.out (M9.out.below D10.out) (by omega) D10.out.size ?_; intro a4 c4 w11 hrow4 _ hb4 _; rw [G12.out] at hrow4 ⊢; have R11 := Lib.hid hrow4.out; have D11 := Lib.hid (D10.out.trans hb4); clear hrow4 hb4)
          | (at_builtin; refine wpList_appN (w := w11) rfl _ _ rfl w9.heap.size d12 (.slice a4 d12 c4) (Y1 ++ Y2) Y3 q3 d3 s3 w9.heap.size rfl rfl G3.out (Lib.hid (by rw [List.length_append, G1.out, G2.out]; exact G12.out)) R11.out (N9.out.below D11.out) (by omega) D11.out.size ?_; intro a5 c5 w12 hrow5 _ hb5 _; rw [G5.out] at hrow5 ⊢; (have hr5 := hrow5.out); (rw [HJ2.out] at hr5); have R12 := Lib.hid hr5.lst; have D12 := Lib.hid (D11.out.trans hb5); clear hrow5 hb5 hr5)
          | (go_at_call 12; (with_reducible refine (kqA _ _ _ _ _ R12.out.pts (O9.out.later D12.out).pts (by omega)).mono ?_); rintro e w13 ⟨rfl, hb13⟩; (have K13 := Lib.hid ((K9.out.later D12.out).later hb13)); (have O13 := Lib.hid ((O9.out.later D12.out).later hb13)); clear hb13))
        go_loopw [18] (fun i wr => ∃ (q : Nat), q ≤ d4 ∧ i = .int .i64 (q : Int) ∧ Hid (RK w pm cm m w3.heap.size (.slice (some ⟨gn, 0, none⟩) nz cn) Z wr) ∧ Hid (Lst wr wr.heap.size q4 s4 Y4)) (fun i _ => d4 - (intOf i).toNat)
        case atStart => exact ⟨0, by omega, rfl, K13, O13⟩
        case round =>
          obtain ⟨q, hq, rfl, KQ, OQ⟩ := hrel
          clear K13 O13
          obtain ⟨w22, hw22⟩ : ∃ x, x = wr := ⟨_, rfl⟩
          subst hw22
          by_cases hqd : q < d4
          · have hqdi : (q : Int) < (d4 : Int) := by omega
            have hqY : q < Y4.length := by rw [G4.out]; exact hqd
            obtain ⟨hm1, hm2⟩ := HMEM.out _ (List.getElem_mem hqY)
            have hfd := HFS.out _ hm1
            rcases OQ.out.pts.at_ with h0 | ⟨g, off, hae, hg, hx⟩
            · rw [h0] at hqY; simp at hqY
            · have hxq := hx q hqY
              obtain ⟨y0, hy0⟩ : ∃ y, Y4[q] = y := ⟨_, rfl⟩
              obtain ⟨io, hio⟩ : ∃ io, off + q * 6 = io := ⟨_, rfl⟩
              rw [hy0] at hfd hm2 hxq
              rw [hio] at hxq
              obtain ⟨gn', hgne, hgn2, hzn2⟩ := KQ.out.n.at_ (by omega)
              injection hgne with hgne
              injection hgne with hgne
              subst hgne
              have HNQ := Lib.hid (show w22.cell? ⟨gn, k, none⟩ = some (.string s) by
                have h1 := hzn2 k hkZ
                rw [h1]
                congr 2
                have h2 := K.out.n.at_ (by omega)
                obtain ⟨g3, e3, _, h3⟩ := h2
                injection e3 with e3
                injection e3 with e3
                subst e3
                have h4 := (h3 k hkZ).symm.trans HNM.out
                injection h4 with h4
                injection h4)
              have HPO := Lib.hid hxq
              have HG := Lib.hid hg
              have HGN2 := Lib.hid hgn2
              have kf := fun a c w h => kfi a c s y0.t w h
              rw [hm2] at hfd
              rw [hfd] at kf
              dsimp only at kf
              have qn := fun w => neq_run6 y0 y0 w
              rw [Pt.same_iff.2 rfl] at qn
              unfold ptV at kf qn
              have HB22 := Lib.hid (Below.refl w22.heap.size w22)
              clear hx hxq hy0 hfd hm1 hm2 hzn2 hgn2
              subst hae
              go_wp2_with fail
              refine wp_region_held_drew (S := (Below w22.heap.size w22)) (by kernel_rfl) HB22.out.drew (fun hHeld => ?_)
              refine wpAnyH_take (i := 0) (oi := ?rau1o) (v := ?rau1v) ?rau1h (by kernel_rfl) (by kernel_rfl) (by kernel_rfl) ?rau1q ?rau1y hHeld ?rau1r
              case rau1h => (simp only [List.getElem?_toArray, List.getElem?_cons_zero]; rfl)
              case rau1q => exact fun _ _ _ h => h
              case rau1y => (refine Or.inl ⟨by first | kernel_rfl | rfl, ?_⟩; intro w hSw; (try dsimp only at hSw); have hPO := HPO.out.below hSw HG.out; obtain ⟨c0', c1', c2', c3', c4', c5'⟩ := hPO; have hNQ := (hSw.cell (p := ⟨gn, k, none⟩) HGN2.out).trans HNQ.out; go_simp <;> (try with_reducible rfl))
              try simp only [Act.put, List.setIfInBounds_toArray, List.set_cons_zero, List.set_cons_succ]
              refine wpAnyH_take (i := 1) (oi := ?rau2o) (v := ?rau2v) ?rau2h (by kernel_rfl) (by kernel_rfl) (by kernel_rfl) ?rau2q ?rau2y hHeld ?rau2r
              case rau2h => (simp only [List.getElem?_toArray, List.getElem?_cons_succ, List.getElem?_cons_zero]; rfl)
              case rau2q => exact fun _ _ _ h => h
              case rau2y => (refine Or.inl ⟨by first | kernel_rfl | rfl, ?_⟩; intro w hSw; (try dsimp only at hSw); have hPO := HPO.out.below hSw HG.out; obtain ⟨c0', c1', c2', c3', c4', c5'⟩ := hPO; have hNQ := (hSw.cell (p := ⟨gn, k, none⟩) HGN2.out).trans HNQ.out; go_simp <;> (try with_reducible rfl))
              try simp only [Act.put, List.setIfInBounds_toArray, List.set_cons_zero, List.set_cons_succ]
              refine wpAnyH_take (i := 2) (oi := ?rau3o) (v := ?rau3v) ?rau3h (by kernel_rfl) (by kernel_rfl) (by kernel_rfl) ?rau3q ?rau3y hHeld ?rau3r
              case rau3h => (simp only [List.getElem?_toArray, List.getElem?_cons_succ, List.getElem?_cons_zero]; rfl)
              case rau3q => exact fun _ _ _ h => h
              case rau3y => (refine Or.inl ⟨by first | kernel_rfl | rfl, ?_⟩; intro w hSw; (try dsimp only at hSw); have hPO := HPO.out.below hSw HG.out; obtain ⟨c0', c1', c2', c3', c4', c5'⟩ := hPO; have hNQ := (hSw.cell (p := ⟨gn, k, none⟩) HGN2.out).trans HNQ.out; go_simp <;> (try with_reducible rfl))
              try simp only [Act.put, List.setIfInBounds_toArray, List.set_cons_zero, List.set_cons_succ]
              refine wpAnyH_take (i := 3) (oi := ?rau4o) (v := ?rau4v) ?rau4h (by kernel_rfl) (by kernel_rfl) (by kernel_rfl) ?rau4q ?rau4y hHeld ?rau4r
              case rau4h => (simp only [List.getElem?_toArray, List.getElem?_cons_succ, List.getElem?_cons_zero]; rfl)
              case rau4q => exact fun _ _ _ h => h
              case rau4y => (refine Or.inl ⟨by first | kernel_rfl | rfl, ?_⟩; intro w hSw; (try dsimp only at hSw); have hPO := HPO.out.below hSw HG.out; obtain ⟨c0', c1', c2', c3', c4', c5'⟩ := hPO; have hNQ := (hSw.cell (p := ⟨gn, k, none⟩) HGN2.out).trans HNQ.out; go_simp <;> (try with_reducible rfl))
              try simp only [Act.put, List.setIfInBounds_toArray, List.set_cons_zero, List.set_cons_succ]
              refine wpAnyH_take (i := 4) (oi := ?rau5o) (v := ?rau5v) ?rau5h (by kernel_rfl) (by kernel_rfl) (by kernel_rfl) ?rau5q ?rau5y hHeld ?rau5r
              case rau5h => (simp only [List.getElem?_toArray, List.getElem?_cons_succ, List.getElem?_cons_zero]; rfl)
              case rau5q => exact fun _ _ _ h => h
              case rau5y => (refine Or.inl ⟨by first | kernel_rfl | rfl, ?_⟩; intro w hSw; (try dsimp only at hSw); have hPO := HPO.out.below hSw HG.out; obtain ⟨c0', c1', c2', c3', c4', c5'⟩ := hPO; have hNQ := (hSw.cell (p := ⟨gn, k, none⟩) HGN2.out).trans HNQ.out; go_simp <;> (try with_reducible rfl))
              try simp only [Act.put, List.setIfInBounds_toArray, List.set_cons_zero, List.set_cons_succ]
              refine wpAnyH_take (i := 5) (oi := ?rau6o) (v := ?rau6v) ?rau6h (by kernel_rfl) (by kernel_rfl) (by kernel_rfl) ?rau6q ?rau6y hHeld ?rau6r
              case rau6h => (simp only [List.getElem?_toArray, List.getElem?_cons_succ, List.getElem?_cons_zero]; rfl)
              case rau6q => exact fun _ _ _ h => h
              case rau6y => (refine Or.inl ⟨by first | kernel_rfl | rfl, ?_⟩; intro w hSw; (try dsimp only at hSw); have hPO := HPO.out.below hSw HG.out; obtain ⟨c0', c1', c2', c3', c4', c5'⟩ := hPO; have hNQ := (hSw.cell (p := ⟨gn, k, none⟩) HGN2.out).trans HNQ.out; go_simp <;> (try with_reducible rfl))
              try simp only [Act.put, List.setIfInBounds_toArray, List.set_cons_zero, List.set_cons_succ]
              refine wpAnyH_take (i := 6) (oi := ?rau7o) (v := ?rau7v) ?rau7h (by kernel_rfl) (by kernel_rfl) (by kernel_rfl) ?rau7q ?rau7y hHeld ?rau7r
              case rau7h => (simp only [List.getElem?_toArray, List.getElem?_cons_succ, List.getElem?_cons_zero]; rfl)
              case rau7q => exact fun _ _ _ h => h
              case rau7y => (refine Or.inl ⟨by first | kernel_rfl | rfl, ?_⟩; intro w hSw; (try dsimp only at hSw); have hPO := HPO.out.below hSw HG.out; obtain ⟨c0', c1', c2', c3', c4', c5'⟩ := hPO; have hNQ := (hSw.cell (p := ⟨gn, k, none⟩) HGN2.out).trans HNQ.out; go_simp <;> (try with_reducible rfl))
              try simp only [Act.put, List.setIfInBounds_toArray, List.set_cons_zero, List.set_cons_succ]
              refine wpAnyH_take (i := 7) (oi := ?rau8o) (v := ?rau8v) ?rau8h (by kernel_rfl) (by kernel_rfl) (by kernel_rfl) ?rau8q ?rau8y hHeld ?rau8r
              case rau8h => (simp only [List.getElem?_toArray, List.getElem?_cons_succ, List.getElem?_cons_zero]; rfl)
              case rau8q => exact fun _ _ _ h => h
              case rau8y => (refine Or.inl ⟨by first | kernel_rfl | rfl, ?_⟩; intro w hSw; (try dsimp only at hSw); have hPO := HPO.out.below hSw HG.out; obtain ⟨c0', c1', c2', c3', c4', c5'⟩ := hPO; have hNQ := (hSw.cell (p := ⟨gn, k, none⟩) HGN2.out).trans HNQ.out; go_simp <;> (try with_reducible rfl))
              try simp only [Act.put, List.setIfInBounds_toArray, List.set_cons_zero, List.set_cons_succ]
              refine wpAnyH_take (i := 8) (oi := ?rau9o) (v := ?rau9v) ?rau9h (by kernel_rfl) (by kernel_rfl) (by kernel_rfl) ?rau9q ?rau9y hHeld ?rau9r
              case rau9h => (simp only [List.getElem?_toArray, List.getElem?_cons_succ, List.getElem?_cons_zero]; rfl)
              case rau9q => exact fun _ _ _ h => h
              case rau9y => (refine Or.inl ⟨by first | kernel_rfl | rfl, ?_⟩; intro w hSw; (try dsimp only at hSw); have hPO := HPO.out.below hSw HG.out; obtain ⟨c0', c1', c2', c3', c4', c5'⟩ := hPO; have hNQ := (hSw.cell (p := ⟨gn, k, none⟩) HGN2.out).trans HNQ.out; go_simp <;> (try with_reducible rfl))
              try simp only [Act.put, List.setIfInBounds_toArray, List.set_cons_zero, List.set_cons_succ]
              refine wpAnyH_take (i := 9) (oi := ?rau10o) (v := ?rau10v) ?rau10h (by kernel_rfl) (by kernel_rfl) (by kernel_rfl) ?rau10q ?rau10y hHeld ?rau10r
              case rau10h => (simp only [List.getElem?_toArray, List.getElem?_cons_succ, List.getElem?_cons_zero]; rfl)
              case rau10q => exact fun _ _ _ h => h
              case rau10y => (refine Or.inl ⟨by first | kernel_rfl | rfl, ?_⟩; intro w hSw; (try dsimp only at hSw); have hPO := HPO.out.below hSw HG.out; obtain ⟨c0', c1', c2', c3', c4', c5'⟩ := hPO; have hNQ := (hSw.cell (p := ⟨gn, k, none⟩) HGN2.out).trans HNQ.out; go_simp <;> (try with_reducible rfl))
              try simp only [Act.put, List.setIfInBounds_toArray, List.set_cons_zero, List.set_cons_succ]
              refine wpAnyH_ready (rs := [10, 14]) (by kernel_rfl) (by simp) ?_
              refine (AllReadyH.cons rfl (fun K hK => ?_) (AllReadyH.cons rfl (fun K hK => ?_) AllReadyH.nil))
              ·
                go_simp
                ((with_reducible refine (kf _ _ _ (KQ.out.later hHeld).l).mono ?_); rintro e w23 ⟨rfl, hb23⟩)
                refine hK.out _ _ (bel_next hHeld hb23) (fun hHeld => ?_)
                clear hK K
                try simp only [Act.put, List.setIfInBounds_toArray, List.set_cons_zero, List.set_cons_succ]
                refine wpAnyH_take (i := 11) (oi := ?rau11o) (v := ?rau11v) ?rau11h (by kernel_rfl) (by kernel_rfl) (by kernel_rfl) ?rau11q ?rau11y hHeld ?rau11r
                case rau11h => (simp only [List.getElem?_toArray, List.getElem?_cons_succ, List.getElem?_cons_zero]; rfl)
                case rau11q => exact fun _ _ _ h => h
                case rau11y => (refine Or.inl ⟨by first | kernel_rfl | rfl, ?_⟩; intro w hSw; (try dsimp only at hSw); have hPO := HPO.out.below hSw HG.out; obtain ⟨c0', c1', c2', c3', c4', c5'⟩ := hPO; have hNQ := (hSw.cell (p := ⟨gn, k, none⟩) HGN2.out).trans HNQ.out; go_simp <;> (try with_reducible rfl))
                try simp only [Act.put, List.setIfInBounds_toArray, List.set_cons_zero, List.set_cons_succ]
                refine wpAnyH_take (i := 12) (oi := ?rau12o) (v := ?rau12v) ?rau12h (by kernel_rfl) (by kernel_rfl) (by kernel_rfl) ?rau12q ?rau12y hHeld ?rau12r
                case rau12h => (simp only [List.getElem?_toArray, List.getElem?_cons_succ, List.getElem?_cons_zero]; rfl)
                case rau12q => exact fun _ _ _ h => h
                case rau12y => (refine Or.inl ⟨by first | kernel_rfl | rfl, ?_⟩; intro w hSw; (try dsimp only at hSw); have hPO := HPO.out.below hSw HG.out; obtain ⟨c0', c1', c2', c3', c4', c5'⟩ := hPO; have hNQ := (hSw.cell (p := ⟨gn, k, none⟩) HGN2.out).trans HNQ.out; go_simp <;> (try with_reducible rfl))
                try simp only [Act.put, List.setIfInBounds_toArray, List.set_cons_zero, List.set_cons_succ]
                refine wpAnyH_take (i := 13) (oi := ?rau13o) (v := ?rau13v) ?rau13h (by kernel_rfl) (by kernel_rfl) (by kernel_rfl) ?rau13q ?rau13y hHeld ?rau13r
                case rau13h => (simp only [List.getElem?_toArray, List.getElem?_cons_succ, List.getElem?_cons_zero]; rfl)
                case rau13q => exact fun _ _ _ h => h
                case rau13y => (refine Or.inl ⟨by first | kernel_rfl | rfl, ?_⟩; intro w hSw; (try dsimp only at hSw); have hPO := HPO.out.below hSw HG.out; obtain ⟨c0', c1', c2', c3', c4', c5'⟩ := hPO; have hNQ := (hSw.cell (p := ⟨gn, k, none⟩) HGN2.out).trans HNQ.out; go_simp <;> (try with_reducible rfl))
                try simp only [Act.put, List.setIfInBounds_toArray, List.set_cons_zero, List.set_cons_succ]
                refine wpAnyH_ready (rs := [14]) (by kernel_rfl) (by simp) ?_
                refine (AllReadyH.cons rfl (fun K hK => ?_) AllReadyH.nil)
                go_simp
                (have hpre := hHeld; (first | (obtain ⟨T, hTe⟩ : ∃ T, w23.heap.size = T := ⟨_, rfl⟩; have hzp : ZP (w23.alloc (.cells #[.string ⟨#[]⟩, .int .i64 0, .int .i64 0, .int .i64 0, .int .i64 0, .int .i64 0] 32)) T := (by subst hTe; exact ZP.new w23); have hTg : w22.heap.size ≤ T := (by subst hTe; exact hHeld.size); have hOrdA : True := trivial) | (obtain ⟨T, hTe⟩ : ∃ T, w22.heap.size = T := ⟨_, rfl⟩; have hzp : ZP (w22.drew.alloc (.cells #[.string ⟨#[]⟩, .int .i64 0, .int .i64 0, .int .i64 0, .int .i64 0, .int .i64 0] 32)) T := (by subst hTe; exact ZP.new w22.drew); have hTg : w22.heap.size ≤ T := Nat.le_of_eq hTe; have hOrdB : True := trivial)); simp only [hTe])
                refine hK.out _ _ (bel_new hHeld _) (fun hHeld => ?_)
                clear hK K
                try simp only [Act.put, List.setIfInBounds_toArray, List.set_cons_zero, List.set_cons_succ]
                refine wpAnyH_ready (rs := [15]) (by kernel_rfl) (by simp) ?_
                refine (AllReadyH.cons rfl (fun K hK => ?_) AllReadyH.nil)
                (first | (clear hOrdB; have hz8 := hzp.later hb23; have hz9 := hz8; clear hTe hzp hpre; obtain ⟨⟨z0, u0⟩, ⟨z1, u1⟩, ⟨z2, u2⟩, ⟨z3, u3⟩, ⟨z4, u4⟩, ⟨z5, u5⟩⟩ := hz9) | (clear hOrdA; have hz8 := hzp; clear hTe hzp hpre; generalize w23.alloc (.cells #[.string ⟨#[]⟩, .int .i64 0, .int .i64 0, .int .i64 0, .int .i64 0, .int .i64 0] 32) = WW at hz8 hHeld ⊢; have hz9 := hz8; obtain ⟨⟨z0, u0⟩, ⟨z1, u1⟩, ⟨z2, u2⟩, ⟨z3, u3⟩, ⟨z4, u4⟩, ⟨z5, u5⟩⟩ := hz9))
                go_simp
                refine hK.out _ _ (six_set hHeld _ hTg _ _ _ _ _ _) (fun hHeld => ?_)
                clear hK K
                try simp only [Act.put]
                refine wpAnyH_take (i := 16) (oi := ?rau14o) (v := ?rau14v) ?rau14h (by kernel_rfl) (by kernel_rfl) (by kernel_rfl) ?rau14q ?rau14y hHeld ?rau14r
                case rau14h => (simp only [List.getElem?_toArray, List.getElem?_cons_succ, List.getElem?_cons_zero]; rfl)
                case rau14q => exact fun _ _ _ h => h
                case rau14y => (refine Or.inl ⟨by first | kernel_rfl | rfl, ?_⟩; intro w hSw; (try dsimp only at hSw); have hPO := HPO.out.below hSw HG.out; obtain ⟨c0', c1', c2', c3', c4', c5'⟩ := hPO; have hNQ := (hSw.cell (p := ⟨gn, k, none⟩) HGN2.out).trans HNQ.out; go_simp <;> (try with_reducible rfl))
                try simp only [Act.put, List.setIfInBounds_toArray, List.set_cons_zero, List.set_cons_succ]
                refine wpAnyH_done (by kernel_rfl) ?_ _
                have hyz := six_pt (z := y0) hz8
                have H28 : PZ w22 g io y0 T y0 _ := ⟨HPO.out.below hHeld HG.out, hyz, hHeld⟩
                clear z0 z1 z2 z3 z4 z5 u0 u1 u2 u3 u4 u5
                go_wp2_with fail
                refine wp_region_held_drew (S := (PZ w22 g io y0 T y0)) (by kernel_rfl) H28.drew (fun hHeld => ?_)
                refine wpAnyH_take (i := 0) (oi := ?rav1o) (v := ?rav1v) ?rav1h (by kernel_rfl) (by kernel_rfl) (by kernel_rfl) ?rav1q ?rav1y hHeld ?rav1r
                case rav1h => (simp only [List.getElem?_toArray, List.getElem?_cons_zero]; rfl)
                case rav1q => exact fun _ _ _ h => h
                case rav1y => (refine Or.inl ⟨by first | kernel_rfl | rfl, ?_⟩; intro w hSw; (try dsimp only at hSw); obtain ⟨⟨c0', c1', c2', c3', c4', c5'⟩, ⟨d0', d1', d2', d3', d4', d5'⟩, -⟩ := hSw; go_simp <;> (try with_reducible rfl))
                try simp only [Act.put, List.setIfInBounds_toArray, List.set_cons_zero, List.set_cons_succ]
                refine wpAnyH_take (i := 1) (oi := ?rav2o) (v := ?rav2v) ?rav2h (by kernel_rfl) (by kernel_rfl) (by kernel_rfl) ?rav2q ?rav2y hHeld ?rav2r
                case rav2h => (simp only [List.getElem?_toArray, List.getElem?_cons_succ, List.getElem?_cons_zero]; rfl)
                case rav2q => exact fun _ _ _ h => h
                case rav2y => (refine Or.inl ⟨by first | kernel_rfl | rfl, ?_⟩; intro w hSw; (try dsimp only at hSw); obtain ⟨⟨c0', c1', c2', c3', c4', c5'⟩, ⟨d0', d1', d2', d3', d4', d5'⟩, -⟩ := hSw; go_simp <;> (try with_reducible rfl))
                try simp only [Act.put, List.setIfInBounds_toArray, List.set_cons_zero, List.set_cons_succ]
                refine wpAnyH_take (i := 2) (oi := ?rav3o) (v := ?rav3v) ?rav3h (by kernel_rfl) (by kernel_rfl) (by kernel_rfl) ?rav3q ?rav3y hHeld ?rav3r
                case rav3h => (simp only [List.getElem?_toArray, List.getElem?_cons_succ, List.getElem?_cons_zero]; rfl)
                case rav3q => exact fun _ _ _ h => h
                case rav3y => (refine Or.inl ⟨by first | kernel_rfl | rfl, ?_⟩; intro w hSw; (try dsimp only at hSw); obtain ⟨⟨c0', c1', c2', c3', c4', c5'⟩, ⟨d0', d1', d2', d3', d4', d5'⟩, -⟩ := hSw; go_simp <;> (try with_reducible rfl))
                try simp only [Act.put, List.setIfInBounds_toArray, List.set_cons_zero, List.set_cons_succ]
                refine wpAnyH_take (i := 3) (oi := ?rav4o) (v := ?rav4v) ?rav4h (by kernel_rfl) (by kernel_rfl) (by kernel_rfl) ?rav4q ?rav4y hHeld ?rav4r
                case rav4h => (simp only [List.getElem?_toArray, List.getElem?_cons_succ, List.getElem?_cons_zero]; rfl)
                case rav4q => exact fun _ _ _ h => h
                case rav4y => (refine Or.inl ⟨by first | kernel_rfl | rfl, ?_⟩; intro w hSw; (try dsimp only at hSw); obtain ⟨⟨c0', c1', c2', c3', c4', c5'⟩, ⟨d0', d1', d2', d3', d4', d5'⟩, -⟩ := hSw; go_simp <;> (try with_reducible rfl))
                try simp only [Act.put, List.setIfInBounds_toArray, List.set_cons_zero, List.set_cons_succ]
                refine wpAnyH_take (i := 4) (oi := ?rav5o) (v := ?rav5v) ?rav5h (by kernel_rfl) (by kernel_rfl) (by kernel_rfl) ?rav5q ?rav5y hHeld ?rav5r
                case rav5h => (simp only [List.getElem?_toArray, List.getElem?_cons_succ, List.getElem?_cons_zero]; rfl)
                case rav5q => exact fun _ _ _ h => h
                case rav5y => (refine Or.inl ⟨by first | kernel_rfl | rfl, ?_⟩; intro w hSw; (try dsimp only at hSw); obtain ⟨⟨c0', c1', c2', c3', c4', c5'⟩, ⟨d0', d1', d2', d3', d4', d5'⟩, -⟩ := hSw; go_simp <;> (try with_reducible rfl))
                try simp only [Act.put, List.setIfInBounds_toArray, List.set_cons_zero, List.set_cons_succ]
                refine wpAnyH_take (i := 5) (oi := ?rav6o) (v := ?rav6v) ?rav6h (by kernel_rfl) (by kernel_rfl) (by kernel_rfl) ?rav6q ?rav6y hHeld ?rav6r
                case rav6h => (simp only [List.getElem?_toArray, List.getElem?_cons_succ, List.getElem?_cons_zero]; rfl)
                case rav6q => exact fun _ _ _ h => h
                case rav6y => (refine Or.inl ⟨by first | kernel_rfl | rfl, ?_⟩; intro w hSw; (try dsimp only at hSw); obtain ⟨⟨c0', c1', c2', c3', c4', c5'⟩, ⟨d0', d1', d2', d3', d4', d5'⟩, -⟩ := hSw; go_simp <;> (try with_reducible rfl))
                try simp only [Act.put, List.setIfInBounds_toArray, List.set_cons_zero, List.set_cons_succ]
                refine wpAnyH_take (i := 6) (oi := ?rav7o) (v := ?rav7v) ?rav7h (by kernel_rfl) (by kernel_rfl) (by kernel_rfl) ?rav7q ?rav7y hHeld ?rav7r
                case rav7h => (simp only [List.getElem?_toArray, List.getElem?_cons_succ, List.getElem?_cons_zero]; rfl)
                case rav7q => exact fun _ _ _ h => h
                case rav7y => (refine Or.inl ⟨by first | kernel_rfl | rfl, ?_⟩; intro w hSw; (try dsimp only at hSw); obtain ⟨⟨c0', c1', c2', c3', c4', c5'⟩, ⟨d0', d1', d2', d3', d4', d5'⟩, -⟩ := hSw; go_simp <;> (try with_reducible rfl))
                try simp only [Act.put, List.setIfInBounds_toArray, List.set_cons_zero, List.set_cons_succ]
                refine wpAnyH_take (i := 7) (oi := ?rav8o) (v := ?rav8v) ?rav8h (by kernel_rfl) (by kernel_rfl) (by kernel_rfl) ?rav8q ?rav8y hHeld ?rav8r
                case rav8h => (simp only [List.getElem?_toArray, List.getElem?_cons_succ, List.getElem?_cons_zero]; rfl)
                case rav8q => exact fun _ _ _ h => h
                case rav8y => (refine Or.inl ⟨by first | kernel_rfl | rfl, ?_⟩; intro w hSw; (try dsimp only at hSw); obtain ⟨⟨c0', c1', c2', c3', c4', c5'⟩, ⟨d0', d1', d2', d3', d4', d5'⟩, -⟩ := hSw; go_simp <;> (try with_reducible rfl))
                try simp only [Act.put, List.setIfInBounds_toArray, List.set_cons_zero, List.set_cons_succ]
                refine wpAnyH_take (i := 8) (oi := ?rav9o) (v := ?rav9v) ?rav9h (by kernel_rfl) (by kernel_rfl) (by kernel_rfl) ?rav9q ?rav9y hHeld ?rav9r
                case rav9h => (simp only [List.getElem?_toArray, List.getElem?_cons_succ, List.getElem?_cons_zero]; rfl)
                case rav9q => exact fun _ _ _ h => h
                case rav9y => (refine Or.inl ⟨by first | kernel_rfl | rfl, ?_⟩; intro w hSw; (try dsimp only at hSw); obtain ⟨⟨c0', c1', c2', c3', c4', c5'⟩, ⟨d0', d1', d2', d3', d4', d5'⟩, -⟩ := hSw; go_simp <;> (try with_reducible rfl))
                try simp only [Act.put, List.setIfInBounds_toArray, List.set_cons_zero, List.set_cons_succ]
                refine wpAnyH_take (i := 9) (oi := ?rav10o) (v := ?rav10v) ?rav10h (by kernel_rfl) (by kernel_rfl) (by kernel_rfl) ?rav10q ?rav10y hHeld ?rav10r
                case rav10h => (simp only [List.getElem?_toArray, List.getElem?_cons_succ, List.getElem?_cons_zero]; rfl)
                case rav10q => exact fun _ _ _ h => h
                case rav10y => (refine Or.inl ⟨by first | kernel_rfl | rfl, ?_⟩; intro w hSw; (try dsimp only at hSw); obtain ⟨⟨c0', c1', c2', c3', c4', c5'⟩, ⟨d0', d1', d2', d3', d4', d5'⟩, -⟩ := hSw; go_simp <;> (try with_reducible rfl))
                try simp only [Act.put, List.setIfInBounds_toArray, List.set_cons_zero, List.set_cons_succ]
                refine wpAnyH_done (by kernel_rfl) ?_ _
                have VN := Lib.hid (KQ.out.later hHeld.bel)
                have ON := Lib.hid (OQ.out.later hHeld.bel)
                clear hHeld
                go_wp2
                go_roundw
                case rel => exact ⟨q + 1, by omega, by go_num, VN, ON⟩
                case measure => simp [intOf]; omega
              ·
                go_simp
                (have hpre := hHeld; (first | (obtain ⟨T, hTe⟩ : ∃ T, w23.heap.size = T := ⟨_, rfl⟩; have hzp : ZP (w23.alloc (.cells #[.string ⟨#[]⟩, .int .i64 0, .int .i64 0, .int .i64 0, .int .i64 0, .int .i64 0] 32)) T := (by subst hTe; exact ZP.new w23); have hTg : w22.heap.size ≤ T := (by subst hTe; exact hHeld.size); have hOrdA : True := trivial) | (obtain ⟨T, hTe⟩ : ∃ T, w22.heap.size = T := ⟨_, rfl⟩; have hzp : ZP (w22.drew.alloc (.cells #[.string ⟨#[]⟩, .int .i64 0, .int .i64 0, .int .i64 0, .int .i64 0, .int .i64 0] 32)) T := (by subst hTe; exact ZP.new w22.drew); have hTg : w22.heap.size ≤ T := Nat.le_of_eq hTe; have hOrdB : True := trivial)); simp only [hTe])
                refine hK.out _ _ (bel_new hHeld _) (fun hHeld => ?_)
                clear hK K
                try simp only [Act.put, List.setIfInBounds_toArray, List.set_cons_zero, List.set_cons_succ]
                refine wpAnyH_ready (rs := [10]) (by kernel_rfl) (by simp) ?_
                refine (AllReadyH.cons rfl (fun K hK => ?_) AllReadyH.nil)
                go_simp
                ((with_reducible refine (kf _ _ _ (KQ.out.later hHeld).l).mono ?_); rintro e w23 ⟨rfl, hb23⟩)
                refine hK.out _ _ (bel_next hHeld hb23) (fun hHeld => ?_)
                clear hK K
                try simp only [Act.put, List.setIfInBounds_toArray, List.set_cons_zero, List.set_cons_succ]
                refine wpAnyH_take (i := 11) (oi := ?rau15o) (v := ?rau15v) ?rau15h (by kernel_rfl) (by kernel_rfl) (by kernel_rfl) ?rau15q ?rau15y hHeld ?rau15r
                case rau15h => (simp only [List.getElem?_toArray, List.getElem?_cons_succ, List.getElem?_cons_zero]; rfl)
                case rau15q => exact fun _ _ _ h => h
                case rau15y => (refine Or.inl ⟨by first | kernel_rfl | rfl, ?_⟩; intro w hSw; (try dsimp only at hSw); have hPO := HPO.out.below hSw HG.out; obtain ⟨c0', c1', c2', c3', c4', c5'⟩ := hPO; have hNQ := (hSw.cell (p := ⟨gn, k, none⟩) HGN2.out).trans HNQ.out; go_simp <;> (try with_reducible rfl))
                try simp only [Act.put, List.setIfInBounds_toArray, List.set_cons_zero, List.set_cons_succ]
                refine wpAnyH_take (i := 12) (oi := ?rau16o) (v := ?rau16v) ?rau16h (by kernel_rfl) (by kernel_rfl) (by kernel_rfl) ?rau16q ?rau16y hHeld ?rau16r
                case rau16h => (simp only [List.getElem?_toArray, List.getElem?_cons_succ, List.getElem?_cons_zero]; rfl)
                case rau16q => exact fun _ _ _ h => h
                case rau16y => (refine Or.inl ⟨by first | kernel_rfl | rfl, ?_⟩; intro w hSw; (try dsimp only at hSw); have hPO := HPO.out.below hSw HG.out; obtain ⟨c0', c1', c2', c3', c4', c5'⟩ := hPO; have hNQ := (hSw.cell (p := ⟨gn, k, none⟩) HGN2.out).trans HNQ.out; go_simp <;> (try with_reducible rfl))
                try simp only [Act.put, List.setIfInBounds_toArray, List.set_cons_zero, List.set_cons_succ]
                refine wpAnyH_take (i := 13) (oi := ?rau17o) (v := ?rau17v) ?rau17h (by kernel_rfl) (by kernel_rfl) (by kernel_rfl) ?rau17q ?rau17y hHeld ?rau17r
                case rau17h => (simp only [List.getElem?_toArray, List.getElem?_cons_succ, List.getElem?_cons_zero]; rfl)
                case rau17q => exact fun _ _ _ h => h
                case rau17y => (refine Or.inl ⟨by first | kernel_rfl | rfl, ?_⟩; intro w hSw; (try dsimp only at hSw); have hPO := HPO.out.below hSw HG.out; obtain ⟨c0', c1', c2', c3', c4', c5'⟩ := hPO; have hNQ := (hSw.cell (p := ⟨gn, k, none⟩) HGN2.out).trans HNQ.out; go_simp <;> (try with_reducible rfl))
                try simp only [Act.put, List.setIfInBounds_toArray, List.set_cons_zero, List.set_cons_succ]
                refine wpAnyH_ready (rs := [15]) (by kernel_rfl) (by simp) ?_
                refine (AllReadyH.cons rfl (fun K hK => ?_) AllReadyH.nil)
                (first | (clear hOrdB; have hz8 := hzp.later hb23; have hz9 := hz8; clear hTe hzp hpre; obtain ⟨⟨z0, u0⟩, ⟨z1, u1⟩, ⟨z2, u2⟩, ⟨z3, u3⟩, ⟨z4, u4⟩, ⟨z5, u5⟩⟩ := hz9) | (clear hOrdA; have hz8 := hzp; clear hTe hzp hpre; generalize w23.alloc (.cells #[.string ⟨#[]⟩, .int .i64 0, .int .i64 0, .int .i64 0, .int .i64 0, .int .i64 0] 32) = WW at hz8 hHeld ⊢; have hz9 := hz8; obtain ⟨⟨z0, u0⟩, ⟨z1, u1⟩, ⟨z2, u2⟩, ⟨z3, u3⟩, ⟨z4, u4⟩, ⟨z5, u5⟩⟩ := hz9))
                go_simp
                refine hK.out _ _ (six_set hHeld _ hTg _ _ _ _ _ _) (fun hHeld => ?_)
                clear hK K
                try simp only [Act.put]
                refine wpAnyH_take (i := 16) (oi := ?rau18o) (v := ?rau18v) ?rau18h (by kernel_rfl) (by kernel_rfl) (by kernel_rfl) ?rau18q ?rau18y hHeld ?rau18r
                case rau18h => (simp only [List.getElem?_toArray, List.getElem?_cons_succ, List.getElem?_cons_zero]; rfl)
                case rau18q => exact fun _ _ _ h => h
                case rau18y => (refine Or.inl ⟨by first | kernel_rfl | rfl, ?_⟩; intro w hSw; (try dsimp only at hSw); have hPO := HPO.out.below hSw HG.out; obtain ⟨c0', c1', c2', c3', c4', c5'⟩ := hPO; have hNQ := (hSw.cell (p := ⟨gn, k, none⟩) HGN2.out).trans HNQ.out; go_simp <;> (try with_reducible rfl))
                try simp only [Act.put, List.setIfInBounds_toArray, List.set_cons_zero, List.set_cons_succ]
                refine wpAnyH_done (by kernel_rfl) ?_ _
                have hyz := six_pt (z := y0) hz8
                have H28 : PZ w22 g io y0 T y0 _ := ⟨HPO.out.below hHeld HG.out, hyz, hHeld⟩
                clear z0 z1 z2 z3 z4 z5 u0 u1 u2 u3 u4 u5
                go_wp2_with fail
                refine wp_region_held_drew (S := (PZ w22 g io y0 T y0)) (by kernel_rfl) H28.drew (fun hHeld => ?_)
                refine wpAnyH_take (i := 0) (oi := ?rax1o) (v := ?rax1v) ?rax1h (by kernel_rfl) (by kernel_rfl) (by kernel_rfl) ?rax1q ?rax1y hHeld ?rax1r
                case rax1h => (simp only [List.getElem?_toArray, List.getElem?_cons_zero]; rfl)
                case rax1q => exact fun _ _ _ h => h
                case rax1y => (refine Or.inl ⟨by first | kernel_rfl | rfl, ?_⟩; intro w hSw; (try dsimp only at hSw); obtain ⟨⟨c0', c1', c2', c3', c4', c5'⟩, ⟨d0', d1', d2', d3', d4', d5'⟩, -⟩ := hSw; go_simp <;> (try with_reducible rfl))
                try simp only [Act.put, List.setIfInBounds_toArray, List.set_cons_zero, List.set_cons_succ]
                refine wpAnyH_take (i := 1) (oi := ?rax2o) (v := ?rax2v) ?rax2h (by kernel_rfl) (by kernel_rfl) (by kernel_rfl) ?rax2q ?rax2y hHeld ?rax2r
                case rax2h => (simp only [List.getElem?_toArray, List.getElem?_cons_succ, List.getElem?_cons_zero]; rfl)
                case rax2q => exact fun _ _ _ h => h
                case rax2y => (refine Or.inl ⟨by first | kernel_rfl | rfl, ?_⟩; intro w hSw; (try dsimp only at hSw); obtain ⟨⟨c0', c1', c2', c3', c4', c5'⟩, ⟨d0', d1', d2', d3', d4', d5'⟩, -⟩ := hSw; go_simp <;> (try with_reducible rfl))
                try simp only [Act.put, List.setIfInBounds_toArray, List.set_cons_zero, List.set_cons_succ]
                refine wpAnyH_take (i := 2) (oi := ?rax3o) (v := ?rax3v) ?rax3h (by kernel_rfl) (by kernel_rfl) (by kernel_rfl) ?rax3q ?rax3y hHeld ?rax3r
                case rax3h => (simp only [List.getElem?_toArray, List.getElem?_cons_succ, List.getElem?_cons_zero]; rfl)
                case rax3q => exact fun _ _ _ h => h
                case rax3y => (refine Or.inl ⟨by first | kernel_rfl | rfl, ?_⟩; intro w hSw; (try dsimp only at hSw); obtain ⟨⟨c0', c1', c2', c3', c4', c5'⟩, ⟨d0', d1', d2', d3', d4', d5'⟩, -⟩ := hSw; go_simp <;> (try with_reducible rfl))
                try simp only [Act.put, List.setIfInBounds_toArray, List.set_cons_zero, List.set_cons_succ]
                refine wpAnyH_take (i := 3) (oi := ?rax4o) (v := ?rax4v) ?rax4h (by kernel_rfl) (by kernel_rfl) (by kernel_rfl) ?rax4q ?rax4y hHeld ?rax4r
                case rax4h => (simp only [List.getElem?_toArray, List.getElem?_cons_succ, List.getElem?_cons_zero]; rfl)
                case rax4q => exact fun _ _ _ h => h
                case rax4y => (refine Or.inl ⟨by first | kernel_rfl | rfl, ?_⟩; intro w hSw; (try dsimp only at hSw); obtain ⟨⟨c0', c1', c2', c3', c4', c5'⟩, ⟨d0', d1', d2', d3', d4', d5'⟩, -⟩ := hSw; go_simp <;> (try with_reducible rfl))
                try simp only [Act.put, List.setIfInBounds_toArray, List.set_cons_zero, List.set_cons_succ]
                refine wpAnyH_take (i := 4) (oi := ?rax5o) (v := ?rax5v) ?rax5h (by kernel_rfl) (by kernel_rfl) (by kernel_rfl) ?rax5q ?rax5y hHeld ?rax5r
                case rax5h => (simp only [List.getElem?_toArray, List.getElem?_cons_succ, List.getElem?_cons_zero]; rfl)
                case rax5q => exact fun _ _ _ h => h
                case rax5y => (refine Or.inl ⟨by first | kernel_rfl | rfl, ?_⟩; intro w hSw; (try dsimp only at hSw); obtain ⟨⟨c0', c1', c2', c3', c4', c5'⟩, ⟨d0', d1', d2', d3', d4', d5'⟩, -⟩ := hSw; go_simp <;> (try with_reducible rfl))
                try simp only [Act.put, List.setIfInBounds_toArray, List.set_cons_zero, List.set_cons_succ]
                refine wpAnyH_take (i := 5) (oi := ?rax6o) (v := ?rax6v) ?rax6h (by kernel_rfl) (by kernel_rfl) (by kernel_rfl) ?rax6q ?rax6y hHeld ?rax6r
                case rax6h => (simp only [List.getElem?_toArray, List.getElem?_cons_succ, List.getElem?_cons_zero]; rfl)
                case rax6q => exact fun _ _ _ h => h
                case rax6y => (refine Or.inl ⟨by first | kernel_rfl | rfl, ?_⟩; intro w hSw; (try dsimp only at hSw); obtain ⟨⟨c0', c1', c2', c3', c4', c5'⟩, ⟨d0', d1', d2', d3', d4', d5'⟩, -⟩ := hSw; go_simp <;> (try with_reducible rfl))
                try simp only [Act.put, List.setIfInBounds_toArray, List.set_cons_zero, List.set_cons_succ]
                refine wpAnyH_take (i := 6) (oi := ?rax7o) (v := ?rax7v) ?rax7h (by kernel_rfl) (by kernel_rfl) (by kernel_rfl) ?rax7q ?rax7y hHeld ?rax7r
                case rax7h => (simp only [List.getElem?_toArray, List.getElem?_cons_succ, List.getElem?_cons_zero]; rfl)
                case rax7q => exact fun _ _ _ h => h
                case rax7y => (refine Or.inl ⟨by first | kernel_rfl | rfl, ?_⟩; intro w hSw; (try dsimp only at hSw); obtain ⟨⟨c0', c1', c2', c3', c4', c5'⟩, ⟨d0', d1', d2', d3', d4', d5'⟩, -⟩ := hSw; go_simp <;> (try with_reducible rfl))
                try simp only [Act.put, List.setIfInBounds_toArray, List.set_cons_zero, List.set_cons_succ]
                refine wpAnyH_take (i := 7) (oi := ?rax8o) (v := ?rax8v) ?rax8h (by kernel_rfl) (by kernel_rfl) (by kernel_rfl) ?rax8q ?rax8y hHeld ?rax8r
                case rax8h => (simp only [List.getElem?_toArray, List.getElem?_cons_succ, List.getElem?_cons_zero]; rfl)
                case rax8q => exact fun _ _ _ h => h
                case rax8y => (refine Or.inl ⟨by first | kernel_rfl | rfl, ?_⟩; intro w hSw; (try dsimp only at hSw); obtain ⟨⟨c0', c1', c2', c3', c4', c5'⟩, ⟨d0', d1', d2', d3', d4', d5'⟩, -⟩ := hSw; go_simp <;> (try with_reducible rfl))
                try simp only [Act.put, List.setIfInBounds_toArray, List.set_cons_zero, List.set_cons_succ]
                refine wpAnyH_take (i := 8) (oi := ?rax9o) (v := ?rax9v) ?rax9h (by kernel_rfl) (by kernel_rfl) (by kernel_rfl) ?rax9q ?rax9y hHeld ?rax9r
                case rax9h => (simp only [List.getElem?_toArray, List.getElem?_cons_succ, List.getElem?_cons_zero]; rfl)
                case rax9q => exact fun _ _ _ h => h
                case rax9y => (refine Or.inl ⟨by first | kernel_rfl | rfl, ?_⟩; intro w hSw; (try dsimp only at hSw); obtain ⟨⟨c0', c1', c2', c3', c4', c5'⟩, ⟨d0', d1', d2', d3', d4', d5'⟩, -⟩ := hSw; go_simp <;> (try with_reducible rfl))
                try simp only [Act.put, List.setIfInBounds_toArray, List.set_cons_zero, List.set_cons_succ]
                refine wpAnyH_take (i := 9) (oi := ?rax10o) (v := ?rax10v) ?rax10h (by kernel_rfl) (by kernel_rfl) (by kernel_rfl) ?rax10q ?rax10y hHeld ?rax10r
                case rax10h => (simp only [List.getElem?_toArray, List.getElem?_cons_succ, List.getElem?_cons_zero]; rfl)
                case rax10q => exact fun _ _ _ h => h
                case rax10y => (refine Or.inl ⟨by first | kernel_rfl | rfl, ?_⟩; intro w hSw; (try dsimp only at hSw); obtain ⟨⟨c0', c1', c2', c3', c4', c5'⟩, ⟨d0', d1', d2', d3', d4', d5'⟩, -⟩ := hSw; go_simp <;> (try with_reducible rfl))
                try simp only [Act.put, List.setIfInBounds_toArray, List.set_cons_zero, List.set_cons_succ]
                refine wpAnyH_done (by kernel_rfl) ?_ _
                have VN := Lib.hid (KQ.out.later hHeld.bel)
                have ON := Lib.hid (OQ.out.later hHeld.bel)
                clear hHeld
                go_wp2
                go_roundw
                case rel => exact ⟨q + 1, by omega, by go_num, VN, ON⟩
                case measure => simp [intOf]; omega
          · have hqdi : ¬ (q : Int) < (d4 : Int) := by omega
            go_wp2
            go_roundw
            case rel => exact ⟨k + 1, cs + d4, by omega, by go_num, by go_num, HST, KQ⟩
            case measure => simp [intOf]; omega
      · have hlti : ¬ (k : Int) < (nz : Int) := by omega
        have HCS := Lib.hid (show okN m = cs by rw [← HC.out, List.take_of_length_le (by rw [EZ.out]; omega), HZS.out])
        go_wp2
        go_loopw [21, 22] (fun s i wr => ∃ (j c : Nat), j ≤ nm ∧ i = .int .i64 (j : Int) ∧ s = .int .i64 (c : Int) ∧ Hid (okN (m.take j) = c) ∧ Hid (RK w pm cm m w3.heap.size (.slice pn nz cn) Z wr)) (fun _ i _ => nm - (intOf i).toNat)
        case atStart => exact ⟨0, 0, by omega, rfl, rfl, Lib.hid rfl, K⟩
        case round =>
          obtain ⟨j, c, hj, rfl, rfl, HJC, KJ⟩ := hrel
          clear K
          obtain ⟨w30, hw30⟩ : ∃ x, x = wr := ⟨_, rfl⟩
          subst hw30
          have hc40 : c ≤ nm := by rw [← HJC.out]; exact HOKL.out j
          by_cases hjm : j < nm
          · have hjmi : (j : Int) < (nm : Int) := by omega
            have hjM : j < m.length := by rw [EM.out]; exact hjm
            have hok := HOK.out j hjM
            rw [HJC.out] at hok
            have hw1 : IntKind.i64.wrap ((c : Int) + 1) = (c : Int) + 1 := by rw [IntKind.wrap_i64]; omega
            rcases KJ.out.l.pts.at_ with h0 | ⟨g, off, hae, hg, hx⟩
            · rw [h0] at hjM; simp at hjM
            · have hxj := hx j hjM
              obtain ⟨y, hy⟩ : ∃ y, m[j] = y := ⟨_, rfl⟩
              rw [hy] at hxj hok
              obtain ⟨c0', c1', c2', c3', c4', c5'⟩ := hxj
              by_cases h1 : 0 ≤ y.t
              · by_cases h2 : y.t ≤ 1099511627776
                · rw [if_pos ⟨h1, h2⟩] at hok
                  have HO := Lib.hid hok
                  clear hx hy hok
                  subst hae
                  go_wp2
                  go_roundw
                  case rel => exact ⟨j + 1, c + 1, by omega, by go_num, by go_num, HO, KJ⟩
                  case measure => simp [intOf]; omega
                · rw [if_neg (fun h => h2 h.2)] at hok
                  have HO := Lib.hid hok
                  clear hx hy hok
                  subst hae
                  go_wp2
                  go_roundw
                  case rel => exact ⟨j + 1, c, by omega, by go_num, rfl, HO, KJ⟩
                  case measure => simp [intOf]; omega
              · rw [if_neg (fun h => h1 h.1)] at hok
                have HO := Lib.hid hok
                clear hx hy hok
                subst hae
                go_wp2
                go_roundw
                case rel => exact ⟨j + 1, c, by omega, by go_num, rfl, HO, KJ⟩
                case measure => simp [intOf]; omega
          · have hjmi : ¬ (j : Int) < (nm : Int) := by omega
            have hce : c = cs := by rw [← HCS.out, ← HJC.out, List.take_of_length_le (by rw [EM.out]; omega)]
            subst hce
            go_wp2
            go_ret
            exact ⟨by first | rfl | simp, KJ.out.bel⟩
  · go_enter Tryd.func9, Tryd.ntmps9
    go_wp2_with (first
      | (go_at_call 10; (with_reducible refine (ka _ (HT.out.next HB0.out)).mono ?_); rintro e w1 ⟨rfl, hb1⟩; (have B1 := Lib.hid (bel_next HB0.out hb1)); (have X1 := Lib.hid (show w1.cell? ⟨w.heap.size, 0, none⟩ = some (.int .i64 x0) ∧ w1.cell? ⟨w.heap.size, 1, none⟩ = some (.int .i64 x1) from ⟨(hb1.cell (p := ⟨w.heap.size, 0, none⟩) (by simp)).trans HBX.out.1, (hb1.cell (p := ⟨w.heap.size, 1, none⟩) (by simp)).trans HBX.out.2⟩)); (have HP1 := Lib.hid ((HP.out.below B1.out).mono B1.out.size)); clear hb1 ka)
      | (go_at_call 11; (with_reducible refine (kf1 _ HP1.out).mono ?_); rintro e w2 ⟨v, rfl, hR, hb2⟩; (have hsl := hR.slice); (obtain ⟨p1, c1, rfl⟩ := hsl); (rw [E1.out] at hR ⊢); (have B2 := Lib.hid (bel_next B1.out hb2)); (have X2 := Lib.hid (show w2.cell? ⟨w.heap.size, 0, none⟩ = some (.int .i64 x0) ∧ w2.cell? ⟨w.heap.size, 1, none⟩ = some (.int .i64 x1) from ⟨(hb2.cell (p := ⟨w.heap.size, 0, none⟩) (World.block_lt_of_cell? w1 _ X1.out.1)).trans X1.out.1, (hb2.cell (p := ⟨w.heap.size, 1, none⟩) (World.block_lt_of_cell? w1 _ X1.out.2)).trans X1.out.2⟩)); (have HL2 := Lib.hid hR.lst); clear hR hb2 kf1)
      | (go_at_call 14; (with_reducible refine (kr _ _ _ HL2.out).mono ?_); rintro e w3 ⟨v, rfl, hR, hb3⟩; (have hsl := hR.slice); (obtain ⟨pm, cm, rfl⟩ := hsl); (rw [EM.out] at hR ⊢); (have B3 := Lib.hid (bel_next B2.out hb3)); (have y0 := (hb3.cell (p := ⟨w.heap.size, 0, none⟩) (World.block_lt_of_cell? w2 _ X2.out.1)).trans X2.out.1); (have y1 := (hb3.cell (p := ⟨w.heap.size, 1, none⟩) (World.block_lt_of_cell? w2 _ X2.out.2)).trans X2.out.2); (have HM3 := Lib.hid hR.lst); clear hR hb3 kr)
      | (go_at_call 25; (with_reducible refine (kse _ _ _ HM3.out).mono ?_); rintro e w4 ⟨v, rfl, hR, hb4⟩; (have hsl := hR.slice); (obtain ⟨pn, cn, rfl⟩ := hsl); (rw [EZ.out] at hR ⊢); (have K4 := Lib.hid (show RK w pm cm m w3.heap.size (.slice pn nz cn) Z w4 from ⟨HM3.out.later hb4, hR, bel_next B3.out hb4⟩)); clear hR hb4 kse y0 y1))
    go_loopw [10, 11] (fun s i wr => ∃ (k c : Nat), k ≤ nz ∧ i = .int .i64 (k : Int) ∧ s = .int .i64 (c : Int) ∧ Hid (((Z.take k).map fun n => (allR m n).length).sum = c) ∧ Hid (RK w pm cm m w3.heap.size (.slice pn nz cn) Z wr)) (fun _ i _ => nz - (intOf i).toNat)
    case atStart => exact ⟨0, 0, by omega, rfl, rfl, Lib.hid rfl, K4⟩
    case round =>
      obtain ⟨k, cs, hk, rfl, rfl, HC, K⟩ := hrel
      clear K4
      obtain ⟨w5, hw5⟩ : ∃ x, x = wr := ⟨_, rfl⟩
      subst hw5
      have hcs40 : cs ≤ nm := by
        have h1 := sum_le (N := Z) (fun n => (allR m n).length) k
        rw [HC.out, HZS.out] at h1
        have h2 := HOKL.out m.length
        rw [Hwhole.out] at h2
        omega
      by_cases hlt : k < nz
      · have hlti : (k : Int) < (nz : Int) := by omega
        have hkZ : k < Z.length := by rw [EZ.out]; exact hlt
        obtain ⟨gn, hpn, hgn, hzn⟩ := K.out.n.at_ (by omega)
        have hst := sum_step (N := Z) (fun n => (allR m n).length) hkZ
        have hnm0 := hzn k hkZ
        obtain ⟨s, hs⟩ : ∃ s, Z[k] = s := ⟨_, rfl⟩
        rw [hs] at hst hnm0
        rw [HC.out] at hst
        have HST := Lib.hid hst
        have HNM := Lib.hid hnm0
        have HGN := Lib.hid hgn
        have o1 : okS 0 ta = true := decide_eq_true (by omega)
        have o2 : okS ta tb = true := decide_eq_true (by omega)
        have o3 : okS tb 1099511627777 = true := decide_eq_true (by omega)
        have o4 : okS 0 1099511627777 = true := by decide
        have kr1 := fun a c w h => krg a c s 0 ta o1 w h
        have kr2 := fun a c w h => krg a c s ta tb o2 w h
        have kr3 := fun a c w h => krg a c s tb 1099511627777 o3 w h
        have kr4 := fun a c w h => krg a c s 0 1099511627777 o4 w h
        have hj1 := HJN.out s 0 ta tb (by omega) (by omega)
        have hj2 := HJN.out s 0 tb 1099511627777 (by omega) (by omega)
        have b1 := HRL.out s 0 ta
        have b2 := HRL.out s ta tb
        have b3 := HRL.out s tb 1099511627777
        have b4 := HRL.out s 0 1099511627777
        have hmem : ∀ x ∈ rngL m s 0 1099511627777, x ∈ m ∧ x.s = s := fun x hx => by
          have := List.mem_filter.1 hx
          exact ⟨this.1, (inR_iff.1 this.2).1⟩
        rw [show (allR m s) = rngL m s 0 1099511627777 from rfl] at HST
        obtain ⟨Y1, hY1⟩ : ∃ Y, rngL m s 0 ta = Y := ⟨_, rfl⟩
        obtain ⟨Y2, hY2⟩ : ∃ Y, rngL m s ta tb = Y := ⟨_, rfl⟩
        obtain ⟨Y3, hY3⟩ : ∃ Y, rngL m s tb 1099511627777 = Y := ⟨_, rfl⟩
        obtain ⟨Y4, hY4⟩ : ∃ Y, rngL m s 0 1099511627777 = Y := ⟨_, rfl⟩
        rw [hY1] at kr1 hj1 b1
        rw [hY2] at kr2 hj1 b2
        rw [hY3] at kr3 hj2 b3
        rw [hY4] at kr4 hj2 b4 hmem HST
        rw [← hj1] at hj2
        obtain ⟨d1, f1⟩ : ∃ n, Y1.length = n := ⟨_, rfl⟩
        obtain ⟨d2, f2⟩ : ∃ n, Y2.length = n := ⟨_, rfl⟩
        obtain ⟨d3, f3⟩ : ∃ n, Y3.length = n := ⟨_, rfl⟩
        obtain ⟨d4, f4⟩ : ∃ n, Y4.length = n := ⟨_, rfl⟩
        have f5 := congrArg List.length hj2
        rw [List.length_append, List.length_append, f1, f2, f3, f4] at f5
        rw [f1] at b1
        rw [f2] at b2
        rw [f3] at b3
        rw [f4] at b4 HST
        obtain ⟨d12, f12⟩ : ∃ n, d1 + d2 = n := ⟨_, rfl⟩
        rw [f12] at f5
        have kqA := kq Y4
        rw [f4] at kqA
        have G1 := Lib.hid f1
        have G2 := Lib.hid f2
        have G3 := Lib.hid f3
        have G4 := Lib.hid f4
        have G5 := Lib.hid f5
        have G12 := Lib.hid f12
        have HJ2 := Lib.hid hj2
        have HMEM := Lib.hid hmem
        have hwc : IntKind.i64.wrap ((cs : Int) + (d4 : Int)) = (cs : Int) + (d4 : Int) := by rw [IntKind.wrap_i64]; omega
        have z5 := HNM.out
        have hd12 : d12 ≤ 80 := by omega
        subst hpn
        clear hzn hs hst hnm0 hgn hj1 hj2 hmem hY1 hY2 hY3 hY4 f1 f2 f3 f4 f5 f12 o1 o2 o3 o4
        go_wp2_with (first
          | (go_at_call 20; first
            | ((with_reducible refine (kr1 _ _ _ K.out.l).mono ?_); rintro e w6 ⟨v, rfl, hR, hb6⟩; (have hsl := hR.slice); (obtain ⟨q1, s1, rfl⟩ := hsl); (rw [G1.out] at hR ⊢); (have K6 := Lib.hid (K.out.later hb6)); (have L6 := Lib.hid hR.lst); clear z5; (have z5 := (hb6.cell (p := ⟨gn, k, none⟩) HGN.out).trans HNM.out); (have Z6 := Lib.hid z5); clear hR hb6 kr1)
            | ((with_reducible refine (kr2 _ _ _ K6.out.l).mono ?_); rintro e w7 ⟨v, rfl, hR, hb7⟩; (have hsl := hR.slice); (obtain ⟨q2, s2, rfl⟩ := hsl); (rw [G2.out] at hR ⊢); (have K7 := Lib.hid (K6.out.later hb7)); (have L7 := Lib.hid (L6.out.later hb7)); (have M7 := Lib.hid hR.lst); clear z5; (have z5 := (hb7.cell (p := ⟨gn, k, none⟩) (World.block_lt_of_cell? w6 _ Z6.out)).trans Z6.out); (have Z7 := Lib.hid z5); clear hR hb7 kr2)
            | ((with_reducible refine (kr3 _ _ _ K7.out.l).mono ?_); rintro e w8 ⟨v, rfl, hR, hb8⟩; (have hsl := hR.slice); (obtain ⟨q3, s3, rfl⟩ := hsl); (rw [G3.out] at hR ⊢); (have K8 := Lib.hid (K7.out.later hb8)); (have L8 := Lib.hid (L7.out.later hb8)); (have M8 := Lib.hid (M7.out.later hb8)); (have N8 := Lib.hid hR.lst); clear z5; (have z5 := (hb8.cell (p := ⟨gn, k, none⟩) (World.block_lt_of_cell? w7 _ Z7.out)).trans Z7.out); (have Z8 := Lib.hid z5); clear hR hb8 kr3)
            | ((with_reducible refine (kr4 _ _ _ K8.out.l).mono ?_); rintro e w9 ⟨v, rfl, hR, hb9⟩; (have hsl := hR.slice); (obtain ⟨q4, s4, rfl⟩ := hsl); (rw [G4.out] at hR ⊢); (have K9 := Lib.hid (K8.out.later hb9)); (have L9 := Lib.hid (L8.out.later hb9)); (have M9 := Lib.hid (M8.out.later hb9)); (have N9 := Lib.hid (N8.out.later hb9)); (have O9 := Lib.hid hR.lst); clear z5; (have Z9 := Lib.hid ((hb9.cell (p := ⟨gn, k, none⟩) (World.block_lt_of_cell? w8 _ Z8.out)).trans Z8.out)); clear hR hb9 kr4))
          | (at_builtin; refine wpList_appN (w := w9) rfl _ _ rfl w9.heap.size 0 (.slice none 0 0) [] Y1 q1 d1 s1 w9.heap.size rfl rfl G1.out (Lib.hid rfl) (PRow.nil _ _) L9.out (by omega) (Nat.le_refl _) ?_; intro a3 c3 w10 hrow3 _ hb3 _; have R10 := Lib.hid (show PRow w10 w9.heap.size (.slice a3 d1 c3) Y1 by simpa using hrow3.out); have D10 := Lib.hid hb3; clear hrow3 hb3)
          | (at_builtin; refine wpList_appN (w := w10) rfl _ _ rfl w9.heap.size d1 (.slice a3 d1 c3) Y1 Y2 q2 d2 s2 w9.heap.size rfl rfl G2.out G1 R10.out (M9.out.below D10.out) (by omega) D10.out.size ?_; intro a4 c4 w11 hrow4 _ hb4 _; rw [G12.out] at hrow4 ⊢; have R11 := Lib.hid hrow4.out; have D11 := Lib.hid (D10.out.trans hb4); clear hrow4 hb4)
          | (at_builtin; refine wpList_appN (w := w11) rfl _ _ rfl w9.heap.size d12 (.slice a4 d12 c4) (Y1 ++ Y2) Y3 q3 d3 s3 w9.heap.size rfl rfl G3.out (Lib.hid (by rw [List.length_append, G1.out, G2.out]; exact G12.out)) R11.out (N9.out.below D11.out) (by omega) D11.out.size ?_; intro a5 c5 w12 hrow5 _ hb5 _; rw [G5.out] at hrow5 ⊢; (have hr5 := hrow5.out); (rw [HJ2.out] at hr5); have R12 := Lib.hid hr5.lst; have D12 := Lib.hid (D11.out.trans hb5); clear hrow5 hb5 hr5)
          | (go_at_call 12; (with_reducible refine (kqA _ _ _ _ _ R12.out.pts (O9.out.later D12.out).pts (by omega)).mono ?_); rintro e w13 ⟨rfl, hb13⟩; (have K13 := Lib.hid ((K9.out.later D12.out).later hb13)); (have O13 := Lib.hid ((O9.out.later D12.out).later hb13)); clear hb13))
        go_loopw [18] (fun i wr => ∃ (q : Nat), q ≤ d4 ∧ i = .int .i64 (q : Int) ∧ Hid (RK w pm cm m w3.heap.size (.slice (some ⟨gn, 0, none⟩) nz cn) Z wr) ∧ Hid (Lst wr wr.heap.size q4 s4 Y4)) (fun i _ => d4 - (intOf i).toNat)
        case atStart => exact ⟨0, by omega, rfl, K13, O13⟩
        case round =>
          obtain ⟨q, hq, rfl, KQ, OQ⟩ := hrel
          clear K13 O13
          obtain ⟨w22, hw22⟩ : ∃ x, x = wr := ⟨_, rfl⟩
          subst hw22
          by_cases hqd : q < d4
          · have hqdi : (q : Int) < (d4 : Int) := by omega
            have hqY : q < Y4.length := by rw [G4.out]; exact hqd
            obtain ⟨hm1, hm2⟩ := HMEM.out _ (List.getElem_mem hqY)
            have hfd := HFS.out _ hm1
            rcases OQ.out.pts.at_ with h0 | ⟨g, off, hae, hg, hx⟩
            · rw [h0] at hqY; simp at hqY
            · have hxq := hx q hqY
              obtain ⟨y0, hy0⟩ : ∃ y, Y4[q] = y := ⟨_, rfl⟩
              obtain ⟨io, hio⟩ : ∃ io, off + q * 6 = io := ⟨_, rfl⟩
              rw [hy0] at hfd hm2 hxq
              rw [hio] at hxq
              obtain ⟨gn', hgne, hgn2, hzn2⟩ := KQ.out.n.at_ (by omega)
              injection hgne with hgne
              injection hgne with hgne
              subst hgne
              have HNQ := Lib.hid (show w22.cell? ⟨gn, k, none⟩ = some (.string s) by
                have h1 := hzn2 k hkZ
                rw [h1]
                congr 2
                have h2 := K.out.n.at_ (by omega)
                obtain ⟨g3, e3, _, h3⟩ := h2
                injection e3 with e3
                injection e3 with e3
                subst e3
                have h4 := (h3 k hkZ).symm.trans HNM.out
                injection h4 with h4
                injection h4)
              have HPO := Lib.hid hxq
              have HG := Lib.hid hg
              have HGN2 := Lib.hid hgn2
              have kf := fun a c w h => kfi a c s y0.t w h
              rw [hm2] at hfd
              rw [hfd] at kf
              dsimp only at kf
              have qn := fun w => neq_run6 y0 y0 w
              rw [Pt.same_iff.2 rfl] at qn
              unfold ptV at kf qn
              have HB22 := Lib.hid (Below.refl w22.heap.size w22)
              clear hx hxq hy0 hfd hm1 hm2 hzn2 hgn2
              subst hae
              go_wp2_with fail
              refine wp_region_held_drew (S := (Below w22.heap.size w22)) (by kernel_rfl) HB22.out.drew (fun hHeld => ?_)
              refine wpAnyH_take (i := 0) (oi := ?rbu1o) (v := ?rbu1v) ?rbu1h (by kernel_rfl) (by kernel_rfl) (by kernel_rfl) ?rbu1q ?rbu1y hHeld ?rbu1r
              case rbu1h => (simp only [List.getElem?_toArray, List.getElem?_cons_zero]; rfl)
              case rbu1q => exact fun _ _ _ h => h
              case rbu1y => (refine Or.inl ⟨by first | kernel_rfl | rfl, ?_⟩; intro w hSw; (try dsimp only at hSw); have hPO := HPO.out.below hSw HG.out; obtain ⟨c0', c1', c2', c3', c4', c5'⟩ := hPO; have hNQ := (hSw.cell (p := ⟨gn, k, none⟩) HGN2.out).trans HNQ.out; go_simp <;> (try with_reducible rfl))
              try simp only [Act.put, List.setIfInBounds_toArray, List.set_cons_zero, List.set_cons_succ]
              refine wpAnyH_take (i := 1) (oi := ?rbu2o) (v := ?rbu2v) ?rbu2h (by kernel_rfl) (by kernel_rfl) (by kernel_rfl) ?rbu2q ?rbu2y hHeld ?rbu2r
              case rbu2h => (simp only [List.getElem?_toArray, List.getElem?_cons_succ, List.getElem?_cons_zero]; rfl)
              case rbu2q => exact fun _ _ _ h => h
              case rbu2y => (refine Or.inl ⟨by first | kernel_rfl | rfl, ?_⟩; intro w hSw; (try dsimp only at hSw); have hPO := HPO.out.below hSw HG.out; obtain ⟨c0', c1', c2', c3', c4', c5'⟩ := hPO; have hNQ := (hSw.cell (p := ⟨gn, k, none⟩) HGN2.out).trans HNQ.out; go_simp <;> (try with_reducible rfl))
              try simp only [Act.put, List.setIfInBounds_toArray, List.set_cons_zero, List.set_cons_succ]
              refine wpAnyH_take (i := 2) (oi := ?rbu3o) (v := ?rbu3v) ?rbu3h (by kernel_rfl) (by kernel_rfl) (by kernel_rfl) ?rbu3q ?rbu3y hHeld ?rbu3r
              case rbu3h => (simp only [List.getElem?_toArray, List.getElem?_cons_succ, List.getElem?_cons_zero]; rfl)
              case rbu3q => exact fun _ _ _ h => h
              case rbu3y => (refine Or.inl ⟨by first | kernel_rfl | rfl, ?_⟩; intro w hSw; (try dsimp only at hSw); have hPO := HPO.out.below hSw HG.out; obtain ⟨c0', c1', c2', c3', c4', c5'⟩ := hPO; have hNQ := (hSw.cell (p := ⟨gn, k, none⟩) HGN2.out).trans HNQ.out; go_simp <;> (try with_reducible rfl))
              try simp only [Act.put, List.setIfInBounds_toArray, List.set_cons_zero, List.set_cons_succ]
              refine wpAnyH_take (i := 3) (oi := ?rbu4o) (v := ?rbu4v) ?rbu4h (by kernel_rfl) (by kernel_rfl) (by kernel_rfl) ?rbu4q ?rbu4y hHeld ?rbu4r
              case rbu4h => (simp only [List.getElem?_toArray, List.getElem?_cons_succ, List.getElem?_cons_zero]; rfl)
              case rbu4q => exact fun _ _ _ h => h
              case rbu4y => (refine Or.inl ⟨by first | kernel_rfl | rfl, ?_⟩; intro w hSw; (try dsimp only at hSw); have hPO := HPO.out.below hSw HG.out; obtain ⟨c0', c1', c2', c3', c4', c5'⟩ := hPO; have hNQ := (hSw.cell (p := ⟨gn, k, none⟩) HGN2.out).trans HNQ.out; go_simp <;> (try with_reducible rfl))
              try simp only [Act.put, List.setIfInBounds_toArray, List.set_cons_zero, List.set_cons_succ]
              refine wpAnyH_take (i := 4) (oi := ?rbu5o) (v := ?rbu5v) ?rbu5h (by kernel_rfl) (by kernel_rfl) (by kernel_rfl) ?rbu5q ?rbu5y hHeld ?rbu5r
              case rbu5h => (simp only [List.getElem?_toArray, List.getElem?_cons_succ, List.getElem?_cons_zero]; rfl)
              case rbu5q => exact fun _ _ _ h => h
              case rbu5y => (refine Or.inl ⟨by first | kernel_rfl | rfl, ?_⟩; intro w hSw; (try dsimp only at hSw); have hPO := HPO.out.below hSw HG.out; obtain ⟨c0', c1', c2', c3', c4', c5'⟩ := hPO; have hNQ := (hSw.cell (p := ⟨gn, k, none⟩) HGN2.out).trans HNQ.out; go_simp <;> (try with_reducible rfl))
              try simp only [Act.put, List.setIfInBounds_toArray, List.set_cons_zero, List.set_cons_succ]
              refine wpAnyH_take (i := 5) (oi := ?rbu6o) (v := ?rbu6v) ?rbu6h (by kernel_rfl) (by kernel_rfl) (by kernel_rfl) ?rbu6q ?rbu6y hHeld ?rbu6r
              case rbu6h => (simp only [List.getElem?_toArray, List.getElem?_cons_succ, List.getElem?_cons_zero]; rfl)
              case rbu6q => exact fun _ _ _ h => h
              case rbu6y => (refine Or.inl ⟨by first | kernel_rfl | rfl, ?_⟩; intro w hSw; (try dsimp only at hSw); have hPO := HPO.out.below hSw HG.out; obtain ⟨c0', c1', c2', c3', c4', c5'⟩ := hPO; have hNQ := (hSw.cell (p := ⟨gn, k, none⟩) HGN2.out).trans HNQ.out; go_simp <;> (try with_reducible rfl))
              try simp only [Act.put, List.setIfInBounds_toArray, List.set_cons_zero, List.set_cons_succ]
              refine wpAnyH_take (i := 6) (oi := ?rbu7o) (v := ?rbu7v) ?rbu7h (by kernel_rfl) (by kernel_rfl) (by kernel_rfl) ?rbu7q ?rbu7y hHeld ?rbu7r
              case rbu7h => (simp only [List.getElem?_toArray, List.getElem?_cons_succ, List.getElem?_cons_zero]; rfl)
              case rbu7q => exact fun _ _ _ h => h
              case rbu7y => (refine Or.inl ⟨by first | kernel_rfl | rfl, ?_⟩; intro w hSw; (try dsimp only at hSw); have hPO := HPO.out.below hSw HG.out; obtain ⟨c0', c1', c2', c3', c4', c5'⟩ := hPO; have hNQ := (hSw.cell (p := ⟨gn, k, none⟩) HGN2.out).trans HNQ.out; go_simp <;> (try with_reducible rfl))
              try simp only [Act.put, List.setIfInBounds_toArray, List.set_cons_zero, List.set_cons_succ]
              refine wpAnyH_take (i := 7) (oi := ?rbu8o) (v := ?rbu8v) ?rbu8h (by kernel_rfl) (by kernel_rfl) (by kernel_rfl) ?rbu8q ?rbu8y hHeld ?rbu8r
              case rbu8h => (simp only [List.getElem?_toArray, List.getElem?_cons_succ, List.getElem?_cons_zero]; rfl)
              case rbu8q => exact fun _ _ _ h => h
              case rbu8y => (refine Or.inl ⟨by first | kernel_rfl | rfl, ?_⟩; intro w hSw; (try dsimp only at hSw); have hPO := HPO.out.below hSw HG.out; obtain ⟨c0', c1', c2', c3', c4', c5'⟩ := hPO; have hNQ := (hSw.cell (p := ⟨gn, k, none⟩) HGN2.out).trans HNQ.out; go_simp <;> (try with_reducible rfl))
              try simp only [Act.put, List.setIfInBounds_toArray, List.set_cons_zero, List.set_cons_succ]
              refine wpAnyH_take (i := 8) (oi := ?rbu9o) (v := ?rbu9v) ?rbu9h (by kernel_rfl) (by kernel_rfl) (by kernel_rfl) ?rbu9q ?rbu9y hHeld ?rbu9r
              case rbu9h => (simp only [List.getElem?_toArray, List.getElem?_cons_succ, List.getElem?_cons_zero]; rfl)
              case rbu9q => exact fun _ _ _ h => h
              case rbu9y => (refine Or.inl ⟨by first | kernel_rfl | rfl, ?_⟩; intro w hSw; (try dsimp only at hSw); have hPO := HPO.out.below hSw HG.out; obtain ⟨c0', c1', c2', c3', c4', c5'⟩ := hPO; have hNQ := (hSw.cell (p := ⟨gn, k, none⟩) HGN2.out).trans HNQ.out; go_simp <;> (try with_reducible rfl))
              try simp only [Act.put, List.setIfInBounds_toArray, List.set_cons_zero, List.set_cons_succ]
              refine wpAnyH_take (i := 9) (oi := ?rbu10o) (v := ?rbu10v) ?rbu10h (by kernel_rfl) (by kernel_rfl) (by kernel_rfl) ?rbu10q ?rbu10y hHeld ?rbu10r
              case rbu10h => (simp only [List.getElem?_toArray, List.getElem?_cons_succ, List.getElem?_cons_zero]; rfl)
              case rbu10q => exact fun _ _ _ h => h
              case rbu10y => (refine Or.inl ⟨by first | kernel_rfl | rfl, ?_⟩; intro w hSw; (try dsimp only at hSw); have hPO := HPO.out.below hSw HG.out; obtain ⟨c0', c1', c2', c3', c4', c5'⟩ := hPO; have hNQ := (hSw.cell (p := ⟨gn, k, none⟩) HGN2.out).trans HNQ.out; go_simp <;> (try with_reducible rfl))
              try simp only [Act.put, List.setIfInBounds_toArray, List.set_cons_zero, List.set_cons_succ]
              refine wpAnyH_ready (rs := [10, 14]) (by kernel_rfl) (by simp) ?_
              refine (AllReadyH.cons rfl (fun K hK => ?_) (AllReadyH.cons rfl (fun K hK => ?_) AllReadyH.nil))
              ·
                go_simp
                ((with_reducible refine (kf _ _ _ (KQ.out.later hHeld).l).mono ?_); rintro e w23 ⟨rfl, hb23⟩)
                refine hK.out _ _ (bel_next hHeld hb23) (fun hHeld => ?_)
                clear hK K
                try simp only [Act.put, List.setIfInBounds_toArray, List.set_cons_zero, List.set_cons_succ]
                refine wpAnyH_take (i := 11) (oi := ?rbu11o) (v := ?rbu11v) ?rbu11h (by kernel_rfl) (by kernel_rfl) (by kernel_rfl) ?rbu11q ?rbu11y hHeld ?rbu11r
                case rbu11h => (simp only [List.getElem?_toArray, List.getElem?_cons_succ, List.getElem?_cons_zero]; rfl)
                case rbu11q => exact fun _ _ _ h => h
                case rbu11y => (refine Or.inl ⟨by first | kernel_rfl | rfl, ?_⟩; intro w hSw; (try dsimp only at hSw); have hPO := HPO.out.below hSw HG.out; obtain ⟨c0', c1', c2', c3', c4', c5'⟩ := hPO; have hNQ := (hSw.cell (p := ⟨gn, k, none⟩) HGN2.out).trans HNQ.out; go_simp <;> (try with_reducible rfl))
                try simp only [Act.put, List.setIfInBounds_toArray, List.set_cons_zero, List.set_cons_succ]
                refine wpAnyH_take (i := 12) (oi := ?rbu12o) (v := ?rbu12v) ?rbu12h (by kernel_rfl) (by kernel_rfl) (by kernel_rfl) ?rbu12q ?rbu12y hHeld ?rbu12r
                case rbu12h => (simp only [List.getElem?_toArray, List.getElem?_cons_succ, List.getElem?_cons_zero]; rfl)
                case rbu12q => exact fun _ _ _ h => h
                case rbu12y => (refine Or.inl ⟨by first | kernel_rfl | rfl, ?_⟩; intro w hSw; (try dsimp only at hSw); have hPO := HPO.out.below hSw HG.out; obtain ⟨c0', c1', c2', c3', c4', c5'⟩ := hPO; have hNQ := (hSw.cell (p := ⟨gn, k, none⟩) HGN2.out).trans HNQ.out; go_simp <;> (try with_reducible rfl))
                try simp only [Act.put, List.setIfInBounds_toArray, List.set_cons_zero, List.set_cons_succ]
                refine wpAnyH_take (i := 13) (oi := ?rbu13o) (v := ?rbu13v) ?rbu13h (by kernel_rfl) (by kernel_rfl) (by kernel_rfl) ?rbu13q ?rbu13y hHeld ?rbu13r
                case rbu13h => (simp only [List.getElem?_toArray, List.getElem?_cons_succ, List.getElem?_cons_zero]; rfl)
                case rbu13q => exact fun _ _ _ h => h
                case rbu13y => (refine Or.inl ⟨by first | kernel_rfl | rfl, ?_⟩; intro w hSw; (try dsimp only at hSw); have hPO := HPO.out.below hSw HG.out; obtain ⟨c0', c1', c2', c3', c4', c5'⟩ := hPO; have hNQ := (hSw.cell (p := ⟨gn, k, none⟩) HGN2.out).trans HNQ.out; go_simp <;> (try with_reducible rfl))
                try simp only [Act.put, List.setIfInBounds_toArray, List.set_cons_zero, List.set_cons_succ]
                refine wpAnyH_ready (rs := [14]) (by kernel_rfl) (by simp) ?_
                refine (AllReadyH.cons rfl (fun K hK => ?_) AllReadyH.nil)
                go_simp
                (have hpre := hHeld; (first | (obtain ⟨T, hTe⟩ : ∃ T, w23.heap.size = T := ⟨_, rfl⟩; have hzp : ZP (w23.alloc (.cells #[.string ⟨#[]⟩, .int .i64 0, .int .i64 0, .int .i64 0, .int .i64 0, .int .i64 0] 32)) T := (by subst hTe; exact ZP.new w23); have hTg : w22.heap.size ≤ T := (by subst hTe; exact hHeld.size); have hOrdA : True := trivial) | (obtain ⟨T, hTe⟩ : ∃ T, w22.heap.size = T := ⟨_, rfl⟩; have hzp : ZP (w22.drew.alloc (.cells #[.string ⟨#[]⟩, .int .i64 0, .int .i64 0, .int .i64 0, .int .i64 0, .int .i64 0] 32)) T := (by subst hTe; exact ZP.new w22.drew); have hTg : w22.heap.size ≤ T := Nat.le_of_eq hTe; have hOrdB : True := trivial)); simp only [hTe])
                refine hK.out _ _ (bel_new hHeld _) (fun hHeld => ?_)
                clear hK K
                try simp only [Act.put, List.setIfInBounds_toArray, List.set_cons_zero, List.set_cons_succ]
                refine wpAnyH_ready (rs := [15]) (by kernel_rfl) (by simp) ?_
                refine (AllReadyH.cons rfl (fun K hK => ?_) AllReadyH.nil)
                (first | (clear hOrdB; have hz8 := hzp.later hb23; have hz9 := hz8; clear hTe hzp hpre; obtain ⟨⟨z0, u0⟩, ⟨z1, u1⟩, ⟨z2, u2⟩, ⟨z3, u3⟩, ⟨z4, u4⟩, ⟨z5, u5⟩⟩ := hz9) | (clear hOrdA; have hz8 := hzp; clear hTe hzp hpre; generalize w23.alloc (.cells #[.string ⟨#[]⟩, .int .i64 0, .int .i64 0, .int .i64 0, .int .i64 0, .int .i64 0] 32) = WW at hz8 hHeld ⊢; have hz9 := hz8; obtain ⟨⟨z0, u0⟩, ⟨z1, u1⟩, ⟨z2, u2⟩, ⟨z3, u3⟩, ⟨z4, u4⟩, ⟨z5, u5⟩⟩ := hz9))
                go_simp
                refine hK.out _ _ (six_set hHeld _ hTg _ _ _ _ _ _) (fun hHeld => ?_)
                clear hK K
                try simp only [Act.put]
                refine wpAnyH_take (i := 16) (oi := ?rbu14o) (v := ?rbu14v) ?rbu14h (by kernel_rfl) (by kernel_rfl) (by kernel_rfl) ?rbu14q ?rbu14y hHeld ?rbu14r
                case rbu14h => (simp only [List.getElem?_toArray, List.getElem?_cons_succ, List.getElem?_cons_zero]; rfl)
                case rbu14q => exact fun _ _ _ h => h
                case rbu14y => (refine Or.inl ⟨by first | kernel_rfl | rfl, ?_⟩; intro w hSw; (try dsimp only at hSw); have hPO := HPO.out.below hSw HG.out; obtain ⟨c0', c1', c2', c3', c4', c5'⟩ := hPO; have hNQ := (hSw.cell (p := ⟨gn, k, none⟩) HGN2.out).trans HNQ.out; go_simp <;> (try with_reducible rfl))
                try simp only [Act.put, List.setIfInBounds_toArray, List.set_cons_zero, List.set_cons_succ]
                refine wpAnyH_done (by kernel_rfl) ?_ _
                have hyz := six_pt (z := y0) hz8
                have H28 : PZ w22 g io y0 T y0 _ := ⟨HPO.out.below hHeld HG.out, hyz, hHeld⟩
                clear z0 z1 z2 z3 z4 z5 u0 u1 u2 u3 u4 u5
                go_wp2_with fail
                refine wp_region_held_drew (S := (PZ w22 g io y0 T y0)) (by kernel_rfl) H28.drew (fun hHeld => ?_)
                refine wpAnyH_take (i := 0) (oi := ?rbv1o) (v := ?rbv1v) ?rbv1h (by kernel_rfl) (by kernel_rfl) (by kernel_rfl) ?rbv1q ?rbv1y hHeld ?rbv1r
                case rbv1h => (simp only [List.getElem?_toArray, List.getElem?_cons_zero]; rfl)
                case rbv1q => exact fun _ _ _ h => h
                case rbv1y => (refine Or.inl ⟨by first | kernel_rfl | rfl, ?_⟩; intro w hSw; (try dsimp only at hSw); obtain ⟨⟨c0', c1', c2', c3', c4', c5'⟩, ⟨d0', d1', d2', d3', d4', d5'⟩, -⟩ := hSw; go_simp <;> (try with_reducible rfl))
                try simp only [Act.put, List.setIfInBounds_toArray, List.set_cons_zero, List.set_cons_succ]
                refine wpAnyH_take (i := 1) (oi := ?rbv2o) (v := ?rbv2v) ?rbv2h (by kernel_rfl) (by kernel_rfl) (by kernel_rfl) ?rbv2q ?rbv2y hHeld ?rbv2r
                case rbv2h => (simp only [List.getElem?_toArray, List.getElem?_cons_succ, List.getElem?_cons_zero]; rfl)
                case rbv2q => exact fun _ _ _ h => h
                case rbv2y => (refine Or.inl ⟨by first | kernel_rfl | rfl, ?_⟩; intro w hSw; (try dsimp only at hSw); obtain ⟨⟨c0', c1', c2', c3', c4', c5'⟩, ⟨d0', d1', d2', d3', d4', d5'⟩, -⟩ := hSw; go_simp <;> (try with_reducible rfl))
                try simp only [Act.put, List.setIfInBounds_toArray, List.set_cons_zero, List.set_cons_succ]
                refine wpAnyH_take (i := 2) (oi := ?rbv3o) (v := ?rbv3v) ?rbv3h (by kernel_rfl) (by kernel_rfl) (by kernel_rfl) ?rbv3q ?rbv3y hHeld ?rbv3r
                case rbv3h => (simp only [List.getElem?_toArray, List.getElem?_cons_succ, List.getElem?_cons_zero]; rfl)
                case rbv3q => exact fun _ _ _ h => h
                case rbv3y => (refine Or.inl ⟨by first | kernel_rfl | rfl, ?_⟩; intro w hSw; (try dsimp only at hSw); obtain ⟨⟨c0', c1', c2', c3', c4', c5'⟩, ⟨d0', d1', d2', d3', d4', d5'⟩, -⟩ := hSw; go_simp <;> (try with_reducible rfl))
                try simp only [Act.put, List.setIfInBounds_toArray, List.set_cons_zero, List.set_cons_succ]
                refine wpAnyH_take (i := 3) (oi := ?rbv4o) (v := ?rbv4v) ?rbv4h (by kernel_rfl) (by kernel_rfl) (by kernel_rfl) ?rbv4q ?rbv4y hHeld ?rbv4r
                case rbv4h => (simp only [List.getElem?_toArray, List.getElem?_cons_succ, List.getElem?_cons_zero]; rfl)
                case rbv4q => exact fun _ _ _ h => h
                case rbv4y => (refine Or.inl ⟨by first | kernel_rfl | rfl, ?_⟩; intro w hSw; (try dsimp only at hSw); obtain ⟨⟨c0', c1', c2', c3', c4', c5'⟩, ⟨d0', d1', d2', d3', d4', d5'⟩, -⟩ := hSw; go_simp <;> (try with_reducible rfl))
                try simp only [Act.put, List.setIfInBounds_toArray, List.set_cons_zero, List.set_cons_succ]
                refine wpAnyH_take (i := 4) (oi := ?rbv5o) (v := ?rbv5v) ?rbv5h (by kernel_rfl) (by kernel_rfl) (by kernel_rfl) ?rbv5q ?rbv5y hHeld ?rbv5r
                case rbv5h => (simp only [List.getElem?_toArray, List.getElem?_cons_succ, List.getElem?_cons_zero]; rfl)
                case rbv5q => exact fun _ _ _ h => h
                case rbv5y => (refine Or.inl ⟨by first | kernel_rfl | rfl, ?_⟩; intro w hSw; (try dsimp only at hSw); obtain ⟨⟨c0', c1', c2', c3', c4', c5'⟩, ⟨d0', d1', d2', d3', d4', d5'⟩, -⟩ := hSw; go_simp <;> (try with_reducible rfl))
                try simp only [Act.put, List.setIfInBounds_toArray, List.set_cons_zero, List.set_cons_succ]
                refine wpAnyH_take (i := 5) (oi := ?rbv6o) (v := ?rbv6v) ?rbv6h (by kernel_rfl) (by kernel_rfl) (by kernel_rfl) ?rbv6q ?rbv6y hHeld ?rbv6r
                case rbv6h => (simp only [List.getElem?_toArray, List.getElem?_cons_succ, List.getElem?_cons_zero]; rfl)
                case rbv6q => exact fun _ _ _ h => h
                case rbv6y => (refine Or.inl ⟨by first | kernel_rfl | rfl, ?_⟩; intro w hSw; (try dsimp only at hSw); obtain ⟨⟨c0', c1', c2', c3', c4', c5'⟩, ⟨d0', d1', d2', d3', d4', d5'⟩, -⟩ := hSw; go_simp <;> (try with_reducible rfl))
                try simp only [Act.put, List.setIfInBounds_toArray, List.set_cons_zero, List.set_cons_succ]
                refine wpAnyH_take (i := 6) (oi := ?rbv7o) (v := ?rbv7v) ?rbv7h (by kernel_rfl) (by kernel_rfl) (by kernel_rfl) ?rbv7q ?rbv7y hHeld ?rbv7r
                case rbv7h => (simp only [List.getElem?_toArray, List.getElem?_cons_succ, List.getElem?_cons_zero]; rfl)
                case rbv7q => exact fun _ _ _ h => h
                case rbv7y => (refine Or.inl ⟨by first | kernel_rfl | rfl, ?_⟩; intro w hSw; (try dsimp only at hSw); obtain ⟨⟨c0', c1', c2', c3', c4', c5'⟩, ⟨d0', d1', d2', d3', d4', d5'⟩, -⟩ := hSw; go_simp <;> (try with_reducible rfl))
                try simp only [Act.put, List.setIfInBounds_toArray, List.set_cons_zero, List.set_cons_succ]
                refine wpAnyH_take (i := 7) (oi := ?rbv8o) (v := ?rbv8v) ?rbv8h (by kernel_rfl) (by kernel_rfl) (by kernel_rfl) ?rbv8q ?rbv8y hHeld ?rbv8r
                case rbv8h => (simp only [List.getElem?_toArray, List.getElem?_cons_succ, List.getElem?_cons_zero]; rfl)
                case rbv8q => exact fun _ _ _ h => h
                case rbv8y => (refine Or.inl ⟨by first | kernel_rfl | rfl, ?_⟩; intro w hSw; (try dsimp only at hSw); obtain ⟨⟨c0', c1', c2', c3', c4', c5'⟩, ⟨d0', d1', d2', d3', d4', d5'⟩, -⟩ := hSw; go_simp <;> (try with_reducible rfl))
                try simp only [Act.put, List.setIfInBounds_toArray, List.set_cons_zero, List.set_cons_succ]
                refine wpAnyH_take (i := 8) (oi := ?rbv9o) (v := ?rbv9v) ?rbv9h (by kernel_rfl) (by kernel_rfl) (by kernel_rfl) ?rbv9q ?rbv9y hHeld ?rbv9r
                case rbv9h => (simp only [List.getElem?_toArray, List.getElem?_cons_succ, List.getElem?_cons_zero]; rfl)
                case rbv9q => exact fun _ _ _ h => h
                case rbv9y => (refine Or.inl ⟨by first | kernel_rfl | rfl, ?_⟩; intro w hSw; (try dsimp only at hSw); obtain ⟨⟨c0', c1', c2', c3', c4', c5'⟩, ⟨d0', d1', d2', d3', d4', d5'⟩, -⟩ := hSw; go_simp <;> (try with_reducible rfl))
                try simp only [Act.put, List.setIfInBounds_toArray, List.set_cons_zero, List.set_cons_succ]
                refine wpAnyH_take (i := 9) (oi := ?rbv10o) (v := ?rbv10v) ?rbv10h (by kernel_rfl) (by kernel_rfl) (by kernel_rfl) ?rbv10q ?rbv10y hHeld ?rbv10r
                case rbv10h => (simp only [List.getElem?_toArray, List.getElem?_cons_succ, List.getElem?_cons_zero]; rfl)
                case rbv10q => exact fun _ _ _ h => h
                case rbv10y => (refine Or.inl ⟨by first | kernel_rfl | rfl, ?_⟩; intro w hSw; (try dsimp only at hSw); obtain ⟨⟨c0', c1', c2', c3', c4', c5'⟩, ⟨d0', d1', d2', d3', d4', d5'⟩, -⟩ := hSw; go_simp <;> (try with_reducible rfl))
                try simp only [Act.put, List.setIfInBounds_toArray, List.set_cons_zero, List.set_cons_succ]
                refine wpAnyH_done (by kernel_rfl) ?_ _
                have VN := Lib.hid (KQ.out.later hHeld.bel)
                have ON := Lib.hid (OQ.out.later hHeld.bel)
                clear hHeld
                go_wp2
                go_roundw
                case rel => exact ⟨q + 1, by omega, by go_num, VN, ON⟩
                case measure => simp [intOf]; omega
              ·
                go_simp
                (have hpre := hHeld; (first | (obtain ⟨T, hTe⟩ : ∃ T, w23.heap.size = T := ⟨_, rfl⟩; have hzp : ZP (w23.alloc (.cells #[.string ⟨#[]⟩, .int .i64 0, .int .i64 0, .int .i64 0, .int .i64 0, .int .i64 0] 32)) T := (by subst hTe; exact ZP.new w23); have hTg : w22.heap.size ≤ T := (by subst hTe; exact hHeld.size); have hOrdA : True := trivial) | (obtain ⟨T, hTe⟩ : ∃ T, w22.heap.size = T := ⟨_, rfl⟩; have hzp : ZP (w22.drew.alloc (.cells #[.string ⟨#[]⟩, .int .i64 0, .int .i64 0, .int .i64 0, .int .i64 0, .int .i64 0] 32)) T := (by subst hTe; exact ZP.new w22.drew); have hTg : w22.heap.size ≤ T := Nat.le_of_eq hTe; have hOrdB : True := trivial)); simp only [hTe])
                refine hK.out _ _ (bel_new hHeld _) (fun hHeld => ?_)
                clear hK K
                try simp only [Act.put, List.setIfInBounds_toArray, List.set_cons_zero, List.set_cons_succ]
                refine wpAnyH_ready (rs := [10]) (by kernel_rfl) (by simp) ?_
                refine (AllReadyH.cons rfl (fun K hK => ?_) AllReadyH.nil)
                go_simp
                ((with_reducible refine (kf _ _ _ (KQ.out.later hHeld).l).mono ?_); rintro e w23 ⟨rfl, hb23⟩)
                refine hK.out _ _ (bel_next hHeld hb23) (fun hHeld => ?_)
                clear hK K
                try simp only [Act.put, List.setIfInBounds_toArray, List.set_cons_zero, List.set_cons_succ]
                refine wpAnyH_take (i := 11) (oi := ?rbu15o) (v := ?rbu15v) ?rbu15h (by kernel_rfl) (by kernel_rfl) (by kernel_rfl) ?rbu15q ?rbu15y hHeld ?rbu15r
                case rbu15h => (simp only [List.getElem?_toArray, List.getElem?_cons_succ, List.getElem?_cons_zero]; rfl)
                case rbu15q => exact fun _ _ _ h => h
                case rbu15y => (refine Or.inl ⟨by first | kernel_rfl | rfl, ?_⟩; intro w hSw; (try dsimp only at hSw); have hPO := HPO.out.below hSw HG.out; obtain ⟨c0', c1', c2', c3', c4', c5'⟩ := hPO; have hNQ := (hSw.cell (p := ⟨gn, k, none⟩) HGN2.out).trans HNQ.out; go_simp <;> (try with_reducible rfl))
                try simp only [Act.put, List.setIfInBounds_toArray, List.set_cons_zero, List.set_cons_succ]
                refine wpAnyH_take (i := 12) (oi := ?rbu16o) (v := ?rbu16v) ?rbu16h (by kernel_rfl) (by kernel_rfl) (by kernel_rfl) ?rbu16q ?rbu16y hHeld ?rbu16r
                case rbu16h => (simp only [List.getElem?_toArray, List.getElem?_cons_succ, List.getElem?_cons_zero]; rfl)
                case rbu16q => exact fun _ _ _ h => h
                case rbu16y => (refine Or.inl ⟨by first | kernel_rfl | rfl, ?_⟩; intro w hSw; (try dsimp only at hSw); have hPO := HPO.out.below hSw HG.out; obtain ⟨c0', c1', c2', c3', c4', c5'⟩ := hPO; have hNQ := (hSw.cell (p := ⟨gn, k, none⟩) HGN2.out).trans HNQ.out; go_simp <;> (try with_reducible rfl))
                try simp only [Act.put, List.setIfInBounds_toArray, List.set_cons_zero, List.set_cons_succ]
                refine wpAnyH_take (i := 13) (oi := ?rbu17o) (v := ?rbu17v) ?rbu17h (by kernel_rfl) (by kernel_rfl) (by kernel_rfl) ?rbu17q ?rbu17y hHeld ?rbu17r
                case rbu17h => (simp only [List.getElem?_toArray, List.getElem?_cons_succ, List.getElem?_cons_zero]; rfl)
                case rbu17q => exact fun _ _ _ h => h
                case rbu17y => (refine Or.inl ⟨by first | kernel_rfl | rfl, ?_⟩; intro w hSw; (try dsimp only at hSw); have hPO := HPO.out.below hSw HG.out; obtain ⟨c0', c1', c2', c3', c4', c5'⟩ := hPO; have hNQ := (hSw.cell (p := ⟨gn, k, none⟩) HGN2.out).trans HNQ.out; go_simp <;> (try with_reducible rfl))
                try simp only [Act.put, List.setIfInBounds_toArray, List.set_cons_zero, List.set_cons_succ]
                refine wpAnyH_ready (rs := [15]) (by kernel_rfl) (by simp) ?_
                refine (AllReadyH.cons rfl (fun K hK => ?_) AllReadyH.nil)
                (first | (clear hOrdB; have hz8 := hzp.later hb23; have hz9 := hz8; clear hTe hzp hpre; obtain ⟨⟨z0, u0⟩, ⟨z1, u1⟩, ⟨z2, u2⟩, ⟨z3, u3⟩, ⟨z4, u4⟩, ⟨z5, u5⟩⟩ := hz9) | (clear hOrdA; have hz8 := hzp; clear hTe hzp hpre; generalize w23.alloc (.cells #[.string ⟨#[]⟩, .int .i64 0, .int .i64 0, .int .i64 0, .int .i64 0, .int .i64 0] 32) = WW at hz8 hHeld ⊢; have hz9 := hz8; obtain ⟨⟨z0, u0⟩, ⟨z1, u1⟩, ⟨z2, u2⟩, ⟨z3, u3⟩, ⟨z4, u4⟩, ⟨z5, u5⟩⟩ := hz9))
                go_simp
                refine hK.out _ _ (six_set hHeld _ hTg _ _ _ _ _ _) (fun hHeld => ?_)
                clear hK K
                try simp only [Act.put]
                refine wpAnyH_take (i := 16) (oi := ?rbu18o) (v := ?rbu18v) ?rbu18h (by kernel_rfl) (by kernel_rfl) (by kernel_rfl) ?rbu18q ?rbu18y hHeld ?rbu18r
                case rbu18h => (simp only [List.getElem?_toArray, List.getElem?_cons_succ, List.getElem?_cons_zero]; rfl)
                case rbu18q => exact fun _ _ _ h => h
                case rbu18y => (refine Or.inl ⟨by first | kernel_rfl | rfl, ?_⟩; intro w hSw; (try dsimp only at hSw); have hPO := HPO.out.below hSw HG.out; obtain ⟨c0', c1', c2', c3', c4', c5'⟩ := hPO; have hNQ := (hSw.cell (p := ⟨gn, k, none⟩) HGN2.out).trans HNQ.out; go_simp <;> (try with_reducible rfl))
                try simp only [Act.put, List.setIfInBounds_toArray, List.set_cons_zero, List.set_cons_succ]
                refine wpAnyH_done (by kernel_rfl) ?_ _
                have hyz := six_pt (z := y0) hz8
                have H28 : PZ w22 g io y0 T y0 _ := ⟨HPO.out.below hHeld HG.out, hyz, hHeld⟩
                clear z0 z1 z2 z3 z4 z5 u0 u1 u2 u3 u4 u5
                go_wp2_with fail
                refine wp_region_held_drew (S := (PZ w22 g io y0 T y0)) (by kernel_rfl) H28.drew (fun hHeld => ?_)
                refine wpAnyH_take (i := 0) (oi := ?rbx1o) (v := ?rbx1v) ?rbx1h (by kernel_rfl) (by kernel_rfl) (by kernel_rfl) ?rbx1q ?rbx1y hHeld ?rbx1r
                case rbx1h => (simp only [List.getElem?_toArray, List.getElem?_cons_zero]; rfl)
                case rbx1q => exact fun _ _ _ h => h
                case rbx1y => (refine Or.inl ⟨by first | kernel_rfl | rfl, ?_⟩; intro w hSw; (try dsimp only at hSw); obtain ⟨⟨c0', c1', c2', c3', c4', c5'⟩, ⟨d0', d1', d2', d3', d4', d5'⟩, -⟩ := hSw; go_simp <;> (try with_reducible rfl))
                try simp only [Act.put, List.setIfInBounds_toArray, List.set_cons_zero, List.set_cons_succ]
                refine wpAnyH_take (i := 1) (oi := ?rbx2o) (v := ?rbx2v) ?rbx2h (by kernel_rfl) (by kernel_rfl) (by kernel_rfl) ?rbx2q ?rbx2y hHeld ?rbx2r
                case rbx2h => (simp only [List.getElem?_toArray, List.getElem?_cons_succ, List.getElem?_cons_zero]; rfl)
                case rbx2q => exact fun _ _ _ h => h
                case rbx2y => (refine Or.inl ⟨by first | kernel_rfl | rfl, ?_⟩; intro w hSw; (try dsimp only at hSw); obtain ⟨⟨c0', c1', c2', c3', c4', c5'⟩, ⟨d0', d1', d2', d3', d4', d5'⟩, -⟩ := hSw; go_simp <;> (try with_reducible rfl))
                try simp only [Act.put, List.setIfInBounds_toArray, List.set_cons_zero, List.set_cons_succ]
                refine wpAnyH_take (i := 2) (oi := ?rbx3o) (v := ?rbx3v) ?rbx3h (by kernel_rfl) (by kernel_rfl) (by kernel_rfl) ?rbx3q ?rbx3y hHeld ?rbx3r
                case rbx3h => (simp only [List.getElem?_toArray, List.getElem?_cons_succ, List.getElem?_cons_zero]; rfl)
                case rbx3q => exact fun _ _ _ h => h
                case rbx3y => (refine Or.inl ⟨by first | kernel_rfl | rfl, ?_⟩; intro w hSw; (try dsimp only at hSw); obtain ⟨⟨c0', c1', c2', c3', c4', c5'⟩, ⟨d0', d1', d2', d3', d4', d5'⟩, -⟩ := hSw; go_simp <;> (try with_reducible rfl))
                try simp only [Act.put, List.setIfInBounds_toArray, List.set_cons_zero, List.set_cons_succ]
                refine wpAnyH_take (i := 3) (oi := ?rbx4o) (v := ?rbx4v) ?rbx4h (by kernel_rfl) (by kernel_rfl) (by kernel_rfl) ?rbx4q ?rbx4y hHeld ?rbx4r
                case rbx4h => (simp only [List.getElem?_toArray, List.getElem?_cons_succ, List.getElem?_cons_zero]; rfl)
                case rbx4q => exact fun _ _ _ h => h
                case rbx4y => (refine Or.inl ⟨by first | kernel_rfl | rfl, ?_⟩; intro w hSw; (try dsimp only at hSw); obtain ⟨⟨c0', c1', c2', c3', c4', c5'⟩, ⟨d0', d1', d2', d3', d4', d5'⟩, -⟩ := hSw; go_simp <;> (try with_reducible rfl))
                try simp only [Act.put, List.setIfInBounds_toArray, List.set_cons_zero, List.set_cons_succ]
                refine wpAnyH_take (i := 4) (oi := ?rbx5o) (v := ?rbx5v) ?rbx5h (by kernel_rfl) (by kernel_rfl) (by kernel_rfl) ?rbx5q ?rbx5y hHeld ?rbx5r
                case rbx5h => (simp only [List.getElem?_toArray, List.getElem?_cons_succ, List.getElem?_cons_zero]; rfl)
                case rbx5q => exact fun _ _ _ h => h
                case rbx5y => (refine Or.inl ⟨by first | kernel_rfl | rfl, ?_⟩; intro w hSw; (try dsimp only at hSw); obtain ⟨⟨c0', c1', c2', c3', c4', c5'⟩, ⟨d0', d1', d2', d3', d4', d5'⟩, -⟩ := hSw; go_simp <;> (try with_reducible rfl))
                try simp only [Act.put, List.setIfInBounds_toArray, List.set_cons_zero, List.set_cons_succ]
                refine wpAnyH_take (i := 5) (oi := ?rbx6o) (v := ?rbx6v) ?rbx6h (by kernel_rfl) (by kernel_rfl) (by kernel_rfl) ?rbx6q ?rbx6y hHeld ?rbx6r
                case rbx6h => (simp only [List.getElem?_toArray, List.getElem?_cons_succ, List.getElem?_cons_zero]; rfl)
                case rbx6q => exact fun _ _ _ h => h
                case rbx6y => (refine Or.inl ⟨by first | kernel_rfl | rfl, ?_⟩; intro w hSw; (try dsimp only at hSw); obtain ⟨⟨c0', c1', c2', c3', c4', c5'⟩, ⟨d0', d1', d2', d3', d4', d5'⟩, -⟩ := hSw; go_simp <;> (try with_reducible rfl))
                try simp only [Act.put, List.setIfInBounds_toArray, List.set_cons_zero, List.set_cons_succ]
                refine wpAnyH_take (i := 6) (oi := ?rbx7o) (v := ?rbx7v) ?rbx7h (by kernel_rfl) (by kernel_rfl) (by kernel_rfl) ?rbx7q ?rbx7y hHeld ?rbx7r
                case rbx7h => (simp only [List.getElem?_toArray, List.getElem?_cons_succ, List.getElem?_cons_zero]; rfl)
                case rbx7q => exact fun _ _ _ h => h
                case rbx7y => (refine Or.inl ⟨by first | kernel_rfl | rfl, ?_⟩; intro w hSw; (try dsimp only at hSw); obtain ⟨⟨c0', c1', c2', c3', c4', c5'⟩, ⟨d0', d1', d2', d3', d4', d5'⟩, -⟩ := hSw; go_simp <;> (try with_reducible rfl))
                try simp only [Act.put, List.setIfInBounds_toArray, List.set_cons_zero, List.set_cons_succ]
                refine wpAnyH_take (i := 7) (oi := ?rbx8o) (v := ?rbx8v) ?rbx8h (by kernel_rfl) (by kernel_rfl) (by kernel_rfl) ?rbx8q ?rbx8y hHeld ?rbx8r
                case rbx8h => (simp only [List.getElem?_toArray, List.getElem?_cons_succ, List.getElem?_cons_zero]; rfl)
                case rbx8q => exact fun _ _ _ h => h
                case rbx8y => (refine Or.inl ⟨by first | kernel_rfl | rfl, ?_⟩; intro w hSw; (try dsimp only at hSw); obtain ⟨⟨c0', c1', c2', c3', c4', c5'⟩, ⟨d0', d1', d2', d3', d4', d5'⟩, -⟩ := hSw; go_simp <;> (try with_reducible rfl))
                try simp only [Act.put, List.setIfInBounds_toArray, List.set_cons_zero, List.set_cons_succ]
                refine wpAnyH_take (i := 8) (oi := ?rbx9o) (v := ?rbx9v) ?rbx9h (by kernel_rfl) (by kernel_rfl) (by kernel_rfl) ?rbx9q ?rbx9y hHeld ?rbx9r
                case rbx9h => (simp only [List.getElem?_toArray, List.getElem?_cons_succ, List.getElem?_cons_zero]; rfl)
                case rbx9q => exact fun _ _ _ h => h
                case rbx9y => (refine Or.inl ⟨by first | kernel_rfl | rfl, ?_⟩; intro w hSw; (try dsimp only at hSw); obtain ⟨⟨c0', c1', c2', c3', c4', c5'⟩, ⟨d0', d1', d2', d3', d4', d5'⟩, -⟩ := hSw; go_simp <;> (try with_reducible rfl))
                try simp only [Act.put, List.setIfInBounds_toArray, List.set_cons_zero, List.set_cons_succ]
                refine wpAnyH_take (i := 9) (oi := ?rbx10o) (v := ?rbx10v) ?rbx10h (by kernel_rfl) (by kernel_rfl) (by kernel_rfl) ?rbx10q ?rbx10y hHeld ?rbx10r
                case rbx10h => (simp only [List.getElem?_toArray, List.getElem?_cons_succ, List.getElem?_cons_zero]; rfl)
                case rbx10q => exact fun _ _ _ h => h
                case rbx10y => (refine Or.inl ⟨by first | kernel_rfl | rfl, ?_⟩; intro w hSw; (try dsimp only at hSw); obtain ⟨⟨c0', c1', c2', c3', c4', c5'⟩, ⟨d0', d1', d2', d3', d4', d5'⟩, -⟩ := hSw; go_simp <;> (try with_reducible rfl))
                try simp only [Act.put, List.setIfInBounds_toArray, List.set_cons_zero, List.set_cons_succ]
                refine wpAnyH_done (by kernel_rfl) ?_ _
                have VN := Lib.hid (KQ.out.later hHeld.bel)
                have ON := Lib.hid (OQ.out.later hHeld.bel)
                clear hHeld
                go_wp2
                go_roundw
                case rel => exact ⟨q + 1, by omega, by go_num, VN, ON⟩
                case measure => simp [intOf]; omega
          · have hqdi : ¬ (q : Int) < (d4 : Int) := by omega
            go_wp2
            go_roundw
            case rel => exact ⟨k + 1, cs + d4, by omega, by go_num, by go_num, HST, KQ⟩
            case measure => simp [intOf]; omega
      · have hlti : ¬ (k : Int) < (nz : Int) := by omega
        have HCS := Lib.hid (show okN m = cs by rw [← HC.out, List.take_of_length_le (by rw [EZ.out]; omega), HZS.out])
        go_wp2
        go_loopw [21, 22] (fun s i wr => ∃ (j c : Nat), j ≤ nm ∧ i = .int .i64 (j : Int) ∧ s = .int .i64 (c : Int) ∧ Hid (okN (m.take j) = c) ∧ Hid (RK w pm cm m w3.heap.size (.slice pn nz cn) Z wr)) (fun _ i _ => nm - (intOf i).toNat)
        case atStart => exact ⟨0, 0, by omega, rfl, rfl, Lib.hid rfl, K⟩
        case round =>
          obtain ⟨j, c, hj, rfl, rfl, HJC, KJ⟩ := hrel
          clear K
          obtain ⟨w30, hw30⟩ : ∃ x, x = wr := ⟨_, rfl⟩
          subst hw30
          have hc40 : c ≤ nm := by rw [← HJC.out]; exact HOKL.out j
          by_cases hjm : j < nm
          · have hjmi : (j : Int) < (nm : Int) := by omega
            have hjM : j < m.length := by rw [EM.out]; exact hjm
            have hok := HOK.out j hjM
            rw [HJC.out] at hok
            have hw1 : IntKind.i64.wrap ((c : Int) + 1) = (c : Int) + 1 := by rw [IntKind.wrap_i64]; omega
            rcases KJ.out.l.pts.at_ with h0 | ⟨g, off, hae, hg, hx⟩
            · rw [h0] at hjM; simp at hjM
            · have hxj := hx j hjM
              obtain ⟨y, hy⟩ : ∃ y, m[j] = y := ⟨_, rfl⟩
              rw [hy] at hxj hok
              obtain ⟨c0', c1', c2', c3', c4', c5'⟩ := hxj
              by_cases h1 : 0 ≤ y.t
              · by_cases h2 : y.t ≤ 1099511627776
                · rw [if_pos ⟨h1, h2⟩] at hok
                  have HO := Lib.hid hok
                  clear hx hy hok
                  subst hae
                  go_wp2
                  go_roundw
                  case rel => exact ⟨j + 1, c + 1, by omega, by go_num, by go_num, HO, KJ⟩
                  case measure => simp [intOf]; omega
                · rw [if_neg (fun h => h2 h.2)] at hok
                  have HO := Lib.hid hok
                  clear hx hy hok
                  subst hae
                  go_wp2
                  go_roundw
                  case rel => exact ⟨j + 1, c, by omega, by go_num, rfl, HO, KJ⟩
                  case measure => simp [intOf]; omega
              · rw [if_neg (fun h => h1 h.1)] at hok
                have HO := Lib.hid hok
                clear hx hy hok
                subst hae
                go_wp2
                go_roundw
                case rel => exact ⟨j + 1, c, by omega, by go_num, rfl, HO, KJ⟩
                case measure => simp [intOf]; omega
          · have hjmi : ¬ (j : Int) < (nm : Int) := by omega
            have hce : c = cs := by rw [← HCS.out, ← HJC.out, List.take_of_length_le (by rw [EM.out]; omega)]
            subst hce
            go_wp2
            go_ret
            exact ⟨by first | rfl | simp, KJ.out.bel⟩
end Go.Proofs.YtkomfenjeoaelaaDoor.blockRanges
