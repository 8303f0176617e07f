/- The walk of law BlockMany: it returns true and turns nothing that was there. -/
import Derived.Test.YtkomfenjeoaelaaDoorBlockLive
import Derived.Test.YtkomfenjeoaelaaDoorBlockReadEq
set_option maxRecDepth 20000
set_option linter.unusedSimpArgs false
set_option linter.unusedVariables false
namespace Go.Proofs.YtkomfenjeoaelaaDoor.blockMany
open Go.RowKit Go.Proofs.YtkomfenjeoaelaaDoor Go.Proofs.YtkomfenjeoaelaaDoor.Vi Go.Proofs.YtkomfenjeoaelaaDoor.Mk Go.Proofs.YtkomfenjeoaelaaDoor.Crc

theorem rd_named {o : Option (List Pt)} {E : Int} {Y : List Pt} {w w' : World} {e : Ending} (HE : Hid ((if o.isSome = true then (0 : Int) else 10) = E)) (HY : Hid (o.getD [] = Y)) (h : RdDone o w e w') : ∃ v, e = .returned (.tuple #[v, .int .i64 E]) ∧ PRow w' w.heap.size v Y ∧ Below w.heap.size w w' := by
  have e1 := HE.out
  have e2 := HY.out
  subst e1 e2
  exact h
/-- The law's point at a place. -/
def mp (s : Nat) : Pt := ptA (s : Int) (1 + (s : Int) % 7)
def manyF : Nat → Nat → List Pt
  | _, 0 => []
  | s, m + 1 => mp s :: manyF (s + 1) m
theorem manyF_len : ∀ m s, (manyF s m).length = m
  | 0, _ => rfl
  | m + 1, s => by show (_ :: _).length = _; rw [List.length_cons, manyF_len m (s + 1)]
theorem manyF_snoc : ∀ m s, manyF s (m + 1) = manyF s m ++ [mp (s + m)]
  | 0, s => rfl
  | m + 1, s => by
    show mp s :: manyF (s + 1) (m + 1) = (mp s :: manyF (s + 1) m) ++ [mp (s + (m + 1))]
    rw [manyF_snoc m (s + 1), List.cons_append, show s + 1 + m = s + (m + 1) by omega]
theorem manyF_mem : ∀ m s x, x ∈ manyF s m → ∃ j, s ≤ j ∧ j < s + m ∧ x = mp j
  | 0, s, x, h => absurd h List.not_mem_nil
  | m + 1, s, x, h => by
    rcases List.mem_cons.1 (show x ∈ mp s :: manyF (s + 1) m from h) with rfl | h
    · exact ⟨s, Nat.le_refl _, by omega, rfl⟩
    · obtain ⟨j, h1, h2, h3⟩ := manyF_mem m (s + 1) x h
      exact ⟨j, by omega, by omega, h3⟩
theorem manyF_at : ∀ m s k (h : k < (manyF s m).length), (manyF s m)[k] = mp (s + k)
  | 0, s, k, h => absurd h (Nat.not_lt_zero _)
  | m + 1, s, 0, h => rfl
  | m + 1, s, k + 1, h => by
    have := manyF_at m (s + 1) k (by rw [manyF_len] at h ⊢; omega)
    show (mp s :: manyF (s + 1) m)[k + 1]'(by rw [manyF_len] at h; rw [List.length_cons, manyF_len]; omega) = _
    rw [List.getElem_cons_succ, this, show s + 1 + k = s + (k + 1) by omega]
theorem manyF_srt : ∀ m s, srtB (manyF s m) = true
  | 0, _ => rfl
  | m + 1, s => srtB_mk (fun x hx => by
      obtain ⟨j, h1, h2, rfl⟩ := manyF_mem m (s + 1) x hx
      rw [bef_s (show (mp s).s = (mp j).s from rfl)]
      exact decide_eq_true (show (s : Int) < (j : Int) by omega)) (manyF_srt m (s + 1))
theorem mp_ok (s : Nat) (h : s ≤ 4000) : (mp s).ok = true ∧ (mp s).vfit := by
  have h1 : nameB ⟨#[97]⟩ = true := by decide +kernel
  have h2 : St.ok ⟨1 + (s : Int) % 7, 0, 1⟩ = true := St.ok_iff.2 ⟨by show 1 ≤ 1 + (s : Int) % 7; omega, by show 1 + (s : Int) % 7 ≤ _; omega, by show (0 : Int) ≤ 0; omega, by show (0 : Int) ≤ 7; omega, by show (1 : Int) ≤ 1; omega, by show (1 : Int) ≤ 1099511627776; omega⟩
  refine ⟨?_, by unfold Pt.vfit; show -9223372036854775808 ≤ 1 + (s : Int) % 7 ∧ 1 + (s : Int) % 7 ≤ _; omega⟩
  unfold Pt.ok mp ptA
  rw [h1, h2]
  simp
  omega
theorem many_bldE (m : Nat) (hm : m ≤ 4000) : bldE (manyF 0 m) = if 3000 < m then 11 else 0 := by
  have := bldE_ok (manyF_srt m 0) (fun j hj => by rw [manyF_at]; rw [manyF_len] at hj; exact (mp_ok _ (by omega)).1)
  rw [manyF_len] at this
  exact this
theorem enc_one {n : Nat} (h : n < 128) : (enc n).length = 1 := by rw [enc_small h]; rfl
theorem put_five (p q : Pt) (h : 0 ≤ p.t - q.t ∧ p.t - q.t < 128) (hv : -60 ≤ p.v - q.v ∧ p.v - q.v ≤ 60) (hst : p.st.ok = true) (hc : p.st.c ≤ 100 ∧ p.st.q ≤ 100) : (putA p q).length = 5 := by
  unfold putA
  have hw : IntKind.i64.wrap (p.v - q.v) = p.v - q.v := by rw [IntKind.wrap_i64]; omega
  rw [hw, St.bytes_yes hst]
  obtain ⟨q1, q2, q3, q4, q5, q6⟩ := St.ok_iff.1 hst
  have hz : (zig (p.v - q.v)).toNat < 128 := by unfold zig; split <;> omega
  simp only [List.length_append]
  rw [enc_one (by omega), enc_one hz, enc_one (by omega), enc_one (by omega), enc_one (by omega)]
theorem puts_five {m : Nat} (hm : m ≤ 4000) : ∀ k, (putsN (manyF 0 m) k).length ≤ 5 * k
  | 0 => Nat.le_refl _
  | k + 1 => by
    have ih := puts_five hm k
    by_cases e : k < (manyF 0 m).length
    · rw [putsN_step e, List.length_append]
      have hk : k < m := by rw [manyF_len] at e; exact e
      rw [manyF_at, Nat.zero_add]
      have h5 : (putA (mp k) (priorP (manyF 0 m) k)).length = 5 := by
        have h2 : (mp k).st.ok = true := (Pt.ok_parts (mp_ok k (by omega)).1).2.2
        have hst : (mp k).st.c ≤ 100 ∧ (mp k).st.q ≤ 100 := ⟨by show 1 + (k : Int) % 7 ≤ 100; omega, by show (1 : Int) ≤ 100; omega⟩
        cases k with
        | zero => exact put_five _ _ (show 0 ≤ ((0 : Nat) : Int) - 0 ∧ ((0 : Nat) : Int) - 0 < 128 by omega) (show -60 ≤ (1 + ((0 : Nat) : Int) % 7) - 0 ∧ (1 + ((0 : Nat) : Int) % 7) - 0 ≤ 60 by omega) h2 hst
        | succ j =>
          rw [priorP_succ (by omega), manyF_at, Nat.zero_add]
          refine put_five _ _ ?_ ?_ h2 hst
          · show 0 ≤ ((j + 1 : Nat) : Int) - (j : Int) ∧ ((j + 1 : Nat) : Int) - (j : Int) < 128; omega
          · show -60 ≤ (1 + ((j + 1 : Nat) : Int) % 7) - (1 + (j : Int) % 7) ∧ (1 + ((j + 1 : Nat) : Int) % 7) - (1 + (j : Int) % 7) ≤ 60; omega
      omega
    · rw [putsN, dif_neg e]; omega
theorem many_allR {m : Nat} (hm : m ≤ 4000) : allR (manyF 0 m) ⟨#[97]⟩ = manyF 0 m := by
  unfold allR rngL
  rw [List.filter_eq_self]
  intro x hx
  obtain ⟨j, h1, h2, rfl⟩ := manyF_mem m 0 x hx
  exact inR_iff.2 ⟨rfl, by show 0 ≤ (j : Int); omega, by show (j : Int) < _; omega⟩
theorem many_size (m : Nat) (hm : m ≤ 3000) : (bldS (manyF 0 m)).size ≤ 90000 := by
  have hE : bldE (manyF 0 m) = 0 := by rw [many_bldE m (by omega), if_neg (by omega)]
  rw [bldS_yes hE, sealed12_size, tx_size, bodyA_sers, List.length_append]
  have hd := serN_nodup (manyF_srt m 0) (manyF 0 m).length (Nat.le_refl _)
  have hmem : ∀ s ∈ serL (manyF 0 m), s = ⟨#[97]⟩ := fun s hs => by
    obtain ⟨p, hp, rfl⟩ := serN_mem _ _ s hs
    obtain ⟨j, -, -, rfl⟩ := manyF_mem m 0 p hp
    rfl
  have hN : (serL (manyF 0 m)).Nodup := hd
  have hl := serL_len (manyF 0 m)
  rw [manyF_len] at hl
  have he := enc_len10 (serL (manyF 0 m)).length (by omega)
  have hs : (sersA (manyF 0 m) (serL (manyF 0 m))).length ≤ 20000 := by
    cases hc : serL (manyF 0 m) with
    | nil => show (0 : Nat) ≤ _; omega
    | cons x L =>
      rw [hc] at hmem hN
      cases L with
      | cons y L =>
        exfalso
        have h1 := hmem x List.mem_cons_self
        have h2 := hmem y (List.mem_cons_of_mem _ List.mem_cons_self)
        rw [h1, h2] at hN
        exact (List.nodup_cons.1 hN).1 List.mem_cons_self
      | nil =>
        have h1 := hmem x List.mem_cons_self
        subst h1
        unfold sersA serA putsL
        rw [List.flatMap_cons, List.flatMap_nil, List.append_nil, many_allR (by omega)]
        have h3 := puts_five (m := m) (by omega) (manyF 0 m).length
        have h4 := enc_len10 (manyF 0 m).length (by rw [manyF_len]; omega)
        have h5 : (enc (ByteArray.size ⟨#[97]⟩)).length = 1 := enc_one (by decide)
        rw [List.length_append, List.length_append, List.length_append, h5]
        rw [manyF_len] at h3 h4 ⊢
        have h6 : (⟨#[97]⟩ : ByteArray).data.toList.length = 1 := rfl
        omega
  omega

set_option maxHeartbeats 16000000 in
theorem walk_any (n0 r : Int) (k m : Nat) (w : World) (hr : n0.tmod 21 = r) (hr2 : 0 ≤ n0 → n0 % 21 = r) (hk : (r < 0 ∧ (k : Int) = -r) ∨ (¬ r < 0 ∧ (k : Int) = r)) (hk20 : k ≤ 20) (hm : m = 2990 + k) (ht : Tab w) : Calls Tryd.prog 8 #[.int .i64 n0] w fun e w' => e = .returned (.bool true) ∧ Below w.heap.size w w' := by
  have hkm : IntKind.i64.wrap (2990 + (k : Int)) = (m : Int) := by rw [IntKind.wrap_i64]; omega
  have hkm2 : 2990 + (k : Int) = (m : Int) := by omega
  have kp := fun j w => point_is ((j : Nat) : Int) (1 + (j : Int) % 7) w (by omega)
  have hE := many_bldE m (by omega)
  have hvf : ∀ p ∈ manyF 0 m, p.vfit := fun p hp => by
    obtain ⟨j, h1, h2, rfl⟩ := manyF_mem m 0 p hp
    exact (mp_ok j (by omega)).2
  have kb := fun a c w h ht => build_is a c (manyF 0 m) w h (by rw [manyF_len]; omega) (fun p hp => by
    obtain ⟨j, -, -, rfl⟩ := manyF_mem m 0 p hp
    show (1 : Nat) ≤ _; omega) ht
  have hback := fun h => rd_back (l := manyF 0 m) h hvf
  have hsize := many_size m
  have kq := fun a b ca cb w h1 h2 => rsamep_is a b ca cb (manyF 0 m) (manyF 0 m) true w h1 h2 (by rw [manyF_len]; omega) (by rw [manyF_len]; omega) (Lib.hid (decide_eq_true rfl))
  simp only [manyF_len] at kb kq
  have HE := Lib.hid hE
  have HV := Lib.hid hvf
  have HBK := Lib.hid hback
  have HSZ := Lib.hid hsize
  have V0 := Lib.hid (Live.start ht)
  have ka := fun w h => awake_is w h
  have HKM := Lib.hid hm
  have HKK := Lib.hid (show k = m - 2990 by omega)
  have hmu : m ≤ 3010 := by omega
  clear hE hvf hback hsize ht hm
  rcases hk with ⟨hneg, hk⟩ | ⟨hneg, hk⟩
  · have hwr : IntKind.i64.wrap (-r) = (k : Int) := by rw [IntKind.wrap_i64]; omega
    clear hk
    go_enter Tryd.func8, Tryd.ntmps8
    go_wp2_with (first
      | (go_at_call 10; (with_reducible refine (ka _ V0.out.tab).mono ?_); rintro e w1 ⟨rfl, hb1⟩; (have V1 := Lib.hid (V0.out.later hb1)); clear hb1 ka))
    have R0 := Lib.hid (show PRow w1 w1.heap.size (.slice none 0 0) (manyF 0 0) ∧ Below w1.heap.size w1 w1 from ⟨PRow.nil _ _, Below.refl _ _⟩)
    go_loopw [5, 6] (fun o i wr => ∃ (j : Nat) (a5 : Option Addr) (c5 : Nat), j ≤ m ∧ i = .int .i64 (j : Int) ∧ o = .slice a5 j c5 ∧ PRow wr w1.heap.size (.slice a5 j c5) (manyF 0 j) ∧ Below w1.heap.size w1 wr) (fun _ i _ => m - (intOf i).toNat)
    case atStart => exact ⟨0, none, 0, by omega, rfl, rfl, R0.out⟩
    case round =>
      obtain ⟨j, a5, c5, hj, rfl, rfl, hrow, hbel⟩ := hrel
      clear R0
      obtain ⟨w2, hw2⟩ : ∃ x, x = wr := ⟨_, rfl⟩
      subst hw2
      by_cases hlt : j < m
      · have hlti : (j : Int) < (m : Int) := by omega
        have hj0 : 0 ≤ (j : Int) := by omega
        have hwj : IntKind.i64.wrap (1 + (j : Int) % 7) = 1 + (j : Int) % 7 := by rw [IntKind.wrap_i64]; omega
        have kpj := fun w => kp j w
        have HROW := Lib.hid hrow
        have HBEL := Lib.hid hbel
        have hsn := manyF_snoc j 0
        rw [Nat.zero_add] at hsn
        have HSN := Lib.hid hsn
        obtain ⟨cj, hcj⟩ : ∃ c, 1 + (j : Int) % 7 = c := ⟨_, rfl⟩
        have HCJ := Lib.hid hcj
        rw [hcj] at kpj hwj
        unfold ptV ptA at kpj
        clear hrow hbel hsn
        go_wp2_with (first
          | (go_at_call 32; (with_reducible refine (kpj _).mono ?_); rintro e w3 ⟨rfl, hb3⟩; (have HR3 := Lib.hid (HROW.out.later hb3)); (have HB3 := Lib.hid (bel_next HBEL.out hb3)); clear hb3)
          | (at_builtin; refine wpList_appP (w := w3) rfl _ _ rfl w1.heap.size j (.slice a5 j c5) (manyF 0 j) (ptA (j : Int) cj) w3.heap.size rfl rfl rfl (Lib.hid (manyF_len j 0)) HR3.out (by omega) HB3.out.size ?_))
        intro a6 c6 w6 hrow6 _ hb6 _
        have HR6 := Lib.hid (show PRow w6 w1.heap.size (.slice a6 (j + 1) c6) (manyF 0 (j + 1)) by rw [HSN.out]; unfold mp; rw [HCJ.out]; exact hrow6.out)
        have HB6 := Lib.hid (HB3.out.trans hb6)
        clear hrow6 hb6
        go_wp2
        go_roundw
        case rel => exact ⟨j + 1, a6, c6, by omega, by go_num, rfl, HR6.out, HB6.out⟩
        case measure => simp [intOf]; omega
      · obtain rfl : j = m := by omega
        have hlti : ¬ (j : Int) < (j : Int) := by omega
        have V2 := Lib.hid (V1.out.later hbel)
        have HL2 := Lib.hid hrow.lst
        have hE := HE.out
        by_cases hbig : 10 < k
        · have hkb : (10 : Int) < (k : Int) := by omega
          rw [if_pos (by have := HKM.out; omega)] at hE
          have hbs : bldS (manyF 0 j) = ⟨#[]⟩ := by unfold bldS; rw [hE, if_neg (by omega)]
          rw [hE, hbs] at kb
          clear hE hbs hrow hbel
          go_wp2_with (first
            | (go_at_call 27; (with_reducible refine (kb _ _ _ HL2.out V2.out.tab).mono ?_); rintro e w4 ⟨rfl, hb4⟩; (have V4 := Lib.hid (V2.out.later hb4)); clear hb4))
          go_ret
          exact ⟨by first | rfl | simp, V4.out.bel⟩
        · have hkb : ¬ (10 : Int) < (k : Int) := by omega
          rw [if_neg (by have := HKM.out; omega)] at hE
          have hbk := HBK.out hE
          have hsz := HSZ.out (by have := HKM.out; omega)
          obtain ⟨Z, hZ⟩ : ∃ Z, bldS (manyF 0 j) = Z := ⟨_, rfl⟩
          rw [hE, hZ] at kb
          rw [hZ] at hbk hsz
          have kd := fun w h => pread12_is Z w (by omega) h
          rw [hbk] at kd
          have E2 := Lib.hid (manyF_len j 0)
          clear hE hbk hsz hZ hrow hbel
          go_wp2_with (first
            | (go_at_call 27; (with_reducible refine (kb _ _ _ HL2.out V2.out.tab).mono ?_); rintro e w4 ⟨rfl, hb4⟩; (have V4 := Lib.hid ((V2.out.later hb4).setb (HL2.out.later hb4))); clear hb4)
            | (go_at_call 29; (with_reducible refine (kd _ V4.out.tab).mono ?_); rintro e w5 hrd; (obtain ⟨v, rfl, hR, hb5⟩ := rd_named (Lib.hid rfl) (Lib.hid rfl) hrd); (have hsl := hR.slice); (obtain ⟨p3, c3, rfl⟩ := hsl); (simp only [Option.getD_some, Option.isSome_some, if_true] at hR ⊢); (rw [E2.out] at hR ⊢); (have V5 := Lib.hid ((V4.out.later hb5).setc hR.lst)); clear hR hb5)
            | (go_at_call 12; (with_reducible refine (kq _ _ _ _ _ V5.out.c.pts V5.out.b.pts).mono ?_); rintro e w6 ⟨rfl, hb6⟩; (have V6 := Lib.hid (V5.out.later hb6)); clear hb6))
          go_ret
          exact ⟨by first | rfl | simp, V6.out.bel⟩
  · obtain rfl : r = (k : Int) := hk.symm
    go_enter Tryd.func8, Tryd.ntmps8
    go_wp2_with (first
      | (go_at_call 10; (with_reducible refine (ka _ V0.out.tab).mono ?_); rintro e w1 ⟨rfl, hb1⟩; (have V1 := Lib.hid (V0.out.later hb1)); clear hb1 ka))
    have R0 := Lib.hid (show PRow w1 w1.heap.size (.slice none 0 0) (manyF 0 0) ∧ Below w1.heap.size w1 w1 from ⟨PRow.nil _ _, Below.refl _ _⟩)
    go_loopw [5, 6] (fun o i wr => ∃ (j : Nat) (a5 : Option Addr) (c5 : Nat), j ≤ m ∧ i = .int .i64 (j : Int) ∧ o = .slice a5 j c5 ∧ PRow wr w1.heap.size (.slice a5 j c5) (manyF 0 j) ∧ Below w1.heap.size w1 wr) (fun _ i _ => m - (intOf i).toNat)
    case atStart => exact ⟨0, none, 0, by omega, rfl, rfl, R0.out⟩
    case round =>
      obtain ⟨j, a5, c5, hj, rfl, rfl, hrow, hbel⟩ := hrel
      clear R0
      obtain ⟨w2, hw2⟩ : ∃ x, x = wr := ⟨_, rfl⟩
      subst hw2
      by_cases hlt : j < m
      · have hlti : (j : Int) < (m : Int) := by omega
        have hj0 : 0 ≤ (j : Int) := by omega
        have hwj : IntKind.i64.wrap (1 + (j : Int) % 7) = 1 + (j : Int) % 7 := by rw [IntKind.wrap_i64]; omega
        have kpj := fun w => kp j w
        have HROW := Lib.hid hrow
        have HBEL := Lib.hid hbel
        have hsn := manyF_snoc j 0
        rw [Nat.zero_add] at hsn
        have HSN := Lib.hid hsn
        obtain ⟨cj, hcj⟩ : ∃ c, 1 + (j : Int) % 7 = c := ⟨_, rfl⟩
        have HCJ := Lib.hid hcj
        rw [hcj] at kpj hwj
        unfold ptV ptA at kpj
        clear hrow hbel hsn
        go_wp2_with (first
          | (go_at_call 32; (with_reducible refine (kpj _).mono ?_); rintro e w3 ⟨rfl, hb3⟩; (have HR3 := Lib.hid (HROW.out.later hb3)); (have HB3 := Lib.hid (bel_next HBEL.out hb3)); clear hb3)
          | (at_builtin; refine wpList_appP (w := w3) rfl _ _ rfl w1.heap.size j (.slice a5 j c5) (manyF 0 j) (ptA (j : Int) cj) w3.heap.size rfl rfl rfl (Lib.hid (manyF_len j 0)) HR3.out (by omega) HB3.out.size ?_))
        intro a6 c6 w6 hrow6 _ hb6 _
        have HR6 := Lib.hid (show PRow w6 w1.heap.size (.slice a6 (j + 1) c6) (manyF 0 (j + 1)) by rw [HSN.out]; unfold mp; rw [HCJ.out]; exact hrow6.out)
        have HB6 := Lib.hid (HB3.out.trans hb6)
        clear hrow6 hb6
        go_wp2
        go_roundw
        case rel => exact ⟨j + 1, a6, c6, by omega, by go_num, rfl, HR6.out, HB6.out⟩
        case measure => simp [intOf]; omega
      · obtain rfl : j = m := by omega
        have hlti : ¬ (j : Int) < (j : Int) := by omega
        have V2 := Lib.hid (V1.out.later hbel)
        have HL2 := Lib.hid hrow.lst
        have hE := HE.out
        by_cases hbig : 10 < k
        · have hkb : (10 : Int) < (k : Int) := by omega
          rw [if_pos (by have := HKM.out; omega)] at hE
          have hbs : bldS (manyF 0 j) = ⟨#[]⟩ := by unfold bldS; rw [hE, if_neg (by omega)]
          rw [hE, hbs] at kb
          clear hE hbs hrow hbel
          go_wp2_with (first
            | (go_at_call 27; (with_reducible refine (kb _ _ _ HL2.out V2.out.tab).mono ?_); rintro e w4 ⟨rfl, hb4⟩; (have V4 := Lib.hid (V2.out.later hb4)); clear hb4))
          go_ret
          exact ⟨by first | rfl | simp, V4.out.bel⟩
        · have hkb : ¬ (10 : Int) < (k : Int) := by omega
          rw [if_neg (by have := HKM.out; omega)] at hE
          have hbk := HBK.out hE
          have hsz := HSZ.out (by have := HKM.out; omega)
          obtain ⟨Z, hZ⟩ : ∃ Z, bldS (manyF 0 j) = Z := ⟨_, rfl⟩
          rw [hE, hZ] at kb
          rw [hZ] at hbk hsz
          have kd := fun w h => pread12_is Z w (by omega) h
          rw [hbk] at kd
          have E2 := Lib.hid (manyF_len j 0)
          clear hE hbk hsz hZ hrow hbel
          go_wp2_with (first
            | (go_at_call 27; (with_reducible refine (kb _ _ _ HL2.out V2.out.tab).mono ?_); rintro e w4 ⟨rfl, hb4⟩; (have V4 := Lib.hid ((V2.out.later hb4).setb (HL2.out.later hb4))); clear hb4)
            | (go_at_call 29; (with_reducible refine (kd _ V4.out.tab).mono ?_); rintro e w5 hrd; (obtain ⟨v, rfl, hR, hb5⟩ := rd_named (Lib.hid rfl) (Lib.hid rfl) hrd); (have hsl := hR.slice); (obtain ⟨p3, c3, rfl⟩ := hsl); (simp only [Option.getD_some, Option.isSome_some, if_true] at hR ⊢); (rw [E2.out] at hR ⊢); (have V5 := Lib.hid ((V4.out.later hb5).setc hR.lst)); clear hR hb5)
            | (go_at_call 12; (with_reducible refine (kq _ _ _ _ _ V5.out.c.pts V5.out.b.pts).mono ?_); rintro e w6 ⟨rfl, hb6⟩; (have V6 := Lib.hid (V5.out.later hb6)); clear hb6))
          go_ret
          exact ⟨by first | rfl | simp, V6.out.bel⟩
theorem walk (n0 : Int) (w : World) (hn : -9223372036854775808 ≤ n0 ∧ n0 ≤ 9223372036854775807) (ht : Tab w) : Calls Tryd.prog 8 #[.int .i64 n0] w fun e w' => e = .returned (.bool true) ∧ Below w.heap.size w w' := by
  obtain ⟨r, hr⟩ : ∃ r, n0.tmod 21 = r := ⟨_, rfl⟩
  have h1 := Int.tmod_lt_of_pos n0 (b := 21) (by omega)
  have h2 : -21 < n0.tmod 21 := by
    by_cases h : 0 ≤ n0
    · have := Int.tmod_nonneg 21 h; omega
    · have e := Int.neg_tmod n0 21
      have := Int.tmod_lt_of_pos (-n0) (b := 21) (by omega)
      omega
  rw [hr] at h1 h2
  have hr2 : 0 ≤ n0 → n0 % 21 = r := fun h => by rw [← hr]; exact (Int.tmod_eq_emod_of_nonneg h).symm
  by_cases h : r < 0
  · exact walk_any n0 r (-r).toNat (2990 + (-r).toNat) w hr hr2 (Or.inl ⟨h, by omega⟩) (by omega) rfl ht
  · exact walk_any n0 r r.toNat (2990 + r.toNat) w hr hr2 (Or.inr ⟨h, by omega⟩) (by omega) rfl ht
end Go.Proofs.YtkomfenjeoaelaaDoor.blockMany
