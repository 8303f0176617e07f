/- The walk of law BlockBack: it returns true and turns nothing that was there. -/
import Derived.Test.YtkomfenjeoaelaaDoorBlockLive
import Derived.Test.YtkomfenjeoaelaaDoorBlockReadEq
import Derived.Test.YtkomfenjeoaelaaDoorBytesOf
set_option maxRecDepth 20000
set_option linter.unusedSimpArgs false
set_option linter.unusedVariables false
namespace Go.Proofs.YtkomfenjeoaelaaDoor.blockBack
open Go.RowKit Go.Proofs.YtkomfenjeoaelaaDoor Go.Proofs.YtkomfenjeoaelaaDoor.Vi Go.Proofs.YtkomfenjeoaelaaDoor.Mk Go.Proofs.YtkomfenjeoaelaaDoor.Crc

theorem rd_named {o : Option (List Pt)} {E : Int} {Y : List Pt} {w w' : World} {e : Ending} (HE : Hid ((if o.isSome = true then (0 : Int) else 10) = E)) (HY : Hid (o.getD [] = Y)) (h : RdDone o w e w') : ∃ v, e = .returned (.tuple #[v, .int .i64 E]) ∧ PRow w' w.heap.size v Y ∧ Below w.heap.size w w' := by
  have e1 := HE.out
  have e2 := HY.out
  subst e1 e2
  exact h
/-- A text's bytes in a new slice, one of them stored anew in a region that draws, and the text that then stands there. -/
theorem turned12 (Z u : ByteArray) (n : Nat) (hn : n < Z.data.toList.length) (y x : UInt8) (hy : Z.data.toList[n] = y) (hu : u = ⟨(Z.data.toList.set n (Z.data.toList[n] ^^^ x)).toArray⟩) (w : World) :
    ∃ cap w', Z.size ≤ cap ∧ (convert 9 49 (.string Z)).run Tryd.prog w = .ok (.slice (some ⟨w.heap.size, 0, none⟩) Z.size cap) w' ∧ w'.cell? ⟨w.heap.size, n, none⟩ = some (.int .u8 (y.toNat : Int)) ∧ w'.frozen? ⟨w.heap.size, n, none⟩ = false ∧
      (convert 49 9 (.slice (some ⟨w.heap.size, 0, none⟩) Z.size cap)).run Tryd.prog (w'.setCell ⟨w.heap.size, n, none⟩ (.int .u8 ((y.toNat ^^^ x.toNat : Nat) : Int))).drew = .ok (.string u) (w'.setCell ⟨w.heap.size, n, none⟩ (.int .u8 ((y.toNat ^^^ x.toNat : Nat) : Int))).drew ∧
      Below w.heap.size w (w'.setCell ⟨w.heap.size, n, none⟩ (.int .u8 ((y.toNat ^^^ x.toNat : Nat) : Int))).drew := by
  obtain ⟨cap, w', h1, h2, h3, h4, _⟩ := bytes_made Tryd.prog 9 49 5 Z Tryd.underlying9 Tryd.underlying49 Tryd.underlying5 w
  have h5 : BytesAt (w'.setCell ⟨w.heap.size, n, none⟩ (.int .u8 ((y.toNat ^^^ x.toNat : Nat) : Int))).drew w.heap.size (Z.data.toList.set n (y ^^^ x)) := h4.stored n (y ^^^ x) _ (by rw [UInt8.toNat_xor])
  have h6 := (h4 n hn).1
  rw [hy] at h6
  refine ⟨cap, w', h1, h2, h6, (h4 n hn).2, ?_, (h3.setCell (Nat.le_refl _) _).drew⟩
  rw [hu, hy]
  exact h5.back 49 9 5 Tryd.underlying49 Tryd.underlying5 Tryd.underlying9 Z.size cap (by simp)

set_option maxHeartbeats 16000000 in
theorem walk_no (a0 : Option Addr) (n0 c0 : Nat) (at_ tn : Int) (w : World) (ha : ArgPts w a0 n0 c0) (hat2 : -9223372036854775808 ≤ at_ ∧ at_ ≤ 9223372036854775807) (htn2 : 0 ≤ tn ∧ tn ≤ 255) (ht : Tab w) (l : List Pt) (hE : ¬ bldE (srtR (fewB l)) = 0) (hP : Pts w w.heap.size a0 l) (hl : l.length ≤ 9223372036854775807) (hn0 : l.length = n0) : Calls Tryd.prog 6 #[.slice a0 n0 c0, .int .i64 at_, .int .u8 tn] w fun e w' => e = .returned (.bool true) ∧ Below w.heap.size w w' := by
  subst hn0
  have kf1 := fun w h => few12_is a0 c0 l w h hl
  have hn1 := fewB_len l
  have hs1 : ∀ p ∈ fewB l, p.s.size ≤ 100000 := fun p hp => by have := fewB_short hp; omega
  have hx : ∀ p ∈ srtR (fewB l), p.s.size ≤ 100000 := fun p hp => hs1 p (srtR_mem _ hp)
  have hxl : (srtR (fewB l)).length ≤ 40 := by have := srtR_len (fewB l); omega
  obtain ⟨L, hL⟩ : ∃ L, fewB l = L := ⟨_, rfl⟩
  rw [hL] at kf1 hn1 hs1 hx hxl hE
  obtain ⟨n1, e1⟩ : ∃ n, L.length = n := ⟨_, rfl⟩
  have ks := fun a c w h => rsort_is a c L w h (by omega)
  rw [e1] at ks
  obtain ⟨X, hX⟩ : ∃ X, srtR L = X := ⟨_, rfl⟩
  rw [hX] at hx hxl ks hE
  obtain ⟨n2, e2⟩ : ∃ n, X.length = n := ⟨_, rfl⟩
  have kb := fun a c w h ht => build_is a c X w h (by omega) hx ht
  rw [e2] at kb
  obtain ⟨Z, hZ⟩ : ∃ Z, bldS X = Z := ⟨_, rfl⟩
  obtain ⟨E, hEE⟩ : ∃ E, bldE X = E := ⟨_, rfl⟩
  rw [hEE] at hE
  rw [hZ, hEE] at kb
  have q1 : (E == 0) = false := by simpa using hE
  have q2 : (E != 0) = true := by simpa using hE
  have E1 := Lib.hid e1
  have E2 := Lib.hid e2
  have HP := Lib.hid hP
  have V0 := Lib.hid (Live.start ht)
  have ka := fun w h => awake_is w h
  clear ha hP hL hX hZ hEE ht e1 e2 hs1 hx hE
  go_enter Tryd.func6, Tryd.ntmps6
  go_wp2_with (first
    | (go_at_call 10; (with_reducible refine (ka _ V0.out.tab).mono ?_); rintro e w1 ⟨rfl, hb1⟩; (have V1 := Lib.hid (V0.out.later hb1)); (have HP1 := Lib.hid (HP.out.below hb1 |>.mono hb1.size)); clear hb1 ka)
    | (go_at_call 11; (with_reducible refine (kf1 _ HP1.out).mono ?_); rintro e w2 ⟨v, rfl, hR, hb2⟩; (have hsl := hR.slice); (obtain ⟨p1, c1, rfl⟩ := hsl); (rw [E1.out] at hR ⊢); (have V2 := Lib.hid ((V1.out.later hb2).seta hR.lst)); clear hR hb2 kf1)
    | (go_at_call 14; (with_reducible refine (ks _ _ _ V2.out.a).mono ?_); rintro e w3 ⟨v, rfl, hR, hb3⟩; (have hsl := hR.slice); (obtain ⟨p2, c2, rfl⟩ := hsl); (rw [E2.out] at hR ⊢); (have V3 := Lib.hid ((V2.out.later hb3).setb hR.lst)); clear hR hb3 ks)
    | (go_at_call 27; (with_reducible refine (kb _ _ _ V3.out.b V3.out.tab).mono ?_); rintro e w4 ⟨rfl, hb4⟩; (have V4 := Lib.hid (V3.out.later hb4)); clear hb4 kb))
  go_ret
  exact ⟨rfl, V4.out.bel⟩

set_option maxHeartbeats 16000000 in
theorem walk_zero (a0 : Option Addr) (n0 c0 : Nat) (at_ tn : Int) (w : World) (ha : ArgPts w a0 n0 c0) (hat2 : -9223372036854775808 ≤ at_ ∧ at_ ≤ 9223372036854775807) (htn2 : 0 ≤ tn ∧ tn ≤ 255) (ht : Tab w) (l : List Pt) (hE : bldE (srtR (fewB l)) = 0) (hv : ∀ p ∈ srtR (fewB l), p.vfit) (hP : Pts w w.heap.size a0 l) (hl : l.length ≤ 9223372036854775807) (hn0 : l.length = n0) (h0 : tn = 0) : Calls Tryd.prog 6 #[.slice a0 n0 c0, .int .i64 at_, .int .u8 tn] w fun e w' => e = .returned (.bool true) ∧ Below w.heap.size w w' := by
  subst hn0
  have kf1 := fun w h => few12_is a0 c0 l w h hl
  have hn1 := fewB_len l
  have hs1 : ∀ p ∈ fewB l, p.s.size ≤ 100000 := fun p hp => by have := fewB_short hp; omega
  have hx : ∀ p ∈ srtR (fewB l), p.s.size ≤ 100000 := fun p hp => hs1 p (srtR_mem _ hp)
  have hxl : (srtR (fewB l)).length ≤ 40 := by have := srtR_len (fewB l); omega
  obtain ⟨L, hL⟩ : ∃ L, fewB l = L := ⟨_, rfl⟩
  rw [hL] at kf1 hn1 hs1 hx hxl hv hE
  obtain ⟨n1, e1⟩ : ∃ n, L.length = n := ⟨_, rfl⟩
  have ks := fun a c w h => rsort_is a c L w h (by omega)
  rw [e1] at ks
  obtain ⟨X, hX⟩ : ∃ X, srtR L = X := ⟨_, rfl⟩
  rw [hX] at hx hxl ks hv hE
  obtain ⟨n2, e2⟩ : ∃ n, X.length = n := ⟨_, rfl⟩
  have kb := fun a c w h ht => build_is a c X w h (by omega) hx ht
  rw [e2] at kb
  have hbk := rd_back hE hv
  have hsz : (bldS X).size ≤ 90000 := by
    rw [bldS_yes hE, sealed12_size, tx_size]
    obtain ⟨h1, h2, h3⟩ := bldE_zero hE
    have hNl := serL_len X
    have hc := cntN_le h1
    have := bodyN_len h1 (by omega) (by omega) (fun s h => by obtain ⟨p, hp, rfl⟩ := serN_mem X _ s h; exact ok_name (h2 p hp)) (serL X).length (Nat.le_refl _)
    rw [List.take_length] at this
    unfold cntN at hc
    show (bodyN X (serL X) (serL X).length).length + 4 ≤ _
    omega
  have hsz0 : 4 ≤ (bldS X).size := by rw [bldS_yes hE, sealed12_size]; omega
  have htn := fun n x hx hn => rd_turned hE n x hx hn
  obtain ⟨Z, hZ⟩ : ∃ Z, bldS X = Z := ⟨_, rfl⟩
  rw [hE, hZ] at kb
  rw [hZ] at hbk hsz hsz0
  simp only [hZ] at htn
  have kd := fun w h => pread12_is Z w (by omega) h
  rw [hbk] at kd
  have kq := fun a b ca cb w h1 h2 => rsamep_is a b ca cb X X true w h1 h2 (by omega) (by omega) (Lib.hid (decide_eq_true rfl))
  rw [e2] at kq
  have hz0 : ((Z.size : Int) == 0) = false := by rw [beq_eq_false_iff_ne]; omega
  have E1 := Lib.hid e1
  have E2 := Lib.hid e2
  have HP := Lib.hid hP
  have V0 := Lib.hid (Live.start ht)
  have ka := fun w h => awake_is w h
  subst h0
  clear ha hP hL hX hZ ht e1 e2 hs1 hx hE hv hbk htn
  go_enter Tryd.func6, Tryd.ntmps6
  go_wp2_with (first
    | (go_at_call 10; (with_reducible refine (ka _ V0.out.tab).mono ?_); rintro e w1 ⟨rfl, hb1⟩; (have V1 := Lib.hid (V0.out.later hb1)); (have HP1 := Lib.hid (HP.out.below hb1 |>.mono hb1.size)); clear hb1 ka)
    | (go_at_call 11; (with_reducible refine (kf1 _ HP1.out).mono ?_); rintro e w2 ⟨v, rfl, hR, hb2⟩; (have hsl := hR.slice); (obtain ⟨p1, c1, rfl⟩ := hsl); (rw [E1.out] at hR ⊢); (have V2 := Lib.hid ((V1.out.later hb2).seta hR.lst)); clear hR hb2 kf1)
    | (go_at_call 14; (with_reducible refine (ks _ _ _ V2.out.a).mono ?_); rintro e w3 ⟨v, rfl, hR, hb3⟩; (have hsl := hR.slice); (obtain ⟨p2, c2, rfl⟩ := hsl); (rw [E2.out] at hR ⊢); (have V3 := Lib.hid ((V2.out.later hb3).setb hR.lst)); clear hR hb3 ks)
    | (go_at_call 27; (with_reducible refine (kb _ _ _ V3.out.b V3.out.tab).mono ?_); rintro e w4 ⟨rfl, hb4⟩; (have V4 := Lib.hid (V3.out.later hb4)); clear hb4 kb)
    | (go_at_call 29; (with_reducible refine (kd _ V4.out.tab).mono ?_); rintro e w5 hrd; (obtain ⟨v, rfl, hR, hb5⟩ := rd_named (Lib.hid rfl) (Lib.hid rfl) hrd); (have hsl := hR.slice); (obtain ⟨p3, c3, rfl⟩ := hsl); (simp only [Option.getD_some, Option.isSome_some, if_true] at hR ⊢); (rw [E2.out] at hR ⊢); (have V5 := Lib.hid ((V4.out.later hb5).setc hR.lst)); clear hR hb5 kd)
    | (go_at_call 12; (with_reducible refine (kq _ _ _ _ _ V5.out.c.pts V5.out.b.pts).mono ?_); rintro e w6 ⟨rfl, hb6⟩; (have V6 := Lib.hid (V5.out.later hb6)); clear hb6 kq))
  go_ret
  exact ⟨rfl, V6.out.bel⟩

set_option maxHeartbeats 16000000 in
theorem walk_neg (a0 : Option Addr) (n0 c0 : Nat) (at_ tn : Int) (w : World) (ha : ArgPts w a0 n0 c0) (hat2 : -9223372036854775808 ≤ at_ ∧ at_ ≤ 9223372036854775807) (htn2 : 0 ≤ tn ∧ tn ≤ 255) (ht : Tab w) (l : List Pt) (hE : bldE (srtR (fewB l)) = 0) (hv : ∀ p ∈ srtR (fewB l), p.vfit) (hP : Pts w w.heap.size a0 l) (hl : l.length ≤ 9223372036854775807) (hn0 : l.length = n0) (h0 : tn ≠ 0) (hneg : at_ < 0) : Calls Tryd.prog 6 #[.slice a0 n0 c0, .int .i64 at_, .int .u8 tn] w fun e w' => e = .returned (.bool true) ∧ Below w.heap.size w w' := by
  subst hn0
  have kf1 := fun w h => few12_is a0 c0 l w h hl
  have hn1 := fewB_len l
  have hs1 : ∀ p ∈ fewB l, p.s.size ≤ 100000 := fun p hp => by have := fewB_short hp; omega
  have hx : ∀ p ∈ srtR (fewB l), p.s.size ≤ 100000 := fun p hp => hs1 p (srtR_mem _ hp)
  have hxl : (srtR (fewB l)).length ≤ 40 := by have := srtR_len (fewB l); omega
  obtain ⟨L, hL⟩ : ∃ L, fewB l = L := ⟨_, rfl⟩
  rw [hL] at kf1 hn1 hs1 hx hxl hv hE
  obtain ⟨n1, e1⟩ : ∃ n, L.length = n := ⟨_, rfl⟩
  have ks := fun a c w h => rsort_is a c L w h (by omega)
  rw [e1] at ks
  obtain ⟨X, hX⟩ : ∃ X, srtR L = X := ⟨_, rfl⟩
  rw [hX] at hx hxl ks hv hE
  obtain ⟨n2, e2⟩ : ∃ n, X.length = n := ⟨_, rfl⟩
  have kb := fun a c w h ht => build_is a c X w h (by omega) hx ht
  rw [e2] at kb
  have hbk := rd_back hE hv
  have hsz : (bldS X).size ≤ 90000 := by
    rw [bldS_yes hE, sealed12_size, tx_size]
    obtain ⟨h1, h2, h3⟩ := bldE_zero hE
    have hNl := serL_len X
    have hc := cntN_le h1
    have := bodyN_len h1 (by omega) (by omega) (fun s h => by obtain ⟨p, hp, rfl⟩ := serN_mem X _ s h; exact ok_name (h2 p hp)) (serL X).length (Nat.le_refl _)
    rw [List.take_length] at this
    unfold cntN at hc
    show (bodyN X (serL X) (serL X).length).length + 4 ≤ _
    omega
  have hsz0 : 4 ≤ (bldS X).size := by rw [bldS_yes hE, sealed12_size]; omega
  have htn := fun n x hx hn => rd_turned hE n x hx hn
  obtain ⟨Z, hZ⟩ : ∃ Z, bldS X = Z := ⟨_, rfl⟩
  rw [hE, hZ] at kb
  rw [hZ] at hbk hsz hsz0
  simp only [hZ] at htn
  have kd := fun w h => pread12_is Z w (by omega) h
  rw [hbk] at kd
  have kq := fun a b ca cb w h1 h2 => rsamep_is a b ca cb X X true w h1 h2 (by omega) (by omega) (Lib.hid (decide_eq_true rfl))
  rw [e2] at kq
  have hz0 : ((Z.size : Int) == 0) = false := by rw [beq_eq_false_iff_ne]; omega
  have hzl : Z.data.toList.length = Z.size := Array.length_toList
  obtain ⟨n, hn, hp, hq⟩ := place at_ Z.size (by omega)
  have hnl : n < Z.data.toList.length := by omega
  obtain ⟨x, hx0, hx2⟩ : ∃ x : UInt8, x ≠ 0 ∧ tn = (x.toNat : Int) := by
    have e : (UInt8.ofNat tn.toNat).toNat = tn.toNat := by rw [UInt8.toNat_ofNat']; omega
    refine ⟨UInt8.ofNat tn.toNat, fun e0 => ?_, by omega⟩
    rw [e0] at e
    have : (0 : UInt8).toNat = 0 := rfl
    omega
  have hnone := htn n x hx0 hnl
  obtain ⟨u, hu⟩ : ∃ u : ByteArray, u = ⟨(Z.data.toList.set n (Z.data.toList[n] ^^^ x)).toArray⟩ := ⟨_, rfl⟩
  rw [← hu] at hnone
  have hus : u.size ≤ 90000 := by
    rw [hu]
    show (Z.data.toList.set n (Z.data.toList[n] ^^^ x)).toArray.size ≤ _
    rw [List.size_toArray, List.length_set]
    omega
  have TT := Lib.hid (fun w => turned12 Z u n hnl Z.data.toList[n] x rfl hu w)
  have kd2 := fun w h => pread12_is u w (by omega) h
  rw [hnone] at kd2
  obtain ⟨y, hy⟩ : ∃ y, Z.data.toList[n] = y := ⟨_, rfl⟩
  rw [hy] at TT
  have hxor : bits .xor .u8 (y.toNat : Int) (x.toNat : Int) = ((y.toNat ^^^ x.toNat : Nat) : Int) := u8_xor_nat _ _ y.toNat_lt x.toNat_lt
  have hzz : ¬ ((Z.size : Int) = 0) := by omega
  have hzz2 : ((n : Int) < (Z.size : Int)) := by omega
  have htz : ((x.toNat : Int) == 0) = false := by rw [beq_eq_false_iff_ne, ← hx2]; exact h0
  subst hx2
  have hmod := hq hneg
  have E1 := Lib.hid e1
  have E2 := Lib.hid e2
  have HP := Lib.hid hP
  have V0 := Lib.hid (Live.start ht)
  have ka := fun w h => awake_is w h
  clear ha hP hL hX hZ ht e1 e2 hs1 hx hE hv hbk htn hp hq hu hy hnone h0 hus
  go_enter Tryd.func6, Tryd.ntmps6
  go_wp2_with (first
    | (go_at_call 10; (with_reducible refine (ka _ V0.out.tab).mono ?_); rintro e w1 ⟨rfl, hb1⟩; (have V1 := Lib.hid (V0.out.later hb1)); (have HP1 := Lib.hid (HP.out.below hb1 |>.mono hb1.size)); clear hb1 ka)
    | (go_at_call 11; (with_reducible refine (kf1 _ HP1.out).mono ?_); rintro e w2 ⟨v, rfl, hR, hb2⟩; (have hsl := hR.slice); (obtain ⟨p1, c1, rfl⟩ := hsl); (rw [E1.out] at hR ⊢); (have V2 := Lib.hid ((V1.out.later hb2).seta hR.lst)); clear hR hb2 kf1)
    | (go_at_call 14; (with_reducible refine (ks _ _ _ V2.out.a).mono ?_); rintro e w3 ⟨v, rfl, hR, hb3⟩; (have hsl := hR.slice); (obtain ⟨p2, c2, rfl⟩ := hsl); (rw [E2.out] at hR ⊢); (have V3 := Lib.hid ((V2.out.later hb3).setb hR.lst)); clear hR hb3 ks)
    | (go_at_call 27; (with_reducible refine (kb _ _ _ V3.out.b V3.out.tab).mono ?_); rintro e w4 ⟨rfl, hb4⟩; (have V4 := Lib.hid (V3.out.later hb4)); clear hb4 kb)
    | (go_at_call 29; (with_reducible refine (kd _ V4.out.tab).mono ?_); rintro e w5 hrd; (obtain ⟨v, rfl, hR, hb5⟩ := rd_named (Lib.hid rfl) (Lib.hid rfl) hrd); (have hsl := hR.slice); (obtain ⟨p3, c3, rfl⟩ := hsl); (simp only [Option.getD_some, Option.isSome_some, if_true] at hR ⊢); (rw [E2.out] at hR ⊢); (have V5 := Lib.hid ((V4.out.later hb5).setc hR.lst)); clear hR hb5 kd)
    | (go_at_call 12; (with_reducible refine (kq _ _ _ _ _ V5.out.c.pts V5.out.b.pts).mono ?_); rintro e w6 ⟨rfl, hb6⟩; (have V6 := Lib.hid (V5.out.later hb6)); (obtain ⟨cap, w7, hcap, hconv, hcell, hfree, hback, hb7⟩ := TT.out w6); clear hb6 kq))
  go_region
  go_wp2_with (first
    | (go_at_call 29; (with_reducible refine (kd2 _ (V6.out.later hb7).tab).mono ?_); rintro e w8 hrd; (obtain ⟨v, rfl, hR, hb8⟩ := rd_named (Lib.hid rfl) (Lib.hid rfl) hrd); (have hsl := hR.slice); (obtain ⟨p5, c5, rfl⟩ := hsl); (have HB8 := Lib.hid (bel_next (V6.out.later hb7).bel hb8)); clear hR))
  go_ret
  exact ⟨rfl, HB8.out⟩

set_option maxHeartbeats 16000000 in
theorem walk_pos (a0 : Option Addr) (n0 c0 : Nat) (at_ tn : Int) (w : World) (ha : ArgPts w a0 n0 c0) (hat2 : -9223372036854775808 ≤ at_ ∧ at_ ≤ 9223372036854775807) (htn2 : 0 ≤ tn ∧ tn ≤ 255) (ht : Tab w) (l : List Pt) (hE : bldE (srtR (fewB l)) = 0) (hv : ∀ p ∈ srtR (fewB l), p.vfit) (hP : Pts w w.heap.size a0 l) (hl : l.length ≤ 9223372036854775807) (hn0 : l.length = n0) (h0 : tn ≠ 0) (hneg : ¬ at_ < 0) : Calls Tryd.prog 6 #[.slice a0 n0 c0, .int .i64 at_, .int .u8 tn] w fun e w' => e = .returned (.bool true) ∧ Below w.heap.size w w' := by
  subst hn0
  have kf1 := fun w h => few12_is a0 c0 l w h hl
  have hn1 := fewB_len l
  have hs1 : ∀ p ∈ fewB l, p.s.size ≤ 100000 := fun p hp => by have := fewB_short hp; omega
  have hx : ∀ p ∈ srtR (fewB l), p.s.size ≤ 100000 := fun p hp => hs1 p (srtR_mem _ hp)
  have hxl : (srtR (fewB l)).length ≤ 40 := by have := srtR_len (fewB l); omega
  obtain ⟨L, hL⟩ : ∃ L, fewB l = L := ⟨_, rfl⟩
  rw [hL] at kf1 hn1 hs1 hx hxl hv hE
  obtain ⟨n1, e1⟩ : ∃ n, L.length = n := ⟨_, rfl⟩
  have ks := fun a c w h => rsort_is a c L w h (by omega)
  rw [e1] at ks
  obtain ⟨X, hX⟩ : ∃ X, srtR L = X := ⟨_, rfl⟩
  rw [hX] at hx hxl ks hv hE
  obtain ⟨n2, e2⟩ : ∃ n, X.length = n := ⟨_, rfl⟩
  have kb := fun a c w h ht => build_is a c X w h (by omega) hx ht
  rw [e2] at kb
  have hbk := rd_back hE hv
  have hsz : (bldS X).size ≤ 90000 := by
    rw [bldS_yes hE, sealed12_size, tx_size]
    obtain ⟨h1, h2, h3⟩ := bldE_zero hE
    have hNl := serL_len X
    have hc := cntN_le h1
    have := bodyN_len h1 (by omega) (by omega) (fun s h => by obtain ⟨p, hp, rfl⟩ := serN_mem X _ s h; exact ok_name (h2 p hp)) (serL X).length (Nat.le_refl _)
    rw [List.take_length] at this
    unfold cntN at hc
    show (bodyN X (serL X) (serL X).length).length + 4 ≤ _
    omega
  have hsz0 : 4 ≤ (bldS X).size := by rw [bldS_yes hE, sealed12_size]; omega
  have htn := fun n x hx hn => rd_turned hE n x hx hn
  obtain ⟨Z, hZ⟩ : ∃ Z, bldS X = Z := ⟨_, rfl⟩
  rw [hE, hZ] at kb
  rw [hZ] at hbk hsz hsz0
  simp only [hZ] at htn
  have kd := fun w h => pread12_is Z w (by omega) h
  rw [hbk] at kd
  have kq := fun a b ca cb w h1 h2 => rsamep_is a b ca cb X X true w h1 h2 (by omega) (by omega) (Lib.hid (decide_eq_true rfl))
  rw [e2] at kq
  have hz0 : ((Z.size : Int) == 0) = false := by rw [beq_eq_false_iff_ne]; omega
  have hzl : Z.data.toList.length = Z.size := Array.length_toList
  obtain ⟨n, hn, hp, hq⟩ := place at_ Z.size (by omega)
  have hnl : n < Z.data.toList.length := by omega
  obtain ⟨x, hx0, hx2⟩ : ∃ x : UInt8, x ≠ 0 ∧ tn = (x.toNat : Int) := by
    have e : (UInt8.ofNat tn.toNat).toNat = tn.toNat := by rw [UInt8.toNat_ofNat']; omega
    refine ⟨UInt8.ofNat tn.toNat, fun e0 => ?_, by omega⟩
    rw [e0] at e
    have : (0 : UInt8).toNat = 0 := rfl
    omega
  have hnone := htn n x hx0 hnl
  obtain ⟨u, hu⟩ : ∃ u : ByteArray, u = ⟨(Z.data.toList.set n (Z.data.toList[n] ^^^ x)).toArray⟩ := ⟨_, rfl⟩
  rw [← hu] at hnone
  have hus : u.size ≤ 90000 := by
    rw [hu]
    show (Z.data.toList.set n (Z.data.toList[n] ^^^ x)).toArray.size ≤ _
    rw [List.size_toArray, List.length_set]
    omega
  have TT := Lib.hid (fun w => turned12 Z u n hnl Z.data.toList[n] x rfl hu w)
  have kd2 := fun w h => pread12_is u w (by omega) h
  rw [hnone] at kd2
  obtain ⟨y, hy⟩ : ∃ y, Z.data.toList[n] = y := ⟨_, rfl⟩
  rw [hy] at TT
  have hxor : bits .xor .u8 (y.toNat : Int) (x.toNat : Int) = ((y.toNat ^^^ x.toNat : Nat) : Int) := u8_xor_nat _ _ y.toNat_lt x.toNat_lt
  have hzz : ¬ ((Z.size : Int) = 0) := by omega
  have hzz2 : ((n : Int) < (Z.size : Int)) := by omega
  have htz : ((x.toNat : Int) == 0) = false := by rw [beq_eq_false_iff_ne, ← hx2]; exact h0
  have hk : at_ % (Z.size : Int) = (n : Int) := hp (by omega)
  subst hx2
  have hge : 0 ≤ at_ := by omega
  have E1 := Lib.hid e1
  have E2 := Lib.hid e2
  have HP := Lib.hid hP
  have V0 := Lib.hid (Live.start ht)
  have ka := fun w h => awake_is w h
  clear ha hP hL hX hZ ht e1 e2 hs1 hx hE hv hbk htn hp hq hu hy hnone h0 hus
  go_enter Tryd.func6, Tryd.ntmps6
  go_wp2_with (first
    | (go_at_call 10; (with_reducible refine (ka _ V0.out.tab).mono ?_); rintro e w1 ⟨rfl, hb1⟩; (have V1 := Lib.hid (V0.out.later hb1)); (have HP1 := Lib.hid (HP.out.below hb1 |>.mono hb1.size)); clear hb1 ka)
    | (go_at_call 11; (with_reducible refine (kf1 _ HP1.out).mono ?_); rintro e w2 ⟨v, rfl, hR, hb2⟩; (have hsl := hR.slice); (obtain ⟨p1, c1, rfl⟩ := hsl); (rw [E1.out] at hR ⊢); (have V2 := Lib.hid ((V1.out.later hb2).seta hR.lst)); clear hR hb2 kf1)
    | (go_at_call 14; (with_reducible refine (ks _ _ _ V2.out.a).mono ?_); rintro e w3 ⟨v, rfl, hR, hb3⟩; (have hsl := hR.slice); (obtain ⟨p2, c2, rfl⟩ := hsl); (rw [E2.out] at hR ⊢); (have V3 := Lib.hid ((V2.out.later hb3).setb hR.lst)); clear hR hb3 ks)
    | (go_at_call 27; (with_reducible refine (kb _ _ _ V3.out.b V3.out.tab).mono ?_); rintro e w4 ⟨rfl, hb4⟩; (have V4 := Lib.hid (V3.out.later hb4)); clear hb4 kb)
    | (go_at_call 29; (with_reducible refine (kd _ V4.out.tab).mono ?_); rintro e w5 hrd; (obtain ⟨v, rfl, hR, hb5⟩ := rd_named (Lib.hid rfl) (Lib.hid rfl) hrd); (have hsl := hR.slice); (obtain ⟨p3, c3, rfl⟩ := hsl); (simp only [Option.getD_some, Option.isSome_some, if_true] at hR ⊢); (rw [E2.out] at hR ⊢); (have V5 := Lib.hid ((V4.out.later hb5).setc hR.lst)); clear hR hb5 kd)
    | (go_at_call 12; (with_reducible refine (kq _ _ _ _ _ V5.out.c.pts V5.out.b.pts).mono ?_); rintro e w6 ⟨rfl, hb6⟩; (have V6 := Lib.hid (V5.out.later hb6)); (obtain ⟨cap, w7, hcap, hconv, hcell, hfree, hback, hb7⟩ := TT.out w6); clear hb6 kq))
  go_region
  go_wp2_with (first
    | (go_at_call 29; (with_reducible refine (kd2 _ (V6.out.later hb7).tab).mono ?_); rintro e w8 hrd; (obtain ⟨v, rfl, hR, hb8⟩ := rd_named (Lib.hid rfl) (Lib.hid rfl) hrd); (have hsl := hR.slice); (obtain ⟨p5, c5, rfl⟩ := hsl); (have HB8 := Lib.hid (bel_next (V6.out.later hb7).bel hb8)); clear hR))
  go_ret
  exact ⟨rfl, HB8.out⟩

theorem walk (a0 : Option Addr) (n0 c0 : Nat) (at_ tn : Int) (w : World) (ha : ArgPts w a0 n0 c0) (hat : -9223372036854775808 ≤ at_ ∧ at_ ≤ 9223372036854775807) (htn : 0 ≤ tn ∧ tn ≤ 255) (ht : Tab w) : Calls Tryd.prog 6 #[.slice a0 n0 c0, .int .i64 at_, .int .u8 tn] w fun e w' => e = .returned (.bool true) ∧ Below w.heap.size w w' := by
  obtain ⟨l, hn0, hP, hl, hf⟩ := ha.has
  by_cases hE : bldE (srtR (fewB l)) = 0
  · have hv : ∀ p ∈ srtR (fewB l), p.vfit := fun p hp => (fewB_fits hf (srtR_mem _ hp)).v
    by_cases h0 : tn = 0
    · exact walk_zero a0 n0 c0 at_ tn w ha hat htn ht l hE hv hP (by omega) hn0 h0
    · by_cases hneg : at_ < 0
      · exact walk_neg a0 n0 c0 at_ tn w ha hat htn ht l hE hv hP (by omega) hn0 h0 hneg
      · exact walk_pos a0 n0 c0 at_ tn w ha hat htn ht l hE hv hP (by omega) hn0 h0 hneg
  · exact walk_no a0 n0 c0 at_ tn w ha hat htn ht l hE hP (by omega) hn0
end Go.Proofs.YtkomfenjeoaelaaDoor.blockBack
