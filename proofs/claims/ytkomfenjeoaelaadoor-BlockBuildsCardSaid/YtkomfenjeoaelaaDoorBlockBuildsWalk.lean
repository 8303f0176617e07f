/- The walk of law BlockBuilds: it returns true and turns nothing that was there. -/
import Derived.Test.YtkomfenjeoaelaaDoorBlockLive
import Derived.Test.YtkomfenjeoaelaaDoorBlockRRead
set_option maxRecDepth 20000
set_option linter.unusedSimpArgs false
set_option linter.unusedVariables false
namespace Go.Proofs.YtkomfenjeoaelaaDoor.blockBuilds
open Go.RowKit Go.Proofs.YtkomfenjeoaelaaDoor Go.Proofs.YtkomfenjeoaelaaDoor.Vi Go.Proofs.YtkomfenjeoaelaaDoor.Mk Go.Proofs.YtkomfenjeoaelaaDoor.Crc

theorem rd_named {o : Option (List Pt)} {E : Int} {Y : List Pt} {w w' : World} {e : Ending} (HE : Hid ((if o.isSome = true then (0 : Int) else 10) = E)) (HY : Hid (o.getD [] = Y)) (h : RdDone o w e w') : ∃ v, e = .returned (.tuple #[v, .int .i64 E]) ∧ PRow w' w.heap.size v Y ∧ Below w.heap.size w w' := by
  have e1 := HE.out
  have e2 := HY.out
  subst e1 e2
  exact h
theorem rd_len (S : ByteArray) : ((rdB S).getD []).length ≤ 3000 := by
  cases h : rdB S with
  | none => show 0 ≤ _; omega
  | some l => exact (bldE_zero (rd_some_of h).1).2.2

set_option maxHeartbeats 16000000 in
theorem walk_tt (a0 : Option Addr) (n0 c0 : Nat) (s0 : ByteArray) (w : World) (ha : ArgPts w a0 n0 c0) (hlong : (1500 : Int) < (s0.size : Int)) (ht : Tab w) : Calls Tryd.prog 5 #[.slice a0 n0 c0, .string s0, .bool true] w fun e w' => e = .returned (.bool true) ∧ Below w.heap.size w w' := by
  obtain ⟨l, rfl, hP, hl, -⟩ := ha.has
  have kf1 := fun w h => few12_is a0 c0 l w h hl
  have hn1 := fewB_len l
  have hs1 : ∀ p ∈ fewB l, p.s.size ≤ 100000 := fun p hp => by have := fewB_short hp; omega
  have hx : ∀ p ∈ srtR (fewB l), p.s.size ≤ 100000 := fun p hp => hs1 p (srtR_mem _ hp)
  have hxl : (srtR (fewB l)).length ≤ 40 := by have := srtR_len (fewB l); omega
  obtain ⟨L, hL⟩ : ∃ L, fewB l = L := ⟨_, rfl⟩
  rw [hL] at kf1 hn1 hs1 hx hxl
  obtain ⟨n1, e1⟩ : ∃ n, L.length = n := ⟨_, rfl⟩
  have ks := fun a c w h => rsort_is a c L w h (by omega)
  rw [e1] at ks
  obtain ⟨X, hX⟩ : ∃ X, srtR (L) = X := ⟨_, rfl⟩
  rw [hX] at hx hxl ks
  obtain ⟨n2, e2⟩ : ∃ n, X.length = n := ⟨_, rfl⟩
  have kb := fun a c w h ht => build_is a c X w h (by omega) hx ht
  have kb2 := fun a c w h => rbuild_is a c X w h (by omega) hx
  rw [e2] at kb kb2
  obtain ⟨Z, hZ⟩ : ∃ Z, bldS X = Z := ⟨_, rfl⟩
  obtain ⟨E, hE⟩ : ∃ E, bldE X = E := ⟨_, rfl⟩
  rw [hZ, hE] at kb kb2
  obtain ⟨T, hT⟩ : ∃ T, s0.extract 0 1500 = T := ⟨_, rfl⟩
  have hTs : T.size ≤ 1500 := by rw [← hT]; rw [ByteArray.size_extract]; omega
  have kd := fun w h => pread12_is T w (by omega) h
  have kd2 := fun w => rread12_is T w (by omega)
  have hyl := rd_len T
  obtain ⟨F, hF⟩ : ∃ F, (if (rdB T).isSome = true then (0 : Int) else 10) = F := ⟨_, rfl⟩
  obtain ⟨Y, hY⟩ : ∃ Y, (rdB T).getD [] = Y := ⟨_, rfl⟩
  rw [hY] at hyl
  obtain ⟨n3, e3⟩ : ∃ n, Y.length = n := ⟨_, rfl⟩
  have kq := fun a b ca cb w h1 h2 => rsamep_is a b ca cb Y Y true w h1 h2 (by omega) (by omega) (Lib.hid (decide_eq_true rfl))
  rw [e3] at kq
  have HF := Lib.hid hF
  have HY := Lib.hid hY
  have E1 := Lib.hid e1
  have E2 := Lib.hid e2
  have E3 := Lib.hid e3
  have HP := Lib.hid hP
  have V0 := Lib.hid (Live.start ht)
  have ka := fun w h => awake_is w h
  clear ha hP hL hX hZ hE ht e1 e2 e3 hs1 hx hF hY hTs
  go_enter Tryd.func5, Tryd.ntmps5
  go_wp2_with (first
    | (go_at_call 10; (with_reducible refine (ka _ V0.out.tab).mono ?_); rintro e w1 ⟨rfl, hb1⟩; (have V1 := Lib.hid (V0.out.later hb1)); (have HP1 := Lib.hid (HP.out.below hb1 |>.mono hb1.size)); clear hb1 ka)
    | (go_at_call 11; (with_reducible refine (kf1 _ HP1.out).mono ?_); rintro e w2 ⟨v, rfl, hR, hb2⟩; (have hsl := hR.slice); (obtain ⟨p1, c1, rfl⟩ := hsl); (rw [E1.out] at hR ⊢); (have V2 := Lib.hid ((V1.out.later hb2).seta hR.lst)); clear hR hb2 kf1)
    | (go_at_call 14; (with_reducible refine (ks _ _ _ V2.out.a).mono ?_); rintro e w3 ⟨v, rfl, hR, hb3⟩; (have hsl := hR.slice); (obtain ⟨p2, c2, rfl⟩ := hsl); (rw [E2.out] at hR ⊢); (have V3 := Lib.hid ((V2.out.later hb3).setb hR.lst)); clear hR hb3 ks)
    | (go_at_call 27; (with_reducible refine (kb _ _ _ V3.out.b V3.out.tab).mono ?_); rintro e w4 ⟨rfl, hb4⟩; (have V4 := Lib.hid (V3.out.later hb4)); clear hb4 kb)
    | (go_at_call 28; (with_reducible refine (kb2 _ _ _ V4.out.b).mono ?_); rintro e w5 ⟨rfl, hb5⟩; (have V5 := Lib.hid (V4.out.later hb5)); clear hb5 kb2)
    | (go_at_call 29; (with_reducible refine (kd _ V5.out.tab).mono ?_); rintro e w6 hrd; (obtain ⟨v, rfl, hR, hb6⟩ := rd_named HF HY hrd); (have hsl := hR.slice); (obtain ⟨p3, c3, rfl⟩ := hsl); (rw [E3.out] at hR ⊢); (have V6 := Lib.hid ((V5.out.later hb6).setc hR.lst)); clear hR hb6 kd)
    | (go_at_call 30; (with_reducible refine (kd2 _).mono ?_); rintro e w7 hrd; (obtain ⟨v, rfl, hR, hb7⟩ := rd_named HF HY hrd); (have hsl := hR.slice); (obtain ⟨p4, c4, rfl⟩ := hsl); (rw [E3.out] at hR ⊢); (have V7 := Lib.hid ((V6.out.later hb7).setd hR.lst)); clear hR hb7 kd2)
    | (go_at_call 12; (with_reducible refine (kq _ _ _ _ _ V7.out.c.pts V7.out.d.pts).mono ?_); rintro e w8 ⟨rfl, hb8⟩; (have V8 := Lib.hid (V7.out.later hb8)); clear hb8 kq))
  go_ret
  exact ⟨by first | rfl | simp, V8.out.bel⟩

set_option maxHeartbeats 16000000 in
theorem walk_tf (a0 : Option Addr) (n0 c0 : Nat) (s0 : ByteArray) (w : World) (ha : ArgPts w a0 n0 c0) (hlong : ¬ (1500 : Int) < (s0.size : Int)) (ht : Tab w) : Calls Tryd.prog 5 #[.slice a0 n0 c0, .string s0, .bool true] w fun e w' => e = .returned (.bool true) ∧ Below w.heap.size w w' := by
  obtain ⟨l, rfl, hP, hl, -⟩ := ha.has
  have kf1 := fun w h => few12_is a0 c0 l w h hl
  have hn1 := fewB_len l
  have hs1 : ∀ p ∈ fewB l, p.s.size ≤ 100000 := fun p hp => by have := fewB_short hp; omega
  have hx : ∀ p ∈ srtR (fewB l), p.s.size ≤ 100000 := fun p hp => hs1 p (srtR_mem _ hp)
  have hxl : (srtR (fewB l)).length ≤ 40 := by have := srtR_len (fewB l); omega
  obtain ⟨L, hL⟩ : ∃ L, fewB l = L := ⟨_, rfl⟩
  rw [hL] at kf1 hn1 hs1 hx hxl
  obtain ⟨n1, e1⟩ : ∃ n, L.length = n := ⟨_, rfl⟩
  have ks := fun a c w h => rsort_is a c L w h (by omega)
  rw [e1] at ks
  obtain ⟨X, hX⟩ : ∃ X, srtR (L) = X := ⟨_, rfl⟩
  rw [hX] at hx hxl ks
  obtain ⟨n2, e2⟩ : ∃ n, X.length = n := ⟨_, rfl⟩
  have kb := fun a c w h ht => build_is a c X w h (by omega) hx ht
  have kb2 := fun a c w h => rbuild_is a c X w h (by omega) hx
  rw [e2] at kb kb2
  obtain ⟨Z, hZ⟩ : ∃ Z, bldS X = Z := ⟨_, rfl⟩
  obtain ⟨E, hE⟩ : ∃ E, bldE X = E := ⟨_, rfl⟩
  rw [hZ, hE] at kb kb2
  obtain ⟨T, hT⟩ : ∃ T, s0 = T := ⟨_, rfl⟩
  have hTs : T.size ≤ 1500 := by rw [← hT]; omega
  subst hT
  have kd := fun w h => pread12_is s0 w (by omega) h
  have kd2 := fun w => rread12_is s0 w (by omega)
  have hyl := rd_len s0
  obtain ⟨F, hF⟩ : ∃ F, (if (rdB s0).isSome = true then (0 : Int) else 10) = F := ⟨_, rfl⟩
  obtain ⟨Y, hY⟩ : ∃ Y, (rdB s0).getD [] = Y := ⟨_, rfl⟩
  rw [hY] at hyl
  obtain ⟨n3, e3⟩ : ∃ n, Y.length = n := ⟨_, rfl⟩
  have kq := fun a b ca cb w h1 h2 => rsamep_is a b ca cb Y Y true w h1 h2 (by omega) (by omega) (Lib.hid (decide_eq_true rfl))
  rw [e3] at kq
  have HF := Lib.hid hF
  have HY := Lib.hid hY
  have E1 := Lib.hid e1
  have E2 := Lib.hid e2
  have E3 := Lib.hid e3
  have HP := Lib.hid hP
  have V0 := Lib.hid (Live.start ht)
  have ka := fun w h => awake_is w h
  clear ha hP hL hX hZ hE ht e1 e2 e3 hs1 hx hF hY hTs
  go_enter Tryd.func5, Tryd.ntmps5
  go_wp2_with (first
    | (go_at_call 10; (with_reducible refine (ka _ V0.out.tab).mono ?_); rintro e w1 ⟨rfl, hb1⟩; (have V1 := Lib.hid (V0.out.later hb1)); (have HP1 := Lib.hid (HP.out.below hb1 |>.mono hb1.size)); clear hb1 ka)
    | (go_at_call 11; (with_reducible refine (kf1 _ HP1.out).mono ?_); rintro e w2 ⟨v, rfl, hR, hb2⟩; (have hsl := hR.slice); (obtain ⟨p1, c1, rfl⟩ := hsl); (rw [E1.out] at hR ⊢); (have V2 := Lib.hid ((V1.out.later hb2).seta hR.lst)); clear hR hb2 kf1)
    | (go_at_call 14; (with_reducible refine (ks _ _ _ V2.out.a).mono ?_); rintro e w3 ⟨v, rfl, hR, hb3⟩; (have hsl := hR.slice); (obtain ⟨p2, c2, rfl⟩ := hsl); (rw [E2.out] at hR ⊢); (have V3 := Lib.hid ((V2.out.later hb3).setb hR.lst)); clear hR hb3 ks)
    | (go_at_call 27; (with_reducible refine (kb _ _ _ V3.out.b V3.out.tab).mono ?_); rintro e w4 ⟨rfl, hb4⟩; (have V4 := Lib.hid (V3.out.later hb4)); clear hb4 kb)
    | (go_at_call 28; (with_reducible refine (kb2 _ _ _ V4.out.b).mono ?_); rintro e w5 ⟨rfl, hb5⟩; (have V5 := Lib.hid (V4.out.later hb5)); clear hb5 kb2)
    | (go_at_call 29; (with_reducible refine (kd _ V5.out.tab).mono ?_); rintro e w6 hrd; (obtain ⟨v, rfl, hR, hb6⟩ := rd_named HF HY hrd); (have hsl := hR.slice); (obtain ⟨p3, c3, rfl⟩ := hsl); (rw [E3.out] at hR ⊢); (have V6 := Lib.hid ((V5.out.later hb6).setc hR.lst)); clear hR hb6 kd)
    | (go_at_call 30; (with_reducible refine (kd2 _).mono ?_); rintro e w7 hrd; (obtain ⟨v, rfl, hR, hb7⟩ := rd_named HF HY hrd); (have hsl := hR.slice); (obtain ⟨p4, c4, rfl⟩ := hsl); (rw [E3.out] at hR ⊢); (have V7 := Lib.hid ((V6.out.later hb7).setd hR.lst)); clear hR hb7 kd2)
    | (go_at_call 12; (with_reducible refine (kq _ _ _ _ _ V7.out.c.pts V7.out.d.pts).mono ?_); rintro e w8 ⟨rfl, hb8⟩; (have V8 := Lib.hid (V7.out.later hb8)); clear hb8 kq))
  go_ret
  exact ⟨by first | rfl | simp, V8.out.bel⟩

set_option maxHeartbeats 16000000 in
theorem walk_ft (a0 : Option Addr) (n0 c0 : Nat) (s0 : ByteArray) (w : World) (ha : ArgPts w a0 n0 c0) (hlong : (1500 : Int) < (s0.size : Int)) (ht : Tab w) : Calls Tryd.prog 5 #[.slice a0 n0 c0, .string s0, .bool false] w fun e w' => e = .returned (.bool true) ∧ Below w.heap.size w w' := by
  obtain ⟨l, rfl, hP, hl, -⟩ := ha.has
  have kf1 := fun w h => few12_is a0 c0 l w h hl
  have hn1 := fewB_len l
  have hs1 : ∀ p ∈ fewB l, p.s.size ≤ 100000 := fun p hp => by have := fewB_short hp; omega
  have hx := hs1
  have hxl := hn1
  obtain ⟨L, hL⟩ : ∃ L, fewB l = L := ⟨_, rfl⟩
  rw [hL] at kf1 hn1 hs1 hx hxl
  obtain ⟨n1, e1⟩ : ∃ n, L.length = n := ⟨_, rfl⟩
  have ks := fun a c w h => rsort_is a c L w h (by omega)
  rw [e1] at ks
  have kb := fun a c w h ht => build_is a c L w h (by omega) hx ht
  have kb2 := fun a c w h => rbuild_is a c L w h (by omega) hx
  rw [e1] at kb kb2
  obtain ⟨Z, hZ⟩ : ∃ Z, bldS L = Z := ⟨_, rfl⟩
  obtain ⟨E, hE⟩ : ∃ E, bldE L = E := ⟨_, rfl⟩
  rw [hZ, hE] at kb kb2
  obtain ⟨T, hT⟩ : ∃ T, s0.extract 0 1500 = T := ⟨_, rfl⟩
  have hTs : T.size ≤ 1500 := by rw [← hT]; rw [ByteArray.size_extract]; omega
  have kd := fun w h => pread12_is T w (by omega) h
  have kd2 := fun w => rread12_is T w (by omega)
  have hyl := rd_len T
  obtain ⟨F, hF⟩ : ∃ F, (if (rdB T).isSome = true then (0 : Int) else 10) = F := ⟨_, rfl⟩
  obtain ⟨Y, hY⟩ : ∃ Y, (rdB T).getD [] = Y := ⟨_, rfl⟩
  rw [hY] at hyl
  obtain ⟨n3, e3⟩ : ∃ n, Y.length = n := ⟨_, rfl⟩
  have kq := fun a b ca cb w h1 h2 => rsamep_is a b ca cb Y Y true w h1 h2 (by omega) (by omega) (Lib.hid (decide_eq_true rfl))
  rw [e3] at kq
  have HF := Lib.hid hF
  have HY := Lib.hid hY
  have E1 := Lib.hid e1
  have E3 := Lib.hid e3
  have HP := Lib.hid hP
  have V0 := Lib.hid (Live.start ht)
  have ka := fun w h => awake_is w h
  clear ha hP hL hZ hE ht e1 e3 hs1 hx hF hY hTs
  go_enter Tryd.func5, Tryd.ntmps5
  go_wp2_with (first
    | (go_at_call 10; (with_reducible refine (ka _ V0.out.tab).mono ?_); rintro e w1 ⟨rfl, hb1⟩; (have V1 := Lib.hid (V0.out.later hb1)); (have HP1 := Lib.hid (HP.out.below hb1 |>.mono hb1.size)); clear hb1 ka)
    | (go_at_call 11; (with_reducible refine (kf1 _ HP1.out).mono ?_); rintro e w2 ⟨v, rfl, hR, hb2⟩; (have hsl := hR.slice); (obtain ⟨p1, c1, rfl⟩ := hsl); (rw [E1.out] at hR ⊢); (have V2 := Lib.hid ((V1.out.later hb2).seta hR.lst)); clear hR hb2 kf1)
    | (go_at_call 27; (with_reducible refine (kb _ _ _ V2.out.a V2.out.tab).mono ?_); rintro e w4 ⟨rfl, hb4⟩; (have V4 := Lib.hid (V2.out.later hb4)); clear hb4 kb)
    | (go_at_call 28; (with_reducible refine (kb2 _ _ _ V4.out.a).mono ?_); rintro e w5 ⟨rfl, hb5⟩; (have V5 := Lib.hid (V4.out.later hb5)); clear hb5 kb2)
    | (go_at_call 29; (with_reducible refine (kd _ V5.out.tab).mono ?_); rintro e w6 hrd; (obtain ⟨v, rfl, hR, hb6⟩ := rd_named HF HY hrd); (have hsl := hR.slice); (obtain ⟨p3, c3, rfl⟩ := hsl); (rw [E3.out] at hR ⊢); (have V6 := Lib.hid ((V5.out.later hb6).setc hR.lst)); clear hR hb6 kd)
    | (go_at_call 30; (with_reducible refine (kd2 _).mono ?_); rintro e w7 hrd; (obtain ⟨v, rfl, hR, hb7⟩ := rd_named HF HY hrd); (have hsl := hR.slice); (obtain ⟨p4, c4, rfl⟩ := hsl); (rw [E3.out] at hR ⊢); (have V7 := Lib.hid ((V6.out.later hb7).setd hR.lst)); clear hR hb7 kd2)
    | (go_at_call 12; (with_reducible refine (kq _ _ _ _ _ V7.out.c.pts V7.out.d.pts).mono ?_); rintro e w8 ⟨rfl, hb8⟩; (have V8 := Lib.hid (V7.out.later hb8)); clear hb8 kq))
  go_ret
  exact ⟨by first | rfl | simp, V8.out.bel⟩

set_option maxHeartbeats 16000000 in
theorem walk_ff (a0 : Option Addr) (n0 c0 : Nat) (s0 : ByteArray) (w : World) (ha : ArgPts w a0 n0 c0) (hlong : ¬ (1500 : Int) < (s0.size : Int)) (ht : Tab w) : Calls Tryd.prog 5 #[.slice a0 n0 c0, .string s0, .bool false] w fun e w' => e = .returned (.bool true) ∧ Below w.heap.size w w' := by
  obtain ⟨l, rfl, hP, hl, -⟩ := ha.has
  have kf1 := fun w h => few12_is a0 c0 l w h hl
  have hn1 := fewB_len l
  have hs1 : ∀ p ∈ fewB l, p.s.size ≤ 100000 := fun p hp => by have := fewB_short hp; omega
  have hx := hs1
  have hxl := hn1
  obtain ⟨L, hL⟩ : ∃ L, fewB l = L := ⟨_, rfl⟩
  rw [hL] at kf1 hn1 hs1 hx hxl
  obtain ⟨n1, e1⟩ : ∃ n, L.length = n := ⟨_, rfl⟩
  have ks := fun a c w h => rsort_is a c L w h (by omega)
  rw [e1] at ks
  have kb := fun a c w h ht => build_is a c L w h (by omega) hx ht
  have kb2 := fun a c w h => rbuild_is a c L w h (by omega) hx
  rw [e1] at kb kb2
  obtain ⟨Z, hZ⟩ : ∃ Z, bldS L = Z := ⟨_, rfl⟩
  obtain ⟨E, hE⟩ : ∃ E, bldE L = E := ⟨_, rfl⟩
  rw [hZ, hE] at kb kb2
  obtain ⟨T, hT⟩ : ∃ T, s0 = T := ⟨_, rfl⟩
  have hTs : T.size ≤ 1500 := by rw [← hT]; omega
  subst hT
  have kd := fun w h => pread12_is s0 w (by omega) h
  have kd2 := fun w => rread12_is s0 w (by omega)
  have hyl := rd_len s0
  obtain ⟨F, hF⟩ : ∃ F, (if (rdB s0).isSome = true then (0 : Int) else 10) = F := ⟨_, rfl⟩
  obtain ⟨Y, hY⟩ : ∃ Y, (rdB s0).getD [] = Y := ⟨_, rfl⟩
  rw [hY] at hyl
  obtain ⟨n3, e3⟩ : ∃ n, Y.length = n := ⟨_, rfl⟩
  have kq := fun a b ca cb w h1 h2 => rsamep_is a b ca cb Y Y true w h1 h2 (by omega) (by omega) (Lib.hid (decide_eq_true rfl))
  rw [e3] at kq
  have HF := Lib.hid hF
  have HY := Lib.hid hY
  have E1 := Lib.hid e1
  have E3 := Lib.hid e3
  have HP := Lib.hid hP
  have V0 := Lib.hid (Live.start ht)
  have ka := fun w h => awake_is w h
  clear ha hP hL hZ hE ht e1 e3 hs1 hx hF hY hTs
  go_enter Tryd.func5, Tryd.ntmps5
  go_wp2_with (first
    | (go_at_call 10; (with_reducible refine (ka _ V0.out.tab).mono ?_); rintro e w1 ⟨rfl, hb1⟩; (have V1 := Lib.hid (V0.out.later hb1)); (have HP1 := Lib.hid (HP.out.below hb1 |>.mono hb1.size)); clear hb1 ka)
    | (go_at_call 11; (with_reducible refine (kf1 _ HP1.out).mono ?_); rintro e w2 ⟨v, rfl, hR, hb2⟩; (have hsl := hR.slice); (obtain ⟨p1, c1, rfl⟩ := hsl); (rw [E1.out] at hR ⊢); (have V2 := Lib.hid ((V1.out.later hb2).seta hR.lst)); clear hR hb2 kf1)
    | (go_at_call 27; (with_reducible refine (kb _ _ _ V2.out.a V2.out.tab).mono ?_); rintro e w4 ⟨rfl, hb4⟩; (have V4 := Lib.hid (V2.out.later hb4)); clear hb4 kb)
    | (go_at_call 28; (with_reducible refine (kb2 _ _ _ V4.out.a).mono ?_); rintro e w5 ⟨rfl, hb5⟩; (have V5 := Lib.hid (V4.out.later hb5)); clear hb5 kb2)
    | (go_at_call 29; (with_reducible refine (kd _ V5.out.tab).mono ?_); rintro e w6 hrd; (obtain ⟨v, rfl, hR, hb6⟩ := rd_named HF HY hrd); (have hsl := hR.slice); (obtain ⟨p3, c3, rfl⟩ := hsl); (rw [E3.out] at hR ⊢); (have V6 := Lib.hid ((V5.out.later hb6).setc hR.lst)); clear hR hb6 kd)
    | (go_at_call 30; (with_reducible refine (kd2 _).mono ?_); rintro e w7 hrd; (obtain ⟨v, rfl, hR, hb7⟩ := rd_named HF HY hrd); (have hsl := hR.slice); (obtain ⟨p4, c4, rfl⟩ := hsl); (rw [E3.out] at hR ⊢); (have V7 := Lib.hid ((V6.out.later hb7).setd hR.lst)); clear hR hb7 kd2)
    | (go_at_call 12; (with_reducible refine (kq _ _ _ _ _ V7.out.c.pts V7.out.d.pts).mono ?_); rintro e w8 ⟨rfl, hb8⟩; (have V8 := Lib.hid (V7.out.later hb8)); clear hb8 kq))
  go_ret
  exact ⟨by first | rfl | simp, V8.out.bel⟩

theorem walk (a0 : Option Addr) (n0 c0 : Nat) (s0 : ByteArray) (b : Bool) (w : World) (ha : ArgPts w a0 n0 c0) (_hs : s0.size ≤ maxLen) (ht : Tab w) : Calls Tryd.prog 5 #[.slice a0 n0 c0, .string s0, .bool b] w fun e w' => e = .returned (.bool true) ∧ Below w.heap.size w w' := by
  by_cases h : (1500 : Int) < (s0.size : Int)
  · cases b with
    | true => exact walk_tt a0 n0 c0 s0 w ha h ht
    | false => exact walk_ft a0 n0 c0 s0 w ha h ht
  · cases b with
    | true => exact walk_tf a0 n0 c0 s0 w ha h ht
    | false => exact walk_ff a0 n0 c0 s0 w ha h ht
end Go.Proofs.YtkomfenjeoaelaaDoor.blockBuilds
