/- The walk of law BlockSorts: it returns true and turns nothing that was there. -/
import Derived.Test.YtkomfenjeoaelaaDoorBlockLive
set_option maxRecDepth 20000
set_option linter.unusedSimpArgs false
namespace Go.Proofs.YtkomfenjeoaelaaDoor.blockSorts
open Go.RowKit Go.Proofs.YtkomfenjeoaelaaDoor Go.Proofs.YtkomfenjeoaelaaDoor.Vi Go.Proofs.YtkomfenjeoaelaaDoor.Mk Go.Proofs.YtkomfenjeoaelaaDoor.Crc

set_option maxHeartbeats 16000000 in
theorem walk (a0 : Option Addr) (n0 c0 : Nat) (b0 : Option Addr) (m0 d0 : Nat) (w : World) (ha : ArgPts w a0 n0 c0) (hb : ArgPts w b0 m0 d0) (ht : Tab w) : Calls Tryd.prog 3 #[.slice a0 n0 c0, .slice b0 m0 d0] w fun e w' => e = .returned (.bool true) ∧ Below w.heap.size w w' := by
  obtain ⟨l, rfl, hP, hl, -⟩ := ha.has
  obtain ⟨m, rfl, hQ, hm, -⟩ := hb.has
  have kf1 := fun w h => few12_is a0 c0 l w h hl
  have kf2 := fun w h => few12_is b0 d0 m w h hm
  have hn1 := fewB_len l
  have hn2 := fewB_len m
  have hs1 : ∀ p ∈ fewB l, p.s.size ≤ 100000 := fun p hp => by have := fewB_short hp; omega
  have hs2 : ∀ p ∈ fewB m, p.s.size ≤ 100000 := fun p hp => by have := fewB_short hp; omega
  obtain ⟨L, hL⟩ : ∃ L, fewB l = L := ⟨_, rfl⟩
  obtain ⟨M, hM⟩ : ∃ M, fewB m = M := ⟨_, rfl⟩
  rw [hL] at kf1 hn1 hs1
  rw [hM] at kf2 hn2 hs2
  obtain ⟨n1, e1⟩ : ∃ n, L.length = n := ⟨_, rfl⟩
  obtain ⟨n2, e2⟩ : ∃ n, M.length = n := ⟨_, rfl⟩
  have ks := fun a c w h => sort_is a c L w h (by omega) hs1
  have kr := fun a c w h => rsort_is a c L w h (by omega)
  have kr2 := fun a c w h => rsort_is a c (L ++ M) w h (by rw [List.length_append]; omega)
  have km := fun a c w h => merge_is a c [L, M] w h (by simp) (by simp; omega) (fun p hp => by simp at hp; rcases hp with hp | hp; exact hs1 p hp; exact hs2 p hp)
  have kso := fun a c w h => psorted_is a c L w h (by omega)
  have kro := fun a c w h => rsorted_is a c L w h (by omega)
  have kq := fun (X : List Pt) a b ca cb w h1 h2 (hx : X.length ≤ 1000) => rsamep_is a b ca cb X X true w h1 h2 (by omega) (by omega) (Lib.hid (decide_eq_true rfl))
  simp only [List.flatten_cons, List.flatten_nil, List.append_nil, List.length_cons, List.length_nil] at km
  have hx1 : (srtR L).length ≤ 1000 := by have := srtR_len L; omega
  have hx2 : (srtR (L ++ M)).length ≤ 1000 := by have := srtR_len (L ++ M); rw [List.length_append] at this; omega
  have e12 : (L ++ M).length = n1 + n2 := by rw [List.length_append, e1, e2]
  obtain ⟨X, hX⟩ : ∃ X, srtR L = X := ⟨_, rfl⟩
  obtain ⟨Y, hY⟩ : ∃ Y, L ++ M = Y := ⟨_, rfl⟩
  rw [hY] at kr2 km e12 hx2
  obtain ⟨Z, hZ⟩ : ∃ Z, srtR Y = Z := ⟨_, rfl⟩
  obtain ⟨s, hsr⟩ : ∃ s, srtB L = s := ⟨_, rfl⟩
  rw [hX] at ks kr hx1
  rw [hZ] at kr2 km hx2
  rw [hsr] at kso kro
  have kqL := kq L
  rw [e1] at ks kr kso kro kqL
  rw [e12] at kr2
  have HY := Lib.hid hY
  have E1 := Lib.hid e1
  have E2 := Lib.hid e2
  have E12 := Lib.hid e12
  have HP := Lib.hid hP
  have HQ := Lib.hid hQ
  have V0 := Lib.hid (Live.start ht)
  have ka := fun w h => awake_is w h
  have hn1' : n1 ≤ 40 := by omega
  have hn2' : n2 ≤ 40 := by omega
  clear ha hb hP hQ hL hM hX hY hZ hsr ht e1 e2 e12 hs1 hs2
  go_enter Tryd.func3, Tryd.ntmps3
  go_wp2_with (first
    | (go_at_call 10; (with_reducible refine (ka _ V0.out.tab).mono ?_); rintro e w1 ⟨rfl, hb1⟩; (have V1 := Lib.hid (V0.out.later hb1)); (have HP1 := Lib.hid (HP.out.below hb1 |>.mono hb1.size)); (have HQ1 := Lib.hid (HQ.out.below hb1 |>.mono hb1.size)); clear hb1 ka)
    | (go_at_call 11; first
      | ((with_reducible refine (kf1 _ HP1.out).mono ?_); rintro e w2 ⟨v, rfl, hR, hb2⟩; (have hsl := hR.slice); (obtain ⟨p1, c1, rfl⟩ := hsl); (rw [E1.out] at hR ⊢); (have V2 := Lib.hid ((V1.out.later hb2).seta hR.lst)); (have HQ2 := Lib.hid (HQ1.out.below hb2 |>.mono hb2.size)); clear hR hb2 kf1)
      | ((with_reducible refine (kf2 _ HQ2.out).mono ?_); rintro e w3 ⟨v, rfl, hR, hb3⟩; (have hsl := hR.slice); (obtain ⟨p2, c2, rfl⟩ := hsl); (rw [E2.out] at hR ⊢); (have V3 := Lib.hid ((V2.out.later hb3).setb hR.lst)); clear hR hb3 kf2))
    | (at_builtin; refine wpList_appN (w := w3) rfl _ _ rfl w3.heap.size 0 (.slice none 0 0) [] L p1 n1 c1 w3.heap.size rfl rfl E1.out (Lib.hid rfl) (PRow.nil _ _) V3.out.a (by omega) (Nat.le_refl _) ?_; intro a4 c4 w4 hrow4 _ hb4 _; have V4 := Lib.hid ((V3.out.later hb4).setc (show Lst w4 w4.heap.size a4 c4 L by have := hrow4.out.lst; simpa using this)); clear hrow4 hb4)
    | (go_at_call 13; (with_reducible refine (ks _ _ _ V4.out.a).mono ?_); rintro e w5 ⟨v, rfl, hR, hb5⟩; (have hsl := hR.slice); (obtain ⟨a5, c5, rfl⟩ := hsl); (have V5 := Lib.hid ((V4.out.later hb5).setd hR.lst)); clear hR hb5 ks)
    | (go_at_call 14; (with_reducible refine (kr _ _ _ V5.out.a).mono ?_); rintro e w6 ⟨v, rfl, hR, hb6⟩; (have hsl := hR.slice); (obtain ⟨a6, c6, rfl⟩ := hsl); (have HX6 := Lib.hid hR.lst); (have V6 := Lib.hid (V5.out.later hb6)); clear hR hb6 kr)
    | (go_at_call 12; (with_reducible refine (kq X _ _ _ _ _ V6.out.d.pts HX6.out.pts hx1).mono ?_); rintro e w7 ⟨rfl, hb7⟩; (have V7 := Lib.hid ((V6.out.later hb7).setd (Lst.nil _ _))); clear hb7 hx1)
    | (at_builtin; refine wpList_appN (w := w7) rfl _ _ rfl w7.heap.size 0 (.slice none 0 0) [] L p1 n1 c1 w7.heap.size rfl rfl E1.out (Lib.hid rfl) (PRow.nil _ _) V7.out.a (by omega) (Nat.le_refl _) ?_; intro a8 c8 w8 hrow8 _ hb8 _; have HR8 := Lib.hid (show PRow w8 w7.heap.size (.slice a8 n1 c8) L by simpa using hrow8.out); have V8 := Lib.hid (V7.out.later hb8); have HB8 := Lib.hid hb8; clear hrow8 hb8)
    | (at_builtin; refine wpList_appN (w := w8) rfl _ _ rfl w7.heap.size n1 (.slice a8 n1 c8) L M p2 n2 c2 w8.heap.size rfl rfl E2.out E1 HR8.out V8.out.b (by omega) HB8.out.size ?_; intro a9 c9 w9 hrow9 _ hb9 _; have V9 := Lib.hid ((V7.out.later (HB8.out.trans hb9)).setd (show Lst w9 w9.heap.size a9 c9 Y by have := hrow9.out.lst; rwa [HY.out] at this)); clear hrow9 hb9)
    | (go_at_call 15; (with_reducible refine (km _ _ _ (two_lists V9.out.a V9.out.b E1.out E2.out)).mono ?_); rintro e w10 ⟨v, rfl, hR, hb10⟩; (have hsl := hR.slice); (obtain ⟨a10, c10, rfl⟩ := hsl); (have V10 := Lib.hid (V9.out.later (((Below.refl _ w9).alloc (Nat.le_refl _) _).trans (hb10.mono (by simp))))); (have HZ10 := Lib.hid hR.lst); clear hR hb10 km)
    | (go_at_call 14; (with_reducible refine (kr2 _ _ _ V10.out.d).mono ?_); rintro e w11 ⟨v, rfl, hR, hb11⟩; (have hsl := hR.slice); (obtain ⟨a11, c11, rfl⟩ := hsl); (have HZ11 := Lib.hid hR.lst); (have HZ10' := Lib.hid (HZ10.out.later hb11)); (have V11 := Lib.hid (V10.out.later hb11)); clear hR hb11 kr2)
    | (go_at_call 12; (with_reducible refine (kq Z _ _ _ _ _ HZ10'.out.pts HZ11.out.pts hx2).mono ?_); rintro e w12 ⟨rfl, hb12⟩; (have V12 := Lib.hid (V11.out.later hb12)); clear hb12 hx2)
    | (go_at_call 12; (with_reducible refine (kqL _ _ _ _ _ V12.out.a.pts V12.out.c.pts (by omega)).mono ?_); rintro e w13 ⟨rfl, hb13⟩; (have V13 := Lib.hid (V12.out.later hb13)); clear hb13)
    | (go_at_call 16; (with_reducible refine (kso _ _ _ V13.out.a).mono ?_); rintro e w14 ⟨rfl, hb14⟩; (have V14 := Lib.hid (V13.out.later hb14)); clear hb14)
    | (go_at_call 17; (with_reducible refine (kro _ _ _ V14.out.a).mono ?_); rintro e w15 ⟨rfl, hb15⟩; (have V15 := Lib.hid (V14.out.later hb15)); clear hb15))
  go_ret
  exact ⟨by first | rfl | simp, V15.out.bel⟩
end Go.Proofs.YtkomfenjeoaelaaDoor.blockSorts
