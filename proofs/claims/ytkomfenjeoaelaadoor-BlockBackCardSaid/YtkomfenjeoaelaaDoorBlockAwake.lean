/- The chapter's examples hold. -/
import Derived.Test.YtkomfenjeoaelaaDoorBlockSeries
import Derived.Test.YtkomfenjeoaelaaDoorBlockFew
import Derived.Test.YtkomfenjeoaelaaDoorSampleG
import Derived.Test.YtkomfenjeoaelaaDoorSumG
import Derived.Test.YtkomfenjeoaelaaDoorVintA
set_option maxRecDepth 20000
set_option linter.unusedSimpArgs false
namespace Go.Proofs.YtkomfenjeoaelaaDoor
open Go.RowKit Go.Proofs.YtkomfenjeoaelaaDoor.Vi Go.Proofs.YtkomfenjeoaelaaDoor.Mk Go.Proofs.YtkomfenjeoaelaaDoor.Crc

/-- What Build makes of no points. -/
def nilB : ByteArray := sealedB ⟨#[0]⟩
theorem nilB_five : ∃ c1 c2 c3 c4 : UInt8, nilB = ⟨#[0, c1, c2, c3, c4]⟩ := by
  have h : (be (crc [0])).length = 4 := by simp [be]
  match hq : be (crc [0]), h with
  | [c1, c2, c3, c4], _ =>
    refine ⟨c1, c2, c3, c4, ?_⟩
    unfold nilB sealedB
    show (⟨(sealed [0]).toArray⟩ : ByteArray) = _
    unfold sealed
    rw [hq]; rfl
set_option maxHeartbeats 8000000 in
theorem build_nil (w : World) (ht : Tab w) : Calls Tryd.prog 27 #[.slice none 0 0] w fun e w' => e = .returned (.tuple #[.string nilB, .int .i64 0]) ∧ Below w.heap.size w w' := by
  have ks := fun w => psorted_is none 0 [] w ⟨⟨Or.inl rfl⟩, Nat.le_refl _, fun _ => rfl⟩ (by simp)
  rw [show srtB ([] : List Pt) = true from rfl] at ks
  have kn := fun w => series_is none 0 [] w ⟨⟨Or.inl rfl⟩, Nat.le_refl _, fun _ => rfl⟩ (by simp) (fun p hp => by cases hp)
  simp only [List.length_nil, show serL [] = [] from rfl] at ks kn
  have kp : ∀ w, Calls Tryd.prog 46 #[.int .u64 0] w (TextDone ⟨#[0]⟩ w) := fun w => put_is 0 ⟨#[0]⟩ w (by omega) (Lib.hid (by rw [enc_small (by omega)]; rfl))
  have kse := fun w h => sealed_is ⟨#[0]⟩ nilB w (Lib.hid rfl) (by decide) h
  have HT := Lib.hid ht
  obtain ⟨L, hL⟩ : ∃ L, (⟨#[0]⟩ : ByteArray).data.toList = L := ⟨_, rfl⟩
  have HL := Lib.hid (show tx L = ⟨#[0]⟩ by rw [← hL]; rfl)
  have kt := fun (B : Nat) (w : World) (hB : B ≤ w.heap.size) => ownB_of_text B ⟨#[0]⟩ w hB (by decide)
  rw [hL] at kt
  clear ht hL
  go_enter Tryd.func27, Tryd.ntmps27
  go_wp2_with (first
    | (go_at_call 16; (with_reducible refine (ks _).mono ?_); rintro e w1 ⟨rfl, hb1⟩; (have HB1 := Lib.hid hb1); clear hb1))
  refine wp_loop_rounds 1 ?_
  rw [rounds_succ]
  go_wp2_with (first
    | (go_at_call 25; (with_reducible refine (kn _).mono ?_); rintro e w2 ⟨v, rfl, hR2, hb2⟩; (have hsl := hR2.slice); (obtain ⟨a2, c2, rfl⟩ := hsl); (have HB2 := Lib.hid (bel_new (bel_next HB1.out hb2) (.cells #[.int .i64 0, .int .i64 1099511627777] 34))); clear hR2 hb2)
    | (go_at_call 46; (with_reducible refine (kp _).mono ?_); rintro e w4 ⟨rfl, hb4⟩; (obtain ⟨v5, w5, hcv, hO5, hb5⟩ := kt w.heap.size w4 (Nat.le_trans HB2.out.size hb4.size)); (obtain ⟨a5, c5, rfl⟩ := hO5.slice); (have hcw := hO5.whole); (rw [HL.out] at hcw); (have HB5 := Lib.hid (bel_next (bel_next HB2.out hb4) hb5)); clear hb4 hb5))
  refine wp_loop_rounds 1 ?_
  rw [rounds_succ]
  go_wp2_with (first
    | (go_at_call 49; (with_reducible refine (kse _ (HT.out.next HB5.out)).mono ?_); rintro e w6 ⟨rfl, hb6⟩))
  go_ret2
  exact ⟨rfl, bel_next HB5.out hb6⟩
theorem sort_ex : srtR [ptA 5 1, ptA 3 1, ptA 5 2] = [ptA 3 1, ptA 5 2] := by decide +kernel
theorem range_ex : rangeL [ptA 3 1, ptA 5 2] ⟨#[97]⟩ 4 6 = [ptA 5 2] := by decide +kernel
theorem PRow.two {w : World} {B : Nat} {a : Option Addr} {n c : Nat} {p q : Pt} (h : PRow w B (.slice a n c) [p, q]) : ∃ g, a = some ⟨g, 0, none⟩ ∧ PtO w g 0 p ∧ PtO w g 6 q := by
  rcases h.2 with ⟨_, h0⟩ | ⟨g, cap, cur, e, _⟩
  · simp at h0
  · injection e with e1 e2 e3
    subst e1
    rcases h.pts.at_ with h | ⟨b, o, e, _, hc⟩
    · cases h
    · injection e with e
      injection e with e1 e2
      subst e1 e2
      exact ⟨g, rfl, hc 0 (by simp), hc 1 (by simp)⟩
theorem PRow.one {w : World} {B : Nat} {a : Option Addr} {n c : Nat} {p : Pt} (h : PRow w B (.slice a n c) [p]) : ∃ g, a = some ⟨g, 0, none⟩ ∧ PtO w g 0 p := by
  rcases h.2 with ⟨_, h0⟩ | ⟨g, cap, cur, e, _⟩
  · simp at h0
  · injection e with e1 e2 e3
    subst e1
    rcases h.pts.at_ with h | ⟨b, o, e, _, hc⟩
    · cases h
    · injection e with e
      injection e with e1 e2
      subst e1 e2
      exact ⟨g, rfl, hc 0 (by simp)⟩
/-- Three points, one behind the other, in a block. -/
theorem three (W : World) (a b c : Pt) : Lst (W.alloc (.cells #[.string a.s, .int .i64 a.t, .int .i64 a.v, .int .i64 a.st.c, .int .i64 a.st.s, .int .i64 a.st.q, .string b.s, .int .i64 b.t, .int .i64 b.v, .int .i64 b.st.c, .int .i64 b.st.s, .int .i64 b.st.q, .string c.s, .int .i64 c.t, .int .i64 c.v, .int .i64 c.st.c, .int .i64 c.st.s, .int .i64 c.st.q] 32)) (W.alloc (.cells #[.string a.s, .int .i64 a.t, .int .i64 a.v, .int .i64 a.st.c, .int .i64 a.st.s, .int .i64 a.st.q, .string b.s, .int .i64 b.t, .int .i64 b.v, .int .i64 b.st.c, .int .i64 b.st.s, .int .i64 b.st.q, .string c.s, .int .i64 c.t, .int .i64 c.v, .int .i64 c.st.c, .int .i64 c.st.s, .int .i64 c.st.q] 32)).heap.size (some ⟨W.heap.size, 0, none⟩) 3 [a, b, c] := by
  refine ⟨⟨Or.inr ⟨W.heap.size, 0, rfl, by simp, fun j hj => ?_⟩⟩, by simp, fun k => by cases k⟩
  simp at hj
  match j, hj with
  | 0, _ => constructor <;> simp [go_sem]
  | 1, _ => constructor <;> simp [go_sem]
  | 2, _ => constructor <;> simp [go_sem]
set_option maxHeartbeats 16000000 in
theorem awake_is (w : World) (ht : Tab w) : Calls Tryd.prog 10 #[] w fun e w' => e = .returned (.bool true) ∧ Below w.heap.size w w' := by
  have k1 := fun w => point_is 5 1 w (by omega)
  have k2 := fun w => point_is 3 1 w (by omega)
  have k3 := fun w => point_is 5 2 w (by omega)
  have ks := fun W => sort_is _ _ [ptA 5 1, ptA 3 1, ptA 5 2] _ (three W (ptA 5 1) (ptA 3 1) (ptA 5 2)) (by simp) (fun p hp => by simp at hp; rcases hp with rfl | rfl | rfl <;> decide)
  rw [sort_ex] at ks
  have kr := fun a c w h => range_is a c [ptA 3 1, ptA 5 2] ⟨#[97]⟩ 4 6 w h (by simp) (by decide +kernel) (fun p hp => by simp at hp; rcases hp with rfl | rfl <;> decide)
  rw [range_ex] at kr
  have kb := fun w h => build_nil w h
  simp only [List.length_cons, List.length_nil] at ks kr
  unfold ptV ptA at k1 k2 k3
  dsimp only [ptA] at k1 k2 k3 ks kr
  have HT := Lib.hid ht
  obtain ⟨x1, x2, x3, x4, hx⟩ := nilB_five
  rw [hx] at kb
  clear ht hx
  go_enter Tryd.func10, Tryd.ntmps10
  go_wp2_with (first
    | (go_at_call 32; first
      | ((with_reducible refine (k1 _).mono ?_); rintro e w1 ⟨rfl, hb1⟩; (have HB1 := Lib.hid hb1); clear hb1)
      | ((with_reducible refine (k2 _).mono ?_); rintro e w2 ⟨rfl, hb2⟩; (have HB2 := Lib.hid (bel_next HB1.out hb2)); clear hb2)
      | ((with_reducible refine (k3 _).mono ?_); rintro e w3 ⟨rfl, hb3⟩; (have HB3 := Lib.hid (bel_next HB2.out hb3)); clear hb3))
    | (go_at_call 13; (with_reducible refine (ks _).mono ?_); rintro e w4 ⟨v, rfl, hR4, hb4⟩; (have hsl := hR4.slice); (obtain ⟨a4, c4, rfl⟩ := hsl); (have HB4 := Lib.hid (HB3.out.trans (((Below.refl _ w3).alloc (Nat.le_refl _) _).trans (hb4.mono (by simp)) |>.mono HB3.out.size))); (have HL4 := Lib.hid hR4.lst); (obtain ⟨g4, rfl, hp4, hq4⟩ := hR4.two); (have HP4 := Lib.hid hp4); (have HQ4 := Lib.hid hq4); clear hR4 hb4 hp4 hq4)
    | (go_at_call 20; (with_reducible refine (kr _ _ _ HL4.out).mono ?_); rintro e w5 ⟨v, rfl, hR5, hb5⟩; (have hsl := hR5.slice); (obtain ⟨a5, c5, rfl⟩ := hsl); (have HB5 := Lib.hid (bel_next HB4.out hb5)); (have HP5 := Lib.hid (HP4.out.below hb5 HP4.out.room)); (have HQ5 := Lib.hid (HQ4.out.below hb5 HQ4.out.room)); (obtain ⟨g5, rfl, hr5⟩ := hR5.one); (have HR5 := Lib.hid hr5); clear hR5 hb5 hr5)
    | (go_at_call 27; (with_reducible refine (kb _ (HT.out.next HB5.out)).mono ?_); rintro e w6 ⟨rfl, hb6⟩; (have HB6 := Lib.hid (bel_next HB5.out hb6)); (have hp6 := HP5.out.below hb6 HP5.out.room); (have hq6 := HQ5.out.below hb6 HQ5.out.room); (have hr6 := HR5.out.below hb6 HR5.out.room); (obtain ⟨u0, u1, u2, u3, u4, u5⟩ := hp6); (obtain ⟨v0, v1, v2, v3, v4, v5⟩ := hq6); (obtain ⟨y0, y1, y2, y3, y4, y5⟩ := hr6); clear hb6))
  go_ret
  exact ⟨rfl, HB6.out⟩
end Go.Proofs.YtkomfenjeoaelaaDoor
