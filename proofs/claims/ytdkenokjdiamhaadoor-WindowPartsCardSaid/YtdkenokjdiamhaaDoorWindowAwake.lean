/- awake: the chapter's examples hold. -/
import Derived.Test.YtdkenokjdiamhaaDoorWindowNew
import Derived.Test.YtdkenokjdiamhaaDoorWindowGets
import Derived.Test.YtdkenokjdiamhaaDoorWindowFns2
set_option maxRecDepth 20000
namespace Go.Proofs.YtdkenokjdiamhaaDoor
open Go.RowKit

/-- Held through awake: the span of 5 to 25, the widths. -/
structure AwH (w : World) (wr : World) : Prop where
  s : SpAt wr w.heap.size ⟨5, 25⟩
  tab : Tab wr
  bel : Below w.heap.size w wr
theorem AwH.keep {w w1 w2 : World} (h : AwH w w1) (k : Below w1.heap.size w1 w2) : AwH w w2 := ⟨h.s.below k, h.tab.next k, bel_next h.bel k⟩
theorem AwH.upto {w w1 w2 : World} (h : AwH w w1) (hT : Tab w) (k : Below (w.heap.size + 1) w1 w2) : AwH w w2 :=
  ⟨⟨(k.cell (p := ⟨w.heap.size, 0, none⟩) (Nat.lt_succ_self _)).trans h.s.c0, (k.cell (p := ⟨w.heap.size, 1, none⟩) (Nat.lt_succ_self _)).trans h.s.c1⟩, h.tab.below k (by have := hT.room; omega), h.bel.trans (k.mono (Nat.le_succ _))⟩
def two1 : List Sp := [⟨0, 5⟩, ⟨5, 9⟩]
def two2 : List Sp := [⟨0, 2⟩, ⟨4, 9⟩]
theorem two2_canon : Canon two2 := ⟨by decide, by decide⟩
theorem awake_new {T : List Sp} (h : NewOk two1 T) : T = [⟨0, 9⟩] := by
  refine Canon.uniq h.canon ⟨by simp, by simp⟩ fun x => ?_
  rw [h.has x]
  unfold inS two1
  simp only [List.mem_cons, List.not_mem_nil, or_false, exists_eq_or_imp, exists_eq_left]
  have e1 : (⟨0, 5⟩ : Sp).some_ = true := by decide
  have e2 : (⟨5, 9⟩ : Sp).some_ = true := by decide
  rw [e1, e2]
  simp
  omega
theorem awake_take {T : List Sp} (h : TakeOk [⟨0, 9⟩] ⟨2, 4⟩ T) : T = two2 := by
  refine Canon.uniq h.canon two2_canon fun x => ?_
  rw [h.has x]
  unfold inS two2
  simp only [List.mem_cons, List.not_mem_nil, or_false, exists_eq_or_imp, exists_eq_left]
  have e1 : (⟨2, 4⟩ : Sp).some_ = true := by decide
  rw [e1]
  simp
  omega

set_option maxHeartbeats 8000000 in
theorem awake_is (w : World) (hT : Tab w) : Calls Tryd.prog 10 #[] w fun e w' => e = .returned (.bool true) ∧ Below w.heap.size w w' := by
  have hB0 := (Below.refl w.heap.size w).alloc (Nat.le_refl _) (.cells #[.int .i64 5, .int .i64 25] 26)
  have hH0 : AwH w (w.alloc (.cells #[.int .i64 5, .int .i64 25] 26)) := ⟨SpAt.new w ⟨5, 25⟩ _, hT.alloc _, hB0⟩
  have hH1 := hH0.keep ((Below.refl _ _).alloc (Nat.le_refl _) (.cells #[.int .i64 0, .int .i64 5, .int .i64 5, .int .i64 9] 26))
  have hsp : Sps ((w.alloc (.cells #[.int .i64 5, .int .i64 25] 26)).alloc (.cells #[.int .i64 0, .int .i64 5, .int .i64 5, .int .i64 9] 26)) ((w.alloc (.cells #[.int .i64 5, .int .i64 25] 26)).alloc (.cells #[.int .i64 0, .int .i64 5, .int .i64 5, .int .i64 9] 26)).heap.size (some ⟨w.heap.size + 1, 0, none⟩) two1 := by
    refine ⟨Or.inr ⟨w.heap.size + 1, 0, rfl, by simp, fun j hj => ?_⟩⟩
    have : j = 0 ∨ j = 1 := by unfold two1 at hj; simp at hj; omega
    rcases this with rfl | rfl <;> constructor <;> simp [go_sem, two1]
  have kn := new_is (some ⟨w.heap.size + 1, 0, none⟩) 2 two1 (Or.inr rfl) (Lib.hid (by
    intro k h
    have : k = 0 := by unfold two1 at h; simp at h; omega
    subst this; exact (by decide : (0 : Int) ≤ 5))) (by decide) _ hsp
  have kt := fun b v w (h : SetAt w b v [⟨0, 9⟩]) => take_is b v [⟨0, 9⟩] ⟨2, 4⟩ w h ⟨by simp, by simp⟩ (by simp)
  have ks := fun b v w (h : SetAt w b v two2) => pspans_is b v two2 w h (by decide)
  have s1 := fun w h => start_is 3599 3 0 w h (by omega) (Lib.hid (by decide))
  have s2 := fun w h => start_is 61 2 60 w h (by omega) (Lib.hid (by decide))
  have s3 := fun w h => start_is (-1) 1 (-1) w h (by omega) (Lib.hid (by decide))
  have kc := fun w h => cover_is ⟨5, 25⟩ ⟨0, 30⟩ 1 w h (Lib.hid (by decide))
  have ki := fun w h => inner_is ⟨5, 25⟩ ⟨10, 20⟩ 1 w h (Lib.hid (by decide))
  have ko := fun w h => count_is ⟨5, 25⟩ 1 3 w h (Lib.hid (by decide))
  have q1 : ∀ w, (binOp .eql 26 (.agg #[.int .i64 0, .int .i64 30]) (.agg #[.int .i64 0, .int .i64 30])).run Tryd.prog w = .ok (.bool true) w := fun w => sp_eql ⟨0, 30⟩ ⟨0, 30⟩ w
  have q2 : ∀ w, (binOp .eql 26 (.agg #[.int .i64 10, .int .i64 20]) (.agg #[.int .i64 10, .int .i64 20])).run Tryd.prog w = .ok (.bool true) w := fun w => sp_eql ⟨10, 20⟩ ⟨10, 20⟩ w
  have q3 : ∀ w, (binOp .eql 26 (.agg #[.int .i64 0, .int .i64 2]) (.agg #[.int .i64 0, .int .i64 2])).run Tryd.prog w = .ok (.bool true) w := fun w => sp_eql ⟨0, 2⟩ ⟨0, 2⟩ w
  have q4 : ∀ w, (binOp .eql 26 (.agg #[.int .i64 4, .int .i64 9]) (.agg #[.int .i64 4, .int .i64 9])).run Tryd.prog w = .ok (.bool true) w := fun w => sp_eql ⟨4, 9⟩ ⟨4, 9⟩ w
  have H1 := Lib.hid hH1
  have HT := Lib.hid hT
  unfold Sp.v at kt kc ki ko
  rw [show two1.length = 2 from rfl] at kn
  clear hsp hH0 hH1 hB0
  go_enter Tryd.func10, Tryd.ntmps10
  go_wp2_with (first
    | (go_at_call 33; (with_reducible refine kn.mono ?_); rintro e w2 ⟨b, v, T, rfl, hb, hset, hok, hb2⟩; (obtain rfl := awake_new hok); (have H2 := Lib.hid (H1.out.keep hb2)); (have HB := Lib.hid hb); (have kt1 := kt b v w2 hset); (have HOWN := Lib.hid hset.own); clear hok hset hb2 hb)
    | (go_at_call 35; (with_reducible refine kt1.mono ?_); rintro e w3 ⟨T, ⟨v3, rfl, hset3, hmv⟩, hok3⟩; (obtain rfl := awake_take hok3); (have H3 := Lib.hid (H2.out.upto HT.out (hmv.below (by have := HB.out; have := H2.out.s.room; omega) (by have := HB.out; simp at this; omega) (fun k e => by have := HOWN.out k e; have := HB.out; simp at this; omega)))); (have ks1 := ks b v3 w3 hset3); (generalize changed two2 [⟨0, 9⟩] = z3); clear hok3 hset3 hmv)
    | (go_at_call 39; (with_reducible refine ks1.mono ?_); rintro e w4 ⟨v4, rfl, hR, hb4⟩; (obtain ⟨a4, c4, rfl⟩ := hR.slice); (have HSP := Lib.hid hR.sps); (have H4 := Lib.hid (H3.out.keep hb4)); (rw [show two2.length = 2 from rfl]); clear hR hb4))
  rcases HSP.out.at_ with h0 | ⟨g, off, rfl, hgw, hc⟩
  · cases h0
  · have d0 : SpO w4 g off ⟨0, 2⟩ := hc 0 (by decide)
    have d1 : SpO w4 g (off + 2) ⟨4, 9⟩ := hc 1 (by decide)
    have D0 := Lib.hid d0
    have D1 := Lib.hid d1
    have HG := Lib.hid hgw
    have hs4 := H4.out.s
    obtain ⟨x0, x1⟩ := hs4
    clear hc d0 d1 hgw
    go_wp2_with (first
      | (go_at_call 13; first
        | ((with_reducible refine (s1 _ H4.out.tab).mono ?_); rintro e w5 ⟨rfl, rfl⟩)
        | ((with_reducible refine (s2 _ H4.out.tab).mono ?_); rintro e w5 ⟨rfl, rfl⟩)
        | ((with_reducible refine (s3 _ H4.out.tab).mono ?_); rintro e w5 ⟨rfl, rfl⟩))
      | (go_at_call 25; (with_reducible refine (kc _ H4.out.tab).mono ?_); rintro e w5 ⟨rfl, hb5⟩; (have H5 := Lib.hid (H4.out.keep hb5)); (have D05 := Lib.hid (D0.out.below hb5 HG.out)); (have D15 := Lib.hid (D1.out.below hb5 HG.out)); (have HG5 := Lib.hid (Nat.lt_of_lt_of_le HG.out hb5.size)); (have hs5 := H5.out.s); (obtain ⟨y0, y1⟩ := hs5); clear hb5)
      | (go_at_call 27; (with_reducible refine (ki _ H5.out.tab).mono ?_); rintro e w6 ⟨rfl, hb6⟩; (have H6 := Lib.hid (H5.out.keep hb6)); (have D06 := Lib.hid (D05.out.below hb6 HG5.out)); (have D16 := Lib.hid (D15.out.below hb6 HG5.out)); (have HG6 := Lib.hid (Nat.lt_of_lt_of_le HG5.out hb6.size)); (have hs6 := H6.out.s); (obtain ⟨z0, z1⟩ := hs6); clear hb6)
      | (go_at_call 29; (with_reducible refine (ko _ H6.out.tab).mono ?_); rintro e w7 ⟨rfl, hb7⟩; (have H7 := Lib.hid (H6.out.keep hb7)); (have D07 := D06.out.below hb7 HG6.out); (have D17 := D16.out.below hb7 HG6.out); (obtain ⟨u0, u1⟩ := D07); (obtain ⟨u2, u3⟩ := D17); (have u4 : w7.cell? ⟨g, off + 3, none⟩ = some (.int .i64 9) := u3); clear hb7))
    go_ret
    exact ⟨rfl, H7.out.bel⟩
end Go.Proofs.YtdkenokjdiamhaaDoor
