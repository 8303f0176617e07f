/- The methods of the document's Reader, held against what is left of the text: the same answers as those of package vint's. -/
import Derived.Test.YtjckphmkhikpaaaVintRefRd
namespace Go.Proofs.Ytjckphmkhikpaaa
open Go.RowKit Go.Proofs.Ytjckphmkhikpaaa.Vi

/-- The document's reader of S at a, broken or not, has r left. -/
def Same (S : ByteArray) (a : Nat) (bad : Bool) (r : ByteArray) (br : Bool) : Prop := bad = br ∧ a ≤ S.size ∧ (br = false → r = restB S a) ∧ (br = true → r = ⟨#[]⟩)
/-- The document's reader lies in block d, reads S, and has r left. -/
def RS (w : World) (d : Nat) (S r : ByteArray) (br : Bool) : Prop := ∃ a bad, RB w d S a bad ∧ Same S a bad r br
/-- A method's answer, and what is left then. -/
def RDone (d : Nat) (v : Value) (S r : ByteArray) (br : Bool) (w : World) (e : Ending) (w' : World) : Prop := e = .returned v ∧ RS w' d S r br ∧ But d w w'
theorem RS.room {w : World} {d : Nat} {S r : ByteArray} {br : Bool} (h : RS w d S r br) : d < w.heap.size := by
  obtain ⟨a, bad, h, _⟩ := h; exact h.room
theorem RS.but {w w' : World} {d b : Nat} {S r : ByteArray} {br : Bool} (h : RS w d S r br) (k : But b w w') (hd : d ≠ b) : RS w' d S r br := by
  obtain ⟨a, bad, h, s⟩ := h; exact ⟨a, bad, h.but k hd, s⟩

theorem restB_list (S : ByteArray) (a : Nat) : (restB S a).data.toList = S.data.toList.drop a := by
  unfold restB
  simp [ByteArray.data_extract]
  exact List.take_of_length_le (by simp)
theorem list_inj {s t : ByteArray} (h : s.data.toList = t.data.toList) : s = t := ByteArray.ext (Array.toList_inj.1 h)
theorem restB_restB (S : ByteArray) (a m : Nat) : restB (restB S a) m = restB S (a + m) := by
  apply list_inj
  rw [restB_list, restB_list, restB_list, List.drop_drop]
theorem restB_take (S : ByteArray) (a n : Nat) : (restB S a).extract 0 n = S.extract a (a + n) := by
  apply list_inj
  have := restB_list S a
  simp [ByteArray.data_extract] at this ⊢
  rw [this]

theorem rnum_is (d : Nat) (S r r' : ByteArray) (br br' : Bool) (v : Int) (w : World) (hs : S.size ≤ 100000) (H : Hid (numQ r br = (v, r', br'))) (h : RS w d S r br) :
    Calls Try.prog 89 #[.pointer (some ⟨d, 0, none⟩)] w (RDone d (.int .u64 v) S r' br' w) := by
  obtain ⟨a, bad, h, rfl, ha, hr, hn⟩ := h
  have H := H.out
  unfold numQ at H
  cases bad with
  | true =>
    rw [if_pos rfl] at H
    simp at H
    obtain ⟨rfl, rfl, rfl⟩ := H
    exact (rnum_bad d a S w hs ha h).mono fun e w' ⟨h1, h2, h3⟩ => ⟨h1, ⟨a, true, h2, rfl, ha, fun e => (by cases e), hn⟩, h3⟩
  | false =>
    rw [if_neg (by simp)] at H
    have hr := hr rfl
    subst hr
    cases hf : numF (restB S a) with
    | none =>
      rw [hf] at H
      simp at H
      obtain ⟨rfl, rfl, rfl⟩ := H
      have hg := numF_none hf
      rw [restB_list] at hg
      have hR : getR S.data.toList (a : Int) = (0, 0, 10) := by
        unfold getR
        rw [if_neg (by omega), Int.toNat_natCast, hg]
      exact (rnum_none d a S w hs ha hR h).mono fun e w' ⟨h1, h2, h3⟩ => ⟨h1, ⟨a, true, h2, rfl, ha, fun e => (by cases e), fun _ => rfl⟩, h3⟩
    | some x =>
      obtain ⟨u, r1⟩ := x
      rw [hf] at H
      simp at H
      obtain ⟨rfl, rfl, rfl⟩ := H
      obtain ⟨m, hg, rfl⟩ := numF_some hf
      rw [restB_list] at hg
      have hb := (getL_bounds hg).2.2
      rw [List.length_drop] at hb
      have hsz : S.data.toList.length = S.size := by simp
      have hR : getR S.data.toList (a : Int) = ((u : Int), ((a + m : Nat) : Int), 0) := by
        unfold getR
        rw [if_neg (by omega), Int.toNat_natCast, hg]; simp
      exact (rnum_some d a (a + m) u S w hs ha hR h).mono fun e w' ⟨h1, h2, h3⟩ => ⟨h1, ⟨a + m, false, h2, rfl, by omega, fun _ => restB_restB S a m, fun e => (by cases e)⟩, h3⟩

theorem rint_is (d : Nat) (S r r' : ByteArray) (br br' : Bool) (v z : Int) (w : World) (hs : S.size ≤ 100000) (H : Hid (numQ r br = (v, r', br'))) (hz : Hid (zag v = z)) (h : RS w d S r br) :
    Calls Try.prog 65 #[.pointer (some ⟨d, 0, none⟩)] w (RDone d (.int .i64 z) S r' br' w) := by
  have hk := rnum_is d S r r' br br' v w hs H h
  obtain ⟨h1, h2, _⟩ := numQ_bounds H.out
  have hg := fun w => refZag_any v w h1 h2
  rw [hz.out] at hg
  go_enter Try.func65, Try.ntmps65
  go_wp2_with (first
    | (go_at_call 89; (with_reducible refine hk.mono ?_); rintro e w1 ⟨rfl, hR, hB⟩)
    | (go_at_call 90; (with_reducible refine (hg _).mono ?_); rintro e w2 ⟨rfl, rfl⟩))
  go_ret
  exact ⟨rfl, hR, hB⟩

theorem rend_is (d : Nat) (S r : ByteArray) (br : Bool) (z : Int) (w : World) (H : Hid (endQ r br = z)) (h : RS w d S r br) :
    Calls Try.prog 68 #[.pointer (some ⟨d, 0, none⟩)] w fun e w' => e = .returned (.int .i64 z) ∧ ∃ n, w' = w.drewN n := by
  obtain ⟨a, bad, ⟨c0, c1, c2, f0, f1, f2⟩, rfl, ha, hr, hn⟩ := h
  have H := H.out
  unfold endQ at H
  cases bad with
  | true =>
    rw [if_pos rfl] at H
    subst H
    go_enter Try.func68, Try.ntmps68
    go_wp2_with fail
    go_quiet (fail)
    go_wp2
    go_ret
    exact ⟨rfl, _, rfl⟩
  | false =>
    rw [if_neg (by simp)] at H
    have hr := hr rfl
    subst hr
    rw [restB_size] at H
    by_cases he : S.size - a = 0
    · rw [if_pos he] at H
      subst H
      have e1 : decide (a < S.size) = false := by simp; omega
      clear he
      go_enter Try.func68, Try.ntmps68
      go_wp2_with fail
      go_quiet (fail)
      go_wp2
      go_ret
      exact ⟨rfl, _, rfl⟩
    · rw [if_neg he] at H
      subst H
      have e1 : a < S.size := by omega
      clear he
      go_enter Try.func68, Try.ntmps68
      go_wp2_with fail
      go_quiet (fail)
      go_wp2
      go_ret
      exact ⟨rfl, _, rfl⟩

theorem RB.spoil {w : World} {d a : Nat} {S : ByteArray} {bad : Bool} (h : RB w d S a bad) : RB (w.setCell ⟨d, 2, none⟩ (.bool true)) d S a true := by
  obtain ⟨c0, c1, c2, f0, f1, f2⟩ := h
  exact ⟨by simp [go_sem, c0], by simp [go_sem, c1], by simp [go_sem, c2], by simp [go_sem, f0], by simp [go_sem, f1], by simp [go_sem, f2]⟩

set_option maxHeartbeats 1000000 in
theorem rsmall_yes (d : Nat) (S r r' : ByteArray) (br : Bool) (v : Nat) (most : Int) (w : World) (hs : S.size ≤ 100000) (H : Hid (numQ r br = ((v : Int), r', false))) (h0 : 0 ≤ most) (h1 : most ≤ 9223372036854775807) (hv : (v : Int) ≤ most) (h : RS w d S r br) :
    Calls Try.prog 63 #[.pointer (some ⟨d, 0, none⟩), .int .i64 most] w (RDone d (.int .i64 (v : Int)) S r' false w) := by
  have hk := rnum_is d S r r' br false v w hs H h
  have e1 : IntKind.i64.wrap (v : Int) = (v : Int) := IntWalk.i64_in _ (by omega)
  clear H
  go_enter Try.func63, Try.ntmps63
  go_wp2_with (go_at_call 89; (with_reducible refine hk.mono ?_); rintro e w1 ⟨rfl, ⟨a, bad, hR, rfl, hS⟩, hB⟩; have hR0 := hR; obtain ⟨c0, c1, c2, f0, f1, f2⟩ := hR)
  go_ret
  exact ⟨rfl, ⟨a, false, hR0, rfl, hS.1, fun _ => hS.2.1 trivial, fun e => (by cases e)⟩, hB⟩
set_option maxHeartbeats 1000000 in
theorem rsmall_no (d : Nat) (S r r' : ByteArray) (br br' : Bool) (v : Int) (most : Int) (w : World) (hs : S.size ≤ 100000) (H : Hid (numQ r br = (v, r', br'))) (h1 : most ≤ 9223372036854775807) (hv : br' = true ∨ most < 0 ∨ most < v) (_hv0 : 0 ≤ v) (_hv1 : v ≤ 18446744073709551615) (h : RS w d S r br) :
    Calls Try.prog 63 #[.pointer (some ⟨d, 0, none⟩), .int .i64 most] w (RDone d (.int .i64 0) S ⟨#[]⟩ true w) := by
  have hk := rnum_is d S r r' br br' v w hs H h
  clear H
  by_cases h0 : 0 ≤ most
  · by_cases h2 : v ≤ most
    · obtain rfl : br' = true := by
        rcases hv with h | h
        · exact h
        · omega
      clear hv
      go_enter Try.func63, Try.ntmps63
      go_wp2_with (go_at_call 89; (with_reducible refine hk.mono ?_); rintro e w1 ⟨rfl, ⟨a, bad, hR, rfl, hS⟩, hB⟩; have hR0 := hR; obtain ⟨c0, c1, c2, f0, f1, f2⟩ := hR)
      go_ret
      exact ⟨rfl, ⟨a, true, hR0, rfl, hS.1, fun e => (by cases e), fun _ => rfl⟩, hB⟩
    · have h3 : most < v := by omega
      clear hv
      go_enter Try.func63, Try.ntmps63
      go_wp2_with (go_at_call 89; (with_reducible refine hk.mono ?_); rintro e w1 ⟨rfl, ⟨a, bad, hR, rfl, hS⟩, hB⟩; have hR0 := hR; obtain ⟨c0, c1, c2, f0, f1, f2⟩ := hR)
      go_ret
      exact ⟨rfl, ⟨a, true, hR0.spoil, rfl, hS.1, fun e => (by cases e), fun _ => rfl⟩, hB.setCell _ _⟩
  · have h3 : most < 0 := by omega
    clear hv
    go_enter Try.func63, Try.ntmps63
    go_wp2_with (go_at_call 89; (with_reducible refine hk.mono ?_); rintro e w1 ⟨rfl, ⟨a, bad, hR, rfl, hS⟩, hB⟩; have hR0 := hR; obtain ⟨c0, c1, c2, f0, f1, f2⟩ := hR)
    go_ret
    exact ⟨rfl, ⟨a, true, hR0.spoil, rfl, hS.1, fun e => (by cases e), fun _ => rfl⟩, hB.setCell _ _⟩
theorem rsmall_is (d : Nat) (S r r' : ByteArray) (br br' : Bool) (v most : Int) (w : World) (hs : S.size ≤ 100000) (h1 : most ≤ 9223372036854775807) (H : Hid (smallQ r br most = (v, r', br'))) (h : RS w d S r br) :
    Calls Try.prog 63 #[.pointer (some ⟨d, 0, none⟩), .int .i64 most] w (RDone d (.int .i64 v) S r' br' w) := by
  have H := H.out
  unfold smallQ at H
  cases br with
  | true =>
    rw [if_pos rfl] at H
    simp at H
    obtain ⟨rfl, rfl, rfl⟩ := H
    have hr : r = ⟨#[]⟩ := by
      obtain ⟨a, bad, _, _, _, _, hn⟩ := h; exact hn rfl
    have := rsmall_no d S r r true true 0 most w hs (Lib.hid (by unfold numQ; rw [if_pos rfl])) h1 (Or.inl rfl) (by omega) (by omega) h
    rwa [← hr] at this
  | false =>
    rw [if_neg (by simp)] at H
    cases hf : numF r with
    | none =>
      rw [hf] at H
      simp at H
      obtain ⟨rfl, rfl, rfl⟩ := H
      exact rsmall_no d S r ⟨#[]⟩ false true 0 most w hs (Lib.hid (by unfold numQ; rw [if_neg (by simp), hf])) h1 (Or.inl rfl) (by omega) (by omega) h
    | some x =>
      obtain ⟨u, r1⟩ := x
      rw [hf] at H
      simp only at H
      have hb := (numF_bounds hf).1
      have hn : numQ r false = ((u : Int), r1, false) := by unfold numQ; rw [if_neg (by simp), hf]
      by_cases hcnd : 0 ≤ most ∧ (u : Int) ≤ most
      · rw [if_pos hcnd] at H
        simp at H
        obtain ⟨rfl, rfl, rfl⟩ := H
        exact rsmall_yes d S r _ false u most w hs (Lib.hid hn) hcnd.1 h1 hcnd.2 h
      · rw [if_neg hcnd] at H
        simp at H
        obtain ⟨rfl, rfl, rfl⟩ := H
        exact rsmall_no d S r r1 false false u most w hs (Lib.hid hn) h1 (by omega) (by omega) (by omega) h

theorem RB.drawn {w : World} {d a : Nat} {S : ByteArray} {bad : Bool} (h : RB w d S a bad) (n : Nat) : RB (w.drewN n) d S a bad := h.below (below_drawn _ _)
theorem RB.moved {w : World} {d a : Nat} {S : ByteArray} {bad : Bool} (h : RB w d S a bad) (v : Nat) : RB (w.setCell ⟨d, 1, none⟩ (.int .i64 ((a : Int) + (v : Int)))) d S (a + v) bad := by
  obtain ⟨c0, c1, c2, f0, f1, f2⟩ := h
  exact ⟨by simp [go_sem, c0], by simp [go_sem, c1], by simp [go_sem, c2], by simp [go_sem, f0], by simp [go_sem, f1], by simp [go_sem, f2]⟩
theorem But.drawn {b : Nat} {w w1 : World} (h : But b w w1) (n : Nat) : But b w (w1.drewN n) := h.trans (But.of (below_drawn _ _))

set_option maxHeartbeats 1000000 in
theorem rtext_bad (d : Nat) (S r r' : ByteArray) (br : Bool) (v : Int) (w : World) (hs : S.size ≤ 100000) (H : Hid (numQ r br = (v, r', true))) (h : RS w d S r br) :
    Calls Try.prog 64 #[.pointer (some ⟨d, 0, none⟩)] w (RDone d (.string ⟨#[]⟩) S ⟨#[]⟩ true w) := by
  have hk := rnum_is d S r r' br true v w hs H h
  clear H
  go_enter Try.func64, Try.ntmps64
  go_wp2_with (go_at_call 89; (with_reducible refine hk.mono ?_); rintro e w1 ⟨rfl, ⟨a, bad, hR, rfl, hS⟩, hB⟩; have hR0 := hR; obtain ⟨c0, c1, c2, f0, f1, f2⟩ := hR)
  go_quiet (fail)
  go_wp2
  go_ret
  exact ⟨rfl, ⟨a, true, (hR0.drawn _).spoil, rfl, hS.1, fun e => (by cases e), fun _ => rfl⟩, (hB.drawn _).setCell _ _⟩
set_option maxHeartbeats 1000000 in
theorem rtext_no (d : Nat) (S r r' : ByteArray) (br : Bool) (v : Nat) (w : World) (hs : S.size ≤ 100000) (_hv0 : v < 18446744073709551616) (H : Hid (numQ r br = ((v : Int), r', false))) (hv : ¬ v ≤ r'.size) (h : RS w d S r br) :
    Calls Try.prog 64 #[.pointer (some ⟨d, 0, none⟩)] w (RDone d (.string ⟨#[]⟩) S ⟨#[]⟩ true w) := by
  have hk := rnum_is d S r r' br false v w hs H h
  clear H
  go_enter Try.func64, Try.ntmps64
  go_wp2_with (go_at_call 89; (with_reducible refine hk.mono ?_); rintro e w1 ⟨rfl, ⟨a, bad, hR, rfl, hS⟩, hB⟩; have hR0 := hR; obtain ⟨c0, c1, c2, f0, f1, f2⟩ := hR)
  obtain ⟨hS1, hS2, _⟩ := hS
  have hr := congrArg ByteArray.size (hS2 trivial)
  rw [restB_size] at hr
  have e1 : IntKind.i64.wrap ((S.size : Int) - (a : Int)) = (S.size : Int) - (a : Int) := IntWalk.i64_in _ (by omega)
  have e2 : IntKind.u64.wrap ((S.size : Int) - (a : Int)) = (S.size : Int) - (a : Int) := by rw [IntKind.wrap_u64]; omega
  have e3 : (S.size : Int) - (a : Int) < (v : Int) := by omega
  clear hr hv hS2
  go_quiet (fail)
  go_wp2
  go_ret
  exact ⟨rfl, ⟨a, true, (hR0.drawn _).spoil, rfl, hS1, fun e => (by cases e), fun _ => rfl⟩, (hB.drawn _).setCell _ _⟩
set_option maxHeartbeats 1000000 in
theorem rtext_yes (d : Nat) (S r r' t r2 : ByteArray) (br : Bool) (v : Nat) (w : World) (hs : S.size ≤ 100000) (H : Hid (numQ r br = ((v : Int), r', false))) (hv : v ≤ r'.size) (ht : Hid (r'.extract 0 v = t)) (hr2 : Hid (restB r' v = r2)) (h : RS w d S r br) :
    Calls Try.prog 64 #[.pointer (some ⟨d, 0, none⟩)] w (RDone d (.string t) S r2 false w) := by
  have hk := rnum_is d S r r' br false v w hs H h
  clear H
  go_enter Try.func64, Try.ntmps64
  go_wp2_with (go_at_call 89; (with_reducible refine hk.mono ?_); rintro e w1 ⟨rfl, ⟨a, bad, hR, rfl, hS⟩, hB⟩; have hR0 := hR; obtain ⟨c0, c1, c2, f0, f1, f2⟩ := hR)
  obtain ⟨hS1, hS2, _⟩ := hS
  have hS3 := hS2 trivial
  have hr := congrArg ByteArray.size hS3
  rw [restB_size] at hr
  rw [hS3] at ht hr2
  have ht' := ht.out
  rw [restB_take] at ht'
  have hr2' := hr2.out
  rw [restB_restB] at hr2'
  have HR2 := Lib.hid hr2'
  have e1 : IntKind.i64.wrap ((S.size : Int) - (a : Int)) = (S.size : Int) - (a : Int) := IntWalk.i64_in _ (by omega)
  have e2 : IntKind.u64.wrap ((S.size : Int) - (a : Int)) = (S.size : Int) - (a : Int) := by rw [IntKind.wrap_u64]; omega
  have e3 : decide ((S.size : Int) - (a : Int) < (v : Int)) = false := by simp; omega
  have e4 : IntKind.i64.wrap (v : Int) = (v : Int) := IntWalk.i64_in _ (by omega)
  have e5 : IntKind.i64.wrap ((a : Int) + (v : Int)) = (a : Int) + (v : Int) := IntWalk.i64_in _ (by omega)
  have e6 : ((a : Int) + (v : Int)).toNat = a + v := by omega
  have e7 : (a : Int) ≤ (a : Int) + (v : Int) := by omega
  have e8 : (a : Int) + (v : Int) ≤ (S.size : Int) := by omega
  have e9 : (0 : Int) ≤ (a : Int) + (v : Int) := by omega
  have e10 : a + v ≤ S.size := by omega
  clear hr hv hS2 hS3 ht hr2 hr2'
  go_quiet (fail)
  go_wp2_with fail
  go_quiet (fail)
  go_wp2
  go_ret
  exact ⟨rfl, ⟨a + v, false, (hR0.drawn _).moved v, rfl, e10, fun _ => HR2.out.symm, fun e => (by cases e)⟩, (hB.drawn _).setCell _ _⟩

theorem rtext_is (d : Nat) (S r r' : ByteArray) (br br' : Bool) (v : ByteArray) (w : World) (hs : S.size ≤ 100000) (H : Hid (textQ r br = (v, r', br'))) (h : RS w d S r br) :
    Calls Try.prog 64 #[.pointer (some ⟨d, 0, none⟩)] w (RDone d (.string v) S r' br' w) := by
  have H := H.out
  unfold textQ at H
  cases br with
  | true =>
    rw [if_pos rfl] at H
    simp at H
    obtain ⟨rfl, rfl, rfl⟩ := H
    have hr : r = ⟨#[]⟩ := by
      obtain ⟨a, bad, _, _, _, _, hn⟩ := h; exact hn rfl
    subst hr
    exact rtext_bad d S ⟨#[]⟩ ⟨#[]⟩ true 0 w hs (Lib.hid (by unfold numQ; rw [if_pos rfl])) h
  | false =>
    rw [if_neg (by simp)] at H
    cases hf : numF r with
    | none =>
      rw [hf] at H
      simp at H
      obtain ⟨rfl, rfl, rfl⟩ := H
      exact rtext_bad d S r ⟨#[]⟩ false 0 w hs (Lib.hid (by unfold numQ; rw [if_neg (by simp), hf])) h
    | some x =>
      obtain ⟨u, r1⟩ := x
      rw [hf] at H
      simp only at H
      have hb := (numF_bounds hf).1
      have hn : numQ r false = ((u : Int), r1, false) := by unfold numQ; rw [if_neg (by simp), hf]
      by_cases hcnd : u ≤ r1.size
      · rw [if_pos hcnd] at H
        simp at H
        obtain ⟨rfl, rfl, rfl⟩ := H
        exact rtext_yes d S r r1 _ _ false u w hs (Lib.hid hn) hcnd (Lib.hid rfl) (Lib.hid rfl) h
      · rw [if_neg hcnd] at H
        simp at H
        obtain ⟨rfl, rfl, rfl⟩ := H
        exact rtext_no d S r r1 false u w hs hb (Lib.hid hn) hcnd h
/-- What the methods leave is no longer than what was there. -/
theorem smallQ_size {r r' : ByteArray} {br br' : Bool} {m v : Int} (H : smallQ r br m = (v, r', br')) : r'.size ≤ r.size := by
  unfold smallQ at H
  split at H
  · simp at H; obtain ⟨rfl, rfl, rfl⟩ := H; exact Nat.le_refl _
  · split at H
    · simp at H; obtain ⟨rfl, rfl, rfl⟩ := H; exact Nat.zero_le _
    · rename_i u r1 hf
      have := (numF_bounds hf).2
      split at H
      · simp at H; obtain ⟨rfl, rfl, rfl⟩ := H; exact this
      · simp at H; obtain ⟨rfl, rfl, rfl⟩ := H; exact Nat.zero_le _
theorem textQ_size {r r' : ByteArray} {br br' : Bool} {v : ByteArray} (H : textQ r br = (v, r', br')) : r'.size ≤ r.size := by
  unfold textQ at H
  split at H
  · simp at H; obtain ⟨rfl, rfl, rfl⟩ := H; exact Nat.le_refl _
  · split at H
    · simp at H; obtain ⟨rfl, rfl, rfl⟩ := H; exact Nat.zero_le _
    · rename_i u r1 hf
      have := (numF_bounds hf).2
      split at H
      · simp at H; obtain ⟨rfl, rfl, rfl⟩ := H; rw [restB_size]; omega
      · simp at H; obtain ⟨rfl, rfl, rfl⟩ := H; exact Nat.zero_le _
end Go.Proofs.Ytjckphmkhikpaaa
