/- Small and Text of package vint's Reader. -/
import Derived.Test.YtjckphmkhikpaaaVintMeth
namespace Go.Proofs.Ytjckphmkhikpaaa
open Go.RowKit Go.Proofs.Ytjckphmkhikpaaa.Vi

theorem below_drawn (w : World) (n : Nat) : Below w.heap.size w (w.drewN n) := ⟨rfl, rfl, rfl, Nat.le_refl _, fun _ _ => rfl⟩
theorem Took.drewN {b : Nat} {v : Value} {r : ByteArray} {br : Bool} {w w1 : World} (n : Nat) (hR : RA w1 b r br) (hB : But b w w1) : Took b v r br w (.returned v) (w1.drewN n) :=
  ⟨rfl, hR.below (below_drawn _ _), hB.trans (But.of (below_drawn _ _))⟩

set_option maxHeartbeats 1000000 in
theorem small1_none (b c d : Nat) (r : ByteArray) (w : World) (hr : r.size ≤ maxLen) (hg : Hid (getL 0 r.data.toList = none)) (h : RA w b r false) (hc : w.cell? ⟨c, 0, none⟩ = some (.pointer (some ⟨b, 0, none⟩))) :
    Calls Try.prog 85 #[.pointer (some ⟨c, 0, none⟩), .pointer (some ⟨d, 0, none⟩)] w (Took b (.tuple #[.int .i64 0, .bool false]) r false w) := by
  have hk := number_none b r w hr hg h
  go_enter Try.func85, Try.ntmps85
  go_wp2_with (go_at_call 86; (with_reducible refine hk.mono ?_); rintro e w1 ⟨rfl, hR, hB⟩)
  go_quiet (fail)
  go_wp2
  go_ret2
  exact Took.drewN _ hR hB
set_option maxHeartbeats 1000000 in
theorem small1_yes (b c d : Nat) (r r' : ByteArray) (v m : Nat) (most : Int) (w : World) (hr : r.size ≤ maxLen) (hg : Hid (getL 0 r.data.toList = some (v, m))) (hr' : Hid (restB r m = r')) (h : RA w b r false)
    (hc : w.cell? ⟨c, 0, none⟩ = some (.pointer (some ⟨b, 0, none⟩))) (hd : w.cell? ⟨d, 0, none⟩ = some (.int .i64 most)) (hdb : d ≠ b) (h0 : 0 ≤ most) (h1 : most ≤ 9223372036854775807) (hv : (v : Int) ≤ most) :
    Calls Try.prog 85 #[.pointer (some ⟨c, 0, none⟩), .pointer (some ⟨d, 0, none⟩)] w (Took b (.tuple #[.int .i64 (v : Int), .bool true]) r' false w) := by
  have hk := number_some b r r' v m w hr hg hr' h
  have hdr := World.block_lt_of_cell? w _ hd
  go_enter Try.func85, Try.ntmps85
  go_wp2_with (go_at_call 86; (with_reducible refine hk.mono ?_); rintro e w1 ⟨rfl, hR, hB⟩)
  have hd1 : w1.cell? ⟨d, 0, none⟩ = some (.int .i64 most) := (hB.cell (p := ⟨d, 0, none⟩) hdb hdr).trans hd
  have e1 : IntKind.i64.wrap (v : Int) = (v : Int) := IntWalk.i64_in _ (by omega)
  have e2 : IntKind.u64.wrap most = most := by rw [IntKind.wrap_u64]; omega
  clear hk hc hd
  go_quiet (fail)
  go_wp2
  go_ret2
  exact Took.drewN _ hR hB
set_option maxHeartbeats 1000000 in
theorem small1_no (b c d : Nat) (r r' : ByteArray) (v m : Nat) (most : Int) (w : World) (hr : r.size ≤ maxLen) (hg : Hid (getL 0 r.data.toList = some (v, m))) (hr' : Hid (restB r m = r')) (h : RA w b r false)
    (hc : w.cell? ⟨c, 0, none⟩ = some (.pointer (some ⟨b, 0, none⟩))) (hd : w.cell? ⟨d, 0, none⟩ = some (.int .i64 most)) (hdb : d ≠ b) (h1 : most ≤ 9223372036854775807) (hv : most < 0 ∨ most < (v : Int)) :
    Calls Try.prog 85 #[.pointer (some ⟨c, 0, none⟩), .pointer (some ⟨d, 0, none⟩)] w (Took b (.tuple #[.int .i64 (wrap64 (v : Int)), .bool false]) r' false w) := by
  have hk := number_some b r r' v m w hr hg hr' h
  have hdr := World.block_lt_of_cell? w _ hd
  go_enter Try.func85, Try.ntmps85
  go_wp2_with (go_at_call 86; (with_reducible refine hk.mono ?_); rintro e w1 ⟨rfl, hR, hB⟩)
  have hd1 : w1.cell? ⟨d, 0, none⟩ = some (.int .i64 most) := (hB.cell (p := ⟨d, 0, none⟩) hdb hdr).trans hd
  clear hk hc hd
  by_cases h0 : 0 ≤ most
  · have e2 : IntKind.u64.wrap most = most := by rw [IntKind.wrap_u64]; omega
    have e3 : decide ((v : Int) ≤ most) = false := by simp; omega
    clear hv
    go_quiet (fail)
    go_wp2
    go_ret2
    exact Took.drewN _ hR hB
  · have e3 : decide (0 ≤ most) = false := by simp; omega
    clear hv
    go_quiet (fail)
    go_wp2
    go_ret2
    exact Took.drewN _ hR hB
set_option maxHeartbeats 1000000 in
theorem small_is (b : Nat) (r r' : ByteArray) (br br' : Bool) (v most : Int) (w : World) (hr : r.size ≤ maxLen) (h1 : most ≤ 9223372036854775807) (H : Hid (smallQ r br most = (v, r', br'))) (h : RA w b r br) :
    Calls Try.prog 57 #[.pointer (some ⟨b, 0, none⟩), .int .i64 most] w (Took b (.int .i64 v) r' br' w) := by
  have hmf := makeFunc_run
  obtain ⟨W, hW⟩ : ∃ W, (w.alloc (.cells #[.pointer (some ⟨b, 0, none⟩)] 68)).alloc (.cells #[.int .i64 most] 3) = W := ⟨_, rfl⟩
  have hbl : Below w.heap.size w W := by rw [← hW]; exact ((Below.refl _ _).alloc (Nat.le_refl _) _).alloc (by simp) _
  have hA := h.below hbl
  have hroom := h.room
  have hc : W.cell? ⟨w.heap.size, 0, none⟩ = some (.pointer (some ⟨b, 0, none⟩)) := by rw [← hW]; simp [go_sem]
  have hd : W.cell? ⟨w.heap.size + 1, 0, none⟩ = some (.int .i64 most) := by rw [← hW]; simp [go_sem]
  have H := H.out
  unfold smallQ at H
  cases br with
  | true =>
    rw [if_pos rfl] at H
    simp at H
    obtain ⟨rfl, rfl, rfl⟩ := H
    subst hW
    obtain ⟨c0, c1, f0, f1⟩ := h
    go_enter Try.func57, Try.ntmps57
    go_wp2
    go_ret
    exact ⟨rfl, hA, But.of hbl⟩
  | false =>
    have fin : ∀ (x : Int) (r2 : ByteArray) (b2 : Bool), Calls Try.prog 84 #[.pointer (some ⟨b, 0, none⟩), .func (.func 85) #[] #[.pointer (some ⟨w.heap.size, 0, none⟩), .pointer (some ⟨w.heap.size + 1, 0, none⟩)]] W (Took b (.int .i64 x) r2 b2 W) →
        Calls Try.prog 57 #[.pointer (some ⟨b, 0, none⟩), .int .i64 most] w (Took b (.int .i64 x) r2 b2 w) := by
      intro x r2 b2 hk
      subst hW
      go_enter Try.func57, Try.ntmps57
      go_wp2_with (go_at_call 84; (with_reducible refine hk.mono ?_); rintro e w1 ⟨rfl, hR, hB⟩)
      go_ret
      exact ⟨rfl, hR, (But.of hbl).trans hB⟩
    rw [if_neg (by simp)] at H
    cases hf : numF r with
    | none =>
      rw [hf] at H
      simp at H
      obtain ⟨rfl, rfl, rfl⟩ := H
      exact fin _ _ _ (take_int_none b r r 0 _ _ W hA (small1_none b _ _ r W hr (numF_none hf) hA hc))
    | some x =>
      obtain ⟨u, r1⟩ := x
      rw [hf] at H
      simp only at H
      obtain ⟨m, g1, g2⟩ := numF_some hf
      by_cases hcnd : 0 ≤ most ∧ (u : Int) ≤ most
      · rw [if_pos hcnd] at H
        simp at H
        obtain ⟨rfl, rfl, rfl⟩ := H
        exact fin _ _ _ (take_int_some b r _ _ _ _ W hA (small1_yes b _ _ r _ u m most W hr g1 g2 hA hc hd (by omega) hcnd.1 h1 hcnd.2))
      · rw [if_neg hcnd] at H
        simp at H
        obtain ⟨rfl, rfl, rfl⟩ := H
        exact fin _ _ _ (take_int_none b r _ _ _ _ W hA (small1_no b _ _ r _ u m most W hr g1 g2 hA hc hd (by omega) h1 (by omega)))

theorem clone_is (s : ByteArray) (w : World) (hlim : s.size ≤ 100000) : Calls Try.prog 45 #[.string s] w fun e w' => e = .returned (.string s) ∧ Below w.heap.size w w' := by
  have hk := fun w => inner_clone s w hlim
  go_enter Try.func45, Try.ntmps45
  go_wp2_with (go_at_call 79; (with_reducible refine (hk _).mono ?_); rintro e w1 ⟨rfl, hB⟩)
  go_ret
  exact ⟨rfl, hB⟩

set_option maxHeartbeats 1000000 in
theorem text1_none (b : Nat) (r : ByteArray) (w : World) (hr : r.size ≤ 100000) (hg : Hid (getL 0 r.data.toList = none)) (h : RA w b r false) :
    Calls Try.prog 96 #[.pointer (some ⟨b, 0, none⟩)] w (Took b (.tuple #[.string ⟨#[]⟩, .bool false]) r false w) := by
  have hk := number_none b r w (by unfold maxLen; omega) hg h
  go_enter Try.func96, Try.ntmps96
  go_wp2_with (go_at_call 86; (with_reducible refine hk.mono ?_); rintro e w1 ⟨rfl, hR, hB⟩)
  go_ret2
  exact ⟨rfl, hR, hB⟩
set_option maxHeartbeats 1000000 in
theorem text1_no (b : Nat) (r r' : ByteArray) (v m : Nat) (w : World) (hr : r.size ≤ 100000) (hg : Hid (getL 0 r.data.toList = some (v, m))) (hr' : Hid (restB r m = r')) (hz : r'.size ≤ r.size) (h : RA w b r false) (hv : ¬ v ≤ r'.size) :
    Calls Try.prog 96 #[.pointer (some ⟨b, 0, none⟩)] w (Took b (.tuple #[.string ⟨#[]⟩, .bool false]) r' false w) := by
  have hk := number_some b r r' v m w (by unfold maxLen; omega) hg hr' h
  have hv2 : (r'.size : Int) < (v : Int) := by omega
  clear hg hr'
  go_enter Try.func96, Try.ntmps96
  go_wp2_with (go_at_call 86; (with_reducible refine hk.mono ?_); rintro e w1 ⟨rfl, hR, hB⟩; obtain ⟨d0, d1, g0, g1⟩ := hR)
  go_ret2
  exact ⟨rfl, ⟨d0, d1, g0, g1⟩, hB⟩
set_option maxHeartbeats 1000000 in
theorem text1_yes (b : Nat) (r r' t r2 : ByteArray) (v m : Nat) (w : World) (hr : r.size ≤ 100000) (hg : Hid (getL 0 r.data.toList = some (v, m))) (hr' : Hid (restB r m = r')) (hz : r'.size ≤ r.size) (h : RA w b r false) (hv : v ≤ r'.size)
    (ht : Hid (r'.extract 0 v = t)) (hr2 : Hid (restB r' v = r2)) :
    Calls Try.prog 96 #[.pointer (some ⟨b, 0, none⟩)] w (Took b (.tuple #[.string t, .bool true]) r2 false w) := by
  have hk := number_some b r r' v m w (by unfold maxLen; omega) hg hr' h
  have hroom := h.room
  have hts : t.size ≤ 100000 := by rw [← ht.out]; simp; omega
  have hcl := fun w => clone_is t w hts
  have hv2 : (v : Int) ≤ (r'.size : Int) := by omega
  have x1 : r'.extract 0 v = t := ht.out
  have x2 : r'.extract v r'.size = r2 := hr2.out
  clear hg hr' ht hr2
  go_enter Try.func96, Try.ntmps96
  go_wp2_with (first
    | (go_at_call 86; (with_reducible refine hk.mono ?_); rintro e w1 ⟨rfl, hR, hB⟩; obtain ⟨d0, d1, g0, g1⟩ := hR)
    | (go_at_call 45; (with_reducible refine (hcl _).mono ?_); rintro e w2 ⟨rfl, hB2⟩; have hR2 := (⟨d0, d1, g0, g1⟩ : RA _ b r' false).below hB2; have k0 := hR2.c0; have k1 := hR2.c1; have k2 := hR2.f0; have k3 := hR2.f1))
  go_ret2
  exact ⟨rfl, ⟨by simp [go_sem, k0], by simp [go_sem, k1], by simp [go_sem, k2], by simp [go_sem, k3]⟩, (hB.trans (But.of hB2)).setCell _ _⟩

set_option maxHeartbeats 1000000 in
theorem text_is' (b : Nat) (r r' : ByteArray) (br br' : Bool) (v : ByteArray) (w : World) (hr : r.size ≤ 100000) (H : Hid (textQ r br = (v, r', br'))) (h : RA w b r br) :
    Calls Try.prog 87 #[.pointer (some ⟨b, 0, none⟩)] w (Took b (.string v) r' br' w) := by
  have hmf := makeFunc_run
  have H := H.out
  unfold textQ at H
  cases br with
  | true =>
    rw [if_pos rfl] at H
    simp at H
    obtain ⟨rfl, rfl, rfl⟩ := H
    have h0 := h
    obtain ⟨c0, c1, f0, f1⟩ := h
    go_enter Try.func87, Try.ntmps87
    go_wp2
    go_ret
    exact ⟨rfl, h0, But.refl _ _⟩
  | false =>
    have fin : ∀ (x r2 : ByteArray) (b2 : Bool), Calls Try.prog 95 #[.pointer (some ⟨b, 0, none⟩), .func (.func 96) #[.pointer (some ⟨b, 0, none⟩)] #[]] w (Took b (.string x) r2 b2 w) →
        Calls Try.prog 87 #[.pointer (some ⟨b, 0, none⟩)] w (Took b (.string x) r2 b2 w) := by
      intro x r2 b2 hk
      go_enter Try.func87, Try.ntmps87
      go_wp2_with (go_at_call 95; (with_reducible refine hk.mono ?_); rintro e w1 ⟨rfl, hR, hB⟩)
      go_ret
      exact ⟨rfl, hR, hB⟩
    rw [if_neg (by simp)] at H
    cases hf : numF r with
    | none =>
      rw [hf] at H
      simp at H
      obtain ⟨rfl, rfl, rfl⟩ := H
      exact fin _ _ _ (take_str_none b r r _ w h (text1_none b r w hr (numF_none hf) h))
    | some x =>
      obtain ⟨u, r1⟩ := x
      rw [hf] at H
      simp only at H
      obtain ⟨m, g1, g2⟩ := numF_some hf
      have hz := (numF_bounds hf).2
      by_cases hcnd : u ≤ r1.size
      · rw [if_pos hcnd] at H
        simp at H
        obtain ⟨rfl, rfl, rfl⟩ := H
        exact fin _ _ _ (take_str_some b r _ _ w h (text1_yes b r r1 _ _ u m w hr g1 g2 hz h hcnd (Lib.hid rfl) (Lib.hid rfl)))
      · rw [if_neg hcnd] at H
        simp at H
        obtain ⟨rfl, rfl, rfl⟩ := H
        exact fin _ _ _ (take_str_none b r _ _ w h (text1_no b r r1 u m w hr g1 g2 hz h hcnd))
end Go.Proofs.Ytjckphmkhikpaaa
