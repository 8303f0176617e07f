/- The walk of law SampleBack: it returns true and turns nothing that was there. -/
import Derived.Test.YtjckphmkhikpaaaSampleBackMath
set_option maxRecDepth 50000
namespace Go.Proofs.Ytjckphmkhikpaaa.sampleBack
open Go.RowKit Go.Proofs.Ytjckphmkhikpaaa Go.Proofs.Ytjckphmkhikpaaa.Vi Go.Proofs.Ytjckphmkhikpaaa.Mk

set_option maxHeartbeats 16000000 in
theorem back_n0 (a b R0 R1 : Rec) (dv0 dv1 : Value) (a0 : Option Addr) (cap0 : Nat) (l m : List Pt) (w : World) (e0 : R0.small = a) (e1 : R1.small = b) (em : fewL l = m) (hr0 : R0.wide) (hA0 : ArgNs w dv0 R0.d) (hr1 : R1.wide) (hA1 : ArgNs w dv1 R1.d) (hS : Pts w w.heap.size a0 l) (hl : l.length ≤ 9223372036854775807) (hf : ∀ p ∈ l, p.fits) (ha : a.ok = false) (hg : m.all Pt.ok = false) : Calls Try.prog 6 #[recV R0 dv0, recV R1 dv1, .slice a0 l.length cap0] w fun e w' => e = .returned (.bool true) ∧ Below w.heap.size w w' := by
  have hfa := hr0.small
  have hfb := hr1.small
  have hNa := hA0.cut
  have hNb := hA1.cut
  have hs0 := fun w h => lsmall_cut R0 dv0 w h
  have hs1 := fun w h => lsmall_cut R1 dv1 w h
  have d0 : R0.d.take 12 = a.d := by rw [← e0]; rfl
  have d1 : R1.d.take 12 = b.d := by rw [← e1]; rfl
  rw [e0] at hfa hs0
  rw [e1] at hfb hs1
  rw [d0] at hNa
  rw [d1] at hNb
  obtain ⟨da, hda⟩ : ∃ dv, cut12 dv0 = dv := ⟨_, rfl⟩
  obtain ⟨db, hdb⟩ : ∃ dv, cut12 dv1 = dv := ⟨_, rfl⟩
  rw [hda] at hNa hs0
  rw [hdb] at hNb hs1
  clear hda hdb e0 e1 d0 d1
  obtain ⟨ya, za, rfl⟩ := hNa.slice
  obtain ⟨yb, zb, rfl⟩ := hNb.slice
  have hka := fun w h => bytes6_is a (.slice ya a.d.length za) w h hfa
  have hkb := fun w h => bytes6_is b (.slice yb b.d.length zb) w h hfb
  have hmf := fun p (hp : p ∈ m) => (⟨by rw [← em] at hp; have := fewL_short hp; omega, by rw [← em] at hp; exact (fewL_fits hf hp).v⟩ : p.s.size ≤ 1000000 ∧ p.vfit)
  have hm30 : m.length ≤ 30 := by rw [← em]; exact fewL_len l
  have hk := fun w h => few_is a0 cap0 l w h hl
  have hP := fun a5 c5 w h => points_is a5 c5 m w h (by omega) hmf
  unfold FewDone at hk
  unfold PointsDone at hP
  rw [em] at hk
  have ea : a.enc = (⟨#[]⟩, 1) := by unfold Rec.enc; rw [ha]; rfl
  obtain ⟨tb, fb, eb⟩ : ∃ t f, b.enc = (t, f) := ⟨_, _, rfl⟩
  rw [ea] at hka
  rw [eb] at hkb
  dsimp only at hka hkb
  have epg : ptsA m = (⟨#[]⟩, 1) := by unfold ptsA; rw [if_neg (by rw [hg]; simp)]
  rw [epg] at hP
  dsimp only at hP
  have HA0 := Lib.hid hA0
  have HA1 := Lib.hid hA1
  have HNA := Lib.hid hNa
  have HNB := Lib.hid hNb
  have HS := Lib.hid hS
  have HM := Lib.hid hm30
  have Ab : RecW (w.alloc (.cells #[.int .i64 R0.k, .string R0.s, .int .i64 R0.t, .int .i64 R0.v, .int .i64 R0.tier, .int .i64 R0.st.c, .int .i64 R0.st.s, .int .i64 R0.st.q, dv0] 26)) w.heap.size R0 dv0 := RecW.new w R0 dv0
  have A0 := Ab.below ((Below.refl _ _).alloc (Nat.le_refl _) (.cells #[.int .i64 R1.k, .string R1.s, .int .i64 R1.t, .int .i64 R1.v, .int .i64 R1.tier, .int .i64 R1.st.c, .int .i64 R1.st.s, .int .i64 R1.st.q, dv1] 26))
  have C0 : RecW ((w.alloc (.cells #[.int .i64 R0.k, .string R0.s, .int .i64 R0.t, .int .i64 R0.v, .int .i64 R0.tier, .int .i64 R0.st.c, .int .i64 R0.st.s, .int .i64 R0.st.q, dv0] 26)).alloc (.cells #[.int .i64 R1.k, .string R1.s, .int .i64 R1.t, .int .i64 R1.v, .int .i64 R1.tier, .int .i64 R1.st.c, .int .i64 R1.st.s, .int .i64 R1.st.q, dv1] 26)) (w.heap.size + 1) R1 dv1 := by have := RecW.new (w.alloc (.cells #[.int .i64 R0.k, .string R0.s, .int .i64 R0.t, .int .i64 R0.v, .int .i64 R0.tier, .int .i64 R0.st.c, .int .i64 R0.st.s, .int .i64 R0.st.q, dv0] 26)) R1 dv1; simpa using this
  have B0 : Below w.heap.size w ((w.alloc (.cells #[.int .i64 R0.k, .string R0.s, .int .i64 R0.t, .int .i64 R0.v, .int .i64 R0.tier, .int .i64 R0.st.c, .int .i64 R0.st.s, .int .i64 R0.st.q, dv0] 26)).alloc (.cells #[.int .i64 R1.k, .string R1.s, .int .i64 R1.t, .int .i64 R1.v, .int .i64 R1.tier, .int .i64 R1.st.c, .int .i64 R1.st.s, .int .i64 R1.st.q, dv1] 26)) := bel_new ((Below.refl _ _).alloc (Nat.le_refl _) _) _
  unfold recV at hka hkb hs0 hs1 ⊢
  clear Ab hA0 hA1 hNa hNb hS hm30 hmf hfa hfb hr0 hr1 hf hl hg epg em ea eb ha 
  go_enter Try.func6, Try.ntmps6
  go_wp2_with (first
    | (go_at_call 9; (with_reducible refine (awake_any _).mono ?_); rintro e w1 ⟨rfl, hb1⟩; have A1 := A0.below hb1; have C1 := C0.below hb1; have B1 := bel_next B0 hb1; have G := A1; obtain ⟨⟨x0, x1, x2, x3, x4, x5, x6, x7, x8⟩, y0, y1, y2, y3, y4, y5, y6, y7, y8⟩ := G; have G := C1; obtain ⟨⟨u0, u1, u2, u3, u4, u5, u6, u7, u8⟩, v0, v1, v2, v3, v4, v5, v6, v7, v8⟩ := G)
    | (go_at_call 10; first | ((with_reducible refine (hs0 _ (HA0.out.below B1)).mono ?_); rintro e w2 ⟨rfl, hb2⟩; have A2 := A1.below hb2; have C2 := C1.below hb2; have B2 := bel_next B1 hb2; have A3 := A2.nine (r := a) (dv := (.slice ya a.d.length za)); have C3 := C2.nine_other (b := w.heap.size) (r := a) (dv := (.slice ya a.d.length za)) (by omega); have B3 := nine_bel (b := w.heap.size) (r := a) (dv := (.slice ya a.d.length za)) B2 (Nat.le_refl _); unfold nine at A3 C3 B3; have G := A2; obtain ⟨⟨x0, x1, x2, x3, x4, x5, x6, x7, x8⟩, y0, y1, y2, y3, y4, y5, y6, y7, y8⟩ := G; have G := C2; obtain ⟨⟨u0, u1, u2, u3, u4, u5, u6, u7, u8⟩, v0, v1, v2, v3, v4, v5, v6, v7, v8⟩ := G; (have G := C3.at_; obtain ⟨u0, u1, u2, u3, u4, u5, u6, u7, u8⟩ := G)) | ((with_reducible refine (hs1 _ (HA1.out.below B3)).mono ?_); rintro e w4 ⟨rfl, hb4⟩; have A4 := A3.below hb4; have C4 := C3.below hb4; have B4 := bel_next B3 hb4; have A5 := A4.nine_other (b := w.heap.size + 1) (r := b) (dv := (.slice yb b.d.length zb)) (by omega); have C5 := C4.nine (r := b) (dv := (.slice yb b.d.length zb)); have B5 := nine_bel (b := w.heap.size + 1) (r := b) (dv := (.slice yb b.d.length zb)) B4 (Nat.le_succ _); have hSp := (HS.out.below B5).mono B5.size; have T5 : TwoR w w.heap.size (w.heap.size + 1) a b (.slice ya a.d.length za) (.slice yb b.d.length zb) _ := ⟨A5, C5, (HNA.out.below B5).mono B5.size (Nat.le_refl _), (HNB.out.below B5).mono B5.size (Nat.le_refl _), B5⟩; unfold nine at T5 hSp; clear A5 C5 B5; have G := A4; obtain ⟨⟨x0, x1, x2, x3, x4, x5, x6, x7, x8⟩, y0, y1, y2, y3, y4, y5, y6, y7, y8⟩ := G; have G := C4; obtain ⟨⟨u0, u1, u2, u3, u4, u5, u6, u7, u8⟩, v0, v1, v2, v3, v4, v5, v6, v7, v8⟩ := G))
    | (go_at_call 26; (with_reducible refine (hk _ hSp).mono ?_); rintro e w6 ⟨v, rfl, hR, hb6⟩; obtain ⟨a5, c5, rfl⟩ := hR.slice; have T6 := T5.keep hb6; have G := T6.at0; obtain ⟨⟨x0, x1, x2, x3, x4, x5, x6, x7, x8⟩, y0, y1, y2, y3, y4, y5, y6, y7, y8⟩ := G; have G := T6.at1; obtain ⟨⟨u0, u1, u2, u3, u4, u5, u6, u7, u8⟩, v0, v1, v2, v3, v4, v5, v6, v7, v8⟩ := G)
    | (go_at_call 12; first | ((with_reducible refine (hka _ T6.n0).mono ?_); rintro e w7 ⟨rfl, hb7⟩; have T7 := T6.keep hb7; have hR7 := hR.later hb7; have G := T7.at0; obtain ⟨⟨x0, x1, x2, x3, x4, x5, x6, x7, x8⟩, y0, y1, y2, y3, y4, y5, y6, y7, y8⟩ := G; have G := T7.at1; obtain ⟨⟨u0, u1, u2, u3, u4, u5, u6, u7, u8⟩, v0, v1, v2, v3, v4, v5, v6, v7, v8⟩ := G) | ((with_reducible refine (hkb _ T7.n1).mono ?_); rintro e w8 ⟨rfl, hb8⟩; have T8 := T7.keep hb8; have hR8 := hR7.later hb8; have hP8 := hR8.pts; have G := T8.at0; obtain ⟨⟨x0, x1, x2, x3, x4, x5, x6, x7, x8⟩, y0, y1, y2, y3, y4, y5, y6, y7, y8⟩ := G; have G := T8.at1; obtain ⟨⟨u0, u1, u2, u3, u4, u5, u6, u7, u8⟩, v0, v1, v2, v3, v4, v5, v6, v7, v8⟩ := G))
    | (go_at_call 27; (with_reducible refine (hP _ _ _ hP8).mono ?_); rintro e w9 ⟨rfl, hb9⟩; have T9 := T8.keep hb9; have hR9 := hR8.later hb9; have G := T9.at0; obtain ⟨⟨x0, x1, x2, x3, x4, x5, x6, x7, x8⟩, y0, y1, y2, y3, y4, y5, y6, y7, y8⟩ := G; have G := T9.at1; obtain ⟨⟨u0, u1, u2, u3, u4, u5, u6, u7, u8⟩, v0, v1, v2, v3, v4, v5, v6, v7, v8⟩ := G))
  go_ret
  exact ⟨rfl, T9.bel⟩

set_option maxHeartbeats 16000000 in
theorem back_n1 (a b R0 R1 : Rec) (dv0 dv1 : Value) (a0 : Option Addr) (cap0 : Nat) (l m : List Pt) (w : World) (e0 : R0.small = a) (e1 : R1.small = b) (em : fewL l = m) (hr0 : R0.wide) (hA0 : ArgNs w dv0 R0.d) (hr1 : R1.wide) (hA1 : ArgNs w dv1 R1.d) (hS : Pts w w.heap.size a0 l) (hl : l.length ≤ 9223372036854775807) (hf : ∀ p ∈ l, p.fits) (ha : a.ok = false) (hg : m.all Pt.ok = true) : Calls Try.prog 6 #[recV R0 dv0, recV R1 dv1, .slice a0 l.length cap0] w fun e w' => e = .returned (.bool true) ∧ Below w.heap.size w w' := by
  have hfa := hr0.small
  have hfb := hr1.small
  have hNa := hA0.cut
  have hNb := hA1.cut
  have hs0 := fun w h => lsmall_cut R0 dv0 w h
  have hs1 := fun w h => lsmall_cut R1 dv1 w h
  have d0 : R0.d.take 12 = a.d := by rw [← e0]; rfl
  have d1 : R1.d.take 12 = b.d := by rw [← e1]; rfl
  rw [e0] at hfa hs0
  rw [e1] at hfb hs1
  rw [d0] at hNa
  rw [d1] at hNb
  obtain ⟨da, hda⟩ : ∃ dv, cut12 dv0 = dv := ⟨_, rfl⟩
  obtain ⟨db, hdb⟩ : ∃ dv, cut12 dv1 = dv := ⟨_, rfl⟩
  rw [hda] at hNa hs0
  rw [hdb] at hNb hs1
  clear hda hdb e0 e1 d0 d1
  obtain ⟨ya, za, rfl⟩ := hNa.slice
  obtain ⟨yb, zb, rfl⟩ := hNb.slice
  have hka := fun w h => bytes6_is a (.slice ya a.d.length za) w h hfa
  have hkb := fun w h => bytes6_is b (.slice yb b.d.length zb) w h hfb
  have hmf := fun p (hp : p ∈ m) => (⟨by rw [← em] at hp; have := fewL_short hp; omega, by rw [← em] at hp; exact (fewL_fits hf hp).v⟩ : p.s.size ≤ 1000000 ∧ p.vfit)
  have hm30 : m.length ≤ 30 := by rw [← em]; exact fewL_len l
  have hk := fun w h => few_is a0 cap0 l w h hl
  have hP := fun a5 c5 w h => points_is a5 c5 m w h (by omega) hmf
  unfold FewDone at hk
  unfold PointsDone at hP
  rw [em] at hk
  have ea : a.enc = (⟨#[]⟩, 1) := by unfold Rec.enc; rw [ha]; rfl
  obtain ⟨tb, fb, eb⟩ : ∃ t f, b.enc = (t, f) := ⟨_, _, rfl⟩
  rw [ea] at hka
  rw [eb] at hkb
  dsimp only at hka hkb
  have epg : ptsA m = (tx (ptsB m), 0) := by unfold ptsA; rw [if_pos hg, if_neg (by omega)]
  have hmo : ∀ p ∈ m, p.ok = true ∧ p.vfit := fun p hp => ⟨List.all_eq_true.1 hg p hp, (hmf p hp).2⟩
  have hpq := ptsQ_enc m (by omega) hmo
  have hul : (tx (ptsB m)).size ≤ 10000 := by
    have h1 := bytesP_len m hmo
    have h2 := enc_len10 m.length (by omega)
    rw [tx_size]; unfold ptsB; rw [List.length_append]; omega
  obtain ⟨u, hu⟩ : ∃ u, tx (ptsB m) = u := ⟨_, rfl⟩
  rw [hu] at epg hpq hul
  have hRp := fun w => readpoints_is u w (by omega)
  unfold RPDone at hRp
  rw [hpq] at hRp
  have hsp := fun x y cx cy w h1 h2 => rsamep_is x y cx cy m m true w h1 h2 (by omega) (by omega) (Lib.hid (by unfold sameP; simp))
  rw [epg] at hP
  dsimp only at hP
  have HA0 := Lib.hid hA0
  have HA1 := Lib.hid hA1
  have HNA := Lib.hid hNa
  have HNB := Lib.hid hNb
  have HS := Lib.hid hS
  have HM := Lib.hid hm30
  have Ab : RecW (w.alloc (.cells #[.int .i64 R0.k, .string R0.s, .int .i64 R0.t, .int .i64 R0.v, .int .i64 R0.tier, .int .i64 R0.st.c, .int .i64 R0.st.s, .int .i64 R0.st.q, dv0] 26)) w.heap.size R0 dv0 := RecW.new w R0 dv0
  have A0 := Ab.below ((Below.refl _ _).alloc (Nat.le_refl _) (.cells #[.int .i64 R1.k, .string R1.s, .int .i64 R1.t, .int .i64 R1.v, .int .i64 R1.tier, .int .i64 R1.st.c, .int .i64 R1.st.s, .int .i64 R1.st.q, dv1] 26))
  have C0 : RecW ((w.alloc (.cells #[.int .i64 R0.k, .string R0.s, .int .i64 R0.t, .int .i64 R0.v, .int .i64 R0.tier, .int .i64 R0.st.c, .int .i64 R0.st.s, .int .i64 R0.st.q, dv0] 26)).alloc (.cells #[.int .i64 R1.k, .string R1.s, .int .i64 R1.t, .int .i64 R1.v, .int .i64 R1.tier, .int .i64 R1.st.c, .int .i64 R1.st.s, .int .i64 R1.st.q, dv1] 26)) (w.heap.size + 1) R1 dv1 := by have := RecW.new (w.alloc (.cells #[.int .i64 R0.k, .string R0.s, .int .i64 R0.t, .int .i64 R0.v, .int .i64 R0.tier, .int .i64 R0.st.c, .int .i64 R0.st.s, .int .i64 R0.st.q, dv0] 26)) R1 dv1; simpa using this
  have B0 : Below w.heap.size w ((w.alloc (.cells #[.int .i64 R0.k, .string R0.s, .int .i64 R0.t, .int .i64 R0.v, .int .i64 R0.tier, .int .i64 R0.st.c, .int .i64 R0.st.s, .int .i64 R0.st.q, dv0] 26)).alloc (.cells #[.int .i64 R1.k, .string R1.s, .int .i64 R1.t, .int .i64 R1.v, .int .i64 R1.tier, .int .i64 R1.st.c, .int .i64 R1.st.s, .int .i64 R1.st.q, dv1] 26)) := bel_new ((Below.refl _ _).alloc (Nat.le_refl _) _) _
  unfold recV at hka hkb hs0 hs1 ⊢
  dsimp only [Option.getD_some, Option.isSome_some] at hRp
  rw [if_pos rfl] at hRp
  clear Ab hA0 hA1 hNa hNb hS hm30 hmf hfa hfb hr0 hr1 hf hl hg epg em ea eb ha  hmo hpq hul hu
  go_enter Try.func6, Try.ntmps6
  go_wp2_with (first
    | (go_at_call 9; (with_reducible refine (awake_any _).mono ?_); rintro e w1 ⟨rfl, hb1⟩; have A1 := A0.below hb1; have C1 := C0.below hb1; have B1 := bel_next B0 hb1; have G := A1; obtain ⟨⟨x0, x1, x2, x3, x4, x5, x6, x7, x8⟩, y0, y1, y2, y3, y4, y5, y6, y7, y8⟩ := G; have G := C1; obtain ⟨⟨u0, u1, u2, u3, u4, u5, u6, u7, u8⟩, v0, v1, v2, v3, v4, v5, v6, v7, v8⟩ := G)
    | (go_at_call 10; first | ((with_reducible refine (hs0 _ (HA0.out.below B1)).mono ?_); rintro e w2 ⟨rfl, hb2⟩; have A2 := A1.below hb2; have C2 := C1.below hb2; have B2 := bel_next B1 hb2; have A3 := A2.nine (r := a) (dv := (.slice ya a.d.length za)); have C3 := C2.nine_other (b := w.heap.size) (r := a) (dv := (.slice ya a.d.length za)) (by omega); have B3 := nine_bel (b := w.heap.size) (r := a) (dv := (.slice ya a.d.length za)) B2 (Nat.le_refl _); unfold nine at A3 C3 B3; have G := A2; obtain ⟨⟨x0, x1, x2, x3, x4, x5, x6, x7, x8⟩, y0, y1, y2, y3, y4, y5, y6, y7, y8⟩ := G; have G := C2; obtain ⟨⟨u0, u1, u2, u3, u4, u5, u6, u7, u8⟩, v0, v1, v2, v3, v4, v5, v6, v7, v8⟩ := G; (have G := C3.at_; obtain ⟨u0, u1, u2, u3, u4, u5, u6, u7, u8⟩ := G)) | ((with_reducible refine (hs1 _ (HA1.out.below B3)).mono ?_); rintro e w4 ⟨rfl, hb4⟩; have A4 := A3.below hb4; have C4 := C3.below hb4; have B4 := bel_next B3 hb4; have A5 := A4.nine_other (b := w.heap.size + 1) (r := b) (dv := (.slice yb b.d.length zb)) (by omega); have C5 := C4.nine (r := b) (dv := (.slice yb b.d.length zb)); have B5 := nine_bel (b := w.heap.size + 1) (r := b) (dv := (.slice yb b.d.length zb)) B4 (Nat.le_succ _); have hSp := (HS.out.below B5).mono B5.size; have T5 : TwoR w w.heap.size (w.heap.size + 1) a b (.slice ya a.d.length za) (.slice yb b.d.length zb) _ := ⟨A5, C5, (HNA.out.below B5).mono B5.size (Nat.le_refl _), (HNB.out.below B5).mono B5.size (Nat.le_refl _), B5⟩; unfold nine at T5 hSp; clear A5 C5 B5; have G := A4; obtain ⟨⟨x0, x1, x2, x3, x4, x5, x6, x7, x8⟩, y0, y1, y2, y3, y4, y5, y6, y7, y8⟩ := G; have G := C4; obtain ⟨⟨u0, u1, u2, u3, u4, u5, u6, u7, u8⟩, v0, v1, v2, v3, v4, v5, v6, v7, v8⟩ := G))
    | (go_at_call 26; (with_reducible refine (hk _ hSp).mono ?_); rintro e w6 ⟨v, rfl, hR, hb6⟩; obtain ⟨a5, c5, rfl⟩ := hR.slice; have T6 := T5.keep hb6; have G := T6.at0; obtain ⟨⟨x0, x1, x2, x3, x4, x5, x6, x7, x8⟩, y0, y1, y2, y3, y4, y5, y6, y7, y8⟩ := G; have G := T6.at1; obtain ⟨⟨u0, u1, u2, u3, u4, u5, u6, u7, u8⟩, v0, v1, v2, v3, v4, v5, v6, v7, v8⟩ := G)
    | (go_at_call 12; first | ((with_reducible refine (hka _ T6.n0).mono ?_); rintro e w7 ⟨rfl, hb7⟩; have T7 := T6.keep hb7; have hR7 := hR.later hb7; have G := T7.at0; obtain ⟨⟨x0, x1, x2, x3, x4, x5, x6, x7, x8⟩, y0, y1, y2, y3, y4, y5, y6, y7, y8⟩ := G; have G := T7.at1; obtain ⟨⟨u0, u1, u2, u3, u4, u5, u6, u7, u8⟩, v0, v1, v2, v3, v4, v5, v6, v7, v8⟩ := G) | ((with_reducible refine (hkb _ T7.n1).mono ?_); rintro e w8 ⟨rfl, hb8⟩; have T8 := T7.keep hb8; have hR8 := hR7.later hb8; have hP8 := hR8.pts; have G := T8.at0; obtain ⟨⟨x0, x1, x2, x3, x4, x5, x6, x7, x8⟩, y0, y1, y2, y3, y4, y5, y6, y7, y8⟩ := G; have G := T8.at1; obtain ⟨⟨u0, u1, u2, u3, u4, u5, u6, u7, u8⟩, v0, v1, v2, v3, v4, v5, v6, v7, v8⟩ := G))
    | (go_at_call 27; (with_reducible refine (hP _ _ _ hP8).mono ?_); rintro e w9 ⟨rfl, hb9⟩; have T9 := T8.keep hb9; have hR9 := hR8.later hb9; have G := T9.at0; obtain ⟨⟨x0, x1, x2, x3, x4, x5, x6, x7, x8⟩, y0, y1, y2, y3, y4, y5, y6, y7, y8⟩ := G; have G := T9.at1; obtain ⟨⟨u0, u1, u2, u3, u4, u5, u6, u7, u8⟩, v0, v1, v2, v3, v4, v5, v6, v7, v8⟩ := G)
    | (go_at_call 22; (with_reducible refine (hRp _).mono ?_); rintro e w14 ⟨v, rfl, hP14, hb14⟩; obtain ⟨a14, c14, rfl⟩ := hP14.slice; have T14 := T9.keep hb14; have hQ14 := hP14.pts; have hR14 := (hR9.later hb14).pts)
    | (go_at_call 25; (with_reducible refine (hsp _ _ _ _ _ hQ14 hR14).mono ?_); rintro e w15 ⟨rfl, hb15⟩; have T15 := T14.keep hb15))
  go_ret
  exact ⟨rfl, T15.bel⟩

set_option maxHeartbeats 16000000 in
theorem back_f0 (a b R0 R1 : Rec) (dv0 dv1 : Value) (a0 : Option Addr) (cap0 : Nat) (l m : List Pt) (w : World) (e0 : R0.small = a) (e1 : R1.small = b) (em : fewL l = m) (hr0 : R0.wide) (hA0 : ArgNs w dv0 R0.d) (hr1 : R1.wide) (hA1 : ArgNs w dv1 R1.d) (hS : Pts w w.heap.size a0 l) (hl : l.length ≤ 9223372036854775807) (hf : ∀ p ∈ l, p.fits) (ha : a.ok = true) (hb : b.ok = false) (hg : m.all Pt.ok = false) : Calls Try.prog 6 #[recV R0 dv0, recV R1 dv1, .slice a0 l.length cap0] w fun e w' => e = .returned (.bool true) ∧ Below w.heap.size w w' := by
  have hfa := hr0.small
  have hfb := hr1.small
  have hNa := hA0.cut
  have hNb := hA1.cut
  have hs0 := fun w h => lsmall_cut R0 dv0 w h
  have hs1 := fun w h => lsmall_cut R1 dv1 w h
  have d0 : R0.d.take 12 = a.d := by rw [← e0]; rfl
  have d1 : R1.d.take 12 = b.d := by rw [← e1]; rfl
  rw [e0] at hfa hs0
  rw [e1] at hfb hs1
  rw [d0] at hNa
  rw [d1] at hNb
  obtain ⟨da, hda⟩ : ∃ dv, cut12 dv0 = dv := ⟨_, rfl⟩
  obtain ⟨db, hdb⟩ : ∃ dv, cut12 dv1 = dv := ⟨_, rfl⟩
  rw [hda] at hNa hs0
  rw [hdb] at hNb hs1
  clear hda hdb e0 e1 d0 d1
  obtain ⟨ya, za, rfl⟩ := hNa.slice
  obtain ⟨yb, zb, rfl⟩ := hNb.slice
  have hka := fun w h => bytes6_is a (.slice ya a.d.length za) w h hfa
  have hkb := fun w h => bytes6_is b (.slice yb b.d.length zb) w h hfb
  have hmf := fun p (hp : p ∈ m) => (⟨by rw [← em] at hp; have := fewL_short hp; omega, by rw [← em] at hp; exact (fewL_fits hf hp).v⟩ : p.s.size ≤ 1000000 ∧ p.vfit)
  have hm30 : m.length ≤ 30 := by rw [← em]; exact fewL_len l
  have hk := fun w h => few_is a0 cap0 l w h hl
  have hP := fun a5 c5 w h => points_is a5 c5 m w h (by omega) hmf
  unfold FewDone at hk
  unfold PointsDone at hP
  rw [em] at hk
  have ea : a.enc = (tx a.bytes, 0) := by unfold Rec.enc; rw [ha]; rfl
  have hbk := back_of ha hfa
  have eb : b.enc = (⟨#[]⟩, 1) := by unfold Rec.enc; rw [hb]; rfl
  obtain ⟨s, hs⟩ : ∃ s, tx a.bytes = s := ⟨_, rfl⟩
  rw [hs] at ea hbk
  have hRd := fun w => pread6_is s w (by have := hbk.size; omega)
  obtain ⟨sc, hsc⟩ : ∃ x, s.extract 0 (s.size - 1) = x := ⟨_, rfl⟩
  have hcq := hbk.cut
  rw [hsc] at hcq
  have hRc := fun w => pread6_is sc w (by have h1 := hbk.size; rw [← hsc, ByteArray.size_extract]; omega)
  unfold Read6Done at hRd hRc
  rw [hbk.read] at hRd
  rw [hcq] at hRc
  have hsa := fun dx dy w h1 h2 => rsamer_is a a dx dy true w h1 h2 (Lib.hid (Rec.same_iff.2 rfl))
  have hpos : 0 < s.size := hbk.pos
  have hsz : s.size ≤ 1000 := hbk.size
  have hz0 : ((s.size : Int) == 0) = false := by rw [beq_eq_false_iff_ne]; omega
  have hz1 : (0 : Int) ≤ (s.size : Int) - 1 := by omega
  have hz2 : (s.size : Int) - 1 ≤ (s.size : Int) := by omega
  rw [ea] at hka
  rw [eb] at hkb
  dsimp only at hka hkb
  have epg : ptsA m = (⟨#[]⟩, 1) := by unfold ptsA; rw [if_neg (by rw [hg]; simp)]
  rw [epg] at hP
  dsimp only at hP
  have HA0 := Lib.hid hA0
  have HA1 := Lib.hid hA1
  have HNA := Lib.hid hNa
  have HNB := Lib.hid hNb
  have HS := Lib.hid hS
  have HM := Lib.hid hm30
  have Ab : RecW (w.alloc (.cells #[.int .i64 R0.k, .string R0.s, .int .i64 R0.t, .int .i64 R0.v, .int .i64 R0.tier, .int .i64 R0.st.c, .int .i64 R0.st.s, .int .i64 R0.st.q, dv0] 26)) w.heap.size R0 dv0 := RecW.new w R0 dv0
  have A0 := Ab.below ((Below.refl _ _).alloc (Nat.le_refl _) (.cells #[.int .i64 R1.k, .string R1.s, .int .i64 R1.t, .int .i64 R1.v, .int .i64 R1.tier, .int .i64 R1.st.c, .int .i64 R1.st.s, .int .i64 R1.st.q, dv1] 26))
  have C0 : RecW ((w.alloc (.cells #[.int .i64 R0.k, .string R0.s, .int .i64 R0.t, .int .i64 R0.v, .int .i64 R0.tier, .int .i64 R0.st.c, .int .i64 R0.st.s, .int .i64 R0.st.q, dv0] 26)).alloc (.cells #[.int .i64 R1.k, .string R1.s, .int .i64 R1.t, .int .i64 R1.v, .int .i64 R1.tier, .int .i64 R1.st.c, .int .i64 R1.st.s, .int .i64 R1.st.q, dv1] 26)) (w.heap.size + 1) R1 dv1 := by have := RecW.new (w.alloc (.cells #[.int .i64 R0.k, .string R0.s, .int .i64 R0.t, .int .i64 R0.v, .int .i64 R0.tier, .int .i64 R0.st.c, .int .i64 R0.st.s, .int .i64 R0.st.q, dv0] 26)) R1 dv1; simpa using this
  have B0 : Below w.heap.size w ((w.alloc (.cells #[.int .i64 R0.k, .string R0.s, .int .i64 R0.t, .int .i64 R0.v, .int .i64 R0.tier, .int .i64 R0.st.c, .int .i64 R0.st.s, .int .i64 R0.st.q, dv0] 26)).alloc (.cells #[.int .i64 R1.k, .string R1.s, .int .i64 R1.t, .int .i64 R1.v, .int .i64 R1.tier, .int .i64 R1.st.c, .int .i64 R1.st.s, .int .i64 R1.st.q, dv1] 26)) := bel_new ((Below.refl _ _).alloc (Nat.le_refl _) _) _
  unfold recV at hka hkb hs0 hs1 hRd hRc hsa ⊢
  dsimp only [Option.getD_some, Option.isSome_some] at hRd
  rw [if_pos rfl] at hRd
  dsimp only [Option.getD_none, Option.isSome_none, Rec.zero] at hRc
  rw [if_neg (by simp)] at hRc
  clear Ab hA0 hA1 hNa hNb hS hm30 hmf hfa hfb hr0 hr1 hf hl hg epg em ea eb ha hb hbk hs hcq
  go_enter Try.func6, Try.ntmps6
  go_wp2_with (first
    | (go_at_call 9; (with_reducible refine (awake_any _).mono ?_); rintro e w1 ⟨rfl, hb1⟩; have A1 := A0.below hb1; have C1 := C0.below hb1; have B1 := bel_next B0 hb1; have G := A1; obtain ⟨⟨x0, x1, x2, x3, x4, x5, x6, x7, x8⟩, y0, y1, y2, y3, y4, y5, y6, y7, y8⟩ := G; have G := C1; obtain ⟨⟨u0, u1, u2, u3, u4, u5, u6, u7, u8⟩, v0, v1, v2, v3, v4, v5, v6, v7, v8⟩ := G)
    | (go_at_call 10; first | ((with_reducible refine (hs0 _ (HA0.out.below B1)).mono ?_); rintro e w2 ⟨rfl, hb2⟩; have A2 := A1.below hb2; have C2 := C1.below hb2; have B2 := bel_next B1 hb2; have A3 := A2.nine (r := a) (dv := (.slice ya a.d.length za)); have C3 := C2.nine_other (b := w.heap.size) (r := a) (dv := (.slice ya a.d.length za)) (by omega); have B3 := nine_bel (b := w.heap.size) (r := a) (dv := (.slice ya a.d.length za)) B2 (Nat.le_refl _); unfold nine at A3 C3 B3; have G := A2; obtain ⟨⟨x0, x1, x2, x3, x4, x5, x6, x7, x8⟩, y0, y1, y2, y3, y4, y5, y6, y7, y8⟩ := G; have G := C2; obtain ⟨⟨u0, u1, u2, u3, u4, u5, u6, u7, u8⟩, v0, v1, v2, v3, v4, v5, v6, v7, v8⟩ := G; (have G := C3.at_; obtain ⟨u0, u1, u2, u3, u4, u5, u6, u7, u8⟩ := G)) | ((with_reducible refine (hs1 _ (HA1.out.below B3)).mono ?_); rintro e w4 ⟨rfl, hb4⟩; have A4 := A3.below hb4; have C4 := C3.below hb4; have B4 := bel_next B3 hb4; have A5 := A4.nine_other (b := w.heap.size + 1) (r := b) (dv := (.slice yb b.d.length zb)) (by omega); have C5 := C4.nine (r := b) (dv := (.slice yb b.d.length zb)); have B5 := nine_bel (b := w.heap.size + 1) (r := b) (dv := (.slice yb b.d.length zb)) B4 (Nat.le_succ _); have hSp := (HS.out.below B5).mono B5.size; have T5 : TwoR w w.heap.size (w.heap.size + 1) a b (.slice ya a.d.length za) (.slice yb b.d.length zb) _ := ⟨A5, C5, (HNA.out.below B5).mono B5.size (Nat.le_refl _), (HNB.out.below B5).mono B5.size (Nat.le_refl _), B5⟩; unfold nine at T5 hSp; clear A5 C5 B5; have G := A4; obtain ⟨⟨x0, x1, x2, x3, x4, x5, x6, x7, x8⟩, y0, y1, y2, y3, y4, y5, y6, y7, y8⟩ := G; have G := C4; obtain ⟨⟨u0, u1, u2, u3, u4, u5, u6, u7, u8⟩, v0, v1, v2, v3, v4, v5, v6, v7, v8⟩ := G))
    | (go_at_call 26; (with_reducible refine (hk _ hSp).mono ?_); rintro e w6 ⟨v, rfl, hR, hb6⟩; obtain ⟨a5, c5, rfl⟩ := hR.slice; have T6 := T5.keep hb6; have G := T6.at0; obtain ⟨⟨x0, x1, x2, x3, x4, x5, x6, x7, x8⟩, y0, y1, y2, y3, y4, y5, y6, y7, y8⟩ := G; have G := T6.at1; obtain ⟨⟨u0, u1, u2, u3, u4, u5, u6, u7, u8⟩, v0, v1, v2, v3, v4, v5, v6, v7, v8⟩ := G)
    | (go_at_call 12; first | ((with_reducible refine (hka _ T6.n0).mono ?_); rintro e w7 ⟨rfl, hb7⟩; have T7 := T6.keep hb7; have hR7 := hR.later hb7; have G := T7.at0; obtain ⟨⟨x0, x1, x2, x3, x4, x5, x6, x7, x8⟩, y0, y1, y2, y3, y4, y5, y6, y7, y8⟩ := G; have G := T7.at1; obtain ⟨⟨u0, u1, u2, u3, u4, u5, u6, u7, u8⟩, v0, v1, v2, v3, v4, v5, v6, v7, v8⟩ := G) | ((with_reducible refine (hkb _ T7.n1).mono ?_); rintro e w8 ⟨rfl, hb8⟩; have T8 := T7.keep hb8; have hR8 := hR7.later hb8; have hP8 := hR8.pts; have G := T8.at0; obtain ⟨⟨x0, x1, x2, x3, x4, x5, x6, x7, x8⟩, y0, y1, y2, y3, y4, y5, y6, y7, y8⟩ := G; have G := T8.at1; obtain ⟨⟨u0, u1, u2, u3, u4, u5, u6, u7, u8⟩, v0, v1, v2, v3, v4, v5, v6, v7, v8⟩ := G))
    | (go_at_call 27; (with_reducible refine (hP _ _ _ hP8).mono ?_); rintro e w9 ⟨rfl, hb9⟩; have T9 := T8.keep hb9; have hR9 := hR8.later hb9; have G := T9.at0; obtain ⟨⟨x0, x1, x2, x3, x4, x5, x6, x7, x8⟩, y0, y1, y2, y3, y4, y5, y6, y7, y8⟩ := G; have G := T9.at1; obtain ⟨⟨u0, u1, u2, u3, u4, u5, u6, u7, u8⟩, v0, v1, v2, v3, v4, v5, v6, v7, v8⟩ := G)
    | (go_at_call 20; first | ((with_reducible refine (hRd _).mono ?_); rintro e w10 ⟨dv, rfl, hN10, hb10⟩; obtain ⟨d1, c1, rfl⟩ := hN10.slice; have H10 := RHeld.new (r := a) hN10; have hal := (Below.refl w10.heap.size w10).alloc (Nat.le_refl _) (.cells #[.int .i64 a.k, .string a.s, .int .i64 a.t, .int .i64 a.v, .int .i64 a.tier, .int .i64 a.st.c, .int .i64 a.st.s, .int .i64 a.st.q, (.slice d1 a.d.length c1)] 26); have T10 := (T9.keep hb10).keep hal; have hR10 := (hR9.later hb10).later hal; have G := T10.at0; obtain ⟨⟨x0, x1, x2, x3, x4, x5, x6, x7, x8⟩, y0, y1, y2, y3, y4, y5, y6, y7, y8⟩ := G; have G := T10.at1; obtain ⟨⟨u0, u1, u2, u3, u4, u5, u6, u7, u8⟩, v0, v1, v2, v3, v4, v5, v6, v7, v8⟩ := G; have G := H10.at_; obtain ⟨z0, z1, z2, z3, z4, z5, z6, z7, z8⟩ := G) | ((with_reducible refine (hRc _).mono ?_); rintro e w12 ⟨dv, rfl, hN12, hb12⟩; obtain ⟨d3, c3, rfl⟩ := hN12.slice; dsimp only [List.length_nil] at hN12; have T12 := (T11.keep hb12).keep ((Below.refl w12.heap.size w12).alloc (Nat.le_refl _) (.cells #[.int .i64 0, .string ⟨#[]⟩, .int .i64 0, .int .i64 0, .int .i64 0, .int .i64 0, .int .i64 0, .int .i64 0, .slice d3 0 c3] 26)); have hR12 := (hR11.later hb12).later ((Below.refl w12.heap.size w12).alloc (Nat.le_refl _) (.cells #[.int .i64 0, .string ⟨#[]⟩, .int .i64 0, .int .i64 0, .int .i64 0, .int .i64 0, .int .i64 0, .int .i64 0, .slice d3 0 c3] 26)); have G := T12.at0; obtain ⟨⟨x0, x1, x2, x3, x4, x5, x6, x7, x8⟩, y0, y1, y2, y3, y4, y5, y6, y7, y8⟩ := G; have G := T12.at1; obtain ⟨⟨u0, u1, u2, u3, u4, u5, u6, u7, u8⟩, v0, v1, v2, v3, v4, v5, v6, v7, v8⟩ := G))
    | (go_at_call 24; first | ((with_reducible refine (hsa _ _ _ H10.ns T10.n0).mono ?_); rintro e w11 ⟨rfl, hb11⟩; have T11 := T10.keep hb11; have hR11 := hR10.later hb11; have G := T11.at0; obtain ⟨⟨x0, x1, x2, x3, x4, x5, x6, x7, x8⟩, y0, y1, y2, y3, y4, y5, y6, y7, y8⟩ := G; have G := T11.at1; obtain ⟨⟨u0, u1, u2, u3, u4, u5, u6, u7, u8⟩, v0, v1, v2, v3, v4, v5, v6, v7, v8⟩ := G)))
  go_ret
  exact ⟨rfl, T12.bel⟩

set_option maxHeartbeats 16000000 in
theorem back_f1 (a b R0 R1 : Rec) (dv0 dv1 : Value) (a0 : Option Addr) (cap0 : Nat) (l m : List Pt) (w : World) (e0 : R0.small = a) (e1 : R1.small = b) (em : fewL l = m) (hr0 : R0.wide) (hA0 : ArgNs w dv0 R0.d) (hr1 : R1.wide) (hA1 : ArgNs w dv1 R1.d) (hS : Pts w w.heap.size a0 l) (hl : l.length ≤ 9223372036854775807) (hf : ∀ p ∈ l, p.fits) (ha : a.ok = true) (hb : b.ok = false) (hg : m.all Pt.ok = true) : Calls Try.prog 6 #[recV R0 dv0, recV R1 dv1, .slice a0 l.length cap0] w fun e w' => e = .returned (.bool true) ∧ Below w.heap.size w w' := by
  have hfa := hr0.small
  have hfb := hr1.small
  have hNa := hA0.cut
  have hNb := hA1.cut
  have hs0 := fun w h => lsmall_cut R0 dv0 w h
  have hs1 := fun w h => lsmall_cut R1 dv1 w h
  have d0 : R0.d.take 12 = a.d := by rw [← e0]; rfl
  have d1 : R1.d.take 12 = b.d := by rw [← e1]; rfl
  rw [e0] at hfa hs0
  rw [e1] at hfb hs1
  rw [d0] at hNa
  rw [d1] at hNb
  obtain ⟨da, hda⟩ : ∃ dv, cut12 dv0 = dv := ⟨_, rfl⟩
  obtain ⟨db, hdb⟩ : ∃ dv, cut12 dv1 = dv := ⟨_, rfl⟩
  rw [hda] at hNa hs0
  rw [hdb] at hNb hs1
  clear hda hdb e0 e1 d0 d1
  obtain ⟨ya, za, rfl⟩ := hNa.slice
  obtain ⟨yb, zb, rfl⟩ := hNb.slice
  have hka := fun w h => bytes6_is a (.slice ya a.d.length za) w h hfa
  have hkb := fun w h => bytes6_is b (.slice yb b.d.length zb) w h hfb
  have hmf := fun p (hp : p ∈ m) => (⟨by rw [← em] at hp; have := fewL_short hp; omega, by rw [← em] at hp; exact (fewL_fits hf hp).v⟩ : p.s.size ≤ 1000000 ∧ p.vfit)
  have hm30 : m.length ≤ 30 := by rw [← em]; exact fewL_len l
  have hk := fun w h => few_is a0 cap0 l w h hl
  have hP := fun a5 c5 w h => points_is a5 c5 m w h (by omega) hmf
  unfold FewDone at hk
  unfold PointsDone at hP
  rw [em] at hk
  have ea : a.enc = (tx a.bytes, 0) := by unfold Rec.enc; rw [ha]; rfl
  have hbk := back_of ha hfa
  have eb : b.enc = (⟨#[]⟩, 1) := by unfold Rec.enc; rw [hb]; rfl
  obtain ⟨s, hs⟩ : ∃ s, tx a.bytes = s := ⟨_, rfl⟩
  rw [hs] at ea hbk
  have hRd := fun w => pread6_is s w (by have := hbk.size; omega)
  obtain ⟨sc, hsc⟩ : ∃ x, s.extract 0 (s.size - 1) = x := ⟨_, rfl⟩
  have hcq := hbk.cut
  rw [hsc] at hcq
  have hRc := fun w => pread6_is sc w (by have h1 := hbk.size; rw [← hsc, ByteArray.size_extract]; omega)
  unfold Read6Done at hRd hRc
  rw [hbk.read] at hRd
  rw [hcq] at hRc
  have hsa := fun dx dy w h1 h2 => rsamer_is a a dx dy true w h1 h2 (Lib.hid (Rec.same_iff.2 rfl))
  have hpos : 0 < s.size := hbk.pos
  have hsz : s.size ≤ 1000 := hbk.size
  have hz0 : ((s.size : Int) == 0) = false := by rw [beq_eq_false_iff_ne]; omega
  have hz1 : (0 : Int) ≤ (s.size : Int) - 1 := by omega
  have hz2 : (s.size : Int) - 1 ≤ (s.size : Int) := by omega
  rw [ea] at hka
  rw [eb] at hkb
  dsimp only at hka hkb
  have epg : ptsA m = (tx (ptsB m), 0) := by unfold ptsA; rw [if_pos hg, if_neg (by omega)]
  have hmo : ∀ p ∈ m, p.ok = true ∧ p.vfit := fun p hp => ⟨List.all_eq_true.1 hg p hp, (hmf p hp).2⟩
  have hpq := ptsQ_enc m (by omega) hmo
  have hul : (tx (ptsB m)).size ≤ 10000 := by
    have h1 := bytesP_len m hmo
    have h2 := enc_len10 m.length (by omega)
    rw [tx_size]; unfold ptsB; rw [List.length_append]; omega
  obtain ⟨u, hu⟩ : ∃ u, tx (ptsB m) = u := ⟨_, rfl⟩
  rw [hu] at epg hpq hul
  have hRp := fun w => readpoints_is u w (by omega)
  unfold RPDone at hRp
  rw [hpq] at hRp
  have hsp := fun x y cx cy w h1 h2 => rsamep_is x y cx cy m m true w h1 h2 (by omega) (by omega) (Lib.hid (by unfold sameP; simp))
  rw [epg] at hP
  dsimp only at hP
  have HA0 := Lib.hid hA0
  have HA1 := Lib.hid hA1
  have HNA := Lib.hid hNa
  have HNB := Lib.hid hNb
  have HS := Lib.hid hS
  have HM := Lib.hid hm30
  have Ab : RecW (w.alloc (.cells #[.int .i64 R0.k, .string R0.s, .int .i64 R0.t, .int .i64 R0.v, .int .i64 R0.tier, .int .i64 R0.st.c, .int .i64 R0.st.s, .int .i64 R0.st.q, dv0] 26)) w.heap.size R0 dv0 := RecW.new w R0 dv0
  have A0 := Ab.below ((Below.refl _ _).alloc (Nat.le_refl _) (.cells #[.int .i64 R1.k, .string R1.s, .int .i64 R1.t, .int .i64 R1.v, .int .i64 R1.tier, .int .i64 R1.st.c, .int .i64 R1.st.s, .int .i64 R1.st.q, dv1] 26))
  have C0 : RecW ((w.alloc (.cells #[.int .i64 R0.k, .string R0.s, .int .i64 R0.t, .int .i64 R0.v, .int .i64 R0.tier, .int .i64 R0.st.c, .int .i64 R0.st.s, .int .i64 R0.st.q, dv0] 26)).alloc (.cells #[.int .i64 R1.k, .string R1.s, .int .i64 R1.t, .int .i64 R1.v, .int .i64 R1.tier, .int .i64 R1.st.c, .int .i64 R1.st.s, .int .i64 R1.st.q, dv1] 26)) (w.heap.size + 1) R1 dv1 := by have := RecW.new (w.alloc (.cells #[.int .i64 R0.k, .string R0.s, .int .i64 R0.t, .int .i64 R0.v, .int .i64 R0.tier, .int .i64 R0.st.c, .int .i64 R0.st.s, .int .i64 R0.st.q, dv0] 26)) R1 dv1; simpa using this
  have B0 : Below w.heap.size w ((w.alloc (.cells #[.int .i64 R0.k, .string R0.s, .int .i64 R0.t, .int .i64 R0.v, .int .i64 R0.tier, .int .i64 R0.st.c, .int .i64 R0.st.s, .int .i64 R0.st.q, dv0] 26)).alloc (.cells #[.int .i64 R1.k, .string R1.s, .int .i64 R1.t, .int .i64 R1.v, .int .i64 R1.tier, .int .i64 R1.st.c, .int .i64 R1.st.s, .int .i64 R1.st.q, dv1] 26)) := bel_new ((Below.refl _ _).alloc (Nat.le_refl _) _) _
  unfold recV at hka hkb hs0 hs1 hRd hRc hsa ⊢
  dsimp only [Option.getD_some, Option.isSome_some] at hRd
  rw [if_pos rfl] at hRd
  dsimp only [Option.getD_none, Option.isSome_none, Rec.zero] at hRc
  rw [if_neg (by simp)] at hRc
  dsimp only [Option.getD_some, Option.isSome_some] at hRp
  rw [if_pos rfl] at hRp
  clear Ab hA0 hA1 hNa hNb hS hm30 hmf hfa hfb hr0 hr1 hf hl hg epg em ea eb ha hb hbk hs hcq hmo hpq hul hu
  go_enter Try.func6, Try.ntmps6
  go_wp2_with (first
    | (go_at_call 9; (with_reducible refine (awake_any _).mono ?_); rintro e w1 ⟨rfl, hb1⟩; have A1 := A0.below hb1; have C1 := C0.below hb1; have B1 := bel_next B0 hb1; have G := A1; obtain ⟨⟨x0, x1, x2, x3, x4, x5, x6, x7, x8⟩, y0, y1, y2, y3, y4, y5, y6, y7, y8⟩ := G; have G := C1; obtain ⟨⟨u0, u1, u2, u3, u4, u5, u6, u7, u8⟩, v0, v1, v2, v3, v4, v5, v6, v7, v8⟩ := G)
    | (go_at_call 10; first | ((with_reducible refine (hs0 _ (HA0.out.below B1)).mono ?_); rintro e w2 ⟨rfl, hb2⟩; have A2 := A1.below hb2; have C2 := C1.below hb2; have B2 := bel_next B1 hb2; have A3 := A2.nine (r := a) (dv := (.slice ya a.d.length za)); have C3 := C2.nine_other (b := w.heap.size) (r := a) (dv := (.slice ya a.d.length za)) (by omega); have B3 := nine_bel (b := w.heap.size) (r := a) (dv := (.slice ya a.d.length za)) B2 (Nat.le_refl _); unfold nine at A3 C3 B3; have G := A2; obtain ⟨⟨x0, x1, x2, x3, x4, x5, x6, x7, x8⟩, y0, y1, y2, y3, y4, y5, y6, y7, y8⟩ := G; have G := C2; obtain ⟨⟨u0, u1, u2, u3, u4, u5, u6, u7, u8⟩, v0, v1, v2, v3, v4, v5, v6, v7, v8⟩ := G; (have G := C3.at_; obtain ⟨u0, u1, u2, u3, u4, u5, u6, u7, u8⟩ := G)) | ((with_reducible refine (hs1 _ (HA1.out.below B3)).mono ?_); rintro e w4 ⟨rfl, hb4⟩; have A4 := A3.below hb4; have C4 := C3.below hb4; have B4 := bel_next B3 hb4; have A5 := A4.nine_other (b := w.heap.size + 1) (r := b) (dv := (.slice yb b.d.length zb)) (by omega); have C5 := C4.nine (r := b) (dv := (.slice yb b.d.length zb)); have B5 := nine_bel (b := w.heap.size + 1) (r := b) (dv := (.slice yb b.d.length zb)) B4 (Nat.le_succ _); have hSp := (HS.out.below B5).mono B5.size; have T5 : TwoR w w.heap.size (w.heap.size + 1) a b (.slice ya a.d.length za) (.slice yb b.d.length zb) _ := ⟨A5, C5, (HNA.out.below B5).mono B5.size (Nat.le_refl _), (HNB.out.below B5).mono B5.size (Nat.le_refl _), B5⟩; unfold nine at T5 hSp; clear A5 C5 B5; have G := A4; obtain ⟨⟨x0, x1, x2, x3, x4, x5, x6, x7, x8⟩, y0, y1, y2, y3, y4, y5, y6, y7, y8⟩ := G; have G := C4; obtain ⟨⟨u0, u1, u2, u3, u4, u5, u6, u7, u8⟩, v0, v1, v2, v3, v4, v5, v6, v7, v8⟩ := G))
    | (go_at_call 26; (with_reducible refine (hk _ hSp).mono ?_); rintro e w6 ⟨v, rfl, hR, hb6⟩; obtain ⟨a5, c5, rfl⟩ := hR.slice; have T6 := T5.keep hb6; have G := T6.at0; obtain ⟨⟨x0, x1, x2, x3, x4, x5, x6, x7, x8⟩, y0, y1, y2, y3, y4, y5, y6, y7, y8⟩ := G; have G := T6.at1; obtain ⟨⟨u0, u1, u2, u3, u4, u5, u6, u7, u8⟩, v0, v1, v2, v3, v4, v5, v6, v7, v8⟩ := G)
    | (go_at_call 12; first | ((with_reducible refine (hka _ T6.n0).mono ?_); rintro e w7 ⟨rfl, hb7⟩; have T7 := T6.keep hb7; have hR7 := hR.later hb7; have G := T7.at0; obtain ⟨⟨x0, x1, x2, x3, x4, x5, x6, x7, x8⟩, y0, y1, y2, y3, y4, y5, y6, y7, y8⟩ := G; have G := T7.at1; obtain ⟨⟨u0, u1, u2, u3, u4, u5, u6, u7, u8⟩, v0, v1, v2, v3, v4, v5, v6, v7, v8⟩ := G) | ((with_reducible refine (hkb _ T7.n1).mono ?_); rintro e w8 ⟨rfl, hb8⟩; have T8 := T7.keep hb8; have hR8 := hR7.later hb8; have hP8 := hR8.pts; have G := T8.at0; obtain ⟨⟨x0, x1, x2, x3, x4, x5, x6, x7, x8⟩, y0, y1, y2, y3, y4, y5, y6, y7, y8⟩ := G; have G := T8.at1; obtain ⟨⟨u0, u1, u2, u3, u4, u5, u6, u7, u8⟩, v0, v1, v2, v3, v4, v5, v6, v7, v8⟩ := G))
    | (go_at_call 27; (with_reducible refine (hP _ _ _ hP8).mono ?_); rintro e w9 ⟨rfl, hb9⟩; have T9 := T8.keep hb9; have hR9 := hR8.later hb9; have G := T9.at0; obtain ⟨⟨x0, x1, x2, x3, x4, x5, x6, x7, x8⟩, y0, y1, y2, y3, y4, y5, y6, y7, y8⟩ := G; have G := T9.at1; obtain ⟨⟨u0, u1, u2, u3, u4, u5, u6, u7, u8⟩, v0, v1, v2, v3, v4, v5, v6, v7, v8⟩ := G)
    | (go_at_call 20; first | ((with_reducible refine (hRd _).mono ?_); rintro e w10 ⟨dv, rfl, hN10, hb10⟩; obtain ⟨d1, c1, rfl⟩ := hN10.slice; have H10 := RHeld.new (r := a) hN10; have hal := (Below.refl w10.heap.size w10).alloc (Nat.le_refl _) (.cells #[.int .i64 a.k, .string a.s, .int .i64 a.t, .int .i64 a.v, .int .i64 a.tier, .int .i64 a.st.c, .int .i64 a.st.s, .int .i64 a.st.q, (.slice d1 a.d.length c1)] 26); have T10 := (T9.keep hb10).keep hal; have hR10 := (hR9.later hb10).later hal; have G := T10.at0; obtain ⟨⟨x0, x1, x2, x3, x4, x5, x6, x7, x8⟩, y0, y1, y2, y3, y4, y5, y6, y7, y8⟩ := G; have G := T10.at1; obtain ⟨⟨u0, u1, u2, u3, u4, u5, u6, u7, u8⟩, v0, v1, v2, v3, v4, v5, v6, v7, v8⟩ := G; have G := H10.at_; obtain ⟨z0, z1, z2, z3, z4, z5, z6, z7, z8⟩ := G) | ((with_reducible refine (hRc _).mono ?_); rintro e w12 ⟨dv, rfl, hN12, hb12⟩; obtain ⟨d3, c3, rfl⟩ := hN12.slice; dsimp only [List.length_nil] at hN12; have T12 := (T11.keep hb12).keep ((Below.refl w12.heap.size w12).alloc (Nat.le_refl _) (.cells #[.int .i64 0, .string ⟨#[]⟩, .int .i64 0, .int .i64 0, .int .i64 0, .int .i64 0, .int .i64 0, .int .i64 0, .slice d3 0 c3] 26)); have hR12 := (hR11.later hb12).later ((Below.refl w12.heap.size w12).alloc (Nat.le_refl _) (.cells #[.int .i64 0, .string ⟨#[]⟩, .int .i64 0, .int .i64 0, .int .i64 0, .int .i64 0, .int .i64 0, .int .i64 0, .slice d3 0 c3] 26)); have G := T12.at0; obtain ⟨⟨x0, x1, x2, x3, x4, x5, x6, x7, x8⟩, y0, y1, y2, y3, y4, y5, y6, y7, y8⟩ := G; have G := T12.at1; obtain ⟨⟨u0, u1, u2, u3, u4, u5, u6, u7, u8⟩, v0, v1, v2, v3, v4, v5, v6, v7, v8⟩ := G))
    | (go_at_call 24; first | ((with_reducible refine (hsa _ _ _ H10.ns T10.n0).mono ?_); rintro e w11 ⟨rfl, hb11⟩; have T11 := T10.keep hb11; have hR11 := hR10.later hb11; have G := T11.at0; obtain ⟨⟨x0, x1, x2, x3, x4, x5, x6, x7, x8⟩, y0, y1, y2, y3, y4, y5, y6, y7, y8⟩ := G; have G := T11.at1; obtain ⟨⟨u0, u1, u2, u3, u4, u5, u6, u7, u8⟩, v0, v1, v2, v3, v4, v5, v6, v7, v8⟩ := G))
    | (go_at_call 22; (with_reducible refine (hRp _).mono ?_); rintro e w14 ⟨v, rfl, hP14, hb14⟩; obtain ⟨a14, c14, rfl⟩ := hP14.slice; have T14 := T12.keep hb14; have hQ14 := hP14.pts; have hR14 := (hR12.later hb14).pts)
    | (go_at_call 25; (with_reducible refine (hsp _ _ _ _ _ hQ14 hR14).mono ?_); rintro e w15 ⟨rfl, hb15⟩; have T15 := T14.keep hb15))
  go_ret
  exact ⟨rfl, T15.bel⟩

set_option maxHeartbeats 16000000 in
theorem back_s0 (a b R0 R1 : Rec) (dv0 dv1 : Value) (a0 : Option Addr) (cap0 : Nat) (l m : List Pt) (w : World) (e0 : R0.small = a) (e1 : R1.small = b) (em : fewL l = m) (hr0 : R0.wide) (hA0 : ArgNs w dv0 R0.d) (hr1 : R1.wide) (hA1 : ArgNs w dv1 R1.d) (hS : Pts w w.heap.size a0 l) (hl : l.length ≤ 9223372036854775807) (hf : ∀ p ∈ l, p.fits) (ha : a.ok = true) (_hb : b.ok = true) (hab : a = b) (hg : m.all Pt.ok = false) : Calls Try.prog 6 #[recV R0 dv0, recV R1 dv1, .slice a0 l.length cap0] w fun e w' => e = .returned (.bool true) ∧ Below w.heap.size w w' := by
  have hfa := hr0.small
  have hfb := hr1.small
  have hNa := hA0.cut
  have hNb := hA1.cut
  have hs0 := fun w h => lsmall_cut R0 dv0 w h
  have hs1 := fun w h => lsmall_cut R1 dv1 w h
  have d0 : R0.d.take 12 = a.d := by rw [← e0]; rfl
  have d1 : R1.d.take 12 = b.d := by rw [← e1]; rfl
  rw [e0] at hfa hs0
  rw [e1] at hfb hs1
  rw [d0] at hNa
  rw [d1] at hNb
  obtain ⟨da, hda⟩ : ∃ dv, cut12 dv0 = dv := ⟨_, rfl⟩
  obtain ⟨db, hdb⟩ : ∃ dv, cut12 dv1 = dv := ⟨_, rfl⟩
  rw [hda] at hNa hs0
  rw [hdb] at hNb hs1
  clear hda hdb e0 e1 d0 d1
  obtain ⟨ya, za, rfl⟩ := hNa.slice
  obtain ⟨yb, zb, rfl⟩ := hNb.slice
  have hka := fun w h => bytes6_is a (.slice ya a.d.length za) w h hfa
  have hkb := fun w h => bytes6_is b (.slice yb b.d.length zb) w h hfb
  have hmf := fun p (hp : p ∈ m) => (⟨by rw [← em] at hp; have := fewL_short hp; omega, by rw [← em] at hp; exact (fewL_fits hf hp).v⟩ : p.s.size ≤ 1000000 ∧ p.vfit)
  have hm30 : m.length ≤ 30 := by rw [← em]; exact fewL_len l
  have hk := fun w h => few_is a0 cap0 l w h hl
  have hP := fun a5 c5 w h => points_is a5 c5 m w h (by omega) hmf
  unfold FewDone at hk
  unfold PointsDone at hP
  rw [em] at hk
  have ea : a.enc = (tx a.bytes, 0) := by unfold Rec.enc; rw [ha]; rfl
  have hbk := back_of ha hfa
  have eb : b.enc = (tx a.bytes, 0) := by rw [← hab]; exact ea
  obtain ⟨s, hs⟩ : ∃ s, tx a.bytes = s := ⟨_, rfl⟩
  rw [hs] at ea hbk eb
  have hRd := fun w => pread6_is s w (by have := hbk.size; omega)
  obtain ⟨sc, hsc⟩ : ∃ x, s.extract 0 (s.size - 1) = x := ⟨_, rfl⟩
  have hcq := hbk.cut
  rw [hsc] at hcq
  have hRc := fun w => pread6_is sc w (by have h1 := hbk.size; rw [← hsc, ByteArray.size_extract]; omega)
  unfold Read6Done at hRd hRc
  rw [hbk.read] at hRd
  rw [hcq] at hRc
  have hsa := fun dx dy w h1 h2 => rsamer_is a a dx dy true w h1 h2 (Lib.hid (Rec.same_iff.2 rfl))
  have hpos : 0 < s.size := hbk.pos
  have hsz : s.size ≤ 1000 := hbk.size
  have hz0 : ((s.size : Int) == 0) = false := by rw [beq_eq_false_iff_ne]; omega
  have hz1 : (0 : Int) ≤ (s.size : Int) - 1 := by omega
  have hz2 : (s.size : Int) - 1 ≤ (s.size : Int) := by omega
  have hsb := fun dx dy w h1 h2 => rsamer_is a b dx dy true w h1 h2 (Lib.hid (Rec.same_iff.2 hab))
  rw [ea] at hka
  rw [eb] at hkb
  dsimp only at hka hkb
  have epg : ptsA m = (⟨#[]⟩, 1) := by unfold ptsA; rw [if_neg (by rw [hg]; simp)]
  rw [epg] at hP
  dsimp only at hP
  have HA0 := Lib.hid hA0
  have HA1 := Lib.hid hA1
  have HNA := Lib.hid hNa
  have HNB := Lib.hid hNb
  have HS := Lib.hid hS
  have HM := Lib.hid hm30
  have Ab : RecW (w.alloc (.cells #[.int .i64 R0.k, .string R0.s, .int .i64 R0.t, .int .i64 R0.v, .int .i64 R0.tier, .int .i64 R0.st.c, .int .i64 R0.st.s, .int .i64 R0.st.q, dv0] 26)) w.heap.size R0 dv0 := RecW.new w R0 dv0
  have A0 := Ab.below ((Below.refl _ _).alloc (Nat.le_refl _) (.cells #[.int .i64 R1.k, .string R1.s, .int .i64 R1.t, .int .i64 R1.v, .int .i64 R1.tier, .int .i64 R1.st.c, .int .i64 R1.st.s, .int .i64 R1.st.q, dv1] 26))
  have C0 : RecW ((w.alloc (.cells #[.int .i64 R0.k, .string R0.s, .int .i64 R0.t, .int .i64 R0.v, .int .i64 R0.tier, .int .i64 R0.st.c, .int .i64 R0.st.s, .int .i64 R0.st.q, dv0] 26)).alloc (.cells #[.int .i64 R1.k, .string R1.s, .int .i64 R1.t, .int .i64 R1.v, .int .i64 R1.tier, .int .i64 R1.st.c, .int .i64 R1.st.s, .int .i64 R1.st.q, dv1] 26)) (w.heap.size + 1) R1 dv1 := by have := RecW.new (w.alloc (.cells #[.int .i64 R0.k, .string R0.s, .int .i64 R0.t, .int .i64 R0.v, .int .i64 R0.tier, .int .i64 R0.st.c, .int .i64 R0.st.s, .int .i64 R0.st.q, dv0] 26)) R1 dv1; simpa using this
  have B0 : Below w.heap.size w ((w.alloc (.cells #[.int .i64 R0.k, .string R0.s, .int .i64 R0.t, .int .i64 R0.v, .int .i64 R0.tier, .int .i64 R0.st.c, .int .i64 R0.st.s, .int .i64 R0.st.q, dv0] 26)).alloc (.cells #[.int .i64 R1.k, .string R1.s, .int .i64 R1.t, .int .i64 R1.v, .int .i64 R1.tier, .int .i64 R1.st.c, .int .i64 R1.st.s, .int .i64 R1.st.q, dv1] 26)) := bel_new ((Below.refl _ _).alloc (Nat.le_refl _) _) _
  unfold recV at hka hkb hs0 hs1 hRd hRc hsa hsb ⊢
  dsimp only [Option.getD_some, Option.isSome_some] at hRd
  rw [if_pos rfl] at hRd
  dsimp only [Option.getD_none, Option.isSome_none, Rec.zero] at hRc
  rw [if_neg (by simp)] at hRc
  clear Ab hA0 hA1 hNa hNb hS hm30 hmf hfa hfb hr0 hr1 hf hl hg epg em ea eb ha _hb hab hbk hs hcq
  go_enter Try.func6, Try.ntmps6
  go_wp2_with (first
    | (go_at_call 9; (with_reducible refine (awake_any _).mono ?_); rintro e w1 ⟨rfl, hb1⟩; have A1 := A0.below hb1; have C1 := C0.below hb1; have B1 := bel_next B0 hb1; have G := A1; obtain ⟨⟨x0, x1, x2, x3, x4, x5, x6, x7, x8⟩, y0, y1, y2, y3, y4, y5, y6, y7, y8⟩ := G; have G := C1; obtain ⟨⟨u0, u1, u2, u3, u4, u5, u6, u7, u8⟩, v0, v1, v2, v3, v4, v5, v6, v7, v8⟩ := G)
    | (go_at_call 10; first | ((with_reducible refine (hs0 _ (HA0.out.below B1)).mono ?_); rintro e w2 ⟨rfl, hb2⟩; have A2 := A1.below hb2; have C2 := C1.below hb2; have B2 := bel_next B1 hb2; have A3 := A2.nine (r := a) (dv := (.slice ya a.d.length za)); have C3 := C2.nine_other (b := w.heap.size) (r := a) (dv := (.slice ya a.d.length za)) (by omega); have B3 := nine_bel (b := w.heap.size) (r := a) (dv := (.slice ya a.d.length za)) B2 (Nat.le_refl _); unfold nine at A3 C3 B3; have G := A2; obtain ⟨⟨x0, x1, x2, x3, x4, x5, x6, x7, x8⟩, y0, y1, y2, y3, y4, y5, y6, y7, y8⟩ := G; have G := C2; obtain ⟨⟨u0, u1, u2, u3, u4, u5, u6, u7, u8⟩, v0, v1, v2, v3, v4, v5, v6, v7, v8⟩ := G; (have G := C3.at_; obtain ⟨u0, u1, u2, u3, u4, u5, u6, u7, u8⟩ := G)) | ((with_reducible refine (hs1 _ (HA1.out.below B3)).mono ?_); rintro e w4 ⟨rfl, hb4⟩; have A4 := A3.below hb4; have C4 := C3.below hb4; have B4 := bel_next B3 hb4; have A5 := A4.nine_other (b := w.heap.size + 1) (r := b) (dv := (.slice yb b.d.length zb)) (by omega); have C5 := C4.nine (r := b) (dv := (.slice yb b.d.length zb)); have B5 := nine_bel (b := w.heap.size + 1) (r := b) (dv := (.slice yb b.d.length zb)) B4 (Nat.le_succ _); have hSp := (HS.out.below B5).mono B5.size; have T5 : TwoR w w.heap.size (w.heap.size + 1) a b (.slice ya a.d.length za) (.slice yb b.d.length zb) _ := ⟨A5, C5, (HNA.out.below B5).mono B5.size (Nat.le_refl _), (HNB.out.below B5).mono B5.size (Nat.le_refl _), B5⟩; unfold nine at T5 hSp; clear A5 C5 B5; have G := A4; obtain ⟨⟨x0, x1, x2, x3, x4, x5, x6, x7, x8⟩, y0, y1, y2, y3, y4, y5, y6, y7, y8⟩ := G; have G := C4; obtain ⟨⟨u0, u1, u2, u3, u4, u5, u6, u7, u8⟩, v0, v1, v2, v3, v4, v5, v6, v7, v8⟩ := G))
    | (go_at_call 26; (with_reducible refine (hk _ hSp).mono ?_); rintro e w6 ⟨v, rfl, hR, hb6⟩; obtain ⟨a5, c5, rfl⟩ := hR.slice; have T6 := T5.keep hb6; have G := T6.at0; obtain ⟨⟨x0, x1, x2, x3, x4, x5, x6, x7, x8⟩, y0, y1, y2, y3, y4, y5, y6, y7, y8⟩ := G; have G := T6.at1; obtain ⟨⟨u0, u1, u2, u3, u4, u5, u6, u7, u8⟩, v0, v1, v2, v3, v4, v5, v6, v7, v8⟩ := G)
    | (go_at_call 12; first | ((with_reducible refine (hka _ T6.n0).mono ?_); rintro e w7 ⟨rfl, hb7⟩; have T7 := T6.keep hb7; have hR7 := hR.later hb7; have G := T7.at0; obtain ⟨⟨x0, x1, x2, x3, x4, x5, x6, x7, x8⟩, y0, y1, y2, y3, y4, y5, y6, y7, y8⟩ := G; have G := T7.at1; obtain ⟨⟨u0, u1, u2, u3, u4, u5, u6, u7, u8⟩, v0, v1, v2, v3, v4, v5, v6, v7, v8⟩ := G) | ((with_reducible refine (hkb _ T7.n1).mono ?_); rintro e w8 ⟨rfl, hb8⟩; have T8 := T7.keep hb8; have hR8 := hR7.later hb8; have hP8 := hR8.pts; have G := T8.at0; obtain ⟨⟨x0, x1, x2, x3, x4, x5, x6, x7, x8⟩, y0, y1, y2, y3, y4, y5, y6, y7, y8⟩ := G; have G := T8.at1; obtain ⟨⟨u0, u1, u2, u3, u4, u5, u6, u7, u8⟩, v0, v1, v2, v3, v4, v5, v6, v7, v8⟩ := G))
    | (go_at_call 27; (with_reducible refine (hP _ _ _ hP8).mono ?_); rintro e w9 ⟨rfl, hb9⟩; have T9 := T8.keep hb9; have hR9 := hR8.later hb9; have G := T9.at0; obtain ⟨⟨x0, x1, x2, x3, x4, x5, x6, x7, x8⟩, y0, y1, y2, y3, y4, y5, y6, y7, y8⟩ := G; have G := T9.at1; obtain ⟨⟨u0, u1, u2, u3, u4, u5, u6, u7, u8⟩, v0, v1, v2, v3, v4, v5, v6, v7, v8⟩ := G)
    | (go_at_call 20; first | ((with_reducible refine (hRd _).mono ?_); rintro e w10 ⟨dv, rfl, hN10, hb10⟩; obtain ⟨d1, c1, rfl⟩ := hN10.slice; have H10 := RHeld.new (r := a) hN10; have hal := (Below.refl w10.heap.size w10).alloc (Nat.le_refl _) (.cells #[.int .i64 a.k, .string a.s, .int .i64 a.t, .int .i64 a.v, .int .i64 a.tier, .int .i64 a.st.c, .int .i64 a.st.s, .int .i64 a.st.q, (.slice d1 a.d.length c1)] 26); have T10 := (T9.keep hb10).keep hal; have hR10 := (hR9.later hb10).later hal; have G := T10.at0; obtain ⟨⟨x0, x1, x2, x3, x4, x5, x6, x7, x8⟩, y0, y1, y2, y3, y4, y5, y6, y7, y8⟩ := G; have G := T10.at1; obtain ⟨⟨u0, u1, u2, u3, u4, u5, u6, u7, u8⟩, v0, v1, v2, v3, v4, v5, v6, v7, v8⟩ := G; have G := H10.at_; obtain ⟨z0, z1, z2, z3, z4, z5, z6, z7, z8⟩ := G) | ((with_reducible refine (hRc _).mono ?_); rintro e w12 ⟨dv, rfl, hN12, hb12⟩; obtain ⟨d3, c3, rfl⟩ := hN12.slice; dsimp only [List.length_nil] at hN12; have T12 := (T11.keep hb12).keep ((Below.refl w12.heap.size w12).alloc (Nat.le_refl _) (.cells #[.int .i64 0, .string ⟨#[]⟩, .int .i64 0, .int .i64 0, .int .i64 0, .int .i64 0, .int .i64 0, .int .i64 0, .slice d3 0 c3] 26)); have hR12 := (hR11.later hb12).later ((Below.refl w12.heap.size w12).alloc (Nat.le_refl _) (.cells #[.int .i64 0, .string ⟨#[]⟩, .int .i64 0, .int .i64 0, .int .i64 0, .int .i64 0, .int .i64 0, .int .i64 0, .slice d3 0 c3] 26)); have G := T12.at0; obtain ⟨⟨x0, x1, x2, x3, x4, x5, x6, x7, x8⟩, y0, y1, y2, y3, y4, y5, y6, y7, y8⟩ := G; have G := T12.at1; obtain ⟨⟨u0, u1, u2, u3, u4, u5, u6, u7, u8⟩, v0, v1, v2, v3, v4, v5, v6, v7, v8⟩ := G))
    | (go_at_call 24; first | ((with_reducible refine (hsa _ _ _ H10.ns T10.n0).mono ?_); rintro e w11 ⟨rfl, hb11⟩; have T11 := T10.keep hb11; have hR11 := hR10.later hb11; have G := T11.at0; obtain ⟨⟨x0, x1, x2, x3, x4, x5, x6, x7, x8⟩, y0, y1, y2, y3, y4, y5, y6, y7, y8⟩ := G; have G := T11.at1; obtain ⟨⟨u0, u1, u2, u3, u4, u5, u6, u7, u8⟩, v0, v1, v2, v3, v4, v5, v6, v7, v8⟩ := G) | ((with_reducible refine (hsb _ _ _ T12.n0 T12.n1).mono ?_); rintro e w13 ⟨rfl, hb13⟩; have T13 := T12.keep hb13; have hR13 := hR12.later hb13; have G := T13.at0; obtain ⟨⟨x0, x1, x2, x3, x4, x5, x6, x7, x8⟩, y0, y1, y2, y3, y4, y5, y6, y7, y8⟩ := G; have G := T13.at1; obtain ⟨⟨u0, u1, u2, u3, u4, u5, u6, u7, u8⟩, v0, v1, v2, v3, v4, v5, v6, v7, v8⟩ := G)))
  go_ret
  exact ⟨rfl, T13.bel⟩

set_option maxHeartbeats 16000000 in
theorem back_s1 (a b R0 R1 : Rec) (dv0 dv1 : Value) (a0 : Option Addr) (cap0 : Nat) (l m : List Pt) (w : World) (e0 : R0.small = a) (e1 : R1.small = b) (em : fewL l = m) (hr0 : R0.wide) (hA0 : ArgNs w dv0 R0.d) (hr1 : R1.wide) (hA1 : ArgNs w dv1 R1.d) (hS : Pts w w.heap.size a0 l) (hl : l.length ≤ 9223372036854775807) (hf : ∀ p ∈ l, p.fits) (ha : a.ok = true) (_hb : b.ok = true) (hab : a = b) (hg : m.all Pt.ok = true) : Calls Try.prog 6 #[recV R0 dv0, recV R1 dv1, .slice a0 l.length cap0] w fun e w' => e = .returned (.bool true) ∧ Below w.heap.size w w' := by
  have hfa := hr0.small
  have hfb := hr1.small
  have hNa := hA0.cut
  have hNb := hA1.cut
  have hs0 := fun w h => lsmall_cut R0 dv0 w h
  have hs1 := fun w h => lsmall_cut R1 dv1 w h
  have d0 : R0.d.take 12 = a.d := by rw [← e0]; rfl
  have d1 : R1.d.take 12 = b.d := by rw [← e1]; rfl
  rw [e0] at hfa hs0
  rw [e1] at hfb hs1
  rw [d0] at hNa
  rw [d1] at hNb
  obtain ⟨da, hda⟩ : ∃ dv, cut12 dv0 = dv := ⟨_, rfl⟩
  obtain ⟨db, hdb⟩ : ∃ dv, cut12 dv1 = dv := ⟨_, rfl⟩
  rw [hda] at hNa hs0
  rw [hdb] at hNb hs1
  clear hda hdb e0 e1 d0 d1
  obtain ⟨ya, za, rfl⟩ := hNa.slice
  obtain ⟨yb, zb, rfl⟩ := hNb.slice
  have hka := fun w h => bytes6_is a (.slice ya a.d.length za) w h hfa
  have hkb := fun w h => bytes6_is b (.slice yb b.d.length zb) w h hfb
  have hmf := fun p (hp : p ∈ m) => (⟨by rw [← em] at hp; have := fewL_short hp; omega, by rw [← em] at hp; exact (fewL_fits hf hp).v⟩ : p.s.size ≤ 1000000 ∧ p.vfit)
  have hm30 : m.length ≤ 30 := by rw [← em]; exact fewL_len l
  have hk := fun w h => few_is a0 cap0 l w h hl
  have hP := fun a5 c5 w h => points_is a5 c5 m w h (by omega) hmf
  unfold FewDone at hk
  unfold PointsDone at hP
  rw [em] at hk
  have ea : a.enc = (tx a.bytes, 0) := by unfold Rec.enc; rw [ha]; rfl
  have hbk := back_of ha hfa
  have eb : b.enc = (tx a.bytes, 0) := by rw [← hab]; exact ea
  obtain ⟨s, hs⟩ : ∃ s, tx a.bytes = s := ⟨_, rfl⟩
  rw [hs] at ea hbk eb
  have hRd := fun w => pread6_is s w (by have := hbk.size; omega)
  obtain ⟨sc, hsc⟩ : ∃ x, s.extract 0 (s.size - 1) = x := ⟨_, rfl⟩
  have hcq := hbk.cut
  rw [hsc] at hcq
  have hRc := fun w => pread6_is sc w (by have h1 := hbk.size; rw [← hsc, ByteArray.size_extract]; omega)
  unfold Read6Done at hRd hRc
  rw [hbk.read] at hRd
  rw [hcq] at hRc
  have hsa := fun dx dy w h1 h2 => rsamer_is a a dx dy true w h1 h2 (Lib.hid (Rec.same_iff.2 rfl))
  have hpos : 0 < s.size := hbk.pos
  have hsz : s.size ≤ 1000 := hbk.size
  have hz0 : ((s.size : Int) == 0) = false := by rw [beq_eq_false_iff_ne]; omega
  have hz1 : (0 : Int) ≤ (s.size : Int) - 1 := by omega
  have hz2 : (s.size : Int) - 1 ≤ (s.size : Int) := by omega
  have hsb := fun dx dy w h1 h2 => rsamer_is a b dx dy true w h1 h2 (Lib.hid (Rec.same_iff.2 hab))
  rw [ea] at hka
  rw [eb] at hkb
  dsimp only at hka hkb
  have epg : ptsA m = (tx (ptsB m), 0) := by unfold ptsA; rw [if_pos hg, if_neg (by omega)]
  have hmo : ∀ p ∈ m, p.ok = true ∧ p.vfit := fun p hp => ⟨List.all_eq_true.1 hg p hp, (hmf p hp).2⟩
  have hpq := ptsQ_enc m (by omega) hmo
  have hul : (tx (ptsB m)).size ≤ 10000 := by
    have h1 := bytesP_len m hmo
    have h2 := enc_len10 m.length (by omega)
    rw [tx_size]; unfold ptsB; rw [List.length_append]; omega
  obtain ⟨u, hu⟩ : ∃ u, tx (ptsB m) = u := ⟨_, rfl⟩
  rw [hu] at epg hpq hul
  have hRp := fun w => readpoints_is u w (by omega)
  unfold RPDone at hRp
  rw [hpq] at hRp
  have hsp := fun x y cx cy w h1 h2 => rsamep_is x y cx cy m m true w h1 h2 (by omega) (by omega) (Lib.hid (by unfold sameP; simp))
  rw [epg] at hP
  dsimp only at hP
  have HA0 := Lib.hid hA0
  have HA1 := Lib.hid hA1
  have HNA := Lib.hid hNa
  have HNB := Lib.hid hNb
  have HS := Lib.hid hS
  have HM := Lib.hid hm30
  have Ab : RecW (w.alloc (.cells #[.int .i64 R0.k, .string R0.s, .int .i64 R0.t, .int .i64 R0.v, .int .i64 R0.tier, .int .i64 R0.st.c, .int .i64 R0.st.s, .int .i64 R0.st.q, dv0] 26)) w.heap.size R0 dv0 := RecW.new w R0 dv0
  have A0 := Ab.below ((Below.refl _ _).alloc (Nat.le_refl _) (.cells #[.int .i64 R1.k, .string R1.s, .int .i64 R1.t, .int .i64 R1.v, .int .i64 R1.tier, .int .i64 R1.st.c, .int .i64 R1.st.s, .int .i64 R1.st.q, dv1] 26))
  have C0 : RecW ((w.alloc (.cells #[.int .i64 R0.k, .string R0.s, .int .i64 R0.t, .int .i64 R0.v, .int .i64 R0.tier, .int .i64 R0.st.c, .int .i64 R0.st.s, .int .i64 R0.st.q, dv0] 26)).alloc (.cells #[.int .i64 R1.k, .string R1.s, .int .i64 R1.t, .int .i64 R1.v, .int .i64 R1.tier, .int .i64 R1.st.c, .int .i64 R1.st.s, .int .i64 R1.st.q, dv1] 26)) (w.heap.size + 1) R1 dv1 := by have := RecW.new (w.alloc (.cells #[.int .i64 R0.k, .string R0.s, .int .i64 R0.t, .int .i64 R0.v, .int .i64 R0.tier, .int .i64 R0.st.c, .int .i64 R0.st.s, .int .i64 R0.st.q, dv0] 26)) R1 dv1; simpa using this
  have B0 : Below w.heap.size w ((w.alloc (.cells #[.int .i64 R0.k, .string R0.s, .int .i64 R0.t, .int .i64 R0.v, .int .i64 R0.tier, .int .i64 R0.st.c, .int .i64 R0.st.s, .int .i64 R0.st.q, dv0] 26)).alloc (.cells #[.int .i64 R1.k, .string R1.s, .int .i64 R1.t, .int .i64 R1.v, .int .i64 R1.tier, .int .i64 R1.st.c, .int .i64 R1.st.s, .int .i64 R1.st.q, dv1] 26)) := bel_new ((Below.refl _ _).alloc (Nat.le_refl _) _) _
  unfold recV at hka hkb hs0 hs1 hRd hRc hsa hsb ⊢
  dsimp only [Option.getD_some, Option.isSome_some] at hRd
  rw [if_pos rfl] at hRd
  dsimp only [Option.getD_none, Option.isSome_none, Rec.zero] at hRc
  rw [if_neg (by simp)] at hRc
  dsimp only [Option.getD_some, Option.isSome_some] at hRp
  rw [if_pos rfl] at hRp
  clear Ab hA0 hA1 hNa hNb hS hm30 hmf hfa hfb hr0 hr1 hf hl hg epg em ea eb ha _hb hab hbk hs hcq hmo hpq hul hu
  go_enter Try.func6, Try.ntmps6
  go_wp2_with (first
    | (go_at_call 9; (with_reducible refine (awake_any _).mono ?_); rintro e w1 ⟨rfl, hb1⟩; have A1 := A0.below hb1; have C1 := C0.below hb1; have B1 := bel_next B0 hb1; have G := A1; obtain ⟨⟨x0, x1, x2, x3, x4, x5, x6, x7, x8⟩, y0, y1, y2, y3, y4, y5, y6, y7, y8⟩ := G; have G := C1; obtain ⟨⟨u0, u1, u2, u3, u4, u5, u6, u7, u8⟩, v0, v1, v2, v3, v4, v5, v6, v7, v8⟩ := G)
    | (go_at_call 10; first | ((with_reducible refine (hs0 _ (HA0.out.below B1)).mono ?_); rintro e w2 ⟨rfl, hb2⟩; have A2 := A1.below hb2; have C2 := C1.below hb2; have B2 := bel_next B1 hb2; have A3 := A2.nine (r := a) (dv := (.slice ya a.d.length za)); have C3 := C2.nine_other (b := w.heap.size) (r := a) (dv := (.slice ya a.d.length za)) (by omega); have B3 := nine_bel (b := w.heap.size) (r := a) (dv := (.slice ya a.d.length za)) B2 (Nat.le_refl _); unfold nine at A3 C3 B3; have G := A2; obtain ⟨⟨x0, x1, x2, x3, x4, x5, x6, x7, x8⟩, y0, y1, y2, y3, y4, y5, y6, y7, y8⟩ := G; have G := C2; obtain ⟨⟨u0, u1, u2, u3, u4, u5, u6, u7, u8⟩, v0, v1, v2, v3, v4, v5, v6, v7, v8⟩ := G; (have G := C3.at_; obtain ⟨u0, u1, u2, u3, u4, u5, u6, u7, u8⟩ := G)) | ((with_reducible refine (hs1 _ (HA1.out.below B3)).mono ?_); rintro e w4 ⟨rfl, hb4⟩; have A4 := A3.below hb4; have C4 := C3.below hb4; have B4 := bel_next B3 hb4; have A5 := A4.nine_other (b := w.heap.size + 1) (r := b) (dv := (.slice yb b.d.length zb)) (by omega); have C5 := C4.nine (r := b) (dv := (.slice yb b.d.length zb)); have B5 := nine_bel (b := w.heap.size + 1) (r := b) (dv := (.slice yb b.d.length zb)) B4 (Nat.le_succ _); have hSp := (HS.out.below B5).mono B5.size; have T5 : TwoR w w.heap.size (w.heap.size + 1) a b (.slice ya a.d.length za) (.slice yb b.d.length zb) _ := ⟨A5, C5, (HNA.out.below B5).mono B5.size (Nat.le_refl _), (HNB.out.below B5).mono B5.size (Nat.le_refl _), B5⟩; unfold nine at T5 hSp; clear A5 C5 B5; have G := A4; obtain ⟨⟨x0, x1, x2, x3, x4, x5, x6, x7, x8⟩, y0, y1, y2, y3, y4, y5, y6, y7, y8⟩ := G; have G := C4; obtain ⟨⟨u0, u1, u2, u3, u4, u5, u6, u7, u8⟩, v0, v1, v2, v3, v4, v5, v6, v7, v8⟩ := G))
    | (go_at_call 26; (with_reducible refine (hk _ hSp).mono ?_); rintro e w6 ⟨v, rfl, hR, hb6⟩; obtain ⟨a5, c5, rfl⟩ := hR.slice; have T6 := T5.keep hb6; have G := T6.at0; obtain ⟨⟨x0, x1, x2, x3, x4, x5, x6, x7, x8⟩, y0, y1, y2, y3, y4, y5, y6, y7, y8⟩ := G; have G := T6.at1; obtain ⟨⟨u0, u1, u2, u3, u4, u5, u6, u7, u8⟩, v0, v1, v2, v3, v4, v5, v6, v7, v8⟩ := G)
    | (go_at_call 12; first | ((with_reducible refine (hka _ T6.n0).mono ?_); rintro e w7 ⟨rfl, hb7⟩; have T7 := T6.keep hb7; have hR7 := hR.later hb7; have G := T7.at0; obtain ⟨⟨x0, x1, x2, x3, x4, x5, x6, x7, x8⟩, y0, y1, y2, y3, y4, y5, y6, y7, y8⟩ := G; have G := T7.at1; obtain ⟨⟨u0, u1, u2, u3, u4, u5, u6, u7, u8⟩, v0, v1, v2, v3, v4, v5, v6, v7, v8⟩ := G) | ((with_reducible refine (hkb _ T7.n1).mono ?_); rintro e w8 ⟨rfl, hb8⟩; have T8 := T7.keep hb8; have hR8 := hR7.later hb8; have hP8 := hR8.pts; have G := T8.at0; obtain ⟨⟨x0, x1, x2, x3, x4, x5, x6, x7, x8⟩, y0, y1, y2, y3, y4, y5, y6, y7, y8⟩ := G; have G := T8.at1; obtain ⟨⟨u0, u1, u2, u3, u4, u5, u6, u7, u8⟩, v0, v1, v2, v3, v4, v5, v6, v7, v8⟩ := G))
    | (go_at_call 27; (with_reducible refine (hP _ _ _ hP8).mono ?_); rintro e w9 ⟨rfl, hb9⟩; have T9 := T8.keep hb9; have hR9 := hR8.later hb9; have G := T9.at0; obtain ⟨⟨x0, x1, x2, x3, x4, x5, x6, x7, x8⟩, y0, y1, y2, y3, y4, y5, y6, y7, y8⟩ := G; have G := T9.at1; obtain ⟨⟨u0, u1, u2, u3, u4, u5, u6, u7, u8⟩, v0, v1, v2, v3, v4, v5, v6, v7, v8⟩ := G)
    | (go_at_call 20; first | ((with_reducible refine (hRd _).mono ?_); rintro e w10 ⟨dv, rfl, hN10, hb10⟩; obtain ⟨d1, c1, rfl⟩ := hN10.slice; have H10 := RHeld.new (r := a) hN10; have hal := (Below.refl w10.heap.size w10).alloc (Nat.le_refl _) (.cells #[.int .i64 a.k, .string a.s, .int .i64 a.t, .int .i64 a.v, .int .i64 a.tier, .int .i64 a.st.c, .int .i64 a.st.s, .int .i64 a.st.q, (.slice d1 a.d.length c1)] 26); have T10 := (T9.keep hb10).keep hal; have hR10 := (hR9.later hb10).later hal; have G := T10.at0; obtain ⟨⟨x0, x1, x2, x3, x4, x5, x6, x7, x8⟩, y0, y1, y2, y3, y4, y5, y6, y7, y8⟩ := G; have G := T10.at1; obtain ⟨⟨u0, u1, u2, u3, u4, u5, u6, u7, u8⟩, v0, v1, v2, v3, v4, v5, v6, v7, v8⟩ := G; have G := H10.at_; obtain ⟨z0, z1, z2, z3, z4, z5, z6, z7, z8⟩ := G) | ((with_reducible refine (hRc _).mono ?_); rintro e w12 ⟨dv, rfl, hN12, hb12⟩; obtain ⟨d3, c3, rfl⟩ := hN12.slice; dsimp only [List.length_nil] at hN12; have T12 := (T11.keep hb12).keep ((Below.refl w12.heap.size w12).alloc (Nat.le_refl _) (.cells #[.int .i64 0, .string ⟨#[]⟩, .int .i64 0, .int .i64 0, .int .i64 0, .int .i64 0, .int .i64 0, .int .i64 0, .slice d3 0 c3] 26)); have hR12 := (hR11.later hb12).later ((Below.refl w12.heap.size w12).alloc (Nat.le_refl _) (.cells #[.int .i64 0, .string ⟨#[]⟩, .int .i64 0, .int .i64 0, .int .i64 0, .int .i64 0, .int .i64 0, .int .i64 0, .slice d3 0 c3] 26)); have G := T12.at0; obtain ⟨⟨x0, x1, x2, x3, x4, x5, x6, x7, x8⟩, y0, y1, y2, y3, y4, y5, y6, y7, y8⟩ := G; have G := T12.at1; obtain ⟨⟨u0, u1, u2, u3, u4, u5, u6, u7, u8⟩, v0, v1, v2, v3, v4, v5, v6, v7, v8⟩ := G))
    | (go_at_call 24; first | ((with_reducible refine (hsa _ _ _ H10.ns T10.n0).mono ?_); rintro e w11 ⟨rfl, hb11⟩; have T11 := T10.keep hb11; have hR11 := hR10.later hb11; have G := T11.at0; obtain ⟨⟨x0, x1, x2, x3, x4, x5, x6, x7, x8⟩, y0, y1, y2, y3, y4, y5, y6, y7, y8⟩ := G; have G := T11.at1; obtain ⟨⟨u0, u1, u2, u3, u4, u5, u6, u7, u8⟩, v0, v1, v2, v3, v4, v5, v6, v7, v8⟩ := G) | ((with_reducible refine (hsb _ _ _ T12.n0 T12.n1).mono ?_); rintro e w13 ⟨rfl, hb13⟩; have T13 := T12.keep hb13; have hR13 := hR12.later hb13; have G := T13.at0; obtain ⟨⟨x0, x1, x2, x3, x4, x5, x6, x7, x8⟩, y0, y1, y2, y3, y4, y5, y6, y7, y8⟩ := G; have G := T13.at1; obtain ⟨⟨u0, u1, u2, u3, u4, u5, u6, u7, u8⟩, v0, v1, v2, v3, v4, v5, v6, v7, v8⟩ := G))
    | (go_at_call 22; (with_reducible refine (hRp _).mono ?_); rintro e w14 ⟨v, rfl, hP14, hb14⟩; obtain ⟨a14, c14, rfl⟩ := hP14.slice; have T14 := T13.keep hb14; have hQ14 := hP14.pts; have hR14 := (hR13.later hb14).pts)
    | (go_at_call 25; (with_reducible refine (hsp _ _ _ _ _ hQ14 hR14).mono ?_); rintro e w15 ⟨rfl, hb15⟩; have T15 := T14.keep hb15))
  go_ret
  exact ⟨rfl, T15.bel⟩

set_option maxHeartbeats 16000000 in
theorem back_d0 (a b R0 R1 : Rec) (dv0 dv1 : Value) (a0 : Option Addr) (cap0 : Nat) (l m : List Pt) (w : World) (e0 : R0.small = a) (e1 : R1.small = b) (em : fewL l = m) (hr0 : R0.wide) (hA0 : ArgNs w dv0 R0.d) (hr1 : R1.wide) (hA1 : ArgNs w dv1 R1.d) (hS : Pts w w.heap.size a0 l) (hl : l.length ≤ 9223372036854775807) (hf : ∀ p ∈ l, p.fits) (ha : a.ok = true) (hb : b.ok = true) (hab : a ≠ b) (hg : m.all Pt.ok = false) : Calls Try.prog 6 #[recV R0 dv0, recV R1 dv1, .slice a0 l.length cap0] w fun e w' => e = .returned (.bool true) ∧ Below w.heap.size w w' := by
  have hfa := hr0.small
  have hfb := hr1.small
  have hNa := hA0.cut
  have hNb := hA1.cut
  have hs0 := fun w h => lsmall_cut R0 dv0 w h
  have hs1 := fun w h => lsmall_cut R1 dv1 w h
  have d0 : R0.d.take 12 = a.d := by rw [← e0]; rfl
  have d1 : R1.d.take 12 = b.d := by rw [← e1]; rfl
  rw [e0] at hfa hs0
  rw [e1] at hfb hs1
  rw [d0] at hNa
  rw [d1] at hNb
  obtain ⟨da, hda⟩ : ∃ dv, cut12 dv0 = dv := ⟨_, rfl⟩
  obtain ⟨db, hdb⟩ : ∃ dv, cut12 dv1 = dv := ⟨_, rfl⟩
  rw [hda] at hNa hs0
  rw [hdb] at hNb hs1
  clear hda hdb e0 e1 d0 d1
  obtain ⟨ya, za, rfl⟩ := hNa.slice
  obtain ⟨yb, zb, rfl⟩ := hNb.slice
  have hka := fun w h => bytes6_is a (.slice ya a.d.length za) w h hfa
  have hkb := fun w h => bytes6_is b (.slice yb b.d.length zb) w h hfb
  have hmf := fun p (hp : p ∈ m) => (⟨by rw [← em] at hp; have := fewL_short hp; omega, by rw [← em] at hp; exact (fewL_fits hf hp).v⟩ : p.s.size ≤ 1000000 ∧ p.vfit)
  have hm30 : m.length ≤ 30 := by rw [← em]; exact fewL_len l
  have hk := fun w h => few_is a0 cap0 l w h hl
  have hP := fun a5 c5 w h => points_is a5 c5 m w h (by omega) hmf
  unfold FewDone at hk
  unfold PointsDone at hP
  rw [em] at hk
  have ea : a.enc = (tx a.bytes, 0) := by unfold Rec.enc; rw [ha]; rfl
  have hbk := back_of ha hfa
  have eb : b.enc = (tx b.bytes, 0) := by unfold Rec.enc; rw [hb]; rfl
  have hne : tx a.bytes ≠ tx b.bytes := fun e => hab (bytes_inj6 ha hb hfa.v hfb.v e)
  obtain ⟨tb, htb⟩ : ∃ t, tx b.bytes = t := ⟨_, rfl⟩
  rw [htb] at hne eb
  obtain ⟨s, hs⟩ : ∃ s, tx a.bytes = s := ⟨_, rfl⟩
  rw [hs] at ea hbk hne
  have hRd := fun w => pread6_is s w (by have := hbk.size; omega)
  obtain ⟨sc, hsc⟩ : ∃ x, s.extract 0 (s.size - 1) = x := ⟨_, rfl⟩
  have hcq := hbk.cut
  rw [hsc] at hcq
  have hRc := fun w => pread6_is sc w (by have h1 := hbk.size; rw [← hsc, ByteArray.size_extract]; omega)
  unfold Read6Done at hRd hRc
  rw [hbk.read] at hRd
  rw [hcq] at hRc
  have hsa := fun dx dy w h1 h2 => rsamer_is a a dx dy true w h1 h2 (Lib.hid (Rec.same_iff.2 rfl))
  have hpos : 0 < s.size := hbk.pos
  have hsz : s.size ≤ 1000 := hbk.size
  have hz0 : ((s.size : Int) == 0) = false := by rw [beq_eq_false_iff_ne]; omega
  have hz1 : (0 : Int) ≤ (s.size : Int) - 1 := by omega
  have hz2 : (s.size : Int) - 1 ≤ (s.size : Int) := by omega
  have hsb := fun dx dy w h1 h2 => rsamer_is a b dx dy false w h1 h2 (Lib.hid (Rec.same_no hab))
  have hstn := seq_ne hne
  rw [ea] at hka
  rw [eb] at hkb
  dsimp only at hka hkb
  have epg : ptsA m = (⟨#[]⟩, 1) := by unfold ptsA; rw [if_neg (by rw [hg]; simp)]
  rw [epg] at hP
  dsimp only at hP
  have HA0 := Lib.hid hA0
  have HA1 := Lib.hid hA1
  have HNA := Lib.hid hNa
  have HNB := Lib.hid hNb
  have HS := Lib.hid hS
  have HM := Lib.hid hm30
  have Ab : RecW (w.alloc (.cells #[.int .i64 R0.k, .string R0.s, .int .i64 R0.t, .int .i64 R0.v, .int .i64 R0.tier, .int .i64 R0.st.c, .int .i64 R0.st.s, .int .i64 R0.st.q, dv0] 26)) w.heap.size R0 dv0 := RecW.new w R0 dv0
  have A0 := Ab.below ((Below.refl _ _).alloc (Nat.le_refl _) (.cells #[.int .i64 R1.k, .string R1.s, .int .i64 R1.t, .int .i64 R1.v, .int .i64 R1.tier, .int .i64 R1.st.c, .int .i64 R1.st.s, .int .i64 R1.st.q, dv1] 26))
  have C0 : RecW ((w.alloc (.cells #[.int .i64 R0.k, .string R0.s, .int .i64 R0.t, .int .i64 R0.v, .int .i64 R0.tier, .int .i64 R0.st.c, .int .i64 R0.st.s, .int .i64 R0.st.q, dv0] 26)).alloc (.cells #[.int .i64 R1.k, .string R1.s, .int .i64 R1.t, .int .i64 R1.v, .int .i64 R1.tier, .int .i64 R1.st.c, .int .i64 R1.st.s, .int .i64 R1.st.q, dv1] 26)) (w.heap.size + 1) R1 dv1 := by have := RecW.new (w.alloc (.cells #[.int .i64 R0.k, .string R0.s, .int .i64 R0.t, .int .i64 R0.v, .int .i64 R0.tier, .int .i64 R0.st.c, .int .i64 R0.st.s, .int .i64 R0.st.q, dv0] 26)) R1 dv1; simpa using this
  have B0 : Below w.heap.size w ((w.alloc (.cells #[.int .i64 R0.k, .string R0.s, .int .i64 R0.t, .int .i64 R0.v, .int .i64 R0.tier, .int .i64 R0.st.c, .int .i64 R0.st.s, .int .i64 R0.st.q, dv0] 26)).alloc (.cells #[.int .i64 R1.k, .string R1.s, .int .i64 R1.t, .int .i64 R1.v, .int .i64 R1.tier, .int .i64 R1.st.c, .int .i64 R1.st.s, .int .i64 R1.st.q, dv1] 26)) := bel_new ((Below.refl _ _).alloc (Nat.le_refl _) _) _
  unfold recV at hka hkb hs0 hs1 hRd hRc hsa hsb ⊢
  dsimp only [Option.getD_some, Option.isSome_some] at hRd
  rw [if_pos rfl] at hRd
  dsimp only [Option.getD_none, Option.isSome_none, Rec.zero] at hRc
  rw [if_neg (by simp)] at hRc
  clear Ab hA0 hA1 hNa hNb hS hm30 hmf hfa hfb hr0 hr1 hf hl hg epg em ea eb ha hb hab hbk hs htb hne hcq
  go_enter Try.func6, Try.ntmps6
  go_wp2_with (first
    | (go_at_call 9; (with_reducible refine (awake_any _).mono ?_); rintro e w1 ⟨rfl, hb1⟩; have A1 := A0.below hb1; have C1 := C0.below hb1; have B1 := bel_next B0 hb1; have G := A1; obtain ⟨⟨x0, x1, x2, x3, x4, x5, x6, x7, x8⟩, y0, y1, y2, y3, y4, y5, y6, y7, y8⟩ := G; have G := C1; obtain ⟨⟨u0, u1, u2, u3, u4, u5, u6, u7, u8⟩, v0, v1, v2, v3, v4, v5, v6, v7, v8⟩ := G)
    | (go_at_call 10; first | ((with_reducible refine (hs0 _ (HA0.out.below B1)).mono ?_); rintro e w2 ⟨rfl, hb2⟩; have A2 := A1.below hb2; have C2 := C1.below hb2; have B2 := bel_next B1 hb2; have A3 := A2.nine (r := a) (dv := (.slice ya a.d.length za)); have C3 := C2.nine_other (b := w.heap.size) (r := a) (dv := (.slice ya a.d.length za)) (by omega); have B3 := nine_bel (b := w.heap.size) (r := a) (dv := (.slice ya a.d.length za)) B2 (Nat.le_refl _); unfold nine at A3 C3 B3; have G := A2; obtain ⟨⟨x0, x1, x2, x3, x4, x5, x6, x7, x8⟩, y0, y1, y2, y3, y4, y5, y6, y7, y8⟩ := G; have G := C2; obtain ⟨⟨u0, u1, u2, u3, u4, u5, u6, u7, u8⟩, v0, v1, v2, v3, v4, v5, v6, v7, v8⟩ := G; (have G := C3.at_; obtain ⟨u0, u1, u2, u3, u4, u5, u6, u7, u8⟩ := G)) | ((with_reducible refine (hs1 _ (HA1.out.below B3)).mono ?_); rintro e w4 ⟨rfl, hb4⟩; have A4 := A3.below hb4; have C4 := C3.below hb4; have B4 := bel_next B3 hb4; have A5 := A4.nine_other (b := w.heap.size + 1) (r := b) (dv := (.slice yb b.d.length zb)) (by omega); have C5 := C4.nine (r := b) (dv := (.slice yb b.d.length zb)); have B5 := nine_bel (b := w.heap.size + 1) (r := b) (dv := (.slice yb b.d.length zb)) B4 (Nat.le_succ _); have hSp := (HS.out.below B5).mono B5.size; have T5 : TwoR w w.heap.size (w.heap.size + 1) a b (.slice ya a.d.length za) (.slice yb b.d.length zb) _ := ⟨A5, C5, (HNA.out.below B5).mono B5.size (Nat.le_refl _), (HNB.out.below B5).mono B5.size (Nat.le_refl _), B5⟩; unfold nine at T5 hSp; clear A5 C5 B5; have G := A4; obtain ⟨⟨x0, x1, x2, x3, x4, x5, x6, x7, x8⟩, y0, y1, y2, y3, y4, y5, y6, y7, y8⟩ := G; have G := C4; obtain ⟨⟨u0, u1, u2, u3, u4, u5, u6, u7, u8⟩, v0, v1, v2, v3, v4, v5, v6, v7, v8⟩ := G))
    | (go_at_call 26; (with_reducible refine (hk _ hSp).mono ?_); rintro e w6 ⟨v, rfl, hR, hb6⟩; obtain ⟨a5, c5, rfl⟩ := hR.slice; have T6 := T5.keep hb6; have G := T6.at0; obtain ⟨⟨x0, x1, x2, x3, x4, x5, x6, x7, x8⟩, y0, y1, y2, y3, y4, y5, y6, y7, y8⟩ := G; have G := T6.at1; obtain ⟨⟨u0, u1, u2, u3, u4, u5, u6, u7, u8⟩, v0, v1, v2, v3, v4, v5, v6, v7, v8⟩ := G)
    | (go_at_call 12; first | ((with_reducible refine (hka _ T6.n0).mono ?_); rintro e w7 ⟨rfl, hb7⟩; have T7 := T6.keep hb7; have hR7 := hR.later hb7; have G := T7.at0; obtain ⟨⟨x0, x1, x2, x3, x4, x5, x6, x7, x8⟩, y0, y1, y2, y3, y4, y5, y6, y7, y8⟩ := G; have G := T7.at1; obtain ⟨⟨u0, u1, u2, u3, u4, u5, u6, u7, u8⟩, v0, v1, v2, v3, v4, v5, v6, v7, v8⟩ := G) | ((with_reducible refine (hkb _ T7.n1).mono ?_); rintro e w8 ⟨rfl, hb8⟩; have T8 := T7.keep hb8; have hR8 := hR7.later hb8; have hP8 := hR8.pts; have G := T8.at0; obtain ⟨⟨x0, x1, x2, x3, x4, x5, x6, x7, x8⟩, y0, y1, y2, y3, y4, y5, y6, y7, y8⟩ := G; have G := T8.at1; obtain ⟨⟨u0, u1, u2, u3, u4, u5, u6, u7, u8⟩, v0, v1, v2, v3, v4, v5, v6, v7, v8⟩ := G))
    | (go_at_call 27; (with_reducible refine (hP _ _ _ hP8).mono ?_); rintro e w9 ⟨rfl, hb9⟩; have T9 := T8.keep hb9; have hR9 := hR8.later hb9; have G := T9.at0; obtain ⟨⟨x0, x1, x2, x3, x4, x5, x6, x7, x8⟩, y0, y1, y2, y3, y4, y5, y6, y7, y8⟩ := G; have G := T9.at1; obtain ⟨⟨u0, u1, u2, u3, u4, u5, u6, u7, u8⟩, v0, v1, v2, v3, v4, v5, v6, v7, v8⟩ := G)
    | (go_at_call 20; first | ((with_reducible refine (hRd _).mono ?_); rintro e w10 ⟨dv, rfl, hN10, hb10⟩; obtain ⟨d1, c1, rfl⟩ := hN10.slice; have H10 := RHeld.new (r := a) hN10; have hal := (Below.refl w10.heap.size w10).alloc (Nat.le_refl _) (.cells #[.int .i64 a.k, .string a.s, .int .i64 a.t, .int .i64 a.v, .int .i64 a.tier, .int .i64 a.st.c, .int .i64 a.st.s, .int .i64 a.st.q, (.slice d1 a.d.length c1)] 26); have T10 := (T9.keep hb10).keep hal; have hR10 := (hR9.later hb10).later hal; have G := T10.at0; obtain ⟨⟨x0, x1, x2, x3, x4, x5, x6, x7, x8⟩, y0, y1, y2, y3, y4, y5, y6, y7, y8⟩ := G; have G := T10.at1; obtain ⟨⟨u0, u1, u2, u3, u4, u5, u6, u7, u8⟩, v0, v1, v2, v3, v4, v5, v6, v7, v8⟩ := G; have G := H10.at_; obtain ⟨z0, z1, z2, z3, z4, z5, z6, z7, z8⟩ := G) | ((with_reducible refine (hRc _).mono ?_); rintro e w12 ⟨dv, rfl, hN12, hb12⟩; obtain ⟨d3, c3, rfl⟩ := hN12.slice; dsimp only [List.length_nil] at hN12; have T12 := (T11.keep hb12).keep ((Below.refl w12.heap.size w12).alloc (Nat.le_refl _) (.cells #[.int .i64 0, .string ⟨#[]⟩, .int .i64 0, .int .i64 0, .int .i64 0, .int .i64 0, .int .i64 0, .int .i64 0, .slice d3 0 c3] 26)); have hR12 := (hR11.later hb12).later ((Below.refl w12.heap.size w12).alloc (Nat.le_refl _) (.cells #[.int .i64 0, .string ⟨#[]⟩, .int .i64 0, .int .i64 0, .int .i64 0, .int .i64 0, .int .i64 0, .int .i64 0, .slice d3 0 c3] 26)); have G := T12.at0; obtain ⟨⟨x0, x1, x2, x3, x4, x5, x6, x7, x8⟩, y0, y1, y2, y3, y4, y5, y6, y7, y8⟩ := G; have G := T12.at1; obtain ⟨⟨u0, u1, u2, u3, u4, u5, u6, u7, u8⟩, v0, v1, v2, v3, v4, v5, v6, v7, v8⟩ := G))
    | (go_at_call 24; first | ((with_reducible refine (hsa _ _ _ H10.ns T10.n0).mono ?_); rintro e w11 ⟨rfl, hb11⟩; have T11 := T10.keep hb11; have hR11 := hR10.later hb11; have G := T11.at0; obtain ⟨⟨x0, x1, x2, x3, x4, x5, x6, x7, x8⟩, y0, y1, y2, y3, y4, y5, y6, y7, y8⟩ := G; have G := T11.at1; obtain ⟨⟨u0, u1, u2, u3, u4, u5, u6, u7, u8⟩, v0, v1, v2, v3, v4, v5, v6, v7, v8⟩ := G) | ((with_reducible refine (hsb _ _ _ T12.n0 T12.n1).mono ?_); rintro e w13 ⟨rfl, hb13⟩; have T13 := T12.keep hb13; have hR13 := hR12.later hb13; have G := T13.at0; obtain ⟨⟨x0, x1, x2, x3, x4, x5, x6, x7, x8⟩, y0, y1, y2, y3, y4, y5, y6, y7, y8⟩ := G; have G := T13.at1; obtain ⟨⟨u0, u1, u2, u3, u4, u5, u6, u7, u8⟩, v0, v1, v2, v3, v4, v5, v6, v7, v8⟩ := G)))
  go_ret
  exact ⟨rfl, T13.bel⟩

set_option maxHeartbeats 16000000 in
theorem back_d1 (a b R0 R1 : Rec) (dv0 dv1 : Value) (a0 : Option Addr) (cap0 : Nat) (l m : List Pt) (w : World) (e0 : R0.small = a) (e1 : R1.small = b) (em : fewL l = m) (hr0 : R0.wide) (hA0 : ArgNs w dv0 R0.d) (hr1 : R1.wide) (hA1 : ArgNs w dv1 R1.d) (hS : Pts w w.heap.size a0 l) (hl : l.length ≤ 9223372036854775807) (hf : ∀ p ∈ l, p.fits) (ha : a.ok = true) (hb : b.ok = true) (hab : a ≠ b) (hg : m.all Pt.ok = true) : Calls Try.prog 6 #[recV R0 dv0, recV R1 dv1, .slice a0 l.length cap0] w fun e w' => e = .returned (.bool true) ∧ Below w.heap.size w w' := by
  have hfa := hr0.small
  have hfb := hr1.small
  have hNa := hA0.cut
  have hNb := hA1.cut
  have hs0 := fun w h => lsmall_cut R0 dv0 w h
  have hs1 := fun w h => lsmall_cut R1 dv1 w h
  have d0 : R0.d.take 12 = a.d := by rw [← e0]; rfl
  have d1 : R1.d.take 12 = b.d := by rw [← e1]; rfl
  rw [e0] at hfa hs0
  rw [e1] at hfb hs1
  rw [d0] at hNa
  rw [d1] at hNb
  obtain ⟨da, hda⟩ : ∃ dv, cut12 dv0 = dv := ⟨_, rfl⟩
  obtain ⟨db, hdb⟩ : ∃ dv, cut12 dv1 = dv := ⟨_, rfl⟩
  rw [hda] at hNa hs0
  rw [hdb] at hNb hs1
  clear hda hdb e0 e1 d0 d1
  obtain ⟨ya, za, rfl⟩ := hNa.slice
  obtain ⟨yb, zb, rfl⟩ := hNb.slice
  have hka := fun w h => bytes6_is a (.slice ya a.d.length za) w h hfa
  have hkb := fun w h => bytes6_is b (.slice yb b.d.length zb) w h hfb
  have hmf := fun p (hp : p ∈ m) => (⟨by rw [← em] at hp; have := fewL_short hp; omega, by rw [← em] at hp; exact (fewL_fits hf hp).v⟩ : p.s.size ≤ 1000000 ∧ p.vfit)
  have hm30 : m.length ≤ 30 := by rw [← em]; exact fewL_len l
  have hk := fun w h => few_is a0 cap0 l w h hl
  have hP := fun a5 c5 w h => points_is a5 c5 m w h (by omega) hmf
  unfold FewDone at hk
  unfold PointsDone at hP
  rw [em] at hk
  have ea : a.enc = (tx a.bytes, 0) := by unfold Rec.enc; rw [ha]; rfl
  have hbk := back_of ha hfa
  have eb : b.enc = (tx b.bytes, 0) := by unfold Rec.enc; rw [hb]; rfl
  have hne : tx a.bytes ≠ tx b.bytes := fun e => hab (bytes_inj6 ha hb hfa.v hfb.v e)
  obtain ⟨tb, htb⟩ : ∃ t, tx b.bytes = t := ⟨_, rfl⟩
  rw [htb] at hne eb
  obtain ⟨s, hs⟩ : ∃ s, tx a.bytes = s := ⟨_, rfl⟩
  rw [hs] at ea hbk hne
  have hRd := fun w => pread6_is s w (by have := hbk.size; omega)
  obtain ⟨sc, hsc⟩ : ∃ x, s.extract 0 (s.size - 1) = x := ⟨_, rfl⟩
  have hcq := hbk.cut
  rw [hsc] at hcq
  have hRc := fun w => pread6_is sc w (by have h1 := hbk.size; rw [← hsc, ByteArray.size_extract]; omega)
  unfold Read6Done at hRd hRc
  rw [hbk.read] at hRd
  rw [hcq] at hRc
  have hsa := fun dx dy w h1 h2 => rsamer_is a a dx dy true w h1 h2 (Lib.hid (Rec.same_iff.2 rfl))
  have hpos : 0 < s.size := hbk.pos
  have hsz : s.size ≤ 1000 := hbk.size
  have hz0 : ((s.size : Int) == 0) = false := by rw [beq_eq_false_iff_ne]; omega
  have hz1 : (0 : Int) ≤ (s.size : Int) - 1 := by omega
  have hz2 : (s.size : Int) - 1 ≤ (s.size : Int) := by omega
  have hsb := fun dx dy w h1 h2 => rsamer_is a b dx dy false w h1 h2 (Lib.hid (Rec.same_no hab))
  have hstn := seq_ne hne
  rw [ea] at hka
  rw [eb] at hkb
  dsimp only at hka hkb
  have epg : ptsA m = (tx (ptsB m), 0) := by unfold ptsA; rw [if_pos hg, if_neg (by omega)]
  have hmo : ∀ p ∈ m, p.ok = true ∧ p.vfit := fun p hp => ⟨List.all_eq_true.1 hg p hp, (hmf p hp).2⟩
  have hpq := ptsQ_enc m (by omega) hmo
  have hul : (tx (ptsB m)).size ≤ 10000 := by
    have h1 := bytesP_len m hmo
    have h2 := enc_len10 m.length (by omega)
    rw [tx_size]; unfold ptsB; rw [List.length_append]; omega
  obtain ⟨u, hu⟩ : ∃ u, tx (ptsB m) = u := ⟨_, rfl⟩
  rw [hu] at epg hpq hul
  have hRp := fun w => readpoints_is u w (by omega)
  unfold RPDone at hRp
  rw [hpq] at hRp
  have hsp := fun x y cx cy w h1 h2 => rsamep_is x y cx cy m m true w h1 h2 (by omega) (by omega) (Lib.hid (by unfold sameP; simp))
  rw [epg] at hP
  dsimp only at hP
  have HA0 := Lib.hid hA0
  have HA1 := Lib.hid hA1
  have HNA := Lib.hid hNa
  have HNB := Lib.hid hNb
  have HS := Lib.hid hS
  have HM := Lib.hid hm30
  have Ab : RecW (w.alloc (.cells #[.int .i64 R0.k, .string R0.s, .int .i64 R0.t, .int .i64 R0.v, .int .i64 R0.tier, .int .i64 R0.st.c, .int .i64 R0.st.s, .int .i64 R0.st.q, dv0] 26)) w.heap.size R0 dv0 := RecW.new w R0 dv0
  have A0 := Ab.below ((Below.refl _ _).alloc (Nat.le_refl _) (.cells #[.int .i64 R1.k, .string R1.s, .int .i64 R1.t, .int .i64 R1.v, .int .i64 R1.tier, .int .i64 R1.st.c, .int .i64 R1.st.s, .int .i64 R1.st.q, dv1] 26))
  have C0 : RecW ((w.alloc (.cells #[.int .i64 R0.k, .string R0.s, .int .i64 R0.t, .int .i64 R0.v, .int .i64 R0.tier, .int .i64 R0.st.c, .int .i64 R0.st.s, .int .i64 R0.st.q, dv0] 26)).alloc (.cells #[.int .i64 R1.k, .string R1.s, .int .i64 R1.t, .int .i64 R1.v, .int .i64 R1.tier, .int .i64 R1.st.c, .int .i64 R1.st.s, .int .i64 R1.st.q, dv1] 26)) (w.heap.size + 1) R1 dv1 := by have := RecW.new (w.alloc (.cells #[.int .i64 R0.k, .string R0.s, .int .i64 R0.t, .int .i64 R0.v, .int .i64 R0.tier, .int .i64 R0.st.c, .int .i64 R0.st.s, .int .i64 R0.st.q, dv0] 26)) R1 dv1; simpa using this
  have B0 : Below w.heap.size w ((w.alloc (.cells #[.int .i64 R0.k, .string R0.s, .int .i64 R0.t, .int .i64 R0.v, .int .i64 R0.tier, .int .i64 R0.st.c, .int .i64 R0.st.s, .int .i64 R0.st.q, dv0] 26)).alloc (.cells #[.int .i64 R1.k, .string R1.s, .int .i64 R1.t, .int .i64 R1.v, .int .i64 R1.tier, .int .i64 R1.st.c, .int .i64 R1.st.s, .int .i64 R1.st.q, dv1] 26)) := bel_new ((Below.refl _ _).alloc (Nat.le_refl _) _) _
  unfold recV at hka hkb hs0 hs1 hRd hRc hsa hsb ⊢
  dsimp only [Option.getD_some, Option.isSome_some] at hRd
  rw [if_pos rfl] at hRd
  dsimp only [Option.getD_none, Option.isSome_none, Rec.zero] at hRc
  rw [if_neg (by simp)] at hRc
  dsimp only [Option.getD_some, Option.isSome_some] at hRp
  rw [if_pos rfl] at hRp
  clear Ab hA0 hA1 hNa hNb hS hm30 hmf hfa hfb hr0 hr1 hf hl hg epg em ea eb ha hb hab hbk hs htb hne hcq hmo hpq hul hu
  go_enter Try.func6, Try.ntmps6
  go_wp2_with (first
    | (go_at_call 9; (with_reducible refine (awake_any _).mono ?_); rintro e w1 ⟨rfl, hb1⟩; have A1 := A0.below hb1; have C1 := C0.below hb1; have B1 := bel_next B0 hb1; have G := A1; obtain ⟨⟨x0, x1, x2, x3, x4, x5, x6, x7, x8⟩, y0, y1, y2, y3, y4, y5, y6, y7, y8⟩ := G; have G := C1; obtain ⟨⟨u0, u1, u2, u3, u4, u5, u6, u7, u8⟩, v0, v1, v2, v3, v4, v5, v6, v7, v8⟩ := G)
    | (go_at_call 10; first | ((with_reducible refine (hs0 _ (HA0.out.below B1)).mono ?_); rintro e w2 ⟨rfl, hb2⟩; have A2 := A1.below hb2; have C2 := C1.below hb2; have B2 := bel_next B1 hb2; have A3 := A2.nine (r := a) (dv := (.slice ya a.d.length za)); have C3 := C2.nine_other (b := w.heap.size) (r := a) (dv := (.slice ya a.d.length za)) (by omega); have B3 := nine_bel (b := w.heap.size) (r := a) (dv := (.slice ya a.d.length za)) B2 (Nat.le_refl _); unfold nine at A3 C3 B3; have G := A2; obtain ⟨⟨x0, x1, x2, x3, x4, x5, x6, x7, x8⟩, y0, y1, y2, y3, y4, y5, y6, y7, y8⟩ := G; have G := C2; obtain ⟨⟨u0, u1, u2, u3, u4, u5, u6, u7, u8⟩, v0, v1, v2, v3, v4, v5, v6, v7, v8⟩ := G; (have G := C3.at_; obtain ⟨u0, u1, u2, u3, u4, u5, u6, u7, u8⟩ := G)) | ((with_reducible refine (hs1 _ (HA1.out.below B3)).mono ?_); rintro e w4 ⟨rfl, hb4⟩; have A4 := A3.below hb4; have C4 := C3.below hb4; have B4 := bel_next B3 hb4; have A5 := A4.nine_other (b := w.heap.size + 1) (r := b) (dv := (.slice yb b.d.length zb)) (by omega); have C5 := C4.nine (r := b) (dv := (.slice yb b.d.length zb)); have B5 := nine_bel (b := w.heap.size + 1) (r := b) (dv := (.slice yb b.d.length zb)) B4 (Nat.le_succ _); have hSp := (HS.out.below B5).mono B5.size; have T5 : TwoR w w.heap.size (w.heap.size + 1) a b (.slice ya a.d.length za) (.slice yb b.d.length zb) _ := ⟨A5, C5, (HNA.out.below B5).mono B5.size (Nat.le_refl _), (HNB.out.below B5).mono B5.size (Nat.le_refl _), B5⟩; unfold nine at T5 hSp; clear A5 C5 B5; have G := A4; obtain ⟨⟨x0, x1, x2, x3, x4, x5, x6, x7, x8⟩, y0, y1, y2, y3, y4, y5, y6, y7, y8⟩ := G; have G := C4; obtain ⟨⟨u0, u1, u2, u3, u4, u5, u6, u7, u8⟩, v0, v1, v2, v3, v4, v5, v6, v7, v8⟩ := G))
    | (go_at_call 26; (with_reducible refine (hk _ hSp).mono ?_); rintro e w6 ⟨v, rfl, hR, hb6⟩; obtain ⟨a5, c5, rfl⟩ := hR.slice; have T6 := T5.keep hb6; have G := T6.at0; obtain ⟨⟨x0, x1, x2, x3, x4, x5, x6, x7, x8⟩, y0, y1, y2, y3, y4, y5, y6, y7, y8⟩ := G; have G := T6.at1; obtain ⟨⟨u0, u1, u2, u3, u4, u5, u6, u7, u8⟩, v0, v1, v2, v3, v4, v5, v6, v7, v8⟩ := G)
    | (go_at_call 12; first | ((with_reducible refine (hka _ T6.n0).mono ?_); rintro e w7 ⟨rfl, hb7⟩; have T7 := T6.keep hb7; have hR7 := hR.later hb7; have G := T7.at0; obtain ⟨⟨x0, x1, x2, x3, x4, x5, x6, x7, x8⟩, y0, y1, y2, y3, y4, y5, y6, y7, y8⟩ := G; have G := T7.at1; obtain ⟨⟨u0, u1, u2, u3, u4, u5, u6, u7, u8⟩, v0, v1, v2, v3, v4, v5, v6, v7, v8⟩ := G) | ((with_reducible refine (hkb _ T7.n1).mono ?_); rintro e w8 ⟨rfl, hb8⟩; have T8 := T7.keep hb8; have hR8 := hR7.later hb8; have hP8 := hR8.pts; have G := T8.at0; obtain ⟨⟨x0, x1, x2, x3, x4, x5, x6, x7, x8⟩, y0, y1, y2, y3, y4, y5, y6, y7, y8⟩ := G; have G := T8.at1; obtain ⟨⟨u0, u1, u2, u3, u4, u5, u6, u7, u8⟩, v0, v1, v2, v3, v4, v5, v6, v7, v8⟩ := G))
    | (go_at_call 27; (with_reducible refine (hP _ _ _ hP8).mono ?_); rintro e w9 ⟨rfl, hb9⟩; have T9 := T8.keep hb9; have hR9 := hR8.later hb9; have G := T9.at0; obtain ⟨⟨x0, x1, x2, x3, x4, x5, x6, x7, x8⟩, y0, y1, y2, y3, y4, y5, y6, y7, y8⟩ := G; have G := T9.at1; obtain ⟨⟨u0, u1, u2, u3, u4, u5, u6, u7, u8⟩, v0, v1, v2, v3, v4, v5, v6, v7, v8⟩ := G)
    | (go_at_call 20; first | ((with_reducible refine (hRd _).mono ?_); rintro e w10 ⟨dv, rfl, hN10, hb10⟩; obtain ⟨d1, c1, rfl⟩ := hN10.slice; have H10 := RHeld.new (r := a) hN10; have hal := (Below.refl w10.heap.size w10).alloc (Nat.le_refl _) (.cells #[.int .i64 a.k, .string a.s, .int .i64 a.t, .int .i64 a.v, .int .i64 a.tier, .int .i64 a.st.c, .int .i64 a.st.s, .int .i64 a.st.q, (.slice d1 a.d.length c1)] 26); have T10 := (T9.keep hb10).keep hal; have hR10 := (hR9.later hb10).later hal; have G := T10.at0; obtain ⟨⟨x0, x1, x2, x3, x4, x5, x6, x7, x8⟩, y0, y1, y2, y3, y4, y5, y6, y7, y8⟩ := G; have G := T10.at1; obtain ⟨⟨u0, u1, u2, u3, u4, u5, u6, u7, u8⟩, v0, v1, v2, v3, v4, v5, v6, v7, v8⟩ := G; have G := H10.at_; obtain ⟨z0, z1, z2, z3, z4, z5, z6, z7, z8⟩ := G) | ((with_reducible refine (hRc _).mono ?_); rintro e w12 ⟨dv, rfl, hN12, hb12⟩; obtain ⟨d3, c3, rfl⟩ := hN12.slice; dsimp only [List.length_nil] at hN12; have T12 := (T11.keep hb12).keep ((Below.refl w12.heap.size w12).alloc (Nat.le_refl _) (.cells #[.int .i64 0, .string ⟨#[]⟩, .int .i64 0, .int .i64 0, .int .i64 0, .int .i64 0, .int .i64 0, .int .i64 0, .slice d3 0 c3] 26)); have hR12 := (hR11.later hb12).later ((Below.refl w12.heap.size w12).alloc (Nat.le_refl _) (.cells #[.int .i64 0, .string ⟨#[]⟩, .int .i64 0, .int .i64 0, .int .i64 0, .int .i64 0, .int .i64 0, .int .i64 0, .slice d3 0 c3] 26)); have G := T12.at0; obtain ⟨⟨x0, x1, x2, x3, x4, x5, x6, x7, x8⟩, y0, y1, y2, y3, y4, y5, y6, y7, y8⟩ := G; have G := T12.at1; obtain ⟨⟨u0, u1, u2, u3, u4, u5, u6, u7, u8⟩, v0, v1, v2, v3, v4, v5, v6, v7, v8⟩ := G))
    | (go_at_call 24; first | ((with_reducible refine (hsa _ _ _ H10.ns T10.n0).mono ?_); rintro e w11 ⟨rfl, hb11⟩; have T11 := T10.keep hb11; have hR11 := hR10.later hb11; have G := T11.at0; obtain ⟨⟨x0, x1, x2, x3, x4, x5, x6, x7, x8⟩, y0, y1, y2, y3, y4, y5, y6, y7, y8⟩ := G; have G := T11.at1; obtain ⟨⟨u0, u1, u2, u3, u4, u5, u6, u7, u8⟩, v0, v1, v2, v3, v4, v5, v6, v7, v8⟩ := G) | ((with_reducible refine (hsb _ _ _ T12.n0 T12.n1).mono ?_); rintro e w13 ⟨rfl, hb13⟩; have T13 := T12.keep hb13; have hR13 := hR12.later hb13; have G := T13.at0; obtain ⟨⟨x0, x1, x2, x3, x4, x5, x6, x7, x8⟩, y0, y1, y2, y3, y4, y5, y6, y7, y8⟩ := G; have G := T13.at1; obtain ⟨⟨u0, u1, u2, u3, u4, u5, u6, u7, u8⟩, v0, v1, v2, v3, v4, v5, v6, v7, v8⟩ := G))
    | (go_at_call 22; (with_reducible refine (hRp _).mono ?_); rintro e w14 ⟨v, rfl, hP14, hb14⟩; obtain ⟨a14, c14, rfl⟩ := hP14.slice; have T14 := T13.keep hb14; have hQ14 := hP14.pts; have hR14 := (hR13.later hb14).pts)
    | (go_at_call 25; (with_reducible refine (hsp _ _ _ _ _ hQ14 hR14).mono ?_); rintro e w15 ⟨rfl, hb15⟩; have T15 := T14.keep hb15))
  go_ret
  exact ⟨rfl, T15.bel⟩

theorem walk (R0 : Rec) (dv0 : Value) (R1 : Rec) (dv1 : Value) (a0 : Option Addr) (len0 cap0 : Nat) (w : World) (hr0 : R0.wide) (hA0 : ArgNs w dv0 R0.d) (hr1 : R1.wide) (hA1 : ArgNs w dv1 R1.d) (h : ArgPts w a0 len0 cap0) : Calls Try.prog 6 #[recV R0 dv0, recV R1 dv1, .slice a0 len0 cap0] w fun e w' => e = .returned (.bool true) ∧ Below w.heap.size w w' := by
  obtain ⟨l, rfl, hS, hl, hf⟩ := h.has
  cases ha : R0.small.ok with
  | false =>
    cases hg : (fewL l).all Pt.ok with
    | false => exact back_n0 _ _ R0 R1 dv0 dv1 a0 cap0 l _ w rfl rfl rfl hr0 hA0 hr1 hA1 hS hl hf ha hg
    | true => exact back_n1 _ _ R0 R1 dv0 dv1 a0 cap0 l _ w rfl rfl rfl hr0 hA0 hr1 hA1 hS hl hf ha hg
  | true =>
    cases hb : R1.small.ok with
    | false =>
      cases hg : (fewL l).all Pt.ok with
      | false => exact back_f0 _ _ R0 R1 dv0 dv1 a0 cap0 l _ w rfl rfl rfl hr0 hA0 hr1 hA1 hS hl hf ha hb hg
      | true => exact back_f1 _ _ R0 R1 dv0 dv1 a0 cap0 l _ w rfl rfl rfl hr0 hA0 hr1 hA1 hS hl hf ha hb hg
    | true =>
      cases hs : R0.small.same R1.small with
      | true =>
        have hab := Rec.same_iff.1 hs
        cases hg : (fewL l).all Pt.ok with
        | false => exact back_s0 _ _ R0 R1 dv0 dv1 a0 cap0 l _ w rfl rfl rfl hr0 hA0 hr1 hA1 hS hl hf ha hb hab hg
        | true => exact back_s1 _ _ R0 R1 dv0 dv1 a0 cap0 l _ w rfl rfl rfl hr0 hA0 hr1 hA1 hS hl hf ha hb hab hg
      | false =>
        have hab : R0.small ≠ R1.small := fun e => by rw [Rec.same_iff.2 e] at hs; cases hs
        cases hg : (fewL l).all Pt.ok with
        | false => exact back_d0 _ _ R0 R1 dv0 dv1 a0 cap0 l _ w rfl rfl rfl hr0 hA0 hr1 hA1 hS hl hf ha hb hab hg
        | true => exact back_d1 _ _ R0 R1 dv0 dv1 a0 cap0 l _ w rfl rfl rfl hr0 hA0 hr1 hA1 hS hl hf ha hb hab hg
end Go.Proofs.Ytjckphmkhikpaaa.sampleBack
