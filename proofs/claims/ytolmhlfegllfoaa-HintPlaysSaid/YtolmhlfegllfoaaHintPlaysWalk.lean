/- HintPlays. -/
import Derived.Test.YtolmhlfegllfoaaHintPlaysAt
import Derived.Deep.CutRange
import Derived.Deep.CutBlock
set_option maxRecDepth 20000
set_option linter.unusedSimpArgs false
set_option linter.unusedVariables false
namespace Go.Proofs.Ytolmhlfegllfoaa.Qu.Hi
open Go.RowKit Go.Maps Go.Proofs.Ytolmhlfegllfoaa.Vi Go.Proofs.Ytolmhlfegllfoaa.Mk

namespace hintPlays
set_option maxHeartbeats 64000000 in
theorem walk (room : Int) (a0 : Option Addr) (len0 cap0 : Nat) (most : Int) (w : World) (hr : -9223372036854775808 ≤ room ∧ room ≤ 9223372036854775807) (ha0 : ArgHOps w a0 len0 cap0) (hm : -9223372036854775808 ≤ most ∧ most ≤ 9223372036854775807) : Calls Try.prog 3 #[.int .i64 room, .slice a0 len0 cap0, .int .i64 most] w fun e w' => e = .returned (.bool true) ∧ Below w.heap.size w w' := by
  obtain ⟨l, hl, hP, hlen, hfit⟩ := ha0.has
  have HL0 := Lib.hid hl
  have HP := Lib.hid hP
  have HFT := Lib.hid hfit
  have HMO := Lib.hid (show I64 most from hm)
  have ka := awake_is w
  have knw := fun W => new_is room W
  have krw := fun W => rnew_is room W
  have ksm := fun (p : Pt) (W : World) (h : p.fits) => small_is p W h.s
  clear ha0 hl hP hfit hr hm
  go_enter Try.func3, Try.ntmps3
  go_wp2_with (first
    | (go_at_call 10; (with_reducible refine (krw _).mono ?_); rintro e w3 ⟨d, rfl, hD3, hb3⟩; (have HS3 := Lib.hid (show PlS w w3 w1.heap.size b mm w2.heap.size d (capH room) [] [] none 0 from ⟨H2.out.later hb3, hD3, bel_next HB2.out hb3, HB1.out.size, HB2.out.size⟩)); clear hb3 hD3)
    | (go_at_call 9; (with_reducible refine (knw _).mono ?_); rintro e w2 ⟨b, mm, rfl, hH2, hb2⟩; (have H2 := Lib.hid hH2); (have HB2 := Lib.hid (bel_next HB1.out hb2)); clear hb2 hH2)
    | (go_at_call 8; (with_reducible refine ka.mono ?_); rintro e w1 ⟨rfl, hb1⟩; (have HB1 := Lib.hid hb1); clear hb1))
  go_loopw [10, 11, 12, 13, 14, 15, 16, 17, 18, 19] (fun s10 _ _ _ _ _ _ _ _ _ wr => ∃ (i : Nat) (L : List Hk) (a : Option Addr) (c : Nat), i ≤ 60 ∧ s10 = .int .i64 (i : Int) ∧ Hid (PlS w wr w1.heap.size b mm w2.heap.size d (capH room) L L a c)) (fun s10 _ _ _ _ _ _ _ _ _ _ => 60 - (intOf s10).toNat)
  case atStart => exact ⟨0, [], none, 0, by omega, rfl, HS3⟩
  case round =>
  obtain ⟨i, L, a, c, hi, rfl, HS⟩ := hrel
  obtain ⟨w4, hw4⟩ : ∃ x, x = wr := ⟨_, rfl⟩
  subst hw4
  clear HS3
  obtain ⟨z, hz⟩ : ∃ z, decide (i < len0 ∧ i < 60) = z := ⟨_, rfl⟩
  go_upto_region 7 with fail
  go_cut [34] from 27 to 158 (fun v wx => v = .bool z ∧ w4 = wx)
  case first =>
    by_cases hk1 : i < len0
    · have hx1 : (i : Int) < (len0 : Int) := by omega
      by_cases hk2 : i < 60
      · have hx2 : (i : Int) < 60 := by omega
        obtain rfl : z = true := by rw [← hz]; exact decide_eq_true ⟨hk1, hk2⟩
        clear hz
        go_wp2
        go_meet
        exact ⟨rfl, rfl⟩
      · have hx2 : ¬ (i : Int) < 60 := by omega
        obtain rfl : z = false := by rw [← hz]; exact decide_eq_false fun h => hk2 h.2
        clear hz
        go_wp2
        go_meet
        exact ⟨rfl, rfl⟩
    · have hx1 : ¬ (i : Int) < (len0 : Int) := by omega
      obtain rfl : z = false := by rw [← hz]; exact decide_eq_false fun h => hk1 h.1
      clear hz
      go_wp2
      go_meet
      exact ⟨rfl, rfl⟩
  case rest =>
  obtain ⟨rfl, rfl⟩ := hcut
  cases z with
  | false =>
    clear hz hi
    go_wp2
    go_ret
    exact ⟨rfl, HS.out.bel⟩
  | true =>
    have hgo := of_decide_eq_true hz
    have hil : i < l.length := by rw [HL0.out]; exact hgo.1
    have hk1 : (i : Int) < (len0 : Int) := by omega
    have hi60 : i < 60 := hgo.2
    rcases HP.out with he | ⟨g, off, rfl, hg, hc⟩
    · rw [he] at hil; simp at hil
    · have hof := HFT.out _ (List.getElem_mem hil)
      obtain ⟨o, ho⟩ : ∃ o, o = l[i] := ⟨_, rfl⟩
      rw [← ho] at hof
      have hO : HOpO w4 g (off + i * 9) o := by rw [ho]; exact (hc i hil).below HS.out.bel hg
      have HO := Lib.hid hO
      obtain ⟨y0, y1, y2, y3, y4, y5, y6, y7, y8⟩ := hO
      have ks3 := fun W => ksm o.p W hof.p.fits
      have HNS := Lib.hid hof.ns
      have HCAP := Lib.hid hof.cap
      have HON := Lib.hid hof.n
      have hsf := short_fits hof.p.fits
      have hss := short_size o.p
      have hsb : ∀ n : Int, I64 n → Hk.big ⟨Pt.short o.p, n⟩ := fun n hn => short_big hof.p hn
      obtain ⟨s, hs⟩ : ∃ s, Pt.short o.p = s := ⟨_, rfl⟩
      simp only [hs] at ks3 hsf hss hsb
      have HBG := Lib.hid (hsb o.n hof.n)
      have HSB := Lib.hid hsb
      have HSF := Lib.hid hsf
      have HSS := Lib.hid hss
      have HCR := Lib.hid (cap_ok room)
      clear hc hof ho hs hsf hss hsb hz hgo hil
      unfold ptV at ks3
      go_upto_region 11 with (go_at_call 11; (with_reducible refine (ks3 _).mono ?_); rintro e w5 ⟨rfl, hb5⟩; (have HP6 := Lib.hid (show PlB w (w5.alloc (.cells #[.string s.s, .int .i64 s.t, .int .i64 s.v, .int .i64 s.st.c, .int .i64 s.st.s, .int .i64 s.st.q] 31)) w1.heap.size b mm w2.heap.size d (capH room) L L a c w4.heap.size o w5.heap.size s from ⟨((HS.out.later ((Below.refl _ _).alloc (Nat.le_refl _) (boxHO o))).later hb5).later ((Below.refl _ _).alloc (Nat.le_refl _) _), box_later (box_later (heap_alloc_new _ _) hb5) ((Below.refl _ _).alloc (Nat.le_refl _) _), heap_alloc_new _ _⟩)); clear hb5)
      obtain ⟨w8, hw8⟩ : ∃ x, w5.alloc (.cells #[.string s.s, .int .i64 s.t, .int .i64 s.v, .int .i64 s.st.c, .int .i64 s.st.s, .int .i64 s.st.q] 31) = x := ⟨_, rfl⟩
      rw [hw8] at HP6 ⊢
      clear hw8
      obtain ⟨q0, kk, q0q, hkk, q0c⟩ := tm5 o.k
      have x0 := HP6.out.o0
      obtain ⟨kI, hkI⟩ : ∃ kI : Int, (kk : Int) = kI := ⟨_, rfl⟩
      rw [hkI] at q0c
      clear hkI hkk
      go_upto_if 48 with fail
      go_cut [13] from 45 to 158 (fun v wx => v = .int .i64 kI ∧ w8 = wx)
      case first =>
        rcases q0c with ⟨c1, c2⟩ | ⟨c1, c2⟩
        all_goals (go_wp2_with fail; go_meet; exact ⟨by simp [*], rfl⟩)
      case rest =>
      obtain ⟨rfl, rfl⟩ := hcut
      clear q0c q0q x0 y0 y1 y2 y3 y4 y5 y6 y7 y8 ks3
      have HP8 := HP6
      clear HP6 HO HS
      go_upto_block 2 with fail
      go_cut [14, 15, 16] from 51 to 158 (fun v14 v15 v16 wx => v14 = .bool true ∧ ∃ L a c, Hid (PlB w wx w1.heap.size b mm w2.heap.size d (capH room) L L a c w4.heap.size o w5.heap.size s))
      case first =>
        obtain ⟨u0, u1, u2, u3, u4, u5⟩ := HP8.out.bp.pt
        have kack : ∀ (W : World) (_ : PlB w W w1.heap.size b mm w2.heap.size d (capH room) L L a c w4.heap.size o w5.heap.size s) (_ : Pts W W.heap.size (some ⟨w8.heap.size, 0, none⟩) [s, s]), Calls Try.prog 12 #[.pointer (some ⟨b, 0, none⟩), .int .i64 o.n, .slice (some ⟨w8.heap.size, 0, none⟩) 2 2] W (AckDone W w1.heap.size b (some mm) (capH room) L o.n [s, s]) := fun W h hS => ack_is h.st.hi o.n _ 2 [s, s] hS (by simp) (fun p hp => by (simp at hp; subst hp; exact HBG.out))
        have krack : ∀ (W : World) (_ : PlB w W w1.heap.size b mm w2.heap.size d (capH room) (ackL L o.n [s, s]) L a c w4.heap.size o w5.heap.size s) (_ : Pts W W.heap.size (some ⟨w8.heap.size, 0, none⟩) [s, s]), Calls Try.prog 13 #[.pointer (some ⟨d, 0, none⟩), .int .i64 o.n, .slice (some ⟨w8.heap.size, 0, none⟩) 2 2] W (RModDone W w2.heap.size d (capH room) L (ackL L o.n [s, s])) := fun W h hS => rack_is h.st.do_ h.st.base o.n _ 2 [s, s] hS (by simp)
        by_cases hk2 : kI = 2
        · subst hk2
          go_wp2_with fail
          obtain ⟨w9, hw9⟩ : ∃ x, w8.alloc (.cells #[.string s.s, .int .i64 s.t, .int .i64 s.v, .int .i64 s.st.c, .int .i64 s.st.s, .int .i64 s.st.q, .string s.s, .int .i64 s.t, .int .i64 s.v, .int .i64 s.st.c, .int .i64 s.st.s, .int .i64 s.st.q] 31) = x := ⟨_, rfl⟩
          have HP9 := HP8.out.later ((Below.refl w8.heap.size w8).alloc (Nat.le_refl _) (.cells #[.string s.s, .int .i64 s.t, .int .i64 s.v, .int .i64 s.st.c, .int .i64 s.st.s, .int .i64 s.st.q, .string s.s, .int .i64 s.t, .int .i64 s.v, .int .i64 s.st.c, .int .i64 s.st.s, .int .i64 s.st.q] 31))
          have HT9 := pts_two w8 s
          have hs9 : w8.heap.size + 1 ≤ (w8.alloc (.cells #[.string s.s, .int .i64 s.t, .int .i64 s.v, .int .i64 s.st.c, .int .i64 s.st.s, .int .i64 s.st.q, .string s.s, .int .i64 s.t, .int .i64 s.v, .int .i64 s.st.c, .int .i64 s.st.s, .int .i64 s.st.q] 31)).heap.size := by simp
          rw [hw9] at HP9 HT9 hs9 ⊢
          clear hw9
          have HP10 := Lib.hid HP9.drew
          have HTW := Lib.hid (show Pts w9.drew w9.drew.heap.size (some ⟨w8.heap.size, 0, none⟩) [s, s] from (HT9.mono hs9).below (Below.refl _ _).drew)
          clear HP9 HT9 hs9
          refine wp_region_held_drew (S := (fun X : World => X.cell? ⟨w4.heap.size, 1, none⟩ = some (.int .i64 o.n))) (by kernel_rfl) HP10.out.o1 (fun hHeld => ?_)
          refine wpAnyH_take (i := 0) (oi := ?ka1o) (v := ?ka1v) ?ka1h (by kernel_rfl) (by kernel_rfl) (by kernel_rfl) ?ka1q ?ka1y hHeld ?ka1r
          case ka1h => (simp only [List.getElem?_toArray, List.getElem?_cons_zero]; rfl)
          case ka1q => exact fun _ _ _ h => h
          case ka1y => (refine Or.inl ⟨by first | kernel_rfl | rfl, ?_⟩; intro w hSw; have z1 := hSw; go_simp <;> (try with_reducible rfl))
          try simp only [Act.put, List.setIfInBounds_toArray, List.set_cons_zero, List.set_cons_succ]
          refine wpAnyH_take (i := 1) (oi := ?ka2o) (v := ?ka2v) ?ka2h (by kernel_rfl) (by kernel_rfl) (by kernel_rfl) ?ka2q ?ka2y hHeld ?ka2r
          case ka2h => (simp only [List.getElem?_toArray, List.getElem?_cons_succ, List.getElem?_cons_zero]; rfl)
          case ka2q => exact fun _ _ _ h => h
          case ka2y => (refine Or.inl ⟨by first | kernel_rfl | rfl, ?_⟩; intro w hSw; have z1 := hSw; go_simp <;> (try with_reducible rfl))
          try simp only [Act.put, List.setIfInBounds_toArray, List.set_cons_zero, List.set_cons_succ]
          refine wpAnyH_take (i := 2) (oi := ?ka3o) (v := ?ka3v) ?ka3h (by kernel_rfl) (by kernel_rfl) (by kernel_rfl) ?ka3q ?ka3y hHeld ?ka3r
          case ka3h => (simp only [List.getElem?_toArray, List.getElem?_cons_succ, List.getElem?_cons_zero]; rfl)
          case ka3q => exact fun _ _ _ h => h
          case ka3y => (refine Or.inl ⟨by first | kernel_rfl | rfl, ?_⟩; intro w hSw; have z1 := hSw; go_simp <;> (try with_reducible rfl))
          try simp only [Act.put, List.setIfInBounds_toArray, List.set_cons_zero, List.set_cons_succ]
          refine wpAnyH_take (i := 3) (oi := ?ka4o) (v := ?ka4v) ?ka4h (by kernel_rfl) (by kernel_rfl) (by kernel_rfl) ?ka4q ?ka4y hHeld ?ka4r
          case ka4h => (simp only [List.getElem?_toArray, List.getElem?_cons_succ, List.getElem?_cons_zero]; rfl)
          case ka4q => exact fun _ _ _ h => h
          case ka4y => (refine Or.inl ⟨by first | kernel_rfl | rfl, ?_⟩; intro w hSw; have z1 := hSw; go_simp <;> (try with_reducible rfl))
          try simp only [Act.put, List.setIfInBounds_toArray, List.set_cons_zero, List.set_cons_succ]
          refine wpAnyH_take (i := 5) (oi := ?ka5o) (v := ?ka5v) ?ka5h (by kernel_rfl) (by kernel_rfl) (by kernel_rfl) ?ka5q ?ka5y hHeld ?ka5r
          case ka5h => (simp only [List.getElem?_toArray, List.getElem?_cons_succ, List.getElem?_cons_zero]; rfl)
          case ka5q => exact fun _ _ _ h => h
          case ka5y => (refine Or.inl ⟨by first | kernel_rfl | rfl, ?_⟩; intro w hSw; have z1 := hSw; go_simp <;> (try with_reducible rfl))
          try simp only [Act.put, List.setIfInBounds_toArray, List.set_cons_zero, List.set_cons_succ]
          refine wpAnyH_take (i := 6) (oi := ?ka6o) (v := ?ka6v) ?ka6h (by kernel_rfl) (by kernel_rfl) (by kernel_rfl) ?ka6q ?ka6y hHeld ?ka6r
          case ka6h => (simp only [List.getElem?_toArray, List.getElem?_cons_succ, List.getElem?_cons_zero]; rfl)
          case ka6q => exact fun _ _ _ h => h
          case ka6y => (refine Or.inl ⟨by first | kernel_rfl | rfl, ?_⟩; intro w hSw; have z1 := hSw; go_simp <;> (try with_reducible rfl))
          try simp only [Act.put, List.setIfInBounds_toArray, List.set_cons_zero, List.set_cons_succ]
          refine wpAnyH_take (i := 7) (oi := ?ka7o) (v := ?ka7v) ?ka7h (by kernel_rfl) (by kernel_rfl) (by kernel_rfl) ?ka7q ?ka7y hHeld ?ka7r
          case ka7h => (simp only [List.getElem?_toArray, List.getElem?_cons_succ, List.getElem?_cons_zero]; rfl)
          case ka7q => exact fun _ _ _ h => h
          case ka7y => (refine Or.inl ⟨by first | kernel_rfl | rfl, ?_⟩; intro w hSw; have z1 := hSw; go_simp <;> (try with_reducible rfl))
          try simp only [Act.put, List.setIfInBounds_toArray, List.set_cons_zero, List.set_cons_succ]
          refine wpAnyH_take (i := 8) (oi := ?ka8o) (v := ?ka8v) ?ka8h (by kernel_rfl) (by kernel_rfl) (by kernel_rfl) ?ka8q ?ka8y hHeld ?ka8r
          case ka8h => (simp only [List.getElem?_toArray, List.getElem?_cons_succ, List.getElem?_cons_zero]; rfl)
          case ka8q => exact fun _ _ _ h => h
          case ka8y => (refine Or.inl ⟨by first | kernel_rfl | rfl, ?_⟩; intro w hSw; have z1 := hSw; go_simp <;> (try with_reducible rfl))
          try simp only [Act.put, List.setIfInBounds_toArray, List.set_cons_zero, List.set_cons_succ]
          refine wpAnyH_ready (rs := [4]) (by kernel_rfl) (by simp) ?_
          refine (AllReadyH.cons rfl (fun K hK => ?_) AllReadyH.nil)
          go_simp
          (go_at_call 12; (with_reducible refine ((kack _ HP10.out HTW.out)).mono ?_); rintro e w11 ⟨rfl, hH11, hg11⟩; (have HP11 := Lib.hid (show PlB w w11 w1.heap.size b mm w2.heap.size d (capH room) (ackL L o.n [s, s]) L a c w4.heap.size o w5.heap.size s from HP10.out.prog hH11 hg11)); (have HT11 := Lib.hid ((pts_grown HTW.out HP10.out.st.hi hg11).mono hg11.size)); clear hH11 hg11)
          refine hK.out _ _ (HP11.out.o1) (fun hHeld => ?_)
          clear hK K
          try simp only [Act.put, List.setIfInBounds_toArray, List.set_cons_zero, List.set_cons_succ]
          refine wpAnyH_ready (rs := [9]) (by kernel_rfl) (by simp) ?_
          refine (AllReadyH.cons rfl (fun K hK => ?_) AllReadyH.nil)
          go_simp
          (go_at_call 13; (with_reducible refine ((krack _ HP11.out HT11.out)).mono ?_); rintro e w12 ⟨rfl, ⟨a12, c12, hD12⟩, hf12⟩; (have HP12 := Lib.hid (show PlB w w12 w1.heap.size b mm w2.heap.size d (capH room) (ackL L o.n [s, s]) (ackL L o.n [s, s]) a12 c12 w4.heap.size o w5.heap.size s from HP11.out.doc hD12 hf12)); clear hD12 hf12)
          refine hK.out _ _ (HP12.out.o1) (fun hHeld => ?_)
          clear hK K
          try simp only [Act.put, List.setIfInBounds_toArray, List.set_cons_zero, List.set_cons_succ]
          refine wpAnyH_take (i := 10) (oi := ?ka9o) (v := ?ka9v) ?ka9h (by kernel_rfl) (by kernel_rfl) (by kernel_rfl) ?ka9q ?ka9y hHeld ?ka9r
          case ka9h => (simp only [List.getElem?_toArray, List.getElem?_cons_succ, List.getElem?_cons_zero]; rfl)
          case ka9q => exact fun _ _ _ h => h
          case ka9y => (refine Or.inl ⟨by first | kernel_rfl | rfl, ?_⟩; intro w hSw; have z1 := hSw; go_simp <;> (try with_reducible rfl))
          try simp only [Act.put, List.setIfInBounds_toArray, List.set_cons_zero, List.set_cons_succ]
          refine wpAnyH_take (i := 11) (oi := ?ka10o) (v := ?ka10v) ?ka10h (by kernel_rfl) (by kernel_rfl) (by kernel_rfl) ?ka10q ?ka10y hHeld ?ka10r
          case ka10h => (simp only [List.getElem?_toArray, List.getElem?_cons_succ, List.getElem?_cons_zero]; rfl)
          case ka10q => exact fun _ _ _ h => h
          case ka10y => (refine Or.inl ⟨by first | kernel_rfl | rfl, ?_⟩; intro w hSw; have z1 := hSw; go_simp <;> (try with_reducible rfl))
          try simp only [Act.put, List.setIfInBounds_toArray, List.set_cons_zero, List.set_cons_succ]
          refine wpAnyH_done (by kernel_rfl) ?_ _
          go_wp2
          go_meet
          exact ⟨by simp, _, _, _, HP12⟩
        by_cases hk3 : kI = 3
        · subst hk3
          go_wp2_with fail
          obtain ⟨w9, hw9⟩ : ∃ x, w8.alloc (.cells #[.string s.s, .int .i64 s.t, .int .i64 s.v, .int .i64 s.st.c, .int .i64 s.st.s, .int .i64 s.st.q, .string s.s, .int .i64 s.t, .int .i64 s.v, .int .i64 s.st.c, .int .i64 s.st.s, .int .i64 s.st.q] 31) = x := ⟨_, rfl⟩
          have HP9 := HP8.out.later ((Below.refl w8.heap.size w8).alloc (Nat.le_refl _) (.cells #[.string s.s, .int .i64 s.t, .int .i64 s.v, .int .i64 s.st.c, .int .i64 s.st.s, .int .i64 s.st.q, .string s.s, .int .i64 s.t, .int .i64 s.v, .int .i64 s.st.c, .int .i64 s.st.s, .int .i64 s.st.q] 31))
          have HT9 := pts_two w8 s
          have hs9 : w8.heap.size + 1 ≤ (w8.alloc (.cells #[.string s.s, .int .i64 s.t, .int .i64 s.v, .int .i64 s.st.c, .int .i64 s.st.s, .int .i64 s.st.q, .string s.s, .int .i64 s.t, .int .i64 s.v, .int .i64 s.st.c, .int .i64 s.st.s, .int .i64 s.st.q] 31)).heap.size := by simp
          rw [hw9] at HP9 HT9 hs9 ⊢
          clear hw9
          have HP10 := Lib.hid HP9.drew
          have HTW := Lib.hid (show Pts w9.drew w9.drew.heap.size (some ⟨w8.heap.size, 0, none⟩) [s, s] from (HT9.mono hs9).below (Below.refl _ _).drew)
          clear HP9 HT9 hs9
          refine wp_region_held_drew (S := (fun X : World => X.cell? ⟨w4.heap.size, 1, none⟩ = some (.int .i64 o.n))) (by kernel_rfl) HP10.out.o1 (fun hHeld => ?_)
          refine wpAnyH_take (i := 0) (oi := ?kb1o) (v := ?kb1v) ?kb1h (by kernel_rfl) (by kernel_rfl) (by kernel_rfl) ?kb1q ?kb1y hHeld ?kb1r
          case kb1h => (simp only [List.getElem?_toArray, List.getElem?_cons_zero]; rfl)
          case kb1q => exact fun _ _ _ h => h
          case kb1y => (refine Or.inl ⟨by first | kernel_rfl | rfl, ?_⟩; intro w hSw; have z1 := hSw; go_simp <;> (try with_reducible rfl))
          try simp only [Act.put, List.setIfInBounds_toArray, List.set_cons_zero, List.set_cons_succ]
          refine wpAnyH_take (i := 1) (oi := ?kb2o) (v := ?kb2v) ?kb2h (by kernel_rfl) (by kernel_rfl) (by kernel_rfl) ?kb2q ?kb2y hHeld ?kb2r
          case kb2h => (simp only [List.getElem?_toArray, List.getElem?_cons_succ, List.getElem?_cons_zero]; rfl)
          case kb2q => exact fun _ _ _ h => h
          case kb2y => (refine Or.inl ⟨by first | kernel_rfl | rfl, ?_⟩; intro w hSw; have z1 := hSw; go_simp <;> (try with_reducible rfl))
          try simp only [Act.put, List.setIfInBounds_toArray, List.set_cons_zero, List.set_cons_succ]
          refine wpAnyH_take (i := 2) (oi := ?kb3o) (v := ?kb3v) ?kb3h (by kernel_rfl) (by kernel_rfl) (by kernel_rfl) ?kb3q ?kb3y hHeld ?kb3r
          case kb3h => (simp only [List.getElem?_toArray, List.getElem?_cons_succ, List.getElem?_cons_zero]; rfl)
          case kb3q => exact fun _ _ _ h => h
          case kb3y => (refine Or.inl ⟨by first | kernel_rfl | rfl, ?_⟩; intro w hSw; have z1 := hSw; go_simp <;> (try with_reducible rfl))
          try simp only [Act.put, List.setIfInBounds_toArray, List.set_cons_zero, List.set_cons_succ]
          refine wpAnyH_take (i := 3) (oi := ?kb4o) (v := ?kb4v) ?kb4h (by kernel_rfl) (by kernel_rfl) (by kernel_rfl) ?kb4q ?kb4y hHeld ?kb4r
          case kb4h => (simp only [List.getElem?_toArray, List.getElem?_cons_succ, List.getElem?_cons_zero]; rfl)
          case kb4q => exact fun _ _ _ h => h
          case kb4y => (refine Or.inl ⟨by first | kernel_rfl | rfl, ?_⟩; intro w hSw; have z1 := hSw; go_simp <;> (try with_reducible rfl))
          try simp only [Act.put, List.setIfInBounds_toArray, List.set_cons_zero, List.set_cons_succ]
          refine wpAnyH_take (i := 5) (oi := ?kb5o) (v := ?kb5v) ?kb5h (by kernel_rfl) (by kernel_rfl) (by kernel_rfl) ?kb5q ?kb5y hHeld ?kb5r
          case kb5h => (simp only [List.getElem?_toArray, List.getElem?_cons_succ, List.getElem?_cons_zero]; rfl)
          case kb5q => exact fun _ _ _ h => h
          case kb5y => (refine Or.inl ⟨by first | kernel_rfl | rfl, ?_⟩; intro w hSw; have z1 := hSw; go_simp <;> (try with_reducible rfl))
          try simp only [Act.put, List.setIfInBounds_toArray, List.set_cons_zero, List.set_cons_succ]
          refine wpAnyH_take (i := 6) (oi := ?kb6o) (v := ?kb6v) ?kb6h (by kernel_rfl) (by kernel_rfl) (by kernel_rfl) ?kb6q ?kb6y hHeld ?kb6r
          case kb6h => (simp only [List.getElem?_toArray, List.getElem?_cons_succ, List.getElem?_cons_zero]; rfl)
          case kb6q => exact fun _ _ _ h => h
          case kb6y => (refine Or.inl ⟨by first | kernel_rfl | rfl, ?_⟩; intro w hSw; have z1 := hSw; go_simp <;> (try with_reducible rfl))
          try simp only [Act.put, List.setIfInBounds_toArray, List.set_cons_zero, List.set_cons_succ]
          refine wpAnyH_take (i := 7) (oi := ?kb7o) (v := ?kb7v) ?kb7h (by kernel_rfl) (by kernel_rfl) (by kernel_rfl) ?kb7q ?kb7y hHeld ?kb7r
          case kb7h => (simp only [List.getElem?_toArray, List.getElem?_cons_succ, List.getElem?_cons_zero]; rfl)
          case kb7q => exact fun _ _ _ h => h
          case kb7y => (refine Or.inl ⟨by first | kernel_rfl | rfl, ?_⟩; intro w hSw; have z1 := hSw; go_simp <;> (try with_reducible rfl))
          try simp only [Act.put, List.setIfInBounds_toArray, List.set_cons_zero, List.set_cons_succ]
          refine wpAnyH_take (i := 8) (oi := ?kb8o) (v := ?kb8v) ?kb8h (by kernel_rfl) (by kernel_rfl) (by kernel_rfl) ?kb8q ?kb8y hHeld ?kb8r
          case kb8h => (simp only [List.getElem?_toArray, List.getElem?_cons_succ, List.getElem?_cons_zero]; rfl)
          case kb8q => exact fun _ _ _ h => h
          case kb8y => (refine Or.inl ⟨by first | kernel_rfl | rfl, ?_⟩; intro w hSw; have z1 := hSw; go_simp <;> (try with_reducible rfl))
          try simp only [Act.put, List.setIfInBounds_toArray, List.set_cons_zero, List.set_cons_succ]
          refine wpAnyH_ready (rs := [4]) (by kernel_rfl) (by simp) ?_
          refine (AllReadyH.cons rfl (fun K hK => ?_) AllReadyH.nil)
          go_simp
          (go_at_call 12; (with_reducible refine ((kack _ HP10.out HTW.out)).mono ?_); rintro e w11 ⟨rfl, hH11, hg11⟩; (have HP11 := Lib.hid (show PlB w w11 w1.heap.size b mm w2.heap.size d (capH room) (ackL L o.n [s, s]) L a c w4.heap.size o w5.heap.size s from HP10.out.prog hH11 hg11)); (have HT11 := Lib.hid ((pts_grown HTW.out HP10.out.st.hi hg11).mono hg11.size)); clear hH11 hg11)
          refine hK.out _ _ (HP11.out.o1) (fun hHeld => ?_)
          clear hK K
          try simp only [Act.put, List.setIfInBounds_toArray, List.set_cons_zero, List.set_cons_succ]
          refine wpAnyH_ready (rs := [9]) (by kernel_rfl) (by simp) ?_
          refine (AllReadyH.cons rfl (fun K hK => ?_) AllReadyH.nil)
          go_simp
          (go_at_call 13; (with_reducible refine ((krack _ HP11.out HT11.out)).mono ?_); rintro e w12 ⟨rfl, ⟨a12, c12, hD12⟩, hf12⟩; (have HP12 := Lib.hid (show PlB w w12 w1.heap.size b mm w2.heap.size d (capH room) (ackL L o.n [s, s]) (ackL L o.n [s, s]) a12 c12 w4.heap.size o w5.heap.size s from HP11.out.doc hD12 hf12)); clear hD12 hf12)
          refine hK.out _ _ (HP12.out.o1) (fun hHeld => ?_)
          clear hK K
          try simp only [Act.put, List.setIfInBounds_toArray, List.set_cons_zero, List.set_cons_succ]
          refine wpAnyH_take (i := 10) (oi := ?kb9o) (v := ?kb9v) ?kb9h (by kernel_rfl) (by kernel_rfl) (by kernel_rfl) ?kb9q ?kb9y hHeld ?kb9r
          case kb9h => (simp only [List.getElem?_toArray, List.getElem?_cons_succ, List.getElem?_cons_zero]; rfl)
          case kb9q => exact fun _ _ _ h => h
          case kb9y => (refine Or.inl ⟨by first | kernel_rfl | rfl, ?_⟩; intro w hSw; have z1 := hSw; go_simp <;> (try with_reducible rfl))
          try simp only [Act.put, List.setIfInBounds_toArray, List.set_cons_zero, List.set_cons_succ]
          refine wpAnyH_take (i := 11) (oi := ?kb10o) (v := ?kb10v) ?kb10h (by kernel_rfl) (by kernel_rfl) (by kernel_rfl) ?kb10q ?kb10y hHeld ?kb10r
          case kb10h => (simp only [List.getElem?_toArray, List.getElem?_cons_succ, List.getElem?_cons_zero]; rfl)
          case kb10q => exact fun _ _ _ h => h
          case kb10y => (refine Or.inl ⟨by first | kernel_rfl | rfl, ?_⟩; intro w hSw; have z1 := hSw; go_simp <;> (try with_reducible rfl))
          try simp only [Act.put, List.setIfInBounds_toArray, List.set_cons_zero, List.set_cons_succ]
          refine wpAnyH_done (by kernel_rfl) ?_ _
          go_wp2
          go_meet
          exact ⟨by simp, _, _, _, HP12⟩
        by_cases hk4 : kI = 4
        · subst hk4
          have HP10 := Lib.hid HP8.out.drew
          go_wp2_with fail
          refine wp_region_held_drew (S := (fun X : World => X.cell? ⟨w4.heap.size, 1, none⟩ = some (.int .i64 o.n))) (by kernel_rfl) HP10.out.o1 (fun hHeld => ?_)
          refine wpAnyH_take (i := 0) (oi := ?kc1o) (v := ?kc1v) ?kc1h (by kernel_rfl) (by kernel_rfl) (by kernel_rfl) ?kc1q ?kc1y hHeld ?kc1r
          case kc1h => (simp only [List.getElem?_toArray, List.getElem?_cons_zero]; rfl)
          case kc1q => exact fun _ _ _ h => h
          case kc1y => (refine Or.inl ⟨by first | kernel_rfl | rfl, ?_⟩; intro w hSw; have z1 := hSw; go_simp <;> (try with_reducible rfl))
          try simp only [Act.put, List.setIfInBounds_toArray, List.set_cons_zero, List.set_cons_succ]
          refine wpAnyH_take (i := 1) (oi := ?kc2o) (v := ?kc2v) ?kc2h (by kernel_rfl) (by kernel_rfl) (by kernel_rfl) ?kc2q ?kc2y hHeld ?kc2r
          case kc2h => (simp only [List.getElem?_toArray, List.getElem?_cons_succ, List.getElem?_cons_zero]; rfl)
          case kc2q => exact fun _ _ _ h => h
          case kc2y => (refine Or.inl ⟨by first | kernel_rfl | rfl, ?_⟩; intro w hSw; have z1 := hSw; go_simp <;> (try with_reducible rfl))
          try simp only [Act.put, List.setIfInBounds_toArray, List.set_cons_zero, List.set_cons_succ]
          refine wpAnyH_take (i := 2) (oi := ?kc3o) (v := ?kc3v) ?kc3h (by kernel_rfl) (by kernel_rfl) (by kernel_rfl) ?kc3q ?kc3y hHeld ?kc3r
          case kc3h => (simp only [List.getElem?_toArray, List.getElem?_cons_succ, List.getElem?_cons_zero]; rfl)
          case kc3q => exact fun _ _ _ h => h
          case kc3y => (refine Or.inl ⟨by first | kernel_rfl | rfl, ?_⟩; intro w hSw; have z1 := hSw; go_simp <;> (try with_reducible rfl))
          try simp only [Act.put, List.setIfInBounds_toArray, List.set_cons_zero, List.set_cons_succ]
          refine wpAnyH_take (i := 4) (oi := ?kc4o) (v := ?kc4v) ?kc4h (by kernel_rfl) (by kernel_rfl) (by kernel_rfl) ?kc4q ?kc4y hHeld ?kc4r
          case kc4h => (simp only [List.getElem?_toArray, List.getElem?_cons_succ, List.getElem?_cons_zero]; rfl)
          case kc4q => exact fun _ _ _ h => h
          case kc4y => (refine Or.inl ⟨by first | kernel_rfl | rfl, ?_⟩; intro w hSw; have z1 := hSw; go_simp <;> (try with_reducible rfl))
          try simp only [Act.put, List.setIfInBounds_toArray, List.set_cons_zero, List.set_cons_succ]
          refine wpAnyH_take (i := 5) (oi := ?kc5o) (v := ?kc5v) ?kc5h (by kernel_rfl) (by kernel_rfl) (by kernel_rfl) ?kc5q ?kc5y hHeld ?kc5r
          case kc5h => (simp only [List.getElem?_toArray, List.getElem?_cons_succ, List.getElem?_cons_zero]; rfl)
          case kc5q => exact fun _ _ _ h => h
          case kc5y => (refine Or.inl ⟨by first | kernel_rfl | rfl, ?_⟩; intro w hSw; have z1 := hSw; go_simp <;> (try with_reducible rfl))
          try simp only [Act.put, List.setIfInBounds_toArray, List.set_cons_zero, List.set_cons_succ]
          refine wpAnyH_take (i := 6) (oi := ?kc6o) (v := ?kc6v) ?kc6h (by kernel_rfl) (by kernel_rfl) (by kernel_rfl) ?kc6q ?kc6y hHeld ?kc6r
          case kc6h => (simp only [List.getElem?_toArray, List.getElem?_cons_succ, List.getElem?_cons_zero]; rfl)
          case kc6q => exact fun _ _ _ h => h
          case kc6y => (refine Or.inl ⟨by first | kernel_rfl | rfl, ?_⟩; intro w hSw; have z1 := hSw; go_simp <;> (try with_reducible rfl))
          try simp only [Act.put, List.setIfInBounds_toArray, List.set_cons_zero, List.set_cons_succ]
          refine wpAnyH_ready (rs := [3]) (by kernel_rfl) (by simp) ?_
          refine (AllReadyH.cons rfl (fun K hK => ?_) AllReadyH.nil)
          go_simp
          (go_at_call 14; (with_reducible refine ((drop_some HP10.out.st.hi o.n)).mono ?_); rintro e w11 ⟨rfl, hH11, hg11⟩; (have HP11 := Lib.hid (show PlB w w11 w1.heap.size b mm w2.heap.size d (capH room) (dropL L o.n) L a c w4.heap.size o w5.heap.size s from HP10.out.prog hH11 hg11)); clear hH11 hg11)
          refine hK.out _ _ (HP11.out.o1) (fun hHeld => ?_)
          clear hK K
          try simp only [Act.put, List.setIfInBounds_toArray, List.set_cons_zero, List.set_cons_succ]
          refine wpAnyH_ready (rs := [7]) (by kernel_rfl) (by simp) ?_
          refine (AllReadyH.cons rfl (fun K hK => ?_) AllReadyH.nil)
          go_simp
          (go_at_call 15; (with_reducible refine ((rdrop_is HP11.out.st.do_ HP11.out.st.base o.n)).mono ?_); rintro e w12 ⟨rfl, ⟨a12, c12, hD12⟩, hf12⟩; (have HP12 := Lib.hid (show PlB w w12 w1.heap.size b mm w2.heap.size d (capH room) (dropL L o.n) (dropL L o.n) a12 c12 w4.heap.size o w5.heap.size s from HP11.out.doc hD12 hf12)); clear hD12 hf12)
          refine hK.out _ _ (HP12.out.o1) (fun hHeld => ?_)
          clear hK K
          try simp only [Act.put, List.setIfInBounds_toArray, List.set_cons_zero, List.set_cons_succ]
          refine wpAnyH_take (i := 8) (oi := ?kc7o) (v := ?kc7v) ?kc7h (by kernel_rfl) (by kernel_rfl) (by kernel_rfl) ?kc7q ?kc7y hHeld ?kc7r
          case kc7h => (simp only [List.getElem?_toArray, List.getElem?_cons_succ, List.getElem?_cons_zero]; rfl)
          case kc7q => exact fun _ _ _ h => h
          case kc7y => (refine Or.inl ⟨by first | kernel_rfl | rfl, ?_⟩; intro w hSw; have z1 := hSw; go_simp <;> (try with_reducible rfl))
          try simp only [Act.put, List.setIfInBounds_toArray, List.set_cons_zero, List.set_cons_succ]
          refine wpAnyH_take (i := 9) (oi := ?kc8o) (v := ?kc8v) ?kc8h (by kernel_rfl) (by kernel_rfl) (by kernel_rfl) ?kc8q ?kc8y hHeld ?kc8r
          case kc8h => (simp only [List.getElem?_toArray, List.getElem?_cons_succ, List.getElem?_cons_zero]; rfl)
          case kc8q => exact fun _ _ _ h => h
          case kc8y => (refine Or.inl ⟨by first | kernel_rfl | rfl, ?_⟩; intro w hSw; have z1 := hSw; go_simp <;> (try with_reducible rfl))
          try simp only [Act.put, List.setIfInBounds_toArray, List.set_cons_zero, List.set_cons_succ]
          refine wpAnyH_done (by kernel_rfl) ?_ _
          go_wp2
          go_meet
          exact ⟨by simp, _, _, _, HP12⟩
        · have e2 : (kI == 2) = false := by simpa using hk2
          have e3 : (kI == 3) = false := by simpa using hk3
          have e4 : (kI == 4) = false := by simpa using hk4
          have x8 := HP8.out.o8
          obtain ⟨m1, hm1⟩ : ∃ m1, m1 = min o.ns.length 12 := ⟨_, rfl⟩
          obtain ⟨ns, hns⟩ : ∃ ns, o.ns.take 12 = ns := ⟨_, rfl⟩
          have HNC := Lib.hid (ns_cut HNS.out hm1)
          rw [hns] at HNC
          have HMN := Lib.hid hm1
          clear hm1 hns
          obtain ⟨n0, hn0⟩ : ∃ n0, o.ns.length = n0 := ⟨_, rfl⟩
          rw [hn0] at x8 HMN HCAP
          have kadd : ∀ (W : World) (_ : PlB w W w1.heap.size b mm w2.heap.size d (capH room) L L a c w4.heap.size o w5.heap.size s), Calls Try.prog 16 #[.pointer (some ⟨b, 0, none⟩), ptV s, .slice o.a m1 o.c] W (AddDone W w1.heap.size b (some mm) (capH room) L s ns) := fun W h => add_is h.st.hi s HSF.out (by have := HSS.out; omega) _ ns (Ns.later HNC.out h.st.bel)
          have kradd : ∀ (W : World) (_ : PlB w W w1.heap.size b mm w2.heap.size d (capH room) (addL L (capH room) s ns) L a c w4.heap.size o w5.heap.size s), Calls Try.prog 17 #[.pointer (some ⟨d, 0, none⟩), ptV s, .slice o.a m1 o.c] W (RAddDone W w2.heap.size d (capH room) L s ns) := fun W h => radd_is h.st.do_ h.st.base HCR.out.2 s (by have := HSS.out; omega) _ ns (Ns.later HNC.out h.st.bel)
          unfold ptV at kadd kradd
          clear hn0 kack krack
          go_upto_if 56 with fail
          go_cut [16] from 57 to 158 (fun v wx => v = .slice o.a m1 o.c ∧ w8 = wx)
          case first =>
            by_cases h12 : 12 < n0
            · have hx1 : (12 : Int) < (n0 : Int) := by omega
              have hx2 : (12 : Int) ≤ (o.c : Int) := by have := HCAP.out; omega
              obtain rfl : m1 = 12 := by rw [HMN.out]; omega
              clear h12
              go_wp2
              go_meet
              exact ⟨rfl, rfl⟩
            · have hx1 : ¬ (12 : Int) < (n0 : Int) := by omega
              obtain rfl : m1 = n0 := by rw [HMN.out]; omega
              clear h12
              go_wp2
              go_meet
              exact ⟨rfl, rfl⟩
          case rest =>
          obtain ⟨rfl, rfl⟩ := hcut
          have HP10 := Lib.hid HP8.out.drew
          go_wp2_with fail
          refine wp_region_held_drew (S := (fun X : World => PtAt X w5.heap.size s)) (by kernel_rfl) HP10.out.bp.pt (fun hHeld => ?_)
          refine wpAnyH_take (i := 0) (oi := ?kd1o) (v := ?kd1v) ?kd1h (by kernel_rfl) (by kernel_rfl) (by kernel_rfl) ?kd1q ?kd1y hHeld ?kd1r
          case kd1h => (simp only [List.getElem?_toArray, List.getElem?_cons_zero]; rfl)
          case kd1q => exact fun _ _ _ h => h
          case kd1y => (refine Or.inl ⟨by first | kernel_rfl | rfl, ?_⟩; intro w hSw; obtain ⟨u0, u1, u2, u3, u4, u5⟩ := hSw; go_simp <;> (try with_reducible rfl))
          try simp only [Act.put, List.setIfInBounds_toArray, List.set_cons_zero, List.set_cons_succ]
          refine wpAnyH_take (i := 1) (oi := ?kd2o) (v := ?kd2v) ?kd2h (by kernel_rfl) (by kernel_rfl) (by kernel_rfl) ?kd2q ?kd2y hHeld ?kd2r
          case kd2h => (simp only [List.getElem?_toArray, List.getElem?_cons_succ, List.getElem?_cons_zero]; rfl)
          case kd2q => exact fun _ _ _ h => h
          case kd2y => (refine Or.inl ⟨by first | kernel_rfl | rfl, ?_⟩; intro w hSw; obtain ⟨u0, u1, u2, u3, u4, u5⟩ := hSw; go_simp <;> (try with_reducible rfl))
          try simp only [Act.put, List.setIfInBounds_toArray, List.set_cons_zero, List.set_cons_succ]
          refine wpAnyH_take (i := 2) (oi := ?kd3o) (v := ?kd3v) ?kd3h (by kernel_rfl) (by kernel_rfl) (by kernel_rfl) ?kd3q ?kd3y hHeld ?kd3r
          case kd3h => (simp only [List.getElem?_toArray, List.getElem?_cons_succ, List.getElem?_cons_zero]; rfl)
          case kd3q => exact fun _ _ _ h => h
          case kd3y => (refine Or.inl ⟨by first | kernel_rfl | rfl, ?_⟩; intro w hSw; obtain ⟨u0, u1, u2, u3, u4, u5⟩ := hSw; go_simp <;> (try with_reducible rfl))
          try simp only [Act.put, List.setIfInBounds_toArray, List.set_cons_zero, List.set_cons_succ]
          refine wpAnyH_take (i := 4) (oi := ?kd4o) (v := ?kd4v) ?kd4h (by kernel_rfl) (by kernel_rfl) (by kernel_rfl) ?kd4q ?kd4y hHeld ?kd4r
          case kd4h => (simp only [List.getElem?_toArray, List.getElem?_cons_succ, List.getElem?_cons_zero]; rfl)
          case kd4q => exact fun _ _ _ h => h
          case kd4y => (refine Or.inl ⟨by first | kernel_rfl | rfl, ?_⟩; intro w hSw; obtain ⟨u0, u1, u2, u3, u4, u5⟩ := hSw; go_simp <;> (try with_reducible rfl))
          try simp only [Act.put, List.setIfInBounds_toArray, List.set_cons_zero, List.set_cons_succ]
          refine wpAnyH_take (i := 5) (oi := ?kd5o) (v := ?kd5v) ?kd5h (by kernel_rfl) (by kernel_rfl) (by kernel_rfl) ?kd5q ?kd5y hHeld ?kd5r
          case kd5h => (simp only [List.getElem?_toArray, List.getElem?_cons_succ, List.getElem?_cons_zero]; rfl)
          case kd5q => exact fun _ _ _ h => h
          case kd5y => (refine Or.inl ⟨by first | kernel_rfl | rfl, ?_⟩; intro w hSw; obtain ⟨u0, u1, u2, u3, u4, u5⟩ := hSw; go_simp <;> (try with_reducible rfl))
          try simp only [Act.put, List.setIfInBounds_toArray, List.set_cons_zero, List.set_cons_succ]
          refine wpAnyH_take (i := 6) (oi := ?kd6o) (v := ?kd6v) ?kd6h (by kernel_rfl) (by kernel_rfl) (by kernel_rfl) ?kd6q ?kd6y hHeld ?kd6r
          case kd6h => (simp only [List.getElem?_toArray, List.getElem?_cons_succ, List.getElem?_cons_zero]; rfl)
          case kd6q => exact fun _ _ _ h => h
          case kd6y => (refine Or.inl ⟨by first | kernel_rfl | rfl, ?_⟩; intro w hSw; obtain ⟨u0, u1, u2, u3, u4, u5⟩ := hSw; go_simp <;> (try with_reducible rfl))
          try simp only [Act.put, List.setIfInBounds_toArray, List.set_cons_zero, List.set_cons_succ]
          refine wpAnyH_ready (rs := [3]) (by kernel_rfl) (by simp) ?_
          refine (AllReadyH.cons rfl (fun K hK => ?_) AllReadyH.nil)
          go_simp
          (go_at_call 16; (with_reducible refine ((kadd _ HP10.out)).mono ?_); rintro e w11 ⟨rfl, hH11, hg11⟩; (have HP11 := Lib.hid (show PlB w w11 w1.heap.size b mm w2.heap.size d (capH room) (addL L (capH room) s ns) L a c w4.heap.size o w5.heap.size s from HP10.out.prog hH11 hg11)); clear hH11 hg11)
          refine hK.out _ _ (HP11.out.bp.pt) (fun hHeld => ?_)
          clear hK K
          try simp only [Act.put, List.setIfInBounds_toArray, List.set_cons_zero, List.set_cons_succ]
          refine wpAnyH_ready (rs := [7]) (by kernel_rfl) (by simp) ?_
          refine (AllReadyH.cons rfl (fun K hK => ?_) AllReadyH.nil)
          go_simp
          (go_at_call 17; (with_reducible refine ((kradd _ HP11.out)).mono ?_); rintro e w12 ⟨rfl, ⟨a12, c12, hD12⟩, hf12⟩; (have HP12 := Lib.hid (show PlB w w12 w1.heap.size b mm w2.heap.size d (capH room) (addL L (capH room) s ns) (addL L (capH room) s ns) a12 c12 w4.heap.size o w5.heap.size s from HP11.out.doc hD12 hf12)); clear hD12 hf12)
          refine hK.out _ _ (HP12.out.bp.pt) (fun hHeld => ?_)
          clear hK K
          try simp only [Act.put, List.setIfInBounds_toArray, List.set_cons_zero, List.set_cons_succ]
          refine wpAnyH_take (i := 8) (oi := ?kd7o) (v := ?kd7v) ?kd7h (by kernel_rfl) (by kernel_rfl) (by kernel_rfl) ?kd7q ?kd7y hHeld ?kd7r
          case kd7h => (simp only [List.getElem?_toArray, List.getElem?_cons_succ, List.getElem?_cons_zero]; rfl)
          case kd7q => exact fun _ _ _ h => h
          case kd7y => (refine Or.inl ⟨by first | kernel_rfl | rfl, ?_⟩; intro w hSw; obtain ⟨u0, u1, u2, u3, u4, u5⟩ := hSw; go_simp <;> (try with_reducible rfl))
          try simp only [Act.put, List.setIfInBounds_toArray, List.set_cons_zero, List.set_cons_succ]
          refine wpAnyH_take (i := 9) (oi := ?kd8o) (v := ?kd8v) ?kd8h (by kernel_rfl) (by kernel_rfl) (by kernel_rfl) ?kd8q ?kd8y hHeld ?kd8r
          case kd8h => (simp only [List.getElem?_toArray, List.getElem?_cons_succ, List.getElem?_cons_zero]; rfl)
          case kd8q => exact fun _ _ _ h => h
          case kd8y => (refine Or.inl ⟨by first | kernel_rfl | rfl, ?_⟩; intro w hSw; obtain ⟨u0, u1, u2, u3, u4, u5⟩ := hSw; go_simp <;> (try with_reducible rfl))
          try simp only [Act.put, List.setIfInBounds_toArray, List.set_cons_zero, List.set_cons_succ]
          refine wpAnyH_done (by kernel_rfl) ?_ _
          go_wp2
          go_meet
          exact ⟨by simp, _, _, _, HP12⟩
      case rest =>
      clear HP8
      obtain ⟨rfl, L, a, c, HQ⟩ := hcut
      have HL6 := Lib.hid HQ.out.st.do_.len
      have HQ0 := Lib.hid HQ.out.drew
      have kow : ∀ (W : World) (_ : PlB w W w1.heap.size b mm w2.heap.size d (capH room) L L a c w4.heap.size o w5.heap.size s), Calls Try.prog 22 #[.pointer (some ⟨b, 0, none⟩), ptV s] W (IDone (owedL L s) W) := fun W h => owed_is h.st.hi s fun k hk => HSB.out k (i64_of (by omega) (by omega))
      have krn : ∀ (W : World) (_ : PlB w W w1.heap.size b mm w2.heap.size d (capH room) L L a c w4.heap.size o w5.heap.size s) (any : Bool), Calls Try.prog 23 #[.pointer (some ⟨d, 0, none⟩), ptV s, .bool any] W (IDone (if any = true then nodesH L else owedL L s) W) := fun W h any => rnodesD_is h.st.do_ h.st.hi.good s any
      unfold ptV at kow krn
      have hwr : IntKind.i64.wrap (capH room - (L.length : Int)) = capH room - (L.length : Int) := by
        have h1 := HCR.out
        have h2 := HL6.out
        rw [IntKind.wrap_i64]; omega
      go_wp2_with fail
      refine wp_region_held_drew (S := (fun X : World => X.cell? ⟨w4.heap.size, 1, none⟩ = some (.int .i64 o.n))) (by kernel_rfl) HQ0.out.o1 (fun hHeld => ?_)
      refine wpAnyH_take (i := 0) (oi := ?ta1o) (v := ?ta1v) ?ta1h (by kernel_rfl) (by kernel_rfl) (by kernel_rfl) ?ta1q ?ta1y hHeld ?ta1r
      case ta1h => (simp only [List.getElem?_toArray, List.getElem?_cons_zero]; rfl)
      case ta1q => exact fun _ _ _ h => h
      case ta1y => (refine Or.inl ⟨by first | kernel_rfl | rfl, ?_⟩; intro w hSw; have z1 := hSw; go_simp <;> (try with_reducible rfl))
      try simp only [Act.put, List.setIfInBounds_toArray, List.set_cons_zero, List.set_cons_succ]
      refine wpAnyH_take (i := 1) (oi := ?ta2o) (v := ?ta2v) ?ta2h (by kernel_rfl) (by kernel_rfl) (by kernel_rfl) ?ta2q ?ta2y hHeld ?ta2r
      case ta2h => (simp only [List.getElem?_toArray, List.getElem?_cons_succ, List.getElem?_cons_zero]; rfl)
      case ta2q => exact fun _ _ _ h => h
      case ta2y => (refine Or.inl ⟨by first | kernel_rfl | rfl, ?_⟩; intro w hSw; have z1 := hSw; go_simp <;> (try with_reducible rfl))
      try simp only [Act.put, List.setIfInBounds_toArray, List.set_cons_zero, List.set_cons_succ]
      refine wpAnyH_take (i := 2) (oi := ?ta3o) (v := ?ta3v) ?ta3h (by kernel_rfl) (by kernel_rfl) (by kernel_rfl) ?ta3q ?ta3y hHeld ?ta3r
      case ta3h => (simp only [List.getElem?_toArray, List.getElem?_cons_succ, List.getElem?_cons_zero]; rfl)
      case ta3q => exact fun _ _ _ h => h
      case ta3y => (refine Or.inl ⟨by first | kernel_rfl | rfl, ?_⟩; intro w hSw; have z1 := hSw; go_simp <;> (try with_reducible rfl))
      try simp only [Act.put, List.setIfInBounds_toArray, List.set_cons_zero, List.set_cons_succ]
      refine wpAnyH_take (i := 3) (oi := ?ta4o) (v := ?ta4v) ?ta4h (by kernel_rfl) (by kernel_rfl) (by kernel_rfl) ?ta4q ?ta4y hHeld ?ta4r
      case ta4h => (simp only [List.getElem?_toArray, List.getElem?_cons_succ, List.getElem?_cons_zero]; rfl)
      case ta4q => exact fun _ _ _ h => h
      case ta4y => (refine Or.inl ⟨by first | kernel_rfl | rfl, ?_⟩; intro w hSw; have z1 := hSw; go_simp <;> (try with_reducible rfl))
      try simp only [Act.put, List.setIfInBounds_toArray, List.set_cons_zero, List.set_cons_succ]
      refine wpAnyH_take (i := 5) (oi := ?ta5o) (v := ?ta5v) ?ta5h (by kernel_rfl) (by kernel_rfl) (by kernel_rfl) ?ta5q ?ta5y hHeld ?ta5r
      case ta5h => (simp only [List.getElem?_toArray, List.getElem?_cons_succ, List.getElem?_cons_zero]; rfl)
      case ta5q => exact fun _ _ _ h => h
      case ta5y => (refine Or.inl ⟨by first | kernel_rfl | rfl, ?_⟩; intro w hSw; have z1 := hSw; go_simp <;> (try with_reducible rfl))
      try simp only [Act.put, List.setIfInBounds_toArray, List.set_cons_zero, List.set_cons_succ]
      refine wpAnyH_take (i := 6) (oi := ?ta6o) (v := ?ta6v) ?ta6h (by kernel_rfl) (by kernel_rfl) (by kernel_rfl) ?ta6q ?ta6y hHeld ?ta6r
      case ta6h => (simp only [List.getElem?_toArray, List.getElem?_cons_succ, List.getElem?_cons_zero]; rfl)
      case ta6q => exact fun _ _ _ h => h
      case ta6y => (refine Or.inl ⟨by first | kernel_rfl | rfl, ?_⟩; intro w hSw; have z1 := hSw; go_simp <;> (try with_reducible rfl))
      try simp only [Act.put, List.setIfInBounds_toArray, List.set_cons_zero, List.set_cons_succ]
      refine wpAnyH_take (i := 7) (oi := ?ta7o) (v := ?ta7v) ?ta7h (by kernel_rfl) (by kernel_rfl) (by kernel_rfl) ?ta7q ?ta7y hHeld ?ta7r
      case ta7h => (simp only [List.getElem?_toArray, List.getElem?_cons_succ, List.getElem?_cons_zero]; rfl)
      case ta7q => exact fun _ _ _ h => h
      case ta7y => (refine Or.inl ⟨by first | kernel_rfl | rfl, ?_⟩; intro w hSw; have z1 := hSw; go_simp <;> (try with_reducible rfl))
      try simp only [Act.put, List.setIfInBounds_toArray, List.set_cons_zero, List.set_cons_succ]
      refine wpAnyH_take (i := 8) (oi := ?ta8o) (v := ?ta8v) ?ta8h (by kernel_rfl) (by kernel_rfl) (by kernel_rfl) ?ta8q ?ta8y hHeld ?ta8r
      case ta8h => (simp only [List.getElem?_toArray, List.getElem?_cons_succ, List.getElem?_cons_zero]; rfl)
      case ta8q => exact fun _ _ _ h => h
      case ta8y => (refine Or.inl ⟨by first | kernel_rfl | rfl, ?_⟩; intro w hSw; have z1 := hSw; go_simp <;> (try with_reducible rfl))
      try simp only [Act.put, List.setIfInBounds_toArray, List.set_cons_zero, List.set_cons_succ]
      refine wpAnyH_ready (rs := [4]) (by kernel_rfl) (by simp) ?_
      refine (AllReadyH.cons rfl (fun K hK => ?_) AllReadyH.nil)
      go_simp
      (go_at_call 19; (with_reducible refine (for_some HQ0.out.st.hi o.n most).mono ?_); rintro e w11 ⟨v11, rfl, hR11, hb11⟩; (obtain ⟨a11, c11, rfl⟩ := hR11.slice); (have HR11 := Lib.hid hR11); (have HQ1 := Lib.hid (HQ0.out.later hb11)); clear hR11 hb11)
      refine hK.out _ _ (HQ1.out.o1) (fun hHeld => ?_)
      clear hK K
      try simp only [Act.put, List.setIfInBounds_toArray, List.set_cons_zero, List.set_cons_succ]
      refine wpAnyH_ready (rs := [9]) (by kernel_rfl) (by simp) ?_
      refine (AllReadyH.cons rfl (fun K hK => ?_) AllReadyH.nil)
      go_simp
      (go_at_call 20; (with_reducible refine (rfor_is HQ1.out.st.do_ o.n most HMO.out).mono ?_); rintro e w12 ⟨a12, j12, c12, rfl, hj12, hp12, hb12⟩; subst hj12; (have HP12 := Lib.hid hp12); (have HF12 := Lib.hid (PRow.later HR11.out hb12)); (have HQ2 := Lib.hid (HQ1.out.later hb12)); clear hp12 hb12)
      refine hK.out _ _ (HQ2.out.o1) (fun hHeld => ?_)
      clear hK K
      try simp only [Act.put, List.setIfInBounds_toArray, List.set_cons_zero, List.set_cons_succ]
      refine wpAnyH_ready (rs := [10]) (by kernel_rfl) (by simp) ?_
      refine (AllReadyH.cons rfl (fun K hK => ?_) AllReadyH.nil)
      go_simp
      (go_at_call 18; (with_reducible refine (rsamep_is a11 a12 c11 c12 _ _ true _ HF12.out.pts HP12.out (by (have h1 := for_len L o.n most; have h2 := HL6.out; omega)) (by (have h1 := for_len L o.n most; have h2 := HL6.out; omega)) (Lib.hid (sameP_self _))).mono ?_); rintro e w13 ⟨rfl, hb13⟩; (have HQ3 := Lib.hid (HQ2.out.later hb13)); clear hb13)
      refine hK.out _ _ (HQ3.out.o1) (fun hHeld => ?_)
      clear hK K
      try simp only [Act.put, List.setIfInBounds_toArray, List.set_cons_zero, List.set_cons_succ]
      refine wpAnyH_take (i := 11) (oi := ?ta9o) (v := ?ta9v) ?ta9h (by kernel_rfl) (by kernel_rfl) (by kernel_rfl) ?ta9q ?ta9y hHeld ?ta9r
      case ta9h => (simp only [List.getElem?_toArray, List.getElem?_cons_succ, List.getElem?_cons_zero]; rfl)
      case ta9q => exact fun _ _ _ h => h
      case ta9y => (refine Or.inl ⟨by first | kernel_rfl | rfl, ?_⟩; intro w hSw; have z1 := hSw; go_simp <;> (try with_reducible rfl))
      try simp only [Act.put, List.setIfInBounds_toArray, List.set_cons_zero, List.set_cons_succ]
      refine wpAnyH_done (by kernel_rfl) ?_ _
      go_wp2_with fail
      have HQ4 := Lib.hid HQ3.out.drew
      refine wp_region_held_drew (S := (fun X : World => PtAt X w5.heap.size s)) (by kernel_rfl) HQ4.out.bp.pt (fun hHeld => ?_)
      refine wpAnyH_take (i := 0) (oi := ?tb1o) (v := ?tb1v) ?tb1h (by kernel_rfl) (by kernel_rfl) (by kernel_rfl) ?tb1q ?tb1y hHeld ?tb1r
      case tb1h => (simp only [List.getElem?_toArray, List.getElem?_cons_zero]; rfl)
      case tb1q => exact fun _ _ _ h => h
      case tb1y => (refine Or.inl ⟨by first | kernel_rfl | rfl, ?_⟩; intro w hSw; obtain ⟨u0, u1, u2, u3, u4, u5⟩ := hSw; go_simp <;> (try with_reducible rfl))
      try simp only [Act.put, List.setIfInBounds_toArray, List.set_cons_zero, List.set_cons_succ]
      refine wpAnyH_take (i := 1) (oi := ?tb2o) (v := ?tb2v) ?tb2h (by kernel_rfl) (by kernel_rfl) (by kernel_rfl) ?tb2q ?tb2y hHeld ?tb2r
      case tb2h => (simp only [List.getElem?_toArray, List.getElem?_cons_succ, List.getElem?_cons_zero]; rfl)
      case tb2q => exact fun _ _ _ h => h
      case tb2y => (refine Or.inl ⟨by first | kernel_rfl | rfl, ?_⟩; intro w hSw; obtain ⟨u0, u1, u2, u3, u4, u5⟩ := hSw; go_simp <;> (try with_reducible rfl))
      try simp only [Act.put, List.setIfInBounds_toArray, List.set_cons_zero, List.set_cons_succ]
      refine wpAnyH_take (i := 3) (oi := ?tb3o) (v := ?tb3v) ?tb3h (by kernel_rfl) (by kernel_rfl) (by kernel_rfl) ?tb3q ?tb3y hHeld ?tb3r
      case tb3h => (simp only [List.getElem?_toArray, List.getElem?_cons_succ, List.getElem?_cons_zero]; rfl)
      case tb3q => exact fun _ _ _ h => h
      case tb3y => (refine Or.inl ⟨by first | kernel_rfl | rfl, ?_⟩; intro w hSw; obtain ⟨u0, u1, u2, u3, u4, u5⟩ := hSw; go_simp <;> (try with_reducible rfl))
      try simp only [Act.put, List.setIfInBounds_toArray, List.set_cons_zero, List.set_cons_succ]
      refine wpAnyH_take (i := 4) (oi := ?tb4o) (v := ?tb4v) ?tb4h (by kernel_rfl) (by kernel_rfl) (by kernel_rfl) ?tb4q ?tb4y hHeld ?tb4r
      case tb4h => (simp only [List.getElem?_toArray, List.getElem?_cons_succ, List.getElem?_cons_zero]; rfl)
      case tb4q => exact fun _ _ _ h => h
      case tb4y => (refine Or.inl ⟨by first | kernel_rfl | rfl, ?_⟩; intro w hSw; obtain ⟨u0, u1, u2, u3, u4, u5⟩ := hSw; go_simp <;> (try with_reducible rfl))
      try simp only [Act.put, List.setIfInBounds_toArray, List.set_cons_zero, List.set_cons_succ]
      refine wpAnyH_ready (rs := [2]) (by kernel_rfl) (by simp) ?_
      refine (AllReadyH.cons rfl (fun K hK => ?_) AllReadyH.nil)
      go_simp
      (go_at_call 22; (with_reducible refine (kow _ HQ4.out).mono ?_); rintro e w14 ⟨v14, rfl, hR14, hb14⟩; (have HR14 := Lib.hid hR14); (have HQ5 := Lib.hid (HQ4.out.later hb14)); clear hR14 hb14)
      refine hK.out _ _ (HQ5.out.bp.pt) (fun hHeld => ?_)
      clear hK K
      try simp only [Act.put, List.setIfInBounds_toArray, List.set_cons_zero, List.set_cons_succ]
      refine wpAnyH_ready (rs := [5]) (by kernel_rfl) (by simp) ?_
      refine (AllReadyH.cons rfl (fun K hK => ?_) AllReadyH.nil)
      go_simp
      (go_at_call 23; (with_reducible refine (krn _ HQ5.out false).mono ?_); rintro e w15 ⟨v15, rfl, hR15, hb15⟩; (have HR15 := Lib.hid (show IRow w15 w14.heap.size v15 (owedL L s) from hR15)); (have HS14 := Lib.hid (IRow.later HR14.out hb15)); (have HQ6 := Lib.hid (HQ5.out.later hb15)); clear hR15 hb15)
      refine hK.out _ _ (HQ6.out.bp.pt) (fun hHeld => ?_)
      clear hK K
      try simp only [Act.put, List.setIfInBounds_toArray, List.set_cons_zero, List.set_cons_succ]
      refine wpAnyH_ready (rs := [6]) (by kernel_rfl) (by simp) ?_
      refine (AllReadyH.cons rfl (fun K hK => ?_) AllReadyH.nil)
      go_simp
      (go_at_call 21; (with_reducible refine (rsame_is _ _ _ _ _ _ _ (pick_ns HS14.out) (pick_ns HR15.out)).mono ?_); rintro e w16 ⟨rfl, hb16⟩; (rw [sameL_self]); (have HQ7 := Lib.hid (HQ6.out.later hb16)); clear hb16)
      refine hK.out _ _ (HQ7.out.bp.pt) (fun hHeld => ?_)
      clear hK K
      try simp only [Act.put, List.setIfInBounds_toArray, List.set_cons_zero, List.set_cons_succ]
      refine wpAnyH_take (i := 7) (oi := ?tb5o) (v := ?tb5v) ?tb5h (by kernel_rfl) (by kernel_rfl) (by kernel_rfl) ?tb5q ?tb5y hHeld ?tb5r
      case tb5h => (simp only [List.getElem?_toArray, List.getElem?_cons_succ, List.getElem?_cons_zero]; rfl)
      case tb5q => exact fun _ _ _ h => h
      case tb5y => (refine Or.inl ⟨by first | kernel_rfl | rfl, ?_⟩; intro w hSw; obtain ⟨u0, u1, u2, u3, u4, u5⟩ := hSw; go_simp <;> (try with_reducible rfl))
      try simp only [Act.put, List.setIfInBounds_toArray, List.set_cons_zero, List.set_cons_succ]
      refine wpAnyH_done (by kernel_rfl) ?_ _
      go_wp2_with fail
      have HQ8 := Lib.hid HQ7.out.drew
      refine wp_region_held_drew (S := (fun X : World => PtAt X w5.heap.size s)) (by kernel_rfl) HQ8.out.bp.pt (fun hHeld => ?_)
      refine wpAnyH_take (i := 0) (oi := ?tc1o) (v := ?tc1v) ?tc1h (by kernel_rfl) (by kernel_rfl) (by kernel_rfl) ?tc1q ?tc1y hHeld ?tc1r
      case tc1h => (simp only [List.getElem?_toArray, List.getElem?_cons_zero]; rfl)
      case tc1q => exact fun _ _ _ h => h
      case tc1y => (refine Or.inl ⟨by first | kernel_rfl | rfl, ?_⟩; intro w hSw; obtain ⟨u0, u1, u2, u3, u4, u5⟩ := hSw; go_simp <;> (try with_reducible rfl))
      try simp only [Act.put, List.setIfInBounds_toArray, List.set_cons_zero, List.set_cons_succ]
      refine wpAnyH_take (i := 2) (oi := ?tc2o) (v := ?tc2v) ?tc2h (by kernel_rfl) (by kernel_rfl) (by kernel_rfl) ?tc2q ?tc2y hHeld ?tc2r
      case tc2h => (simp only [List.getElem?_toArray, List.getElem?_cons_succ, List.getElem?_cons_zero]; rfl)
      case tc2q => exact fun _ _ _ h => h
      case tc2y => (refine Or.inl ⟨by first | kernel_rfl | rfl, ?_⟩; intro w hSw; obtain ⟨u0, u1, u2, u3, u4, u5⟩ := hSw; go_simp <;> (try with_reducible rfl))
      try simp only [Act.put, List.setIfInBounds_toArray, List.set_cons_zero, List.set_cons_succ]
      refine wpAnyH_take (i := 3) (oi := ?tc3o) (v := ?tc3v) ?tc3h (by kernel_rfl) (by kernel_rfl) (by kernel_rfl) ?tc3q ?tc3y hHeld ?tc3r
      case tc3h => (simp only [List.getElem?_toArray, List.getElem?_cons_succ, List.getElem?_cons_zero]; rfl)
      case tc3q => exact fun _ _ _ h => h
      case tc3y => (refine Or.inl ⟨by first | kernel_rfl | rfl, ?_⟩; intro w hSw; obtain ⟨u0, u1, u2, u3, u4, u5⟩ := hSw; go_simp <;> (try with_reducible rfl))
      try simp only [Act.put, List.setIfInBounds_toArray, List.set_cons_zero, List.set_cons_succ]
      refine wpAnyH_ready (rs := [1]) (by kernel_rfl) (by simp) ?_
      refine (AllReadyH.cons rfl (fun K hK => ?_) AllReadyH.nil)
      go_simp
      (go_at_call 24; (with_reducible refine (nodes_some HQ8.out.st.hi).mono ?_); rintro e w17 ⟨v17, rfl, hR17, hb17⟩; (have HR17 := Lib.hid hR17); (have HQ9 := Lib.hid (HQ8.out.later hb17)); clear hR17 hb17)
      refine hK.out _ _ (HQ9.out.bp.pt) (fun hHeld => ?_)
      clear hK K
      try simp only [Act.put, List.setIfInBounds_toArray, List.set_cons_zero, List.set_cons_succ]
      refine wpAnyH_ready (rs := [4]) (by kernel_rfl) (by simp) ?_
      refine (AllReadyH.cons rfl (fun K hK => ?_) AllReadyH.nil)
      go_simp
      (go_at_call 23; (with_reducible refine (krn _ HQ9.out true).mono ?_); rintro e w18 ⟨v18, rfl, hR18, hb18⟩; (have HR18 := Lib.hid (show IRow w18 w17.heap.size v18 (nodesH L) from hR18)); (have HS17 := Lib.hid (IRow.later HR17.out hb18)); (have HQa := Lib.hid (HQ9.out.later hb18)); clear hR18 hb18)
      refine hK.out _ _ (HQa.out.bp.pt) (fun hHeld => ?_)
      clear hK K
      try simp only [Act.put, List.setIfInBounds_toArray, List.set_cons_zero, List.set_cons_succ]
      refine wpAnyH_ready (rs := [5]) (by kernel_rfl) (by simp) ?_
      refine (AllReadyH.cons rfl (fun K hK => ?_) AllReadyH.nil)
      go_simp
      (go_at_call 21; (with_reducible refine (rsame_is _ _ _ _ _ _ _ (pick_ns HS17.out) (pick_ns HR18.out)).mono ?_); rintro e w19 ⟨rfl, hb19⟩; (rw [sameL_self]); (have HQb := Lib.hid (HQa.out.later hb19)); clear hb19)
      refine hK.out _ _ (HQb.out.bp.pt) (fun hHeld => ?_)
      clear hK K
      try simp only [Act.put, List.setIfInBounds_toArray, List.set_cons_zero, List.set_cons_succ]
      refine wpAnyH_take (i := 6) (oi := ?tc4o) (v := ?tc4v) ?tc4h (by kernel_rfl) (by kernel_rfl) (by kernel_rfl) ?tc4q ?tc4y hHeld ?tc4r
      case tc4h => (simp only [List.getElem?_toArray, List.getElem?_cons_succ, List.getElem?_cons_zero]; rfl)
      case tc4q => exact fun _ _ _ h => h
      case tc4y => (refine Or.inl ⟨by first | kernel_rfl | rfl, ?_⟩; intro w hSw; obtain ⟨u0, u1, u2, u3, u4, u5⟩ := hSw; go_simp <;> (try with_reducible rfl))
      try simp only [Act.put, List.setIfInBounds_toArray, List.set_cons_zero, List.set_cons_succ]
      refine wpAnyH_done (by kernel_rfl) ?_ _
      go_wp2_with fail
      have HQc := Lib.hid HQb.out.drew
      refine wp_region_held_drew (S := (fun X : World => PlB w X w1.heap.size b mm w2.heap.size d (capH room) L L a c w4.heap.size o w5.heap.size s)) (by kernel_rfl) HQc.out (fun hHeld => ?_)
      refine wpAnyH_take (i := 0) (oi := ?td1o) (v := ?td1v) ?td1h (by kernel_rfl) (by kernel_rfl) (by kernel_rfl) ?td1q ?td1y hHeld ?td1r
      case td1h => (simp only [List.getElem?_toArray, List.getElem?_cons_zero]; rfl)
      case td1q => exact fun _ _ _ h => h
      case td1y => (refine Or.inl ⟨by first | kernel_rfl | rfl, ?_⟩; intro w hSw; have z0 := hSw.st.do_.c0; have z1 := hSw.st.do_.c1; go_simp <;> (try with_reducible rfl))
      try simp only [Act.put, List.setIfInBounds_toArray, List.set_cons_zero, List.set_cons_succ]
      refine wpAnyH_take (i := 1) (oi := ?td2o) (v := ?td2v) ?td2h (by kernel_rfl) (by kernel_rfl) (by kernel_rfl) ?td2q ?td2y hHeld ?td2r
      case td2h => (simp only [List.getElem?_toArray, List.getElem?_cons_succ, List.getElem?_cons_zero]; rfl)
      case td2q => exact fun _ _ _ h => h
      case td2y => (refine Or.inl ⟨by first | kernel_rfl | rfl, ?_⟩; intro w hSw; have z0 := hSw.st.do_.c0; have z1 := hSw.st.do_.c1; go_simp <;> (try with_reducible rfl))
      try simp only [Act.put, List.setIfInBounds_toArray, List.set_cons_zero, List.set_cons_succ]
      refine wpAnyH_take (i := 2) (oi := ?td3o) (v := ?td3v) ?td3h (by kernel_rfl) (by kernel_rfl) (by kernel_rfl) ?td3q ?td3y hHeld ?td3r
      case td3h => (simp only [List.getElem?_toArray, List.getElem?_cons_succ, List.getElem?_cons_zero]; rfl)
      case td3q => exact fun _ _ _ h => h
      case td3y => (refine Or.inl ⟨by first | kernel_rfl | rfl, ?_⟩; intro w hSw; have z0 := hSw.st.do_.c0; have z1 := hSw.st.do_.c1; go_simp <;> (try with_reducible rfl))
      try simp only [Act.put, List.setIfInBounds_toArray, List.set_cons_zero, List.set_cons_succ]
      refine wpAnyH_take (i := 3) (oi := ?td4o) (v := ?td4v) ?td4h (by kernel_rfl) (by kernel_rfl) (by kernel_rfl) ?td4q ?td4y hHeld ?td4r
      case td4h => (simp only [List.getElem?_toArray, List.getElem?_cons_succ, List.getElem?_cons_zero]; rfl)
      case td4q => exact fun _ _ _ h => h
      case td4y => (refine Or.inl ⟨by first | kernel_rfl | rfl, ?_⟩; intro w hSw; have z0 := hSw.st.do_.c0; have z1 := hSw.st.do_.c1; go_simp <;> (try with_reducible rfl))
      try simp only [Act.put, List.setIfInBounds_toArray, List.set_cons_zero, List.set_cons_succ]
      refine wpAnyH_take (i := 4) (oi := ?td5o) (v := ?td5v) ?td5h (by kernel_rfl) (by kernel_rfl) (by kernel_rfl) ?td5q ?td5y hHeld ?td5r
      case td5h => (simp only [List.getElem?_toArray, List.getElem?_cons_succ, List.getElem?_cons_zero]; rfl)
      case td5q => exact fun _ _ _ h => h
      case td5y => (refine Or.inl ⟨by first | kernel_rfl | rfl, ?_⟩; intro w hSw; have z0 := hSw.st.do_.c0; have z1 := hSw.st.do_.c1; go_simp <;> (try with_reducible rfl))
      try simp only [Act.put, List.setIfInBounds_toArray, List.set_cons_zero, List.set_cons_succ]
      refine wpAnyH_take (i := 5) (oi := ?td6o) (v := ?td6v) ?td6h (by kernel_rfl) (by kernel_rfl) (by kernel_rfl) ?td6q ?td6y hHeld ?td6r
      case td6h => (simp only [List.getElem?_toArray, List.getElem?_cons_succ, List.getElem?_cons_zero]; rfl)
      case td6q => exact fun _ _ _ h => h
      case td6y => (refine Or.inl ⟨by first | kernel_rfl | rfl, ?_⟩; intro w hSw; have z0 := hSw.st.do_.c0; have z1 := hSw.st.do_.c1; go_simp <;> (try with_reducible rfl))
      try simp only [Act.put, List.setIfInBounds_toArray, List.set_cons_zero, List.set_cons_succ]
      refine wpAnyH_take (i := 6) (oi := ?td7o) (v := ?td7v) ?td7h (by kernel_rfl) (by kernel_rfl) (by kernel_rfl) ?td7q ?td7y hHeld ?td7r
      case td7h => (simp only [List.getElem?_toArray, List.getElem?_cons_succ, List.getElem?_cons_zero]; rfl)
      case td7q => exact fun _ _ _ h => h
      case td7y => (refine Or.inl ⟨by first | kernel_rfl | rfl, ?_⟩; intro w hSw; have z0 := hSw.st.do_.c0; have z1 := hSw.st.do_.c1; go_simp <;> (try with_reducible rfl))
      try simp only [Act.put, List.setIfInBounds_toArray, List.set_cons_zero, List.set_cons_succ]
      refine wpAnyH_take (i := 7) (oi := ?td8o) (v := ?td8v) ?td8h (by kernel_rfl) (by kernel_rfl) (by kernel_rfl) ?td8q ?td8y hHeld ?td8r
      case td8h => (simp only [List.getElem?_toArray, List.getElem?_cons_succ, List.getElem?_cons_zero]; rfl)
      case td8q => exact fun _ _ _ h => h
      case td8y => (refine Or.inl ⟨by first | kernel_rfl | rfl, ?_⟩; intro w hSw; have z0 := hSw.st.do_.c0; have z1 := hSw.st.do_.c1; go_simp <;> (try with_reducible rfl))
      try simp only [Act.put, List.setIfInBounds_toArray, List.set_cons_zero, List.set_cons_succ]
      refine wpAnyH_take (i := 8) (oi := ?td9o) (v := ?td9v) ?td9h (by kernel_rfl) (by kernel_rfl) (by kernel_rfl) ?td9q ?td9y hHeld ?td9r
      case td9h => (simp only [List.getElem?_toArray, List.getElem?_cons_succ, List.getElem?_cons_zero]; rfl)
      case td9q => exact fun _ _ _ h => h
      case td9y => (refine Or.inl ⟨by first | kernel_rfl | rfl, ?_⟩; intro w hSw; have z0 := hSw.st.do_.c0; have z1 := hSw.st.do_.c1; go_simp <;> (try with_reducible rfl))
      try simp only [Act.put, List.setIfInBounds_toArray, List.set_cons_zero, List.set_cons_succ]
      refine wpAnyH_take (i := 9) (oi := ?td10o) (v := ?td10v) ?td10h (by kernel_rfl) (by kernel_rfl) (by kernel_rfl) ?td10q ?td10y hHeld ?td10r
      case td10h => (simp only [List.getElem?_toArray, List.getElem?_cons_succ, List.getElem?_cons_zero]; rfl)
      case td10q => exact fun _ _ _ h => h
      case td10y => (refine Or.inl ⟨by first | kernel_rfl | rfl, ?_⟩; intro w hSw; have z0 := hSw.st.do_.c0; have z1 := hSw.st.do_.c1; go_simp <;> (try with_reducible rfl))
      try simp only [Act.put, List.setIfInBounds_toArray, List.set_cons_zero, List.set_cons_succ]
      refine wpAnyH_take (i := 10) (oi := ?td11o) (v := ?td11v) ?td11h (by kernel_rfl) (by kernel_rfl) (by kernel_rfl) ?td11q ?td11y hHeld ?td11r
      case td11h => (simp only [List.getElem?_toArray, List.getElem?_cons_succ, List.getElem?_cons_zero]; rfl)
      case td11q => exact fun _ _ _ h => h
      case td11y => (refine Or.inl ⟨by first | kernel_rfl | rfl, ?_⟩; intro w hSw; have z0 := hSw.st.do_.c0; have z1 := hSw.st.do_.c1; go_simp <;> (try with_reducible rfl))
      try simp only [Act.put, List.setIfInBounds_toArray, List.set_cons_zero, List.set_cons_succ]
      refine wpAnyH_take (i := 11) (oi := ?td12o) (v := ?td12v) ?td12h (by kernel_rfl) (by kernel_rfl) (by kernel_rfl) ?td12q ?td12y hHeld ?td12r
      case td12h => (simp only [List.getElem?_toArray, List.getElem?_cons_succ, List.getElem?_cons_zero]; rfl)
      case td12q => exact fun _ _ _ h => h
      case td12y => (refine Or.inl ⟨by first | kernel_rfl | rfl, ?_⟩; intro w hSw; have z0 := hSw.st.do_.c0; have z1 := hSw.st.do_.c1; go_simp <;> (try with_reducible rfl))
      try simp only [Act.put, List.setIfInBounds_toArray, List.set_cons_zero, List.set_cons_succ]
      refine wpAnyH_take (i := 12) (oi := ?td13o) (v := ?td13v) ?td13h (by kernel_rfl) (by kernel_rfl) (by kernel_rfl) ?td13q ?td13y hHeld ?td13r
      case td13h => (simp only [List.getElem?_toArray, List.getElem?_cons_succ, List.getElem?_cons_zero]; rfl)
      case td13q => exact fun _ _ _ h => h
      case td13y => (refine Or.inl ⟨by first | kernel_rfl | rfl, ?_⟩; intro w hSw; have z0 := hSw.st.do_.c0; have z1 := hSw.st.do_.c1; go_simp <;> (try with_reducible rfl))
      try simp only [Act.put, List.setIfInBounds_toArray, List.set_cons_zero, List.set_cons_succ]
      refine wpAnyH_take (i := 13) (oi := ?td14o) (v := ?td14v) ?td14h (by kernel_rfl) (by kernel_rfl) (by kernel_rfl) ?td14q ?td14y hHeld ?td14r
      case td14h => (simp only [List.getElem?_toArray, List.getElem?_cons_succ, List.getElem?_cons_zero]; rfl)
      case td14q => exact fun _ _ _ h => h
      case td14y => (refine Or.inl ⟨by first | kernel_rfl | rfl, ?_⟩; intro w hSw; have z0 := hSw.st.do_.c0; have z1 := hSw.st.do_.c1; go_simp <;> (try with_reducible rfl))
      try simp only [Act.put, List.setIfInBounds_toArray, List.set_cons_zero, List.set_cons_succ]
      refine wpAnyH_take (i := 14) (oi := ?td15o) (v := ?td15v) ?td15h (by kernel_rfl) (by kernel_rfl) (by kernel_rfl) ?td15q ?td15y hHeld ?td15r
      case td15h => (simp only [List.getElem?_toArray, List.getElem?_cons_succ, List.getElem?_cons_zero]; rfl)
      case td15q => exact fun _ _ _ h => h
      case td15y => (refine Or.inl ⟨by first | kernel_rfl | rfl, ?_⟩; intro w hSw; have z0 := hSw.st.do_.c0; have z1 := hSw.st.do_.c1; go_simp <;> (try with_reducible rfl))
      try simp only [Act.put, List.setIfInBounds_toArray, List.set_cons_zero, List.set_cons_succ]
      refine wpAnyH_take (i := 15) (oi := ?td16o) (v := ?td16v) ?td16h (by kernel_rfl) (by kernel_rfl) (by kernel_rfl) ?td16q ?td16y hHeld ?td16r
      case td16h => (simp only [List.getElem?_toArray, List.getElem?_cons_succ, List.getElem?_cons_zero]; rfl)
      case td16q => exact fun _ _ _ h => h
      case td16y => (refine Or.inl ⟨by first | kernel_rfl | rfl, ?_⟩; intro w hSw; have z0 := hSw.st.do_.c0; have z1 := hSw.st.do_.c1; go_simp <;> (try with_reducible rfl))
      try simp only [Act.put, List.setIfInBounds_toArray, List.set_cons_zero, List.set_cons_succ]
      refine wpAnyH_take (i := 17) (oi := ?td17o) (v := ?td17v) ?td17h (by kernel_rfl) (by kernel_rfl) (by kernel_rfl) ?td17q ?td17y hHeld ?td17r
      case td17h => (simp only [List.getElem?_toArray, List.getElem?_cons_succ, List.getElem?_cons_zero]; rfl)
      case td17q => exact fun _ _ _ h => h
      case td17y => (refine Or.inl ⟨by first | kernel_rfl | rfl, ?_⟩; intro w hSw; have z0 := hSw.st.do_.c0; have z1 := hSw.st.do_.c1; go_simp <;> (try with_reducible rfl))
      try simp only [Act.put, List.setIfInBounds_toArray, List.set_cons_zero, List.set_cons_succ]
      refine wpAnyH_take (i := 18) (oi := ?td18o) (v := ?td18v) ?td18h (by kernel_rfl) (by kernel_rfl) (by kernel_rfl) ?td18q ?td18y hHeld ?td18r
      case td18h => (simp only [List.getElem?_toArray, List.getElem?_cons_succ, List.getElem?_cons_zero]; rfl)
      case td18q => exact fun _ _ _ h => h
      case td18y => (refine Or.inl ⟨by first | kernel_rfl | rfl, ?_⟩; intro w hSw; have z0 := hSw.st.do_.c0; have z1 := hSw.st.do_.c1; go_simp <;> (try with_reducible rfl))
      try simp only [Act.put, List.setIfInBounds_toArray, List.set_cons_zero, List.set_cons_succ]
      refine wpAnyH_take (i := 19) (oi := ?td19o) (v := ?td19v) ?td19h (by kernel_rfl) (by kernel_rfl) (by kernel_rfl) ?td19q ?td19y hHeld ?td19r
      case td19h => (simp only [List.getElem?_toArray, List.getElem?_cons_succ, List.getElem?_cons_zero]; rfl)
      case td19q => exact fun _ _ _ h => h
      case td19y => (refine Or.inl ⟨by first | kernel_rfl | rfl, ?_⟩; intro w hSw; have z0 := hSw.st.do_.c0; have z1 := hSw.st.do_.c1; go_simp <;> (try with_reducible rfl))
      try simp only [Act.put, List.setIfInBounds_toArray, List.set_cons_zero, List.set_cons_succ]
      refine wpAnyH_take (i := 20) (oi := ?td20o) (v := ?td20v) ?td20h (by kernel_rfl) (by kernel_rfl) (by kernel_rfl) ?td20q ?td20y hHeld ?td20r
      case td20h => (simp only [List.getElem?_toArray, List.getElem?_cons_succ, List.getElem?_cons_zero]; rfl)
      case td20q => exact fun _ _ _ h => h
      case td20y => (refine Or.inl ⟨by first | kernel_rfl | rfl, ?_⟩; intro w hSw; have z0 := hSw.st.do_.c0; have z1 := hSw.st.do_.c1; go_simp <;> (try with_reducible rfl))
      try simp only [Act.put, List.setIfInBounds_toArray, List.set_cons_zero, List.set_cons_succ]
      refine wpAnyH_take (i := 21) (oi := ?td21o) (v := ?td21v) ?td21h (by kernel_rfl) (by kernel_rfl) (by kernel_rfl) ?td21q ?td21y hHeld ?td21r
      case td21h => (simp only [List.getElem?_toArray, List.getElem?_cons_succ, List.getElem?_cons_zero]; rfl)
      case td21q => exact fun _ _ _ h => h
      case td21y => (refine Or.inl ⟨by first | kernel_rfl | rfl, ?_⟩; intro w hSw; have z0 := hSw.st.do_.c0; have z1 := hSw.st.do_.c1; go_simp <;> (try with_reducible rfl))
      try simp only [Act.put, List.setIfInBounds_toArray, List.set_cons_zero, List.set_cons_succ]
      refine wpAnyH_ready (rs := [16]) (by kernel_rfl) (by simp) ?_
      refine (AllReadyH.cons rfl (fun K hK => ?_) AllReadyH.nil)
      go_simp
      (go_at_call 25; (with_reducible refine (len_is hHeld.st.hi).mono ?_); rintro e w21 ⟨rfl, rfl⟩)
      refine hK.out _ _ (hHeld) (fun hHeld => ?_)
      clear hK K
      try simp only [Act.put, List.setIfInBounds_toArray, List.set_cons_zero, List.set_cons_succ]
      refine wpAnyH_take (i := 22) (oi := ?td22o) (v := ?td22v) ?td22h (by kernel_rfl) (by kernel_rfl) (by kernel_rfl) ?td22q ?td22y hHeld ?td22r
      case td22h => (simp only [List.getElem?_toArray, List.getElem?_cons_succ, List.getElem?_cons_zero]; rfl)
      case td22q => exact fun _ _ _ h => h
      case td22y => (refine Or.inl ⟨by first | kernel_rfl | rfl, ?_⟩; intro w hSw; have z0 := hSw.st.do_.c0; have z1 := hSw.st.do_.c1; go_simp <;> (try with_reducible rfl))
      try simp only [Act.put, List.setIfInBounds_toArray, List.set_cons_zero, List.set_cons_succ]
      refine wpAnyH_take (i := 23) (oi := ?td23o) (v := ?td23v) ?td23h (by kernel_rfl) (by kernel_rfl) (by kernel_rfl) ?td23q ?td23y hHeld ?td23r
      case td23h => (simp only [List.getElem?_toArray, List.getElem?_cons_succ, List.getElem?_cons_zero]; rfl)
      case td23q => exact fun _ _ _ h => h
      case td23y => (refine Or.inl ⟨by first | kernel_rfl | rfl, ?_⟩; intro w hSw; have z0 := hSw.st.do_.c0; have z1 := hSw.st.do_.c1; go_simp <;> (try with_reducible rfl))
      try simp only [Act.put, List.setIfInBounds_toArray, List.set_cons_zero, List.set_cons_succ]
      refine wpAnyH_take (i := 24) (oi := ?td24o) (v := ?td24v) ?td24h (by kernel_rfl) (by kernel_rfl) (by kernel_rfl) ?td24q ?td24y hHeld ?td24r
      case td24h => (simp only [List.getElem?_toArray, List.getElem?_cons_succ, List.getElem?_cons_zero]; rfl)
      case td24q => exact fun _ _ _ h => h
      case td24y => (refine Or.inl ⟨by first | kernel_rfl | rfl, ?_⟩; intro w hSw; have z0 := hSw.st.do_.c0; have z1 := hSw.st.do_.c1; go_simp <;> (try with_reducible rfl))
      try simp only [Act.put, List.setIfInBounds_toArray, List.set_cons_zero, List.set_cons_succ]
      refine wpAnyH_take (i := 25) (oi := ?td25o) (v := ?td25v) ?td25h (by kernel_rfl) (by kernel_rfl) (by kernel_rfl) ?td25q ?td25y hHeld ?td25r
      case td25h => (simp only [List.getElem?_toArray, List.getElem?_cons_succ, List.getElem?_cons_zero]; rfl)
      case td25q => exact fun _ _ _ h => h
      case td25y => (refine Or.inl ⟨by first | kernel_rfl | rfl, ?_⟩; intro w hSw; have z0 := hSw.st.do_.c0; have z1 := hSw.st.do_.c1; go_simp <;> (try with_reducible rfl))
      try simp only [Act.put, List.setIfInBounds_toArray, List.set_cons_zero, List.set_cons_succ]
      refine wpAnyH_take (i := 27) (oi := ?td26o) (v := ?td26v) ?td26h (by kernel_rfl) (by kernel_rfl) (by kernel_rfl) ?td26q ?td26y hHeld ?td26r
      case td26h => (simp only [List.getElem?_toArray, List.getElem?_cons_succ, List.getElem?_cons_zero]; rfl)
      case td26q => exact fun _ _ _ h => h
      case td26y => (refine Or.inl ⟨by first | kernel_rfl | rfl, ?_⟩; intro w hSw; have z0 := hSw.st.do_.c0; have z1 := hSw.st.do_.c1; go_simp <;> (try with_reducible rfl))
      try simp only [Act.put, List.setIfInBounds_toArray, List.set_cons_zero, List.set_cons_succ]
      refine wpAnyH_take (i := 28) (oi := ?td27o) (v := ?td27v) ?td27h (by kernel_rfl) (by kernel_rfl) (by kernel_rfl) ?td27q ?td27y hHeld ?td27r
      case td27h => (simp only [List.getElem?_toArray, List.getElem?_cons_succ, List.getElem?_cons_zero]; rfl)
      case td27q => exact fun _ _ _ h => h
      case td27y => (refine Or.inl ⟨by first | kernel_rfl | rfl, ?_⟩; intro w hSw; have z0 := hSw.st.do_.c0; have z1 := hSw.st.do_.c1; go_simp <;> (try with_reducible rfl))
      try simp only [Act.put, List.setIfInBounds_toArray, List.set_cons_zero, List.set_cons_succ]
      refine wpAnyH_take (i := 29) (oi := ?td28o) (v := ?td28v) ?td28h (by kernel_rfl) (by kernel_rfl) (by kernel_rfl) ?td28q ?td28y hHeld ?td28r
      case td28h => (simp only [List.getElem?_toArray, List.getElem?_cons_succ, List.getElem?_cons_zero]; rfl)
      case td28q => exact fun _ _ _ h => h
      case td28y => (refine Or.inl ⟨by first | kernel_rfl | rfl, ?_⟩; intro w hSw; have z0 := hSw.st.do_.c0; have z1 := hSw.st.do_.c1; go_simp <;> (try with_reducible rfl))
      try simp only [Act.put, List.setIfInBounds_toArray, List.set_cons_zero, List.set_cons_succ]
      refine wpAnyH_take (i := 30) (oi := ?td29o) (v := ?td29v) ?td29h (by kernel_rfl) (by kernel_rfl) (by kernel_rfl) ?td29q ?td29y hHeld ?td29r
      case td29h => (simp only [List.getElem?_toArray, List.getElem?_cons_succ, List.getElem?_cons_zero]; rfl)
      case td29q => exact fun _ _ _ h => h
      case td29y => (refine Or.inl ⟨by first | kernel_rfl | rfl, ?_⟩; intro w hSw; have z0 := hSw.st.do_.c0; have z1 := hSw.st.do_.c1; go_simp <;> (try with_reducible rfl))
      try simp only [Act.put, List.setIfInBounds_toArray, List.set_cons_zero, List.set_cons_succ]
      refine wpAnyH_take (i := 31) (oi := ?td30o) (v := ?td30v) ?td30h (by kernel_rfl) (by kernel_rfl) (by kernel_rfl) ?td30q ?td30y hHeld ?td30r
      case td30h => (simp only [List.getElem?_toArray, List.getElem?_cons_succ, List.getElem?_cons_zero]; rfl)
      case td30q => exact fun _ _ _ h => h
      case td30y => (refine Or.inl ⟨by first | kernel_rfl | rfl, ?_⟩; intro w hSw; have z0 := hSw.st.do_.c0; have z1 := hSw.st.do_.c1; go_simp <;> (try with_reducible rfl))
      try simp only [Act.put, List.setIfInBounds_toArray, List.set_cons_zero, List.set_cons_succ]
      refine wpAnyH_take (i := 32) (oi := ?td31o) (v := ?td31v) ?td31h (by kernel_rfl) (by kernel_rfl) (by kernel_rfl) ?td31q ?td31y hHeld ?td31r
      case td31h => (simp only [List.getElem?_toArray, List.getElem?_cons_succ, List.getElem?_cons_zero]; rfl)
      case td31q => exact fun _ _ _ h => h
      case td31y => (refine Or.inl ⟨by first | kernel_rfl | rfl, ?_⟩; intro w hSw; have z0 := hSw.st.do_.c0; have z1 := hSw.st.do_.c1; go_simp <;> (try with_reducible rfl))
      try simp only [Act.put, List.setIfInBounds_toArray, List.set_cons_zero, List.set_cons_succ]
      refine wpAnyH_take (i := 33) (oi := ?td32o) (v := ?td32v) ?td32h (by kernel_rfl) (by kernel_rfl) (by kernel_rfl) ?td32q ?td32y hHeld ?td32r
      case td32h => (simp only [List.getElem?_toArray, List.getElem?_cons_succ, List.getElem?_cons_zero]; rfl)
      case td32q => exact fun _ _ _ h => h
      case td32y => (refine Or.inl ⟨by first | kernel_rfl | rfl, ?_⟩; intro w hSw; have z0 := hSw.st.do_.c0; have z1 := hSw.st.do_.c1; go_simp <;> (try with_reducible rfl))
      try simp only [Act.put, List.setIfInBounds_toArray, List.set_cons_zero, List.set_cons_succ]
      refine wpAnyH_take (i := 34) (oi := ?td33o) (v := ?td33v) ?td33h (by kernel_rfl) (by kernel_rfl) (by kernel_rfl) ?td33q ?td33y hHeld ?td33r
      case td33h => (simp only [List.getElem?_toArray, List.getElem?_cons_succ, List.getElem?_cons_zero]; rfl)
      case td33q => exact fun _ _ _ h => h
      case td33y => (refine Or.inl ⟨by first | kernel_rfl | rfl, ?_⟩; intro w hSw; have z0 := hSw.st.do_.c0; have z1 := hSw.st.do_.c1; go_simp <;> (try with_reducible rfl))
      try simp only [Act.put, List.setIfInBounds_toArray, List.set_cons_zero, List.set_cons_succ]
      refine wpAnyH_take (i := 35) (oi := ?td34o) (v := ?td34v) ?td34h (by kernel_rfl) (by kernel_rfl) (by kernel_rfl) ?td34q ?td34y hHeld ?td34r
      case td34h => (simp only [List.getElem?_toArray, List.getElem?_cons_succ, List.getElem?_cons_zero]; rfl)
      case td34q => exact fun _ _ _ h => h
      case td34y => (refine Or.inl ⟨by first | kernel_rfl | rfl, ?_⟩; intro w hSw; have z0 := hSw.st.do_.c0; have z1 := hSw.st.do_.c1; go_simp <;> (try with_reducible rfl))
      try simp only [Act.put, List.setIfInBounds_toArray, List.set_cons_zero, List.set_cons_succ]
      refine wpAnyH_take (i := 36) (oi := ?td35o) (v := ?td35v) ?td35h (by kernel_rfl) (by kernel_rfl) (by kernel_rfl) ?td35q ?td35y hHeld ?td35r
      case td35h => (simp only [List.getElem?_toArray, List.getElem?_cons_succ, List.getElem?_cons_zero]; rfl)
      case td35q => exact fun _ _ _ h => h
      case td35y => (refine Or.inl ⟨by first | kernel_rfl | rfl, ?_⟩; intro w hSw; have z0 := hSw.st.do_.c0; have z1 := hSw.st.do_.c1; go_simp <;> (try with_reducible rfl))
      try simp only [Act.put, List.setIfInBounds_toArray, List.set_cons_zero, List.set_cons_succ]
      refine wpAnyH_ready (rs := [26]) (by kernel_rfl) (by simp) ?_
      refine (AllReadyH.cons rfl (fun K hK => ?_) AllReadyH.nil)
      go_simp
      (go_at_call 26; (with_reducible refine (room_is hHeld.st.hi).mono ?_); rintro e w22 ⟨rfl, hb22⟩)
      refine hK.out _ _ (hHeld.later hb22) (fun hHeld => ?_)
      clear hK K
      try simp only [Act.put, List.setIfInBounds_toArray, List.set_cons_zero, List.set_cons_succ]
      refine wpAnyH_take (i := 37) (oi := ?td36o) (v := ?td36v) ?td36h (by kernel_rfl) (by kernel_rfl) (by kernel_rfl) ?td36q ?td36y hHeld ?td36r
      case td36h => (simp only [List.getElem?_toArray, List.getElem?_cons_succ, List.getElem?_cons_zero]; rfl)
      case td36q => exact fun _ _ _ h => h
      case td36y => (refine Or.inl ⟨by first | kernel_rfl | rfl, ?_⟩; intro w hSw; have z0 := hSw.st.do_.c0; have z1 := hSw.st.do_.c1; go_simp <;> (try with_reducible rfl))
      try simp only [Act.put, List.setIfInBounds_toArray, List.set_cons_zero, List.set_cons_succ]
      refine wpAnyH_take (i := 38) (oi := ?td37o) (v := ?td37v) ?td37h (by kernel_rfl) (by kernel_rfl) (by kernel_rfl) ?td37q ?td37y hHeld ?td37r
      case td37h => (simp only [List.getElem?_toArray, List.getElem?_cons_succ, List.getElem?_cons_zero]; rfl)
      case td37q => exact fun _ _ _ h => h
      case td37y => (refine Or.inl ⟨by first | kernel_rfl | rfl, ?_⟩; intro w hSw; have z0 := hSw.st.do_.c0; have z1 := hSw.st.do_.c1; go_simp <;> (try with_reducible rfl))
      try simp only [Act.put, List.setIfInBounds_toArray, List.set_cons_zero, List.set_cons_succ]
      refine wpAnyH_done (by kernel_rfl) ?_ _
      go_wp2
      go_roundw
      case rel => exact ⟨i + 1, L, a, c, by omega, by go_num, Lib.hid hHeld.st⟩
      case measure => simp [intOf]; omega
end hintPlays
end Go.Proofs.Ytolmhlfegllfoaa.Qu.Hi
