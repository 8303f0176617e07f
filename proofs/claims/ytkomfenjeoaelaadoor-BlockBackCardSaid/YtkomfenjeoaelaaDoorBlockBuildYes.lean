/- Build builds: the program's. -/
import Derived.Test.YtkomfenjeoaelaaDoorBlockReadMath
import Derived.Test.YtkomfenjeoaelaaDoorBlockOwnX
import Derived.Test.YtkomfenjeoaelaaDoorBlockLooks
import Derived.Test.YtkomfenjeoaelaaDoorBlockSeries
import Derived.Test.YtkomfenjeoaelaaDoorSumG
import Derived.Test.YtkomfenjeoaelaaDoorSampleG
set_option maxRecDepth 50000
set_option linter.unusedSimpArgs false
set_option linter.unusedVariables false
namespace Go.Proofs.YtkomfenjeoaelaaDoor
open Go.RowKit Go.Proofs.YtkomfenjeoaelaaDoor.Crc Go.Proofs.YtkomfenjeoaelaaDoor.Vi Go.Proofs.YtkomfenjeoaelaaDoor.Mk

theorem rangeL_all (l : List Pt) (s : ByteArray) : rangeL l s 0 1099511627777 = allR l s := by
  unfold rangeL allR
  rw [if_pos (by decide)]
theorem OwnB.base {w : World} {B k : Nat} {v : Value} {xs : List UInt8} (h : OwnB w B v xs) (e : v.ownBlock = some k) : B ≤ k := by
  rcases h with ⟨rfl, -⟩ | ⟨g, off, cap, rfl, h2, h3, -⟩
  · cases e
  · have : g = k := by simpa [Value.ownBlock] using e
    omega
theorem OwnB.top {w : World} {B k : Nat} {v : Value} {xs : List UInt8} (h : OwnB w B v xs) (e : v.ownBlock = some k) : k < w.heap.size := by
  rcases h with ⟨rfl, -⟩ | ⟨g, off, cap, rfl, h2, h3, -⟩
  · cases e
  · have : g = k := by simpa [Value.ownBlock] using e
    omega
theorem OwnX.from_ {w w' : World} {B Q : Nat} {v : Value} {xs : List UInt8} (h : OwnB w B v xs) (h' : OwnB w' B v xs) (hx : xs ≠ []) (hQ : Q < B ∨ w.heap.size ≤ Q) : OwnX w' B (fun k => k = Q) v xs := OwnX.of h' hx fun k hk e => by
  subst e
  have h1 := h.base hk
  have h2 := h.top hk
  omega
/-- Where the points of a list of the call's own stand; d stands for it if there are none. -/
theorem PRow.spot {w : World} {B n c : Nat} {a : Option Addr} {xs : List Pt} (h : PRow w B (.slice a n c) xs) (d : Nat) (hd : d < w.heap.size) : ∃ Q off, (0 < xs.length → a = some ⟨Q, off, none⟩) ∧ (Q = d ∨ B ≤ Q) ∧ Q < w.heap.size ∧ ∀ i (h : i < xs.length), PtO w Q (off + i * 6) xs[i] := by
  rcases h.2 with ⟨e, h0⟩ | ⟨g, cap, cur, e, hB, hb, _⟩
  · exact ⟨d, 0, fun g => by omega, Or.inl rfl, hd, fun i hi => by omega⟩
  · have hg : g < w.heap.size := (Array.getElem?_eq_some_iff.1 hb).1
    have hL := h.lst
    injection e with e1 e2 e3
    subst e1 e2 e3
    refine ⟨g, 0, fun _ => rfl, Or.inr hB, hg, fun i hi => ?_⟩
    rcases hL.pts.at_ with rfl | ⟨b, off, e, _, hc⟩
    · simp at hi
    · injection e with e
      injection e with e1 e2
      subst e1 e2
      exact hc i hi
/-- What stands in a round of a series: the bytes, the point ahead, the series' points. -/
structure BR (w9 wr : World) (B P Q off : Nat) (v : Value) (xs : List UInt8) (q : Pt) (M : List Pt) : Prop where
  own : OwnX wr B (fun k => k = P ∨ k = Q) v xs
  at_ : PtW wr P q
  row : ∀ i (h : i < M.length), PtO wr Q (off + i * 6) M[i]
  bel : Below B w9 wr
  q : Q < wr.heap.size
  ne : P ≠ Q
theorem BR.room {w9 wr : World} {B P Q off : Nat} {v : Value} {xs : List UInt8} {q : Pt} {M : List Pt} (h : BR w9 wr B P Q off v xs q M) : ∀ k, (k = P ∨ k = Q) → k < wr.heap.size := fun k hk => by
  rcases hk with rfl | rfl
  · exact h.at_.at_.room
  · exact h.q
theorem BR.later {w9 wr w2 : World} {B P Q off : Nat} {v : Value} {xs : List UInt8} {q : Pt} {M : List Pt} (h : BR w9 wr B P Q off v xs q M) (k : Below wr.heap.size wr w2) (hB : B ≤ wr.heap.size) : BR w9 w2 B P Q off v xs q M :=
  ⟨h.own.under k (Nat.le_refl _), h.at_.same (k.block _ h.at_.at_.room), fun i hi => (h.row i hi).same (k.block _ h.q), h.bel.trans (k.mono hB), Nat.lt_of_lt_of_le h.q k.size, h.ne⟩
theorem PtW.put {w : World} {b : Nat} {q : Pt} (h : PtW w b q) (p : Pt) : PtW ((((((w.setCell ⟨b, 0, none⟩ (.string p.s)).setCell ⟨b, 1, none⟩ (.int .i64 p.t)).setCell ⟨b, 2, none⟩ (.int .i64 p.v)).setCell ⟨b, 3, none⟩ (.int .i64 p.st.c)).setCell ⟨b, 4, none⟩ (.int .i64 p.st.s)).setCell ⟨b, 5, none⟩ (.int .i64 p.st.q)) b p := by
  obtain ⟨⟨x0, x1, x2, x3, x4, x5⟩, y0, y1, y2, y3, y4, y5⟩ := h
  exact ⟨⟨by simp [go_sem, x0], by simp [go_sem, x1], by simp [go_sem, x2], by simp [go_sem, x3], by simp [go_sem, x4], by simp [go_sem, x5]⟩, by simp [go_sem, y0], by simp [go_sem, y1], by simp [go_sem, y2], by simp [go_sem, y3], by simp [go_sem, y4], by simp [go_sem, y5]⟩
theorem six_heap (w : World) (b k : Nat) (hk : k ≠ b) (v0 v1 v2 v3 v4 v5 : Value) : ((((((w.setCell ⟨b, 0, none⟩ v0).setCell ⟨b, 1, none⟩ v1).setCell ⟨b, 2, none⟩ v2).setCell ⟨b, 3, none⟩ v3).setCell ⟨b, 4, none⟩ v4).setCell ⟨b, 5, none⟩ v5).heap[k]? = w.heap[k]? := by
  rw [Below.heap_setCell _ _ _ _ hk, Below.heap_setCell _ _ _ _ hk, Below.heap_setCell _ _ _ _ hk, Below.heap_setCell _ _ _ _ hk, Below.heap_setCell _ _ _ _ hk, Below.heap_setCell _ _ _ _ hk]
theorem BR.put {w9 wr : World} {B P Q off : Nat} {v : Value} {xs : List UInt8} {q : Pt} {M : List Pt} (h : BR w9 wr B P Q off v xs q M) (p : Pt) (hB : B ≤ P) : BR w9 ((((((wr.setCell ⟨P, 0, none⟩ (.string p.s)).setCell ⟨P, 1, none⟩ (.int .i64 p.t)).setCell ⟨P, 2, none⟩ (.int .i64 p.v)).setCell ⟨P, 3, none⟩ (.int .i64 p.st.c)).setCell ⟨P, 4, none⟩ (.int .i64 p.st.s)).setCell ⟨P, 5, none⟩ (.int .i64 p.st.q)) B P Q off v xs p M := by
  refine ⟨h.own.but (fun k hk => six_heap wr P k (fun e => hk (Or.inl e)) _ _ _ _ _ _) (by simp), h.at_.put p, fun i hi => (h.row i hi).same (six_heap wr P Q (Ne.symm h.ne) _ _ _ _ _ _), six_at h.bel P hB _ _ _ _ _ _, by simpa using h.q, h.ne⟩
theorem BR.app {w9 wr w2 : World} {B P Q off : Nat} {v v' : Value} {xs ys : List UInt8} {q : Pt} {M : List Pt} (h : BR w9 wr B P Q off v xs q M) (ho : OwnX w2 B (fun k => k = P ∨ k = Q) v' ys) (hb : Below B wr w2) (hk : ∀ k, k < wr.heap.size → v.ownBlock ≠ some k → w2.heap[k]? = wr.heap[k]?) : BR w9 w2 B P Q off v' ys q M :=
  ⟨ho, h.at_.same (hk P h.at_.at_.room (h.own.apart (Or.inl rfl))), fun i hi => (h.row i hi).same (hk Q h.q (h.own.apart (Or.inr rfl))), h.bel.trans hb, Nat.lt_of_lt_of_le h.q hb.size, h.ne⟩
theorem ahead_list (s : ByteArray) : (ahead s).data.toList = enc s.size ++ s.data.toList := tx_list6 _
theorem mid_start (l : List Pt) (N : List ByteArray) (k : Nat) (s : ByteArray) (M : List Pt) : midN l N k s M 0 = bodyN l N k ++ ((enc s.size ++ s.data.toList) ++ enc M.length) := by unfold midN putsN; rw [List.append_nil]
theorem two_list (a b : ByteArray) : (a ++ b).data.toList = a.data.toList ++ b.data.toList := by rw [ByteArray.data_append, Array.toList_append]
theorem bodyN_ne (l : List Pt) (N : List ByteArray) (k : Nat) : bodyN l N k ≠ [] := fun e => by
  have := bodyN_le l N (Nat.zero_le k)
  rw [e] at this
  have h := enc_len_pos N.length
  have : (enc N.length).length ≤ 0 := this
  omega

set_option maxHeartbeats 16000000 in
theorem build_yes (a0 : Option Addr) (c0 : Nat) (l : List Pt) (w : World) (hS : Lst w w.heap.size a0 c0 l) (hE : bldE l = 0) (ht : Tab w) : Calls Tryd.prog 27 #[.slice a0 l.length c0] w fun e w' => e = .returned (.tuple #[.string (sealedB (tx (bodyA l))), .int .i64 0]) ∧ Below w.heap.size w w' := by
  obtain ⟨hs, hok, hl⟩ := bldE_zero hE
  have hname : ∀ p ∈ l, p.s.size ≤ 40 := fun p hp => ok_name (hok p hp)
  have hname2 : ∀ p ∈ l, p.s.size ≤ 100000 := fun p hp => Nat.le_trans (hname p hp) (by omega)
  have ks := psorted_is a0 c0 l w hS (by omega)
  rw [hs] at ks
  have kse := fun w h => series_is a0 c0 l w h (by omega) hname2
  have krg := fun s w h => range_is a0 c0 l s 0 1099511627777 w h (by omega) hs hname2
  simp only [rangeL_all] at krg
  have hst := fun s => allR_steps hs s
  have hNl := serL_len l
  have hNm : ∀ s ∈ serL l, s.size ≤ 40 := fun s h => by obtain ⟨p, hp, rfl⟩ := serN_mem l _ s h; exact hname p hp
  have hc := cntN_le hs
  have hbl : (bodyN l (serL l) (serL l).length).length ≤ 900000 := by
    have := bodyN_len hs (by omega) (by omega) hNm (serL l).length (Nat.le_refl _)
    rw [List.take_length] at this
    unfold cntN at hc
    omega
  have hml : ∀ s, (allR l s).length ≤ 3000 := fun s => Nat.le_trans (rngL_len l s 0 1099511627777) hl
  have hA : bodyA l = bodyN l (serL l) (serL l).length := rfl
  rw [hA]
  obtain ⟨N, hN⟩ : ∃ N, serL l = N := ⟨_, rfl⟩
  rw [hN] at kse hNl hNm hbl ⊢
  have HS := Lib.hid hS
  have HOK := Lib.hid hok
  have HST := Lib.hid hst
  have HNM := Lib.hid hNm
  have HBL := Lib.hid hbl
  have HML := Lib.hid hml
  have HT := Lib.hid ht
  clear hS hok hs hE hname hname2 hst hNm hbl hc hml hA hN ht
  go_enter Tryd.func27, Tryd.ntmps27
  go_wp2_with (go_at_call 16; (with_reducible refine ks.mono ?_); rintro e w1 ⟨rfl, hb1⟩)
  go_loopw [21] (fun i wr => ∃ (k : Nat), k ≤ l.length ∧ i = .int .i64 (k : Int) ∧ Below w.heap.size w wr) (fun i _ => l.length - (intOf i).toNat)
  case atStart => exact ⟨0, by omega, rfl, hb1⟩
  case round =>
    obtain ⟨k, hk, rfl, hB⟩ := hrel
    clear hb1
    by_cases hlt : k < l.length
    · have hlti : (k : Int) < (l.length : Int) := by omega
      rcases HS.out.pts.at_ with rfl | ⟨b, off, rfl, hbw, hc⟩
      · simp at hlt
      · have hA := (hc k hlt).below hB hbw
        have hf := HOK.out _ (List.getElem_mem hlt)
        obtain ⟨p, hp⟩ : ∃ p, l[k] = p := ⟨_, rfl⟩
        rw [hp] at hA hf
        obtain ⟨x0, x1, x2, x3, x4, x5⟩ := hA
        have kc := fun w => checkp_is p w (by have := ok_name hf; omega)
        unfold Pt.err at kc
        unfold ptV at kc
        rw [hf] at kc
        have HBH := Lib.hid hB
        clear hc hp hB hf
        go_wp2_with (go_at_call 45; (with_reducible refine (kc _).mono ?_); rintro e w1 ⟨rfl, hb1⟩)
        go_roundw
        case rel => exact ⟨k + 1, by omega, by go_num, HBH.out.trans ((((Below.refl wr.heap.size wr).alloc (Nat.le_refl _) _).trans (hb1.mono (by simp))).mono HBH.out.size)⟩
        case measure => simp [intOf]; omega
    · have hlti : ¬ (k : Int) < (l.length : Int) := by omega
      have hni : ¬ (3000 : Int) < (l.length : Int) := by omega
      obtain ⟨w3, hw3⟩ : ∃ x, x = wr := ⟨_, rfl⟩
      subst hw3
      have HB3 := Lib.hid hB
      have hS3 := HS.out.below hB |>.mono hB.size
      have hT3 := HT.out.next hB
      have kse3 := kse w3 hS3
      have HS3 := Lib.hid hS3
      have HT3 := Lib.hid hT3
      have hu : IntKind.u64.wrap (N.length : Int) = (N.length : Int) := by rw [IntKind.wrap_u64]; omega
      obtain ⟨h0, hh0⟩ : ∃ s, tx (enc N.length) = s := ⟨_, rfl⟩
      have kp := fun w => put_is N.length h0 w (by omega) (Lib.hid hh0)
      have hz0 : h0.size ≤ 10 := by rw [← hh0, tx_size]; exact enc_len10 _ (by omega)
      have HH0 := Lib.hid (show h0.data.toList = bodyN l N 0 by rw [← hh0, tx_list6]; rfl)
      clear hh0 hB hS3 hT3 HS HT kse HOK
      go_wp2_with (first
        | (go_at_call 25; (with_reducible refine kse3.mono ?_); rintro e w4 ⟨vN, rfl, hN4, hb4⟩; (obtain ⟨aN, cN, rfl⟩ := hN4.slice); (have HN4 := Lib.hid hN4); (have HB4 := Lib.hid hb4); clear hN4 hb4)
        | (go_at_call 46; (obtain ⟨w5, hw5⟩ : ∃ x, w4.alloc (.cells #[.int .i64 0, .int .i64 1099511627777] 34) = x := ⟨_, rfl⟩); (have hal := (Below.refl w4.heap.size w4).alloc (Nat.le_refl _) (.cells #[.int .i64 0, .int .i64 1099511627777] 34)); (have hsp := SpA.new w4 0 1099511627777); (have hz5 : w5.heap.size = w4.heap.size + 1 := by rw [← hw5]; simp); (rw [hw5] at hal hsp ⊢); (have HN5 := Lib.hid (HN4.out.later hal)); (have HB35 := Lib.hid (HB4.out.trans (hal.mono HB4.out.size))); (have HS5 := Lib.hid (HS3.out.later HB35.out)); (have HT5 := Lib.hid (HT3.out.next HB35.out)); (have HSP := Lib.hid hsp); (have HZ5 := Lib.hid hz5); clear hw5 hal hsp hz5; (with_reducible refine (kp _).mono ?_); rintro e w6 ⟨rfl, hb6⟩; (obtain ⟨v7, w7, hcv, hO7, hb7⟩ := ownB_of_text w5.heap.size h0 w6 hb6.size (by omega))))
      have HB7 := Lib.hid (hb6.trans (hb7.mono hb6.size))
      have HO7 := Lib.hid (show OwnB w7 w5.heap.size v7 (bodyN l N 0) by rw [← HH0.out]; exact hO7)
      clear hb6 hb7 hO7 hcv kse3
      go_loopw [9, 44] (fun v i wr => ∃ (k : Nat), k ≤ N.length ∧ i = .int .i64 (k : Int) ∧ OwnB wr w5.heap.size v (bodyN l N k) ∧ Below w5.heap.size w5 wr) (fun _ i _ => N.length - (intOf i).toNat)
      case atStart => exact ⟨0, by omega, rfl, HO7.out, HB7.out⟩
      case round =>
        obtain ⟨k, hk, rfl, hO, hB⟩ := hrel
        clear HO7 HB7
        obtain ⟨w8, hw8⟩ : ∃ x, x = wr := ⟨_, rfl⟩
        subst hw8
        by_cases hkl : k < N.length
        · have hlti : (k : Int) < (N.length : Int) := by omega
          obtain ⟨g, rfl, hg, hc⟩ := HN5.out.at_ (by omega)
          have x0 := (hB.cell (p := ⟨g, k, none⟩) hg).trans (hc k hkl)
          have hsp := HSP.out.later hB
          obtain ⟨sp0, sp1⟩ := hsp
          have hns := HNM.out _ (List.getElem_mem hkl)
          have hml := HML.out N[k]
          have hst := HST.out N[k]
          have hle := fun i (hi : i ≤ (allR l N[k]).length) => Nat.le_trans (midN_le (l := l) hkl hi) HBL.out
          have hall := midN_all (l := l) hkl
          have hle0 := bodyN_le l N (Nat.le_of_lt hkl)
          have kr := krg N[k] w8 (HS5.out.below hB |>.mono hB.size)
          obtain ⟨s, hs⟩ : ∃ s, N[k] = s := ⟨_, rfl⟩
          rw [hs] at x0 hns hml hst hle hall kr
          obtain ⟨M, hM⟩ : ∃ M, allR l s = M := ⟨_, rfl⟩
          rw [hM] at hml hst hle hall kr
          obtain ⟨m, hm⟩ : ∃ m, M.length = m := ⟨_, rfl⟩
          have hum : IntKind.u64.wrap (m : Int) = (m : Int) := by rw [IntKind.wrap_u64]; omega
          obtain ⟨S1, hS1⟩ : ∃ S, ahead s = S := ⟨_, rfl⟩
          obtain ⟨S2, hS2⟩ : ∃ S, tx (enc m) = S := ⟨_, rfl⟩
          have kt := fun w => text_is s S1 w (by omega) (Lib.hid hS1)
          have kp2 := fun w => put_is m S2 w (by omega) (Lib.hid hS2)
          have hl1 : S1.data.toList = enc s.size ++ s.data.toList := by rw [← hS1]; exact ahead_list s
          have hl2 : S2.data.toList = enc m := by rw [← hS2]; exact tx_list6 _
          have hxs0 : bodyN l N k ++ (S1 ++ S2).data.toList = midN l N k s M 0 := by rw [mid_start, two_list, hl1, hl2, hm]
          have hsz : (bodyN l N k).length + (S1 ++ S2).size ≤ 1000000 := by
            have e := congrArg List.length hxs0
            have hz : (S1 ++ S2).data.toList.length = (S1 ++ S2).size := Array.length_toList
            rw [List.length_append, hz] at e
            have := hle 0 (Nat.zero_le _)
            omega
          have hcat : S1.size + S2.size ≤ 9223372036854775807 := by
            have : (S1 ++ S2).size = S1.size + S2.size := ByteArray.size_append
            omega
          have hne0 := bodyN_ne l N k
          obtain ⟨xs, hxs⟩ : ∃ xs, bodyN l N k = xs := ⟨_, rfl⟩
          rw [hxs] at hO hxs0 hsz hne0
          have HO := Lib.hid hO
          have HBH := Lib.hid hB
          have HX0 := Lib.hid hxs0
          have HNE0 := Lib.hid hne0
          have HM := Lib.hid hm
          have HLE := Lib.hid hle
          have HALL := Lib.hid hall
          have HSTM := Lib.hid hst
          clear hc hs hM hm hS1 hS2 hl1 hl2 hxs hO hB hle hall hst hxs0 hne0 hle0 hns
          go_wp2_with (first
            | (go_at_call 20; (with_reducible refine kr.mono ?_); rintro e w9 ⟨vM, rfl, hR9, hb9⟩; (have hsl := hR9.slice); (obtain ⟨aM, cM, rfl⟩ := hsl); (rw [HM.out] at hR9 ⊢); (have HR9 := Lib.hid hR9); (have HB9 := Lib.hid hb9); clear hR9 hb9)
            | (go_at_call 47; (with_reducible refine (kt _).mono ?_); rintro e w10 ⟨rfl, hb10⟩; (have HB10 := Lib.hid hb10); clear hb10)
            | (go_at_call 46; (with_reducible refine (kp2 _).mono ?_); rintro e w11 ⟨rfl, hb11⟩; (obtain ⟨Q, off, hsh, hQ1, hQ2, hQr⟩ := HR9.out.spot w4.heap.size (by have := HB9.out.size; have := HBH.out.size; have := HZ5.out; omega)); (have hb911 := (HB10.out.trans (hb11.mono HB10.out.size))); (have hb811 := (HB9.out.trans (hb911.mono HB9.out.size))); (have HO11 := Lib.hid (HO.out.under hb811 (Nat.le_refl _))); (have HX11 := Lib.hid (OwnX.from_ HO.out HO11.out HNE0.out (show Q < w5.heap.size ∨ w8.heap.size ≤ Q by have := HZ5.out; rcases hQ1 with h | h <;> omega))); (have HQR := Lib.hid (fun i (hi : i < M.length) => (hQr i hi).same (hb911.block Q hQ2))); (have HQ := Lib.hid (Nat.lt_of_lt_of_le hQ2 hb911.size)); (have HB11 := Lib.hid (HBH.out.trans (hb811.mono HBH.out.size))); (have HSH := Lib.hid hsh); clear hb11 hb911 hb811 hQ1 hQ2 hQr hsh HR9)
            | (at_builtin; refine wpList_ownX rfl _ _ rfl w5.heap.size (fun k => k = Q) _ xs rfl HX11.out (S1 ++ S2) rfl HB11.out.size (fun k hk => by subst hk; exact HQ.out) (by omega) ?_))
          intro v12 w12 hO12 hb12 hk12
          have hvp : ∀ k, v12.ownBlock = some k → ¬ (k = w12.heap.size ∨ k = Q) := fun k hk e => by
            rcases e with rfl | rfl
            · exact Nat.lt_irrefl _ (hO12.own.top hk)
            · exact hO12.apart rfl hk
          have hal12 := (Below.refl w12.heap.size w12).alloc (Nat.le_refl _) (.cells #[.string ⟨#[]⟩, .int .i64 0, .int .i64 0, .int .i64 0, .int .i64 0, .int .i64 0] 32)
          have hbb := HB11.out.trans hb12
          have HR13 := Lib.hid (show BR w5 (w12.alloc (.cells #[.string ⟨#[]⟩, .int .i64 0, .int .i64 0, .int .i64 0, .int .i64 0, .int .i64 0] 32)) w5.heap.size w12.heap.size Q off v12 (midN l N k s M 0) (priorP M 0) M from
            ⟨by rw [← HX0.out]; exact OwnX.of (hO12.own.under hal12 (Nat.le_refl _)) (fun e => HNE0.out (List.append_eq_nil_iff.1 e).1) hvp, PtW.new w12 Pt.zero, fun i hi => ((HQR.out i hi).same (hk12 Q HQ.out (HX11.out.apart rfl))).same (hal12.block Q (Nat.lt_of_lt_of_le HQ.out hb12.size)), hbb.trans (hal12.mono hbb.size), by have := HQ.out; have := hb12.size; simp; omega, fun e => by have := HQ.out; have := hb12.size; omega⟩)
          have HP12 := Lib.hid hbb.size
          clear hvp hal12 hbb hO12 hb12 hk12 HQR HQ HX11 HO11 HB11 HO HX0 HNE0 HB9 HB10
          go_wp2
          go_loopw [9, 64] (fun v i wr => ∃ (j : Nat), j ≤ m ∧ i = .int .i64 (j : Int) ∧ BR w5 wr w5.heap.size w12.heap.size Q off v (midN l N k s M j) (priorP M j) M) (fun _ i _ => m - (intOf i).toNat)
          case atStart => exact ⟨0, by omega, rfl, HR13.out⟩
          case round =>
            obtain ⟨j, hj, rfl, HR⟩ := hrel
            clear HR13
            obtain ⟨w14, hw14⟩ : ∃ x, x = wr := ⟨_, rfl⟩
            subst hw14
            by_cases hjm : j < m
            · have hlti : (j : Int) < (m : Int) := by omega
              have hjM : j < M.length := by rw [HM.out]; exact hjm
              obtain rfl := HSH.out (by omega)
              have hrow := HR.row j hjM
              have hstp := HSTM.out j hjM
              have hle1 := HLE.out (j + 1) (by omega)
              have hms := midN_step (l := l) (N := N) (k := k) (s := s) hjM
              obtain ⟨p, hp⟩ : ∃ p, M[j] = p := ⟨_, rfl⟩
              have hnext := priorP_succ hjM
              rw [hp] at hrow hstp hms hnext
              obtain ⟨q, hq⟩ : ∃ q, priorP M j = q := ⟨_, rfl⟩
              rw [hq] at HR hstp hms
              obtain ⟨S, hS⟩ : ∃ S, tx (putA p q) = S := ⟨_, rfl⟩
              have kb := fun w => bput_is p q S w hstp (Lib.hid hS)
              have hSl : S.data.toList = putA p q := by rw [← hS]; exact tx_list6 _
              have hsz : (midN l N k s M j).length + S.size ≤ 1000000 := by
                have e := congrArg List.length hms
                have hz : S.data.toList.length = S.size := Array.length_toList
                rw [List.length_append, ← hSl, hz] at e
                omega
              have hBw := HR.bel.size
              have hyoung := HR.own.own.young (Nat.le_refl w14.heap.size)
              have hal := (Below.refl w14.heap.size w14).alloc (Nat.le_refl _) (.cells #[.string p.s, .int .i64 p.t, .int .i64 p.v, .int .i64 p.st.c, .int .i64 p.st.s, .int .i64 p.st.q] 32)
              have hT := PtAt.new w14 p
              have HR15 := Lib.hid (HR.later hal hBw)
              have HT15 := Lib.hid hT
              obtain ⟨⟨y0, y1, y2, y3, y4, y5⟩, -⟩ := HR.at_
              obtain ⟨x0, x1, x2, x3, x4, x5⟩ := hrow
              have HMS := Lib.hid hms
              have HSL := Lib.hid hSl
              have HNX := Lib.hid hnext
              have HYO := Lib.hid hyoung
              have HBW := Lib.hid hBw
              have hPl := HR.at_.at_.room
              have hPne : ¬ w12.heap.size = w14.heap.size := by omega
              have hPne2 : ¬ w14.heap.size = w12.heap.size := by omega
              unfold ptV at kb
              clear hp hq hS hstp hle1 hms hnext hSl hyoung hBw hal hT HR
              go_wp2_with (first
                | (go_at_call 48; (with_reducible refine (kb _).mono ?_); rintro e w16 ⟨rfl, hb16⟩; (have HR16 := Lib.hid (HR15.out.later hb16 (by have := HBW.out; simp; omega))); (have HT16 := Lib.hid (HT15.out.below hb16 HT15.out.room)); (have HZ16 := Lib.hid (Nat.lt_of_lt_of_le (show w14.heap.size < _ by simp) hb16.size)); (have hT := HT16.out); (obtain ⟨z0, z1, z2, z3, z4, z5⟩ := hT); clear hb16)
                | (at_builtin; refine wpList_ownX rfl _ _ rfl w5.heap.size (fun k => k = w12.heap.size ∨ k = Q) _ (midN l N k s M j) rfl HR16.out.own S rfl HR16.out.bel.size HR16.out.room (by omega) ?_))
              intro v17 w17 hO17 hb17 hk17
              rw [HSL.out, ← HMS.out] at hO17
              have HR17 := Lib.hid (HR16.out.app hO17 hb17 hk17)
              have hT17 := HT16.out.same (hk17 w14.heap.size HZ16.out HYO.out)
              obtain ⟨t0, t1, t2, t3, t4, t5⟩ := hT17
              obtain ⟨⟨u0, u1, u2, u3, u4, u5⟩, f0, f1, f2, f3, f4, f5⟩ := HR17.out.at_
              clear hO17 hb17 hk17 z0 z1 z2 z3 z4 z5 HR16 HR15 HT15 HT16
              go_wp2
              go_roundw
              case rel => exact ⟨j + 1, by omega, by go_num, by rw [HNX.out]; exact HR17.out.put p HP12.out⟩
              case measure => simp [intOf]; omega
            · obtain rfl : j = m := by omega
              have hlti : ¬ (j : Int) < (j : Int) := by omega
              have hO := HR.own.own
              have e := HALL.out
              rw [HM.out] at e
              rw [e] at hO
              have HOE := Lib.hid hO
              have HBE := Lib.hid HR.bel
              clear HR hO e
              go_wp2
              go_roundw
              case rel => exact ⟨k + 1, by omega, by go_num, HOE.out, HBE.out⟩
              case measure => simp [intOf]; omega
        · obtain rfl : k = N.length := by omega
          have hlti : ¬ (N.length : Int) < (N.length : Int) := by omega
          have hcv := hO.whole
          have hbl := HBL.out
          obtain ⟨xs, hxs⟩ : ∃ xs, bodyN l N N.length = xs := ⟨_, rfl⟩
          rw [hxs] at hO hcv hbl
          obtain ⟨a5, c5, rfl⟩ := hO.slice
          obtain ⟨Z, hZ⟩ : ∃ Z, sealedB (tx xs) = Z := ⟨_, rfl⟩
          have HZ := Lib.hid (show sealedB (tx (bodyN l N N.length)) = Z by rw [hxs]; exact hZ)
          have kz := fun w h => sealed_is (tx xs) Z w (Lib.hid hZ) (by rw [tx_size]; omega) h
          have HT8 := Lib.hid (HT5.out.next hB)
          have HBX := Lib.hid (HB3.out.trans ((HB35.out.trans (hB.mono HB35.out.size)).mono HB3.out.size))
          clear hO hB hZ hxs hbl
          go_wp2_with (go_at_call 49; (with_reducible refine (kz _ HT8.out).mono ?_); rintro e w9 ⟨rfl, hb9⟩)
          go_ret2
          exact ⟨by rw [HZ.out]; rfl, bel_next HBX.out hb9⟩

/-- What Build answers. -/
def bldS (l : List Pt) : ByteArray := if bldE l = 0 then sealedB (tx (bodyA l)) else ⟨#[]⟩
theorem build_is (a0 : Option Addr) (c0 : Nat) (l : List Pt) (w : World) (hS : Lst w w.heap.size a0 c0 l) (hl : l.length ≤ 900000) (hn : ∀ p ∈ l, p.s.size ≤ 100000) (ht : Tab w) : Calls Tryd.prog 27 #[.slice a0 l.length c0] w fun e w' => e = .returned (.tuple #[.string (bldS l), .int .i64 (bldE l)]) ∧ Below w.heap.size w w' := by
  unfold bldS
  by_cases hE : bldE l = 0
  · rw [if_pos hE, hE]
    exact build_yes a0 c0 l w hS hE ht
  · rw [if_neg hE]
    by_cases hs : srtB l = true
    · exact build_no a0 c0 l w hS hl hn hs hE
    · have hs' : srtB l = false := by simpa using hs
      rw [bldE_uns hs']
      exact build_uns a0 c0 l w hS hl hs'
end Go.Proofs.YtkomfenjeoaelaaDoor
