/- The contracts of the document's Is, Range, Find and From, and of the laws' sameTexts. -/
import Derived.Test.YtkomfenjeoaelaaDoorBlockSeries
import Derived.BigQuiet
set_option maxRecDepth 20000
set_option linter.unusedSimpArgs false
namespace Go.Proofs.YtkomfenjeoaelaaDoor
open Go.RowKit Go.Proofs.YtkomfenjeoaelaaDoor.Vi Go.Proofs.YtkomfenjeoaelaaDoor.Mk

set_option maxHeartbeats 2000000 in
theorem ris7_is (f t : Int) (w : World) : Calls Tryd.prog 41 #[.agg #[.int .i64 f, .int .i64 t]] w fun e w' => e = .returned (.bool (okS f t)) ∧ Below w.heap.size w w' := by
  have HB := (Below.refl w.heap.size w).alloc (Nat.le_refl _) (.cells #[.int .i64 f, .int .i64 t] 34)
  by_cases h1 : 0 ≤ f
  · by_cases h2 : f ≤ t
    · by_cases h3 : t ≤ 1099511627777
      · have HE := Lib.hid (show okS f t = true from decide_eq_true ⟨h1, h2, h3⟩)
        go_enter Tryd.func41, Tryd.ntmps41
        go_wp2
        go_ret
        exact ⟨by rw [HE.out]; rfl, HB⟩
      · have HE := Lib.hid (show okS f t = false from decide_eq_false fun h => h3 h.2.2)
        go_enter Tryd.func41, Tryd.ntmps41
        go_wp2
        go_ret
        exact ⟨by rw [HE.out]; rfl, HB⟩
    · have HE := Lib.hid (show okS f t = false from decide_eq_false fun h => h2 h.2.1)
      go_enter Tryd.func41, Tryd.ntmps41
      go_wp2
      go_ret
      exact ⟨by rw [HE.out]; rfl, HB⟩
  · have HE := Lib.hid (show okS f t = false from decide_eq_false fun h => h1 h.1)
    go_enter Tryd.func41, Tryd.ntmps41
    go_wp2
    go_ret
    exact ⟨by rw [HE.out]; rfl, HB⟩
set_option maxHeartbeats 4000000 in
theorem rfrom_is (a0 : Option Addr) (c0 : Nat) (l : List Pt) (tm : Int) (w : World) (hS : Lst w w.heap.size a0 c0 l) (hl : l.length ≤ 900000) : Calls Tryd.prog 23 #[.slice a0 l.length c0, .int .i64 tm] w (OwnDone (frmL l tm) w) := by
  have HS := Lib.hid hS
  clear hS
  go_enter Tryd.func23, Tryd.ntmps23
  go_wp2
  go_loopw [5, 6] (fun s i wr => ∃ (k r : Nat) (a5 : Option Addr) (c5 : Nat) (o : List Pt), k ≤ l.length ∧ r ≤ k ∧ i = .int .i64 (k : Int) ∧ s = .slice a5 r c5 ∧ Hid (o = frmL (l.take k) tm) ∧ Hid (o.length = r) ∧ PRow wr w.heap.size (.slice a5 r c5) o ∧ Below w.heap.size w wr) (fun _ i _ => l.length - (intOf i).toNat)
  case atStart => exact ⟨0, 0, none, 0, [], by omega, by omega, rfl, rfl, Lib.hid rfl, Lib.hid rfl, PRow.nil _ _, Below.refl _ _⟩
  case round =>
    obtain ⟨k, r, a5, c5, o, hk, hrk, rfl, rfl, HO, HR, hrow, hB⟩ := hrel
    obtain ⟨w3, hw3⟩ : ∃ x, x = wr := ⟨_, rfl⟩
    subst hw3
    have HROW := Lib.hid hrow
    have HB := Lib.hid hB
    by_cases hlt : k < l.length
    · have hlti : (k : Int) < (l.length : Int) := by omega
      rcases HS.out.pts.at_ with rfl | ⟨b, off, rfl, hbw, hc⟩
      · simp at hlt
      · have hA := (hc k hlt).below hB hbw
        have hsn := frmL_snoc l k hlt tm
        obtain ⟨x, hx⟩ : ∃ x, l[k] = x := ⟨_, rfl⟩
        rw [hx] at hA hsn
        obtain ⟨c0', c1, c2, c3, c4, c5'⟩ := hA
        by_cases ht : tm ≤ x.t
        · rw [if_pos ht] at hsn
          have HSN := Lib.hid hsn
          clear hc hx hB hrow hsn
          go_wp2_with (at_builtin; refine wpList_appP (w := w3) rfl _ _ rfl w.heap.size r (.slice a5 r c5) o x w3.heap.size rfl rfl rfl HR HROW.out (by omega) HB.out.size ?_; intro a6 c6 w6 hrow6 _ hb6 _; have HR6 := Lib.hid hrow6.out; have HB6 := Lib.hid (HB.out.trans hb6); clear hrow6 hb6)
          clear c0' c1 c2 c3 c4 c5'
          go_roundw
          case rel => exact ⟨k + 1, r + 1, a6, c6, o ++ [x], by omega, by omega, by go_num, rfl, Lib.hid (by rw [HSN.out, ← HO.out]), Lib.hid (by rw [List.length_append, HR.out]; rfl), HR6.out, HB6.out⟩
          case measure => simp [intOf]; omega
        · rw [if_neg ht, List.append_nil] at hsn
          have HSN := Lib.hid hsn
          have htn : x.t < tm := by omega
          clear hc hx hB hrow hsn
          go_wp2
          go_roundw
          case rel => exact ⟨k + 1, r, a5, c5, o, by omega, by omega, by go_num, rfl, Lib.hid (by rw [HSN.out, ← HO.out]), HR, HROW.out, HB.out⟩
          case measure => simp [intOf]; omega
    · have hlti : ¬ (k : Int) < (l.length : Int) := by omega
      have HE := Lib.hid (show o = frmL l tm by rw [HO.out, List.take_of_length_le (by omega)])
      clear hrow hB
      go_wp2
      go_ret
      exact ⟨_, rfl, by rw [← HE.out]; exact HROW.out, HB.out⟩
set_option maxHeartbeats 4000000 in
theorem rfind_is (a0 : Option Addr) (c0 : Nat) (l : List Pt) (s : ByteArray) (tm : Int) (w : World) (hS : Lst w w.heap.size a0 c0 l) (hl : l.length ≤ 900000) : Calls Tryd.prog 19 #[.slice a0 l.length c0, .string s, .int .i64 tm] w fun e w' => e = .returned (.tuple #[ptV (findL l s tm).1, .bool (findL l s tm).2]) ∧ Below w.heap.size w w' := by
  have HS := Lib.hid hS
  have HZ0 := Lib.hid (ZP.new w)
  have HB0 := Lib.hid ((Below.refl w.heap.size w).alloc (Nat.le_refl _) (.cells #[.string ⟨#[]⟩, .int .i64 0, .int .i64 0, .int .i64 0, .int .i64 0, .int .i64 0] 32))
  clear hS
  go_enter Tryd.func19, Tryd.ntmps19
  go_wp2
  go_loopw [8] (fun i wr => ∃ (k : Nat), k ≤ l.length ∧ i = .int .i64 (k : Int) ∧ Hid (∀ q (hq : q < l.length), q < k → (l[q]).eqp (plc s tm) = false) ∧ ZP wr w.heap.size ∧ Below w.heap.size w wr) (fun i _ => l.length - (intOf i).toNat)
  case atStart => exact ⟨0, by omega, rfl, Lib.hid fun q _ h => by omega, HZ0.out, HB0.out⟩
  case round =>
    obtain ⟨k, hk, rfl, hall, hz, hB⟩ := hrel
    clear HZ0 HB0
    obtain ⟨w3, hw3⟩ : ∃ x, x = wr := ⟨_, rfl⟩
    subst hw3
    have HZ := Lib.hid hz
    have HB := Lib.hid hB
    by_cases hlt : k < l.length
    · have hlti : (k : Int) < (l.length : Int) := by omega
      rcases HS.out.pts.at_ with rfl | ⟨b, off, rfl, hbw, hc⟩
      · simp at hlt
      · have hA := (hc k hlt).below hB hbw
        have HGO := Lib.hid (fun (h : (l[k]).eqp (plc s tm) = false) => show ∀ q (hq : q < l.length), q < k + 1 → (l[q]).eqp (plc s tm) = false from fun q hq hqk => by
          by_cases e : q = k
          · subst e; exact h
          · exact hall.out q hq (by omega))
        have HYES := Lib.hid (fun (h : (l[k]).eqp (plc s tm) = true) => show findL l s tm = (l[k], true) by
          have : look l (plc s tm) = some l[k] := by
            unfold look
            rw [List.find?_eq_some_iff_getElem]
            exact ⟨h, k, hlt, rfl, fun j hj => by simpa using hall.out j (by omega) hj⟩
          unfold findL; rw [this])
        obtain ⟨x, hx⟩ : ∃ x, l[k] = x := ⟨_, rfl⟩
        rw [hx] at hA HGO HYES
        obtain ⟨c0', c1, c2, c3, c4, c5'⟩ := hA
        have hsym : ∀ (a b : ByteArray), (a.toList == b.toList) = decide (a = b) := fun a b => by
          by_cases e : a = b
          · rw [seq_eq e, decide_eq_true e]
          · rw [seq_ne e, decide_eq_false e]
        by_cases hs : x.s = s
        · have hqs := seq_eq hs
          by_cases ht : x.t = tm
          · have hqt : (x.t == tm) = true := by simpa using ht
            have HE := Lib.hid (HYES.out (Pt.eqp_iff.2 ⟨hs, ht⟩))
            have hz2 := HZ.out
            obtain ⟨⟨x0, u0⟩, ⟨x1, u1⟩, ⟨x2, u2⟩, ⟨x3, u3⟩, ⟨x4, u4⟩, ⟨x5, u5⟩⟩ := hz2
            have hbne : w.heap.size ≤ w.heap.size := Nat.le_refl _
            clear hc hx hB hz hall HGO HYES hs ht hsym
            go_wp2
            refine bodyPost_ret (v := .tuple #[.agg #[.string x.s, .int .i64 x.t, .int .i64 x.v, .int .i64 x.st.c, .int .i64 x.st.s, .int .i64 x.st.q], .bool true]) (by simp [results, Tryd.results19, go_sem, x0, x1, x2, x3, x4, x5]; try rfl) rfl ⟨by rw [HE.out]; rfl, ?_⟩
            exact six_set HB.out _ (by omega) _ _ _ _ _ _
          · have hqt : (x.t == tm) = false := by simpa using ht
            have HG := Lib.hid (HGO.out (by apply Bool.eq_false_iff.2; intro h; exact ht (Pt.eqp_iff.1 h).2))
            clear hc hx hB hz hall HGO HYES hs ht hsym
            go_wp2
            go_roundw
            case rel => exact ⟨k + 1, by omega, by go_num, HG, HZ.out, HB.out⟩
            case measure => simp [intOf]; omega
        · have hqs := seq_ne hs
          have HG := Lib.hid (HGO.out (by apply Bool.eq_false_iff.2; intro h; exact hs (Pt.eqp_iff.1 h).1))
          clear hc hx hB hz hall HGO HYES hs hsym
          go_wp2
          go_roundw
          case rel => exact ⟨k + 1, by omega, by go_num, HG, HZ.out, HB.out⟩
          case measure => simp [intOf]; omega
    · have hlti : ¬ (k : Int) < (l.length : Int) := by omega
      have HE := Lib.hid (show findL l s tm = (Pt.zero, false) by
        have : look l (plc s tm) = none := by
          unfold look
          rw [List.find?_eq_none]
          intro x hx
          obtain ⟨i, hi, rfl⟩ := List.getElem_of_mem hx
          simpa using hall.out i hi (by omega)
        unfold findL; rw [this])
      have hz2 := HZ.out
      obtain ⟨⟨x0, u0⟩, ⟨x1, u1⟩, ⟨x2, u2⟩, ⟨x3, u3⟩, ⟨x4, u4⟩, ⟨x5, u5⟩⟩ := hz2
      clear hB hz hall
      go_wp2
      refine bodyPost_ret (v := .tuple #[.agg #[.string ⟨#[]⟩, .int .i64 0, .int .i64 0, .int .i64 0, .int .i64 0, .int .i64 0], .bool false]) (by simp [results, Tryd.results19, go_sem, x0, x1, x2, x3, x4, x5]; try rfl) rfl ⟨by rw [HE.out]; rfl, ?_⟩
      exact six_set HB.out _ (by omega) _ _ _ _ _ _
/-- Held: a point of a list, the span's box. -/
structure RS7 (w : World) (b i T : Nat) (x : Pt) (f t : Int) (w' : World) : Prop where
  x : PtO w' b i x
  s : SpA w' T f t
  bel : Below w.heap.size w w'
theorem RS7.drew {w w1 : World} {b i T : Nat} {x : Pt} {f t : Int} (h : RS7 w b i T x f t w1) : RS7 w b i T x f t w1.drew := ⟨h.x.below ((Below.refl _ _).drew) h.x.room, h.s.later ((Below.refl _ _).drew), bel_next h.bel ((Below.refl _ _).drew)⟩
set_option maxHeartbeats 8000000 in
theorem rrange_is (a0 : Option Addr) (c0 : Nat) (l : List Pt) (s' : ByteArray) (f t : Int) (w : World) (hS : Lst w w.heap.size a0 c0 l) (hl : l.length ≤ 900000) : Calls Tryd.prog 21 #[.slice a0 l.length c0, .string s', .agg #[.int .i64 f, .int .i64 t]] w (OwnDone (rangeL l s' f t) w) := by
  obtain ⟨y, hy⟩ : ∃ y, okS f t = y := ⟨_, rfl⟩
  have ki := fun w => ris7_is f t w
  rw [hy] at ki
  have HS := Lib.hid hS
  have HY := Lib.hid hy
  have hA0 := SpA.new w f t
  have HA0 := Lib.hid hA0
  have HB0 := Lib.hid ((Below.refl w.heap.size w).alloc (Nat.le_refl _) (.cells #[.int .i64 f, .int .i64 t] 34))
  obtain ⟨y0, y1⟩ := hA0
  clear hS hy
  go_enter Tryd.func21, Tryd.ntmps21
  go_wp2_with (go_at_call 41; (with_reducible refine (ki _).mono ?_); rintro e w1 ⟨rfl, hb1⟩; (have HA1 := Lib.hid (HA0.out.later hb1)); (have HB1 := Lib.hid (bel_next HB0.out hb1)); clear hb1 y0 y1)
  obtain ⟨T, hT⟩ : ∃ T, w.heap.size = T := ⟨_, rfl⟩
  have HTE := Lib.hid hT
  rw [hT] at HA1
  simp only [hT]
  go_loopw [7, 9] (fun s i wr => ∃ (k r : Nat) (a5 : Option Addr) (c5 : Nat) (o : List Pt), k ≤ l.length ∧ r ≤ k ∧ i = .int .i64 (k : Int) ∧ s = .slice a5 r c5 ∧ Hid (o = (if y = true then rngL (l.take k) s' f t else [])) ∧ Hid (o.length = r) ∧ PRow wr (T + 1) (.slice a5 r c5) o ∧ SpA wr T f t ∧ Below w.heap.size w wr) (fun _ i _ => l.length - (intOf i).toNat)
  case atStart => exact ⟨0, 0, none, 0, [], by omega, by omega, rfl, rfl, Lib.hid (by cases y <;> rfl), Lib.hid rfl, PRow.nil _ _, HA1.out, HB1.out⟩
  case round =>
    obtain ⟨k, r, a5, c5, o, hk, hrk, rfl, rfl, HO, HR, hrow, hA1, hB⟩ := hrel
    clear HA1 HB1 HA0 HB0
    obtain ⟨w3, hw3⟩ : ∃ x, x = wr := ⟨_, rfl⟩
    subst hw3
    have HROW := Lib.hid hrow
    have HB := Lib.hid hB
    have HA := Lib.hid hA1
    by_cases hlt : k < l.length
    · have hlti : (k : Int) < (l.length : Int) := by omega
      rcases HS.out.pts.at_ with rfl | ⟨b, off, rfl, hbw, hc⟩
      · simp at hlt
      · have hA := (hc k hlt).below hB hbw
        have hsn := rngL_snoc l k hlt s' f t
        obtain ⟨x, hx⟩ : ∃ x, l[k] = x := ⟨_, rfl⟩
        obtain ⟨ix, hix⟩ : ∃ ix, off + k * 6 = ix := ⟨_, rfl⟩
        rw [hx] at hA hsn
        rw [hix] at hA
        have H0 : RS7 w b ix T x f t w3 := ⟨hA, hA1, hB⟩
        have HX := Lib.hid hA
        clear hc hx hB hrow hA1 hA
        cases y with
        | false =>
          have HN := Lib.hid (show o = (if false = true then rngL (l.take (k + 1)) s' f t else []) from HO.out)
          go_wp2_with fail
          refine wp_region_held_drew (S := (RS7 w b ix T x f t)) (by kernel_rfl) H0.drew (fun hHeld => ?_)
          refine wpAnyH_take (i := 0) (oi := ?ra1o) (v := ?ra1v) ?ra1h (by kernel_rfl) (by kernel_rfl) (by kernel_rfl) ?ra1q ?ra1y hHeld ?ra1r
          case ra1h => (simp only [List.getElem?_toArray, List.getElem?_cons_zero]; rfl)
          case ra1q => exact fun _ _ _ h => h
          case ra1y => (refine Or.inl ⟨by first | kernel_rfl | rfl, ?_⟩; intro w hSw; (try dsimp only at hSw); obtain ⟨⟨c0', c1, -, -, -, -⟩, ⟨y0, y1⟩, -⟩ := hSw; go_simp <;> (try with_reducible rfl))
          try simp only [Act.put, List.setIfInBounds_toArray, List.set_cons_zero, List.set_cons_succ]
          refine wpAnyH_take (i := 1) (oi := ?ra2o) (v := ?ra2v) ?ra2h (by kernel_rfl) (by kernel_rfl) (by kernel_rfl) ?ra2q ?ra2y hHeld ?ra2r
          case ra2h => (simp only [List.getElem?_toArray, List.getElem?_cons_succ, List.getElem?_cons_zero]; rfl)
          case ra2q => exact fun _ _ _ h => h
          case ra2y => (refine Or.inl ⟨by first | kernel_rfl | rfl, ?_⟩; intro w hSw; (try dsimp only at hSw); obtain ⟨⟨c0', c1, -, -, -, -⟩, ⟨y0, y1⟩, -⟩ := hSw; go_simp <;> (try with_reducible rfl))
          try simp only [Act.put, List.setIfInBounds_toArray, List.set_cons_zero, List.set_cons_succ]
          refine wpAnyH_take (i := 2) (oi := ?ra3o) (v := undef) ?ra3h (by kernel_rfl) (by kernel_rfl) (by kernel_rfl) ?ra3q ?ra3y hHeld ?ra3r
          case ra3h => (simp only [List.getElem?_toArray, List.getElem?_cons_succ, List.getElem?_cons_zero]; rfl)
          case ra3q => exact fun _ _ _ h => h
          case ra3y => exact Or.inr ⟨by first | kernel_rfl | rfl, rfl⟩
          try simp only [Act.put, List.setIfInBounds_toArray, List.set_cons_zero, List.set_cons_succ]
          refine wpAnyH_take (i := 3) (oi := ?ra4o) (v := undef) ?ra4h (by kernel_rfl) (by kernel_rfl) (by kernel_rfl) ?ra4q ?ra4y hHeld ?ra4r
          case ra4h => (simp only [List.getElem?_toArray, List.getElem?_cons_succ, List.getElem?_cons_zero]; rfl)
          case ra4q => exact fun _ _ _ h => h
          case ra4y => exact Or.inr ⟨by first | kernel_rfl | rfl, rfl⟩
          try simp only [Act.put, List.setIfInBounds_toArray, List.set_cons_zero, List.set_cons_succ]
          refine wpAnyH_take (i := 4) (oi := ?ra5o) (v := undef) ?ra5h (by kernel_rfl) (by kernel_rfl) (by kernel_rfl) ?ra5q ?ra5y hHeld ?ra5r
          case ra5h => (simp only [List.getElem?_toArray, List.getElem?_cons_succ, List.getElem?_cons_zero]; rfl)
          case ra5q => exact fun _ _ _ h => h
          case ra5y => exact Or.inr ⟨by first | kernel_rfl | rfl, rfl⟩
          try simp only [Act.put, List.setIfInBounds_toArray, List.set_cons_zero, List.set_cons_succ]
          refine wpAnyH_take (i := 5) (oi := ?ra6o) (v := undef) ?ra6h (by kernel_rfl) (by kernel_rfl) (by kernel_rfl) ?ra6q ?ra6y hHeld ?ra6r
          case ra6h => (simp only [List.getElem?_toArray, List.getElem?_cons_succ, List.getElem?_cons_zero]; rfl)
          case ra6q => exact fun _ _ _ h => h
          case ra6y => exact Or.inr ⟨by first | kernel_rfl | rfl, rfl⟩
          try simp only [Act.put, List.setIfInBounds_toArray, List.set_cons_zero, List.set_cons_succ]
          refine wpAnyH_take (i := 6) (oi := ?ra7o) (v := undef) ?ra7h (by kernel_rfl) (by kernel_rfl) (by kernel_rfl) ?ra7q ?ra7y hHeld ?ra7r
          case ra7h => (simp only [List.getElem?_toArray, List.getElem?_cons_succ, List.getElem?_cons_zero]; rfl)
          case ra7q => exact fun _ _ _ h => h
          case ra7y => exact Or.inr ⟨by first | kernel_rfl | rfl, rfl⟩
          try simp only [Act.put, List.setIfInBounds_toArray, List.set_cons_zero, List.set_cons_succ]
          refine wpAnyH_take (i := 7) (oi := ?ra8o) (v := undef) ?ra8h (by kernel_rfl) (by kernel_rfl) (by kernel_rfl) ?ra8q ?ra8y hHeld ?ra8r
          case ra8h => (simp only [List.getElem?_toArray, List.getElem?_cons_succ, List.getElem?_cons_zero]; rfl)
          case ra8q => exact fun _ _ _ h => h
          case ra8y => exact Or.inr ⟨by first | kernel_rfl | rfl, rfl⟩
          try simp only [Act.put, List.setIfInBounds_toArray, List.set_cons_zero, List.set_cons_succ]
          refine wpAnyH_take (i := 8) (oi := ?ra9o) (v := undef) ?ra9h (by kernel_rfl) (by kernel_rfl) (by kernel_rfl) ?ra9q ?ra9y hHeld ?ra9r
          case ra9h => (simp only [List.getElem?_toArray, List.getElem?_cons_succ, List.getElem?_cons_zero]; rfl)
          case ra9q => exact fun _ _ _ h => h
          case ra9y => exact Or.inr ⟨by first | kernel_rfl | rfl, rfl⟩
          try simp only [Act.put, List.setIfInBounds_toArray, List.set_cons_zero, List.set_cons_succ]
          refine wpAnyH_take (i := 9) (oi := ?ra10o) (v := ?ra10v) ?ra10h (by kernel_rfl) (by kernel_rfl) (by kernel_rfl) ?ra10q ?ra10y hHeld ?ra10r
          case ra10h => (simp only [List.getElem?_toArray, List.getElem?_cons_succ, List.getElem?_cons_zero]; rfl)
          case ra10q => exact fun _ _ _ h => h
          case ra10y => (refine Or.inl ⟨by first | kernel_rfl | rfl, ?_⟩; intro w hSw; (try dsimp only at hSw); obtain ⟨⟨c0', c1, -, -, -, -⟩, ⟨y0, y1⟩, -⟩ := hSw; go_simp <;> (try with_reducible rfl))
          try simp only [Act.put, List.setIfInBounds_toArray, List.set_cons_zero, List.set_cons_succ]
          refine wpAnyH_take (i := 10) (oi := ?ra11o) (v := ?ra11v) ?ra11h (by kernel_rfl) (by kernel_rfl) (by kernel_rfl) ?ra11q ?ra11y hHeld ?ra11r
          case ra11h => (simp only [List.getElem?_toArray, List.getElem?_cons_succ, List.getElem?_cons_zero]; rfl)
          case ra11q => exact fun _ _ _ h => h
          case ra11y => (refine Or.inl ⟨by first | kernel_rfl | rfl, ?_⟩; intro w hSw; (try dsimp only at hSw); obtain ⟨⟨c0', c1, -, -, -, -⟩, ⟨y0, y1⟩, -⟩ := hSw; go_simp <;> (try with_reducible rfl))
          try simp only [Act.put, List.setIfInBounds_toArray, List.set_cons_zero, List.set_cons_succ]
          refine wpAnyH_take (i := 11) (oi := ?ra12o) (v := undef) ?ra12h (by kernel_rfl) (by kernel_rfl) (by kernel_rfl) ?ra12q ?ra12y hHeld ?ra12r
          case ra12h => (simp only [List.getElem?_toArray, List.getElem?_cons_succ, List.getElem?_cons_zero]; rfl)
          case ra12q => exact fun _ _ _ h => h
          case ra12y => exact Or.inr ⟨by first | kernel_rfl | rfl, rfl⟩
          try simp only [Act.put, List.setIfInBounds_toArray, List.set_cons_zero, List.set_cons_succ]
          refine wpAnyH_take (i := 12) (oi := ?ra13o) (v := undef) ?ra13h (by kernel_rfl) (by kernel_rfl) (by kernel_rfl) ?ra13q ?ra13y hHeld ?ra13r
          case ra13h => (simp only [List.getElem?_toArray, List.getElem?_cons_succ, List.getElem?_cons_zero]; rfl)
          case ra13q => exact fun _ _ _ h => h
          case ra13y => exact Or.inr ⟨by first | kernel_rfl | rfl, rfl⟩
          try simp only [Act.put, List.setIfInBounds_toArray, List.set_cons_zero, List.set_cons_succ]
          refine wpAnyH_take (i := 13) (oi := ?ra14o) (v := undef) ?ra14h (by kernel_rfl) (by kernel_rfl) (by kernel_rfl) ?ra14q ?ra14y hHeld ?ra14r
          case ra14h => (simp only [List.getElem?_toArray, List.getElem?_cons_succ, List.getElem?_cons_zero]; rfl)
          case ra14q => exact fun _ _ _ h => h
          case ra14y => exact Or.inr ⟨by first | kernel_rfl | rfl, rfl⟩
          try simp only [Act.put, List.setIfInBounds_toArray, List.set_cons_zero, List.set_cons_succ]
          refine wpAnyH_take (i := 14) (oi := ?ra15o) (v := undef) ?ra15h (by kernel_rfl) (by kernel_rfl) (by kernel_rfl) ?ra15q ?ra15y hHeld ?ra15r
          case ra15h => (simp only [List.getElem?_toArray, List.getElem?_cons_succ, List.getElem?_cons_zero]; rfl)
          case ra15q => exact fun _ _ _ h => h
          case ra15y => exact Or.inr ⟨by first | kernel_rfl | rfl, rfl⟩
          try simp only [Act.put, List.setIfInBounds_toArray, List.set_cons_zero, List.set_cons_succ]
          refine wpAnyH_take (i := 15) (oi := ?ra16o) (v := undef) ?ra16h (by kernel_rfl) (by kernel_rfl) (by kernel_rfl) ?ra16q ?ra16y hHeld ?ra16r
          case ra16h => (simp only [List.getElem?_toArray, List.getElem?_cons_succ, List.getElem?_cons_zero]; rfl)
          case ra16q => exact fun _ _ _ h => h
          case ra16y => exact Or.inr ⟨by first | kernel_rfl | rfl, rfl⟩
          try simp only [Act.put, List.setIfInBounds_toArray, List.set_cons_zero, List.set_cons_succ]
          refine wpAnyH_take (i := 16) (oi := ?ra17o) (v := undef) ?ra17h (by kernel_rfl) (by kernel_rfl) (by kernel_rfl) ?ra17q ?ra17y hHeld ?ra17r
          case ra17h => (simp only [List.getElem?_toArray, List.getElem?_cons_succ, List.getElem?_cons_zero]; rfl)
          case ra17q => exact fun _ _ _ h => h
          case ra17y => exact Or.inr ⟨by first | kernel_rfl | rfl, rfl⟩
          try simp only [Act.put, List.setIfInBounds_toArray, List.set_cons_zero, List.set_cons_succ]
          refine wpAnyH_take (i := 17) (oi := ?ra18o) (v := undef) ?ra18h (by kernel_rfl) (by kernel_rfl) (by kernel_rfl) ?ra18q ?ra18y hHeld ?ra18r
          case ra18h => (simp only [List.getElem?_toArray, List.getElem?_cons_succ, List.getElem?_cons_zero]; rfl)
          case ra18q => exact fun _ _ _ h => h
          case ra18y => exact Or.inr ⟨by first | kernel_rfl | rfl, rfl⟩
          try simp only [Act.put, List.setIfInBounds_toArray, List.set_cons_zero, List.set_cons_succ]
          refine wpAnyH_take (i := 18) (oi := ?ra19o) (v := undef) ?ra19h (by kernel_rfl) (by kernel_rfl) (by kernel_rfl) ?ra19q ?ra19y hHeld ?ra19r
          case ra19h => (simp only [List.getElem?_toArray, List.getElem?_cons_succ, List.getElem?_cons_zero]; rfl)
          case ra19q => exact fun _ _ _ h => h
          case ra19y => exact Or.inr ⟨by first | kernel_rfl | rfl, rfl⟩
          try simp only [Act.put, List.setIfInBounds_toArray, List.set_cons_zero, List.set_cons_succ]
          refine wpAnyH_take (i := 19) (oi := ?ra20o) (v := ?ra20v) ?ra20h (by kernel_rfl) (by kernel_rfl) (by kernel_rfl) ?ra20q ?ra20y hHeld ?ra20r
          case ra20h => (simp only [List.getElem?_toArray, List.getElem?_cons_succ, List.getElem?_cons_zero]; rfl)
          case ra20q => exact fun _ _ _ h => h
          case ra20y => (refine Or.inl ⟨by first | kernel_rfl | rfl, ?_⟩; intro w hSw; (try dsimp only at hSw); obtain ⟨⟨c0', c1, -, -, -, -⟩, ⟨y0, y1⟩, -⟩ := hSw; go_simp <;> (try with_reducible rfl))
          try simp only [Act.put, List.setIfInBounds_toArray, List.set_cons_zero, List.set_cons_succ]
          refine wpAnyH_take (i := 20) (oi := ?ra21o) (v := ?ra21v) ?ra21h (by kernel_rfl) (by kernel_rfl) (by kernel_rfl) ?ra21q ?ra21y hHeld ?ra21r
          case ra21h => (simp only [List.getElem?_toArray, List.getElem?_cons_succ, List.getElem?_cons_zero]; rfl)
          case ra21q => exact fun _ _ _ h => h
          case ra21y => (refine Or.inl ⟨by first | kernel_rfl | rfl, ?_⟩; intro w hSw; (try dsimp only at hSw); obtain ⟨⟨c0', c1, -, -, -, -⟩, ⟨y0, y1⟩, -⟩ := hSw; go_simp <;> (try with_reducible rfl))
          try simp only [Act.put, List.setIfInBounds_toArray, List.set_cons_zero, List.set_cons_succ]
          refine wpAnyH_take (i := 21) (oi := ?ra22o) (v := undef) ?ra22h (by kernel_rfl) (by kernel_rfl) (by kernel_rfl) ?ra22q ?ra22y hHeld ?ra22r
          case ra22h => (simp only [List.getElem?_toArray, List.getElem?_cons_succ, List.getElem?_cons_zero]; rfl)
          case ra22q => exact fun _ _ _ h => h
          case ra22y => exact Or.inr ⟨by first | kernel_rfl | rfl, rfl⟩
          try simp only [Act.put, List.setIfInBounds_toArray, List.set_cons_zero, List.set_cons_succ]
          refine wpAnyH_take (i := 22) (oi := ?ra23o) (v := undef) ?ra23h (by kernel_rfl) (by kernel_rfl) (by kernel_rfl) ?ra23q ?ra23y hHeld ?ra23r
          case ra23h => (simp only [List.getElem?_toArray, List.getElem?_cons_succ, List.getElem?_cons_zero]; rfl)
          case ra23q => exact fun _ _ _ h => h
          case ra23y => exact Or.inr ⟨by first | kernel_rfl | rfl, rfl⟩
          try simp only [Act.put, List.setIfInBounds_toArray, List.set_cons_zero, List.set_cons_succ]
          refine wpAnyH_take (i := 23) (oi := ?ra24o) (v := undef) ?ra24h (by kernel_rfl) (by kernel_rfl) (by kernel_rfl) ?ra24q ?ra24y hHeld ?ra24r
          case ra24h => (simp only [List.getElem?_toArray, List.getElem?_cons_succ, List.getElem?_cons_zero]; rfl)
          case ra24q => exact fun _ _ _ h => h
          case ra24y => exact Or.inr ⟨by first | kernel_rfl | rfl, rfl⟩
          try simp only [Act.put, List.setIfInBounds_toArray, List.set_cons_zero, List.set_cons_succ]
          refine wpAnyH_take (i := 24) (oi := ?ra25o) (v := undef) ?ra25h (by kernel_rfl) (by kernel_rfl) (by kernel_rfl) ?ra25q ?ra25y hHeld ?ra25r
          case ra25h => (simp only [List.getElem?_toArray, List.getElem?_cons_succ, List.getElem?_cons_zero]; rfl)
          case ra25q => exact fun _ _ _ h => h
          case ra25y => exact Or.inr ⟨by first | kernel_rfl | rfl, rfl⟩
          try simp only [Act.put, List.setIfInBounds_toArray, List.set_cons_zero, List.set_cons_succ]
          refine wpAnyH_take (i := 25) (oi := ?ra26o) (v := undef) ?ra26h (by kernel_rfl) (by kernel_rfl) (by kernel_rfl) ?ra26q ?ra26y hHeld ?ra26r
          case ra26h => (simp only [List.getElem?_toArray, List.getElem?_cons_succ, List.getElem?_cons_zero]; rfl)
          case ra26q => exact fun _ _ _ h => h
          case ra26y => exact Or.inr ⟨by first | kernel_rfl | rfl, rfl⟩
          try simp only [Act.put, List.setIfInBounds_toArray, List.set_cons_zero, List.set_cons_succ]
          refine wpAnyH_take (i := 26) (oi := ?ra27o) (v := undef) ?ra27h (by kernel_rfl) (by kernel_rfl) (by kernel_rfl) ?ra27q ?ra27y hHeld ?ra27r
          case ra27h => (simp only [List.getElem?_toArray, List.getElem?_cons_succ, List.getElem?_cons_zero]; rfl)
          case ra27q => exact fun _ _ _ h => h
          case ra27y => exact Or.inr ⟨by first | kernel_rfl | rfl, rfl⟩
          try simp only [Act.put, List.setIfInBounds_toArray, List.set_cons_zero, List.set_cons_succ]
          refine wpAnyH_take (i := 27) (oi := ?ra28o) (v := undef) ?ra28h (by kernel_rfl) (by kernel_rfl) (by kernel_rfl) ?ra28q ?ra28y hHeld ?ra28r
          case ra28h => (simp only [List.getElem?_toArray, List.getElem?_cons_succ, List.getElem?_cons_zero]; rfl)
          case ra28q => exact fun _ _ _ h => h
          case ra28y => exact Or.inr ⟨by first | kernel_rfl | rfl, rfl⟩
          try simp only [Act.put, List.setIfInBounds_toArray, List.set_cons_zero, List.set_cons_succ]
          refine wpAnyH_take (i := 28) (oi := ?ra29o) (v := undef) ?ra29h (by kernel_rfl) (by kernel_rfl) (by kernel_rfl) ?ra29q ?ra29y hHeld ?ra29r
          case ra29h => (simp only [List.getElem?_toArray, List.getElem?_cons_succ, List.getElem?_cons_zero]; rfl)
          case ra29q => exact fun _ _ _ h => h
          case ra29y => exact Or.inr ⟨by first | kernel_rfl | rfl, rfl⟩
          try simp only [Act.put, List.setIfInBounds_toArray, List.set_cons_zero, List.set_cons_succ]
          refine wpAnyH_take (i := 29) (oi := ?ra30o) (v := ?ra30v) ?ra30h (by kernel_rfl) (by kernel_rfl) (by kernel_rfl) ?ra30q ?ra30y hHeld ?ra30r
          case ra30h => (simp only [List.getElem?_toArray, List.getElem?_cons_succ, List.getElem?_cons_zero]; rfl)
          case ra30q => exact fun _ _ _ h => h
          case ra30y => (refine Or.inl ⟨by first | kernel_rfl | rfl, ?_⟩; intro w hSw; (try dsimp only at hSw); obtain ⟨⟨c0', c1, -, -, -, -⟩, ⟨y0, y1⟩, -⟩ := hSw; go_simp <;> (try with_reducible rfl))
          try simp only [Act.put, List.setIfInBounds_toArray, List.set_cons_zero, List.set_cons_succ]
          refine wpAnyH_done (by kernel_rfl) ?_ _
          have HH := Lib.hid hHeld
          clear hHeld
          go_wp2
          go_roundw
          case rel => exact ⟨k + 1, r, a5, c5, o, by omega, by omega, by go_num, rfl, HN, HR, HROW.out.later ((Below.refl _ _).drew), HH.out.s, HH.out.bel⟩
          case measure => simp [intOf]; omega
        | true =>
          have HO2 := Lib.hid (show o = rngL (l.take k) s' f t from HO.out)
          by_cases hs : x.s = s'
          · have hqs := seq_eq hs
            by_cases hf : f ≤ x.t
            · have hf2 : ¬ x.t < f := by omega
              have hdf : decide (f ≤ x.t) = true := decide_eq_true hf
              by_cases htt : x.t < t
              · have HN := Lib.hid (show o ++ [x] = (if true = true then rngL (l.take (k + 1)) s' f t else []) by
                  rw [if_pos rfl, hsn, if_pos (by unfold inR; simp [hs, hf, htt]), HO2.out])
                clear hsn hs
                go_wp2_with fail
                refine wp_region_held_drew (S := (RS7 w b ix T x f t)) (by kernel_rfl) H0.drew (fun hHeld => ?_)
                refine wpAnyH_take (i := 0) (oi := ?re1o) (v := ?re1v) ?re1h (by kernel_rfl) (by kernel_rfl) (by kernel_rfl) ?re1q ?re1y hHeld ?re1r
                case re1h => (simp only [List.getElem?_toArray, List.getElem?_cons_zero]; rfl)
                case re1q => exact fun _ _ _ h => h
                case re1y => (refine Or.inl ⟨by first | kernel_rfl | rfl, ?_⟩; intro w hSw; (try dsimp only at hSw); obtain ⟨⟨c0', c1, -, -, -, -⟩, ⟨y0, y1⟩, -⟩ := hSw; go_simp <;> (try with_reducible rfl))
                try simp only [Act.put, List.setIfInBounds_toArray, List.set_cons_zero, List.set_cons_succ]
                refine wpAnyH_take (i := 1) (oi := ?re2o) (v := ?re2v) ?re2h (by kernel_rfl) (by kernel_rfl) (by kernel_rfl) ?re2q ?re2y hHeld ?re2r
                case re2h => (simp only [List.getElem?_toArray, List.getElem?_cons_succ, List.getElem?_cons_zero]; rfl)
                case re2q => exact fun _ _ _ h => h
                case re2y => (refine Or.inl ⟨by first | kernel_rfl | rfl, ?_⟩; intro w hSw; (try dsimp only at hSw); obtain ⟨⟨c0', c1, -, -, -, -⟩, ⟨y0, y1⟩, -⟩ := hSw; go_simp <;> (try with_reducible rfl))
                try simp only [Act.put, List.setIfInBounds_toArray, List.set_cons_zero, List.set_cons_succ]
                refine wpAnyH_take (i := 2) (oi := ?re3o) (v := ?re3v) ?re3h (by kernel_rfl) (by kernel_rfl) (by kernel_rfl) ?re3q ?re3y hHeld ?re3r
                case re3h => (simp only [List.getElem?_toArray, List.getElem?_cons_succ, List.getElem?_cons_zero]; rfl)
                case re3q => exact fun _ _ _ h => h
                case re3y => (refine Or.inl ⟨by first | kernel_rfl | rfl, ?_⟩; intro w hSw; (try dsimp only at hSw); obtain ⟨⟨c0', c1, -, -, -, -⟩, ⟨y0, y1⟩, -⟩ := hSw; go_simp <;> (try with_reducible rfl))
                try simp only [Act.put, List.setIfInBounds_toArray, List.set_cons_zero, List.set_cons_succ]
                refine wpAnyH_take (i := 3) (oi := ?re4o) (v := ?re4v) ?re4h (by kernel_rfl) (by kernel_rfl) (by kernel_rfl) ?re4q ?re4y hHeld ?re4r
                case re4h => (simp only [List.getElem?_toArray, List.getElem?_cons_succ, List.getElem?_cons_zero]; rfl)
                case re4q => exact fun _ _ _ h => h
                case re4y => (refine Or.inl ⟨by first | kernel_rfl | rfl, ?_⟩; intro w hSw; (try dsimp only at hSw); obtain ⟨⟨c0', c1, -, -, -, -⟩, ⟨y0, y1⟩, -⟩ := hSw; go_simp <;> (try with_reducible rfl))
                try simp only [Act.put, List.setIfInBounds_toArray, List.set_cons_zero, List.set_cons_succ]
                refine wpAnyH_take (i := 4) (oi := ?re5o) (v := ?re5v) ?re5h (by kernel_rfl) (by kernel_rfl) (by kernel_rfl) ?re5q ?re5y hHeld ?re5r
                case re5h => (simp only [List.getElem?_toArray, List.getElem?_cons_succ, List.getElem?_cons_zero]; rfl)
                case re5q => exact fun _ _ _ h => h
                case re5y => (refine Or.inl ⟨by first | kernel_rfl | rfl, ?_⟩; intro w hSw; (try dsimp only at hSw); obtain ⟨⟨c0', c1, -, -, -, -⟩, ⟨y0, y1⟩, -⟩ := hSw; go_simp <;> (try with_reducible rfl))
                try simp only [Act.put, List.setIfInBounds_toArray, List.set_cons_zero, List.set_cons_succ]
                refine wpAnyH_take (i := 5) (oi := ?re6o) (v := ?re6v) ?re6h (by kernel_rfl) (by kernel_rfl) (by kernel_rfl) ?re6q ?re6y hHeld ?re6r
                case re6h => (simp only [List.getElem?_toArray, List.getElem?_cons_succ, List.getElem?_cons_zero]; rfl)
                case re6q => exact fun _ _ _ h => h
                case re6y => (refine Or.inl ⟨by first | kernel_rfl | rfl, ?_⟩; intro w hSw; (try dsimp only at hSw); obtain ⟨⟨c0', c1, -, -, -, -⟩, ⟨y0, y1⟩, -⟩ := hSw; go_simp <;> (try with_reducible rfl))
                try simp only [Act.put, List.setIfInBounds_toArray, List.set_cons_zero, List.set_cons_succ]
                refine wpAnyH_take (i := 6) (oi := ?re7o) (v := ?re7v) ?re7h (by kernel_rfl) (by kernel_rfl) (by kernel_rfl) ?re7q ?re7y hHeld ?re7r
                case re7h => (simp only [List.getElem?_toArray, List.getElem?_cons_succ, List.getElem?_cons_zero]; rfl)
                case re7q => exact fun _ _ _ h => h
                case re7y => (refine Or.inl ⟨by first | kernel_rfl | rfl, ?_⟩; intro w hSw; (try dsimp only at hSw); obtain ⟨⟨c0', c1, -, -, -, -⟩, ⟨y0, y1⟩, -⟩ := hSw; go_simp <;> (try with_reducible rfl))
                try simp only [Act.put, List.setIfInBounds_toArray, List.set_cons_zero, List.set_cons_succ]
                refine wpAnyH_take (i := 7) (oi := ?re8o) (v := ?re8v) ?re8h (by kernel_rfl) (by kernel_rfl) (by kernel_rfl) ?re8q ?re8y hHeld ?re8r
                case re8h => (simp only [List.getElem?_toArray, List.getElem?_cons_succ, List.getElem?_cons_zero]; rfl)
                case re8q => exact fun _ _ _ h => h
                case re8y => (refine Or.inl ⟨by first | kernel_rfl | rfl, ?_⟩; intro w hSw; (try dsimp only at hSw); obtain ⟨⟨c0', c1, -, -, -, -⟩, ⟨y0, y1⟩, -⟩ := hSw; go_simp <;> (try with_reducible rfl))
                try simp only [Act.put, List.setIfInBounds_toArray, List.set_cons_zero, List.set_cons_succ]
                refine wpAnyH_take (i := 8) (oi := ?re9o) (v := ?re9v) ?re9h (by kernel_rfl) (by kernel_rfl) (by kernel_rfl) ?re9q ?re9y hHeld ?re9r
                case re9h => (simp only [List.getElem?_toArray, List.getElem?_cons_succ, List.getElem?_cons_zero]; rfl)
                case re9q => exact fun _ _ _ h => h
                case re9y => (refine Or.inl ⟨by first | kernel_rfl | rfl, ?_⟩; intro w hSw; (try dsimp only at hSw); obtain ⟨⟨c0', c1, -, -, -, -⟩, ⟨y0, y1⟩, -⟩ := hSw; go_simp <;> (try with_reducible rfl))
                try simp only [Act.put, List.setIfInBounds_toArray, List.set_cons_zero, List.set_cons_succ]
                refine wpAnyH_take (i := 9) (oi := ?re10o) (v := ?re10v) ?re10h (by kernel_rfl) (by kernel_rfl) (by kernel_rfl) ?re10q ?re10y hHeld ?re10r
                case re10h => (simp only [List.getElem?_toArray, List.getElem?_cons_succ, List.getElem?_cons_zero]; rfl)
                case re10q => exact fun _ _ _ h => h
                case re10y => (refine Or.inl ⟨by first | kernel_rfl | rfl, ?_⟩; intro w hSw; (try dsimp only at hSw); obtain ⟨⟨c0', c1, -, -, -, -⟩, ⟨y0, y1⟩, -⟩ := hSw; go_simp <;> (try with_reducible rfl))
                try simp only [Act.put, List.setIfInBounds_toArray, List.set_cons_zero, List.set_cons_succ]
                refine wpAnyH_take (i := 10) (oi := ?re11o) (v := ?re11v) ?re11h (by kernel_rfl) (by kernel_rfl) (by kernel_rfl) ?re11q ?re11y hHeld ?re11r
                case re11h => (simp only [List.getElem?_toArray, List.getElem?_cons_succ, List.getElem?_cons_zero]; rfl)
                case re11q => exact fun _ _ _ h => h
                case re11y => (refine Or.inl ⟨by first | kernel_rfl | rfl, ?_⟩; intro w hSw; (try dsimp only at hSw); obtain ⟨⟨c0', c1, -, -, -, -⟩, ⟨y0, y1⟩, -⟩ := hSw; go_simp <;> (try with_reducible rfl))
                try simp only [Act.put, List.setIfInBounds_toArray, List.set_cons_zero, List.set_cons_succ]
                refine wpAnyH_take (i := 11) (oi := ?re12o) (v := ?re12v) ?re12h (by kernel_rfl) (by kernel_rfl) (by kernel_rfl) ?re12q ?re12y hHeld ?re12r
                case re12h => (simp only [List.getElem?_toArray, List.getElem?_cons_succ, List.getElem?_cons_zero]; rfl)
                case re12q => exact fun _ _ _ h => h
                case re12y => (refine Or.inl ⟨by first | kernel_rfl | rfl, ?_⟩; intro w hSw; (try dsimp only at hSw); obtain ⟨⟨c0', c1, -, -, -, -⟩, ⟨y0, y1⟩, -⟩ := hSw; go_simp <;> (try with_reducible rfl))
                try simp only [Act.put, List.setIfInBounds_toArray, List.set_cons_zero, List.set_cons_succ]
                refine wpAnyH_take (i := 12) (oi := ?re13o) (v := ?re13v) ?re13h (by kernel_rfl) (by kernel_rfl) (by kernel_rfl) ?re13q ?re13y hHeld ?re13r
                case re13h => (simp only [List.getElem?_toArray, List.getElem?_cons_succ, List.getElem?_cons_zero]; rfl)
                case re13q => exact fun _ _ _ h => h
                case re13y => (refine Or.inl ⟨by first | kernel_rfl | rfl, ?_⟩; intro w hSw; (try dsimp only at hSw); obtain ⟨⟨c0', c1, -, -, -, -⟩, ⟨y0, y1⟩, -⟩ := hSw; go_simp <;> (try with_reducible rfl))
                try simp only [Act.put, List.setIfInBounds_toArray, List.set_cons_zero, List.set_cons_succ]
                refine wpAnyH_take (i := 13) (oi := ?re14o) (v := ?re14v) ?re14h (by kernel_rfl) (by kernel_rfl) (by kernel_rfl) ?re14q ?re14y hHeld ?re14r
                case re14h => (simp only [List.getElem?_toArray, List.getElem?_cons_succ, List.getElem?_cons_zero]; rfl)
                case re14q => exact fun _ _ _ h => h
                case re14y => (refine Or.inl ⟨by first | kernel_rfl | rfl, ?_⟩; intro w hSw; (try dsimp only at hSw); obtain ⟨⟨c0', c1, -, -, -, -⟩, ⟨y0, y1⟩, -⟩ := hSw; go_simp <;> (try with_reducible rfl))
                try simp only [Act.put, List.setIfInBounds_toArray, List.set_cons_zero, List.set_cons_succ]
                refine wpAnyH_take (i := 14) (oi := ?re15o) (v := ?re15v) ?re15h (by kernel_rfl) (by kernel_rfl) (by kernel_rfl) ?re15q ?re15y hHeld ?re15r
                case re15h => (simp only [List.getElem?_toArray, List.getElem?_cons_succ, List.getElem?_cons_zero]; rfl)
                case re15q => exact fun _ _ _ h => h
                case re15y => (refine Or.inl ⟨by first | kernel_rfl | rfl, ?_⟩; intro w hSw; (try dsimp only at hSw); obtain ⟨⟨c0', c1, -, -, -, -⟩, ⟨y0, y1⟩, -⟩ := hSw; go_simp <;> (try with_reducible rfl))
                try simp only [Act.put, List.setIfInBounds_toArray, List.set_cons_zero, List.set_cons_succ]
                refine wpAnyH_take (i := 15) (oi := ?re16o) (v := ?re16v) ?re16h (by kernel_rfl) (by kernel_rfl) (by kernel_rfl) ?re16q ?re16y hHeld ?re16r
                case re16h => (simp only [List.getElem?_toArray, List.getElem?_cons_succ, List.getElem?_cons_zero]; rfl)
                case re16q => exact fun _ _ _ h => h
                case re16y => (refine Or.inl ⟨by first | kernel_rfl | rfl, ?_⟩; intro w hSw; (try dsimp only at hSw); obtain ⟨⟨c0', c1, -, -, -, -⟩, ⟨y0, y1⟩, -⟩ := hSw; go_simp <;> (try with_reducible rfl))
                try simp only [Act.put, List.setIfInBounds_toArray, List.set_cons_zero, List.set_cons_succ]
                refine wpAnyH_take (i := 16) (oi := ?re17o) (v := ?re17v) ?re17h (by kernel_rfl) (by kernel_rfl) (by kernel_rfl) ?re17q ?re17y hHeld ?re17r
                case re17h => (simp only [List.getElem?_toArray, List.getElem?_cons_succ, List.getElem?_cons_zero]; rfl)
                case re17q => exact fun _ _ _ h => h
                case re17y => (refine Or.inl ⟨by first | kernel_rfl | rfl, ?_⟩; intro w hSw; (try dsimp only at hSw); obtain ⟨⟨c0', c1, -, -, -, -⟩, ⟨y0, y1⟩, -⟩ := hSw; go_simp <;> (try with_reducible rfl))
                try simp only [Act.put, List.setIfInBounds_toArray, List.set_cons_zero, List.set_cons_succ]
                refine wpAnyH_take (i := 17) (oi := ?re18o) (v := ?re18v) ?re18h (by kernel_rfl) (by kernel_rfl) (by kernel_rfl) ?re18q ?re18y hHeld ?re18r
                case re18h => (simp only [List.getElem?_toArray, List.getElem?_cons_succ, List.getElem?_cons_zero]; rfl)
                case re18q => exact fun _ _ _ h => h
                case re18y => (refine Or.inl ⟨by first | kernel_rfl | rfl, ?_⟩; intro w hSw; (try dsimp only at hSw); obtain ⟨⟨c0', c1, -, -, -, -⟩, ⟨y0, y1⟩, -⟩ := hSw; go_simp <;> (try with_reducible rfl))
                try simp only [Act.put, List.setIfInBounds_toArray, List.set_cons_zero, List.set_cons_succ]
                refine wpAnyH_take (i := 18) (oi := ?re19o) (v := ?re19v) ?re19h (by kernel_rfl) (by kernel_rfl) (by kernel_rfl) ?re19q ?re19y hHeld ?re19r
                case re19h => (simp only [List.getElem?_toArray, List.getElem?_cons_succ, List.getElem?_cons_zero]; rfl)
                case re19q => exact fun _ _ _ h => h
                case re19y => (refine Or.inl ⟨by first | kernel_rfl | rfl, ?_⟩; intro w hSw; (try dsimp only at hSw); obtain ⟨⟨c0', c1, -, -, -, -⟩, ⟨y0, y1⟩, -⟩ := hSw; go_simp <;> (try with_reducible rfl))
                try simp only [Act.put, List.setIfInBounds_toArray, List.set_cons_zero, List.set_cons_succ]
                refine wpAnyH_take (i := 19) (oi := ?re20o) (v := ?re20v) ?re20h (by kernel_rfl) (by kernel_rfl) (by kernel_rfl) ?re20q ?re20y hHeld ?re20r
                case re20h => (simp only [List.getElem?_toArray, List.getElem?_cons_succ, List.getElem?_cons_zero]; rfl)
                case re20q => exact fun _ _ _ h => h
                case re20y => (refine Or.inl ⟨by first | kernel_rfl | rfl, ?_⟩; intro w hSw; (try dsimp only at hSw); obtain ⟨⟨c0', c1, -, -, -, -⟩, ⟨y0, y1⟩, -⟩ := hSw; go_simp <;> (try with_reducible rfl))
                try simp only [Act.put, List.setIfInBounds_toArray, List.set_cons_zero, List.set_cons_succ]
                refine wpAnyH_take (i := 20) (oi := ?re21o) (v := ?re21v) ?re21h (by kernel_rfl) (by kernel_rfl) (by kernel_rfl) ?re21q ?re21y hHeld ?re21r
                case re21h => (simp only [List.getElem?_toArray, List.getElem?_cons_succ, List.getElem?_cons_zero]; rfl)
                case re21q => exact fun _ _ _ h => h
                case re21y => (refine Or.inl ⟨by first | kernel_rfl | rfl, ?_⟩; intro w hSw; (try dsimp only at hSw); obtain ⟨⟨c0', c1, -, -, -, -⟩, ⟨y0, y1⟩, -⟩ := hSw; go_simp <;> (try with_reducible rfl))
                try simp only [Act.put, List.setIfInBounds_toArray, List.set_cons_zero, List.set_cons_succ]
                refine wpAnyH_take (i := 21) (oi := ?re22o) (v := ?re22v) ?re22h (by kernel_rfl) (by kernel_rfl) (by kernel_rfl) ?re22q ?re22y hHeld ?re22r
                case re22h => (simp only [List.getElem?_toArray, List.getElem?_cons_succ, List.getElem?_cons_zero]; rfl)
                case re22q => exact fun _ _ _ h => h
                case re22y => (refine Or.inl ⟨by first | kernel_rfl | rfl, ?_⟩; intro w hSw; (try dsimp only at hSw); obtain ⟨⟨c0', c1, -, -, -, -⟩, ⟨y0, y1⟩, -⟩ := hSw; go_simp <;> (try with_reducible rfl))
                try simp only [Act.put, List.setIfInBounds_toArray, List.set_cons_zero, List.set_cons_succ]
                refine wpAnyH_take (i := 22) (oi := ?re23o) (v := ?re23v) ?re23h (by kernel_rfl) (by kernel_rfl) (by kernel_rfl) ?re23q ?re23y hHeld ?re23r
                case re23h => (simp only [List.getElem?_toArray, List.getElem?_cons_succ, List.getElem?_cons_zero]; rfl)
                case re23q => exact fun _ _ _ h => h
                case re23y => (refine Or.inl ⟨by first | kernel_rfl | rfl, ?_⟩; intro w hSw; (try dsimp only at hSw); obtain ⟨⟨c0', c1, -, -, -, -⟩, ⟨y0, y1⟩, -⟩ := hSw; go_simp <;> (try with_reducible rfl))
                try simp only [Act.put, List.setIfInBounds_toArray, List.set_cons_zero, List.set_cons_succ]
                refine wpAnyH_take (i := 23) (oi := ?re24o) (v := ?re24v) ?re24h (by kernel_rfl) (by kernel_rfl) (by kernel_rfl) ?re24q ?re24y hHeld ?re24r
                case re24h => (simp only [List.getElem?_toArray, List.getElem?_cons_succ, List.getElem?_cons_zero]; rfl)
                case re24q => exact fun _ _ _ h => h
                case re24y => (refine Or.inl ⟨by first | kernel_rfl | rfl, ?_⟩; intro w hSw; (try dsimp only at hSw); obtain ⟨⟨c0', c1, -, -, -, -⟩, ⟨y0, y1⟩, -⟩ := hSw; go_simp <;> (try with_reducible rfl))
                try simp only [Act.put, List.setIfInBounds_toArray, List.set_cons_zero, List.set_cons_succ]
                refine wpAnyH_take (i := 24) (oi := ?re25o) (v := ?re25v) ?re25h (by kernel_rfl) (by kernel_rfl) (by kernel_rfl) ?re25q ?re25y hHeld ?re25r
                case re25h => (simp only [List.getElem?_toArray, List.getElem?_cons_succ, List.getElem?_cons_zero]; rfl)
                case re25q => exact fun _ _ _ h => h
                case re25y => (refine Or.inl ⟨by first | kernel_rfl | rfl, ?_⟩; intro w hSw; (try dsimp only at hSw); obtain ⟨⟨c0', c1, -, -, -, -⟩, ⟨y0, y1⟩, -⟩ := hSw; go_simp <;> (try with_reducible rfl))
                try simp only [Act.put, List.setIfInBounds_toArray, List.set_cons_zero, List.set_cons_succ]
                refine wpAnyH_take (i := 25) (oi := ?re26o) (v := ?re26v) ?re26h (by kernel_rfl) (by kernel_rfl) (by kernel_rfl) ?re26q ?re26y hHeld ?re26r
                case re26h => (simp only [List.getElem?_toArray, List.getElem?_cons_succ, List.getElem?_cons_zero]; rfl)
                case re26q => exact fun _ _ _ h => h
                case re26y => (refine Or.inl ⟨by first | kernel_rfl | rfl, ?_⟩; intro w hSw; (try dsimp only at hSw); obtain ⟨⟨c0', c1, -, -, -, -⟩, ⟨y0, y1⟩, -⟩ := hSw; go_simp <;> (try with_reducible rfl))
                try simp only [Act.put, List.setIfInBounds_toArray, List.set_cons_zero, List.set_cons_succ]
                refine wpAnyH_take (i := 26) (oi := ?re27o) (v := ?re27v) ?re27h (by kernel_rfl) (by kernel_rfl) (by kernel_rfl) ?re27q ?re27y hHeld ?re27r
                case re27h => (simp only [List.getElem?_toArray, List.getElem?_cons_succ, List.getElem?_cons_zero]; rfl)
                case re27q => exact fun _ _ _ h => h
                case re27y => (refine Or.inl ⟨by first | kernel_rfl | rfl, ?_⟩; intro w hSw; (try dsimp only at hSw); obtain ⟨⟨c0', c1, -, -, -, -⟩, ⟨y0, y1⟩, -⟩ := hSw; go_simp <;> (try with_reducible rfl))
                try simp only [Act.put, List.setIfInBounds_toArray, List.set_cons_zero, List.set_cons_succ]
                refine wpAnyH_take (i := 27) (oi := ?re28o) (v := ?re28v) ?re28h (by kernel_rfl) (by kernel_rfl) (by kernel_rfl) ?re28q ?re28y hHeld ?re28r
                case re28h => (simp only [List.getElem?_toArray, List.getElem?_cons_succ, List.getElem?_cons_zero]; rfl)
                case re28q => exact fun _ _ _ h => h
                case re28y => (refine Or.inl ⟨by first | kernel_rfl | rfl, ?_⟩; intro w hSw; (try dsimp only at hSw); obtain ⟨⟨c0', c1, -, -, -, -⟩, ⟨y0, y1⟩, -⟩ := hSw; go_simp <;> (try with_reducible rfl))
                try simp only [Act.put, List.setIfInBounds_toArray, List.set_cons_zero, List.set_cons_succ]
                refine wpAnyH_take (i := 28) (oi := ?re29o) (v := ?re29v) ?re29h (by kernel_rfl) (by kernel_rfl) (by kernel_rfl) ?re29q ?re29y hHeld ?re29r
                case re29h => (simp only [List.getElem?_toArray, List.getElem?_cons_succ, List.getElem?_cons_zero]; rfl)
                case re29q => exact fun _ _ _ h => h
                case re29y => (refine Or.inl ⟨by first | kernel_rfl | rfl, ?_⟩; intro w hSw; (try dsimp only at hSw); obtain ⟨⟨c0', c1, -, -, -, -⟩, ⟨y0, y1⟩, -⟩ := hSw; go_simp <;> (try with_reducible rfl))
                try simp only [Act.put, List.setIfInBounds_toArray, List.set_cons_zero, List.set_cons_succ]
                refine wpAnyH_take (i := 29) (oi := ?re30o) (v := ?re30v) ?re30h (by kernel_rfl) (by kernel_rfl) (by kernel_rfl) ?re30q ?re30y hHeld ?re30r
                case re30h => (simp only [List.getElem?_toArray, List.getElem?_cons_succ, List.getElem?_cons_zero]; rfl)
                case re30q => exact fun _ _ _ h => h
                case re30y => (refine Or.inl ⟨by first | kernel_rfl | rfl, ?_⟩; intro w hSw; (try dsimp only at hSw); obtain ⟨⟨c0', c1, -, -, -, -⟩, ⟨y0, y1⟩, -⟩ := hSw; go_simp <;> (try with_reducible rfl))
                try simp only [Act.put, List.setIfInBounds_toArray, List.set_cons_zero, List.set_cons_succ]
                refine wpAnyH_done (by kernel_rfl) ?_ _
                have HH := Lib.hid hHeld
                have HRD := Lib.hid (HROW.out.later ((Below.refl _ _).drew))
                have hX := hHeld.x
                obtain ⟨c0', c1, c2, c3, c4, c5'⟩ := hX
                clear hHeld
                go_wp2_with (at_builtin; refine wpList_appP (w := w3.drew) rfl _ _ rfl (T + 1) r (.slice a5 r c5) o x (w3.drew).heap.size rfl rfl rfl HR HRD.out (by omega) (World.block_lt_of_cell? _ _ HH.out.s.c0) ?_; intro a6 c6 w6 hrow6 _ hb6 _; have HR6 := Lib.hid hrow6.out; have HB6 := Lib.hid hb6; clear hrow6 hb6)
                clear c0' c1 c2 c3 c4 c5'
                go_roundw
                case rel => exact ⟨k + 1, r + 1, a6, c6, o ++ [x], by omega, by omega, by go_num, rfl, HN, Lib.hid (by rw [List.length_append, HR.out]; rfl), HR6.out, ⟨(HB6.out.cell (p := ⟨T, 0, none⟩) (Nat.lt_succ_self _)).trans HH.out.s.c0, (HB6.out.cell (p := ⟨T, 1, none⟩) (Nat.lt_succ_self _)).trans HH.out.s.c1⟩, HH.out.bel.trans (HB6.out.mono (by have := HTE.out; omega))⟩
                case measure => simp [intOf]; omega
              · have HN := Lib.hid (show o = (if true = true then rngL (l.take (k + 1)) s' f t else []) by
                  rw [if_pos rfl, hsn, if_neg (by unfold inR; simp [htt]), List.append_nil, HO2.out])
                clear hsn hs
                go_wp2_with fail
                refine wp_region_held_drew (S := (RS7 w b ix T x f t)) (by kernel_rfl) H0.drew (fun hHeld => ?_)
                refine wpAnyH_take (i := 0) (oi := ?rd1o) (v := ?rd1v) ?rd1h (by kernel_rfl) (by kernel_rfl) (by kernel_rfl) ?rd1q ?rd1y hHeld ?rd1r
                case rd1h => (simp only [List.getElem?_toArray, List.getElem?_cons_zero]; rfl)
                case rd1q => exact fun _ _ _ h => h
                case rd1y => (refine Or.inl ⟨by first | kernel_rfl | rfl, ?_⟩; intro w hSw; (try dsimp only at hSw); obtain ⟨⟨c0', c1, -, -, -, -⟩, ⟨y0, y1⟩, -⟩ := hSw; go_simp <;> (try with_reducible rfl))
                try simp only [Act.put, List.setIfInBounds_toArray, List.set_cons_zero, List.set_cons_succ]
                refine wpAnyH_take (i := 1) (oi := ?rd2o) (v := ?rd2v) ?rd2h (by kernel_rfl) (by kernel_rfl) (by kernel_rfl) ?rd2q ?rd2y hHeld ?rd2r
                case rd2h => (simp only [List.getElem?_toArray, List.getElem?_cons_succ, List.getElem?_cons_zero]; rfl)
                case rd2q => exact fun _ _ _ h => h
                case rd2y => (refine Or.inl ⟨by first | kernel_rfl | rfl, ?_⟩; intro w hSw; (try dsimp only at hSw); obtain ⟨⟨c0', c1, -, -, -, -⟩, ⟨y0, y1⟩, -⟩ := hSw; go_simp <;> (try with_reducible rfl))
                try simp only [Act.put, List.setIfInBounds_toArray, List.set_cons_zero, List.set_cons_succ]
                refine wpAnyH_take (i := 2) (oi := ?rd3o) (v := ?rd3v) ?rd3h (by kernel_rfl) (by kernel_rfl) (by kernel_rfl) ?rd3q ?rd3y hHeld ?rd3r
                case rd3h => (simp only [List.getElem?_toArray, List.getElem?_cons_succ, List.getElem?_cons_zero]; rfl)
                case rd3q => exact fun _ _ _ h => h
                case rd3y => (refine Or.inl ⟨by first | kernel_rfl | rfl, ?_⟩; intro w hSw; (try dsimp only at hSw); obtain ⟨⟨c0', c1, -, -, -, -⟩, ⟨y0, y1⟩, -⟩ := hSw; go_simp <;> (try with_reducible rfl))
                try simp only [Act.put, List.setIfInBounds_toArray, List.set_cons_zero, List.set_cons_succ]
                refine wpAnyH_take (i := 3) (oi := ?rd4o) (v := ?rd4v) ?rd4h (by kernel_rfl) (by kernel_rfl) (by kernel_rfl) ?rd4q ?rd4y hHeld ?rd4r
                case rd4h => (simp only [List.getElem?_toArray, List.getElem?_cons_succ, List.getElem?_cons_zero]; rfl)
                case rd4q => exact fun _ _ _ h => h
                case rd4y => (refine Or.inl ⟨by first | kernel_rfl | rfl, ?_⟩; intro w hSw; (try dsimp only at hSw); obtain ⟨⟨c0', c1, -, -, -, -⟩, ⟨y0, y1⟩, -⟩ := hSw; go_simp <;> (try with_reducible rfl))
                try simp only [Act.put, List.setIfInBounds_toArray, List.set_cons_zero, List.set_cons_succ]
                refine wpAnyH_take (i := 4) (oi := ?rd5o) (v := ?rd5v) ?rd5h (by kernel_rfl) (by kernel_rfl) (by kernel_rfl) ?rd5q ?rd5y hHeld ?rd5r
                case rd5h => (simp only [List.getElem?_toArray, List.getElem?_cons_succ, List.getElem?_cons_zero]; rfl)
                case rd5q => exact fun _ _ _ h => h
                case rd5y => (refine Or.inl ⟨by first | kernel_rfl | rfl, ?_⟩; intro w hSw; (try dsimp only at hSw); obtain ⟨⟨c0', c1, -, -, -, -⟩, ⟨y0, y1⟩, -⟩ := hSw; go_simp <;> (try with_reducible rfl))
                try simp only [Act.put, List.setIfInBounds_toArray, List.set_cons_zero, List.set_cons_succ]
                refine wpAnyH_take (i := 5) (oi := ?rd6o) (v := ?rd6v) ?rd6h (by kernel_rfl) (by kernel_rfl) (by kernel_rfl) ?rd6q ?rd6y hHeld ?rd6r
                case rd6h => (simp only [List.getElem?_toArray, List.getElem?_cons_succ, List.getElem?_cons_zero]; rfl)
                case rd6q => exact fun _ _ _ h => h
                case rd6y => (refine Or.inl ⟨by first | kernel_rfl | rfl, ?_⟩; intro w hSw; (try dsimp only at hSw); obtain ⟨⟨c0', c1, -, -, -, -⟩, ⟨y0, y1⟩, -⟩ := hSw; go_simp <;> (try with_reducible rfl))
                try simp only [Act.put, List.setIfInBounds_toArray, List.set_cons_zero, List.set_cons_succ]
                refine wpAnyH_take (i := 6) (oi := ?rd7o) (v := ?rd7v) ?rd7h (by kernel_rfl) (by kernel_rfl) (by kernel_rfl) ?rd7q ?rd7y hHeld ?rd7r
                case rd7h => (simp only [List.getElem?_toArray, List.getElem?_cons_succ, List.getElem?_cons_zero]; rfl)
                case rd7q => exact fun _ _ _ h => h
                case rd7y => (refine Or.inl ⟨by first | kernel_rfl | rfl, ?_⟩; intro w hSw; (try dsimp only at hSw); obtain ⟨⟨c0', c1, -, -, -, -⟩, ⟨y0, y1⟩, -⟩ := hSw; go_simp <;> (try with_reducible rfl))
                try simp only [Act.put, List.setIfInBounds_toArray, List.set_cons_zero, List.set_cons_succ]
                refine wpAnyH_take (i := 7) (oi := ?rd8o) (v := ?rd8v) ?rd8h (by kernel_rfl) (by kernel_rfl) (by kernel_rfl) ?rd8q ?rd8y hHeld ?rd8r
                case rd8h => (simp only [List.getElem?_toArray, List.getElem?_cons_succ, List.getElem?_cons_zero]; rfl)
                case rd8q => exact fun _ _ _ h => h
                case rd8y => (refine Or.inl ⟨by first | kernel_rfl | rfl, ?_⟩; intro w hSw; (try dsimp only at hSw); obtain ⟨⟨c0', c1, -, -, -, -⟩, ⟨y0, y1⟩, -⟩ := hSw; go_simp <;> (try with_reducible rfl))
                try simp only [Act.put, List.setIfInBounds_toArray, List.set_cons_zero, List.set_cons_succ]
                refine wpAnyH_take (i := 8) (oi := ?rd9o) (v := ?rd9v) ?rd9h (by kernel_rfl) (by kernel_rfl) (by kernel_rfl) ?rd9q ?rd9y hHeld ?rd9r
                case rd9h => (simp only [List.getElem?_toArray, List.getElem?_cons_succ, List.getElem?_cons_zero]; rfl)
                case rd9q => exact fun _ _ _ h => h
                case rd9y => (refine Or.inl ⟨by first | kernel_rfl | rfl, ?_⟩; intro w hSw; (try dsimp only at hSw); obtain ⟨⟨c0', c1, -, -, -, -⟩, ⟨y0, y1⟩, -⟩ := hSw; go_simp <;> (try with_reducible rfl))
                try simp only [Act.put, List.setIfInBounds_toArray, List.set_cons_zero, List.set_cons_succ]
                refine wpAnyH_take (i := 9) (oi := ?rd10o) (v := ?rd10v) ?rd10h (by kernel_rfl) (by kernel_rfl) (by kernel_rfl) ?rd10q ?rd10y hHeld ?rd10r
                case rd10h => (simp only [List.getElem?_toArray, List.getElem?_cons_succ, List.getElem?_cons_zero]; rfl)
                case rd10q => exact fun _ _ _ h => h
                case rd10y => (refine Or.inl ⟨by first | kernel_rfl | rfl, ?_⟩; intro w hSw; (try dsimp only at hSw); obtain ⟨⟨c0', c1, -, -, -, -⟩, ⟨y0, y1⟩, -⟩ := hSw; go_simp <;> (try with_reducible rfl))
                try simp only [Act.put, List.setIfInBounds_toArray, List.set_cons_zero, List.set_cons_succ]
                refine wpAnyH_take (i := 10) (oi := ?rd11o) (v := ?rd11v) ?rd11h (by kernel_rfl) (by kernel_rfl) (by kernel_rfl) ?rd11q ?rd11y hHeld ?rd11r
                case rd11h => (simp only [List.getElem?_toArray, List.getElem?_cons_succ, List.getElem?_cons_zero]; rfl)
                case rd11q => exact fun _ _ _ h => h
                case rd11y => (refine Or.inl ⟨by first | kernel_rfl | rfl, ?_⟩; intro w hSw; (try dsimp only at hSw); obtain ⟨⟨c0', c1, -, -, -, -⟩, ⟨y0, y1⟩, -⟩ := hSw; go_simp <;> (try with_reducible rfl))
                try simp only [Act.put, List.setIfInBounds_toArray, List.set_cons_zero, List.set_cons_succ]
                refine wpAnyH_take (i := 11) (oi := ?rd12o) (v := ?rd12v) ?rd12h (by kernel_rfl) (by kernel_rfl) (by kernel_rfl) ?rd12q ?rd12y hHeld ?rd12r
                case rd12h => (simp only [List.getElem?_toArray, List.getElem?_cons_succ, List.getElem?_cons_zero]; rfl)
                case rd12q => exact fun _ _ _ h => h
                case rd12y => (refine Or.inl ⟨by first | kernel_rfl | rfl, ?_⟩; intro w hSw; (try dsimp only at hSw); obtain ⟨⟨c0', c1, -, -, -, -⟩, ⟨y0, y1⟩, -⟩ := hSw; go_simp <;> (try with_reducible rfl))
                try simp only [Act.put, List.setIfInBounds_toArray, List.set_cons_zero, List.set_cons_succ]
                refine wpAnyH_take (i := 12) (oi := ?rd13o) (v := ?rd13v) ?rd13h (by kernel_rfl) (by kernel_rfl) (by kernel_rfl) ?rd13q ?rd13y hHeld ?rd13r
                case rd13h => (simp only [List.getElem?_toArray, List.getElem?_cons_succ, List.getElem?_cons_zero]; rfl)
                case rd13q => exact fun _ _ _ h => h
                case rd13y => (refine Or.inl ⟨by first | kernel_rfl | rfl, ?_⟩; intro w hSw; (try dsimp only at hSw); obtain ⟨⟨c0', c1, -, -, -, -⟩, ⟨y0, y1⟩, -⟩ := hSw; go_simp <;> (try with_reducible rfl))
                try simp only [Act.put, List.setIfInBounds_toArray, List.set_cons_zero, List.set_cons_succ]
                refine wpAnyH_take (i := 13) (oi := ?rd14o) (v := ?rd14v) ?rd14h (by kernel_rfl) (by kernel_rfl) (by kernel_rfl) ?rd14q ?rd14y hHeld ?rd14r
                case rd14h => (simp only [List.getElem?_toArray, List.getElem?_cons_succ, List.getElem?_cons_zero]; rfl)
                case rd14q => exact fun _ _ _ h => h
                case rd14y => (refine Or.inl ⟨by first | kernel_rfl | rfl, ?_⟩; intro w hSw; (try dsimp only at hSw); obtain ⟨⟨c0', c1, -, -, -, -⟩, ⟨y0, y1⟩, -⟩ := hSw; go_simp <;> (try with_reducible rfl))
                try simp only [Act.put, List.setIfInBounds_toArray, List.set_cons_zero, List.set_cons_succ]
                refine wpAnyH_take (i := 14) (oi := ?rd15o) (v := ?rd15v) ?rd15h (by kernel_rfl) (by kernel_rfl) (by kernel_rfl) ?rd15q ?rd15y hHeld ?rd15r
                case rd15h => (simp only [List.getElem?_toArray, List.getElem?_cons_succ, List.getElem?_cons_zero]; rfl)
                case rd15q => exact fun _ _ _ h => h
                case rd15y => (refine Or.inl ⟨by first | kernel_rfl | rfl, ?_⟩; intro w hSw; (try dsimp only at hSw); obtain ⟨⟨c0', c1, -, -, -, -⟩, ⟨y0, y1⟩, -⟩ := hSw; go_simp <;> (try with_reducible rfl))
                try simp only [Act.put, List.setIfInBounds_toArray, List.set_cons_zero, List.set_cons_succ]
                refine wpAnyH_take (i := 15) (oi := ?rd16o) (v := ?rd16v) ?rd16h (by kernel_rfl) (by kernel_rfl) (by kernel_rfl) ?rd16q ?rd16y hHeld ?rd16r
                case rd16h => (simp only [List.getElem?_toArray, List.getElem?_cons_succ, List.getElem?_cons_zero]; rfl)
                case rd16q => exact fun _ _ _ h => h
                case rd16y => (refine Or.inl ⟨by first | kernel_rfl | rfl, ?_⟩; intro w hSw; (try dsimp only at hSw); obtain ⟨⟨c0', c1, -, -, -, -⟩, ⟨y0, y1⟩, -⟩ := hSw; go_simp <;> (try with_reducible rfl))
                try simp only [Act.put, List.setIfInBounds_toArray, List.set_cons_zero, List.set_cons_succ]
                refine wpAnyH_take (i := 16) (oi := ?rd17o) (v := ?rd17v) ?rd17h (by kernel_rfl) (by kernel_rfl) (by kernel_rfl) ?rd17q ?rd17y hHeld ?rd17r
                case rd17h => (simp only [List.getElem?_toArray, List.getElem?_cons_succ, List.getElem?_cons_zero]; rfl)
                case rd17q => exact fun _ _ _ h => h
                case rd17y => (refine Or.inl ⟨by first | kernel_rfl | rfl, ?_⟩; intro w hSw; (try dsimp only at hSw); obtain ⟨⟨c0', c1, -, -, -, -⟩, ⟨y0, y1⟩, -⟩ := hSw; go_simp <;> (try with_reducible rfl))
                try simp only [Act.put, List.setIfInBounds_toArray, List.set_cons_zero, List.set_cons_succ]
                refine wpAnyH_take (i := 17) (oi := ?rd18o) (v := ?rd18v) ?rd18h (by kernel_rfl) (by kernel_rfl) (by kernel_rfl) ?rd18q ?rd18y hHeld ?rd18r
                case rd18h => (simp only [List.getElem?_toArray, List.getElem?_cons_succ, List.getElem?_cons_zero]; rfl)
                case rd18q => exact fun _ _ _ h => h
                case rd18y => (refine Or.inl ⟨by first | kernel_rfl | rfl, ?_⟩; intro w hSw; (try dsimp only at hSw); obtain ⟨⟨c0', c1, -, -, -, -⟩, ⟨y0, y1⟩, -⟩ := hSw; go_simp <;> (try with_reducible rfl))
                try simp only [Act.put, List.setIfInBounds_toArray, List.set_cons_zero, List.set_cons_succ]
                refine wpAnyH_take (i := 18) (oi := ?rd19o) (v := ?rd19v) ?rd19h (by kernel_rfl) (by kernel_rfl) (by kernel_rfl) ?rd19q ?rd19y hHeld ?rd19r
                case rd19h => (simp only [List.getElem?_toArray, List.getElem?_cons_succ, List.getElem?_cons_zero]; rfl)
                case rd19q => exact fun _ _ _ h => h
                case rd19y => (refine Or.inl ⟨by first | kernel_rfl | rfl, ?_⟩; intro w hSw; (try dsimp only at hSw); obtain ⟨⟨c0', c1, -, -, -, -⟩, ⟨y0, y1⟩, -⟩ := hSw; go_simp <;> (try with_reducible rfl))
                try simp only [Act.put, List.setIfInBounds_toArray, List.set_cons_zero, List.set_cons_succ]
                refine wpAnyH_take (i := 19) (oi := ?rd20o) (v := ?rd20v) ?rd20h (by kernel_rfl) (by kernel_rfl) (by kernel_rfl) ?rd20q ?rd20y hHeld ?rd20r
                case rd20h => (simp only [List.getElem?_toArray, List.getElem?_cons_succ, List.getElem?_cons_zero]; rfl)
                case rd20q => exact fun _ _ _ h => h
                case rd20y => (refine Or.inl ⟨by first | kernel_rfl | rfl, ?_⟩; intro w hSw; (try dsimp only at hSw); obtain ⟨⟨c0', c1, -, -, -, -⟩, ⟨y0, y1⟩, -⟩ := hSw; go_simp <;> (try with_reducible rfl))
                try simp only [Act.put, List.setIfInBounds_toArray, List.set_cons_zero, List.set_cons_succ]
                refine wpAnyH_take (i := 20) (oi := ?rd21o) (v := ?rd21v) ?rd21h (by kernel_rfl) (by kernel_rfl) (by kernel_rfl) ?rd21q ?rd21y hHeld ?rd21r
                case rd21h => (simp only [List.getElem?_toArray, List.getElem?_cons_succ, List.getElem?_cons_zero]; rfl)
                case rd21q => exact fun _ _ _ h => h
                case rd21y => (refine Or.inl ⟨by first | kernel_rfl | rfl, ?_⟩; intro w hSw; (try dsimp only at hSw); obtain ⟨⟨c0', c1, -, -, -, -⟩, ⟨y0, y1⟩, -⟩ := hSw; go_simp <;> (try with_reducible rfl))
                try simp only [Act.put, List.setIfInBounds_toArray, List.set_cons_zero, List.set_cons_succ]
                refine wpAnyH_take (i := 21) (oi := ?rd22o) (v := ?rd22v) ?rd22h (by kernel_rfl) (by kernel_rfl) (by kernel_rfl) ?rd22q ?rd22y hHeld ?rd22r
                case rd22h => (simp only [List.getElem?_toArray, List.getElem?_cons_succ, List.getElem?_cons_zero]; rfl)
                case rd22q => exact fun _ _ _ h => h
                case rd22y => (refine Or.inl ⟨by first | kernel_rfl | rfl, ?_⟩; intro w hSw; (try dsimp only at hSw); obtain ⟨⟨c0', c1, -, -, -, -⟩, ⟨y0, y1⟩, -⟩ := hSw; go_simp <;> (try with_reducible rfl))
                try simp only [Act.put, List.setIfInBounds_toArray, List.set_cons_zero, List.set_cons_succ]
                refine wpAnyH_take (i := 22) (oi := ?rd23o) (v := ?rd23v) ?rd23h (by kernel_rfl) (by kernel_rfl) (by kernel_rfl) ?rd23q ?rd23y hHeld ?rd23r
                case rd23h => (simp only [List.getElem?_toArray, List.getElem?_cons_succ, List.getElem?_cons_zero]; rfl)
                case rd23q => exact fun _ _ _ h => h
                case rd23y => (refine Or.inl ⟨by first | kernel_rfl | rfl, ?_⟩; intro w hSw; (try dsimp only at hSw); obtain ⟨⟨c0', c1, -, -, -, -⟩, ⟨y0, y1⟩, -⟩ := hSw; go_simp <;> (try with_reducible rfl))
                try simp only [Act.put, List.setIfInBounds_toArray, List.set_cons_zero, List.set_cons_succ]
                refine wpAnyH_take (i := 23) (oi := ?rd24o) (v := ?rd24v) ?rd24h (by kernel_rfl) (by kernel_rfl) (by kernel_rfl) ?rd24q ?rd24y hHeld ?rd24r
                case rd24h => (simp only [List.getElem?_toArray, List.getElem?_cons_succ, List.getElem?_cons_zero]; rfl)
                case rd24q => exact fun _ _ _ h => h
                case rd24y => (refine Or.inl ⟨by first | kernel_rfl | rfl, ?_⟩; intro w hSw; (try dsimp only at hSw); obtain ⟨⟨c0', c1, -, -, -, -⟩, ⟨y0, y1⟩, -⟩ := hSw; go_simp <;> (try with_reducible rfl))
                try simp only [Act.put, List.setIfInBounds_toArray, List.set_cons_zero, List.set_cons_succ]
                refine wpAnyH_take (i := 24) (oi := ?rd25o) (v := ?rd25v) ?rd25h (by kernel_rfl) (by kernel_rfl) (by kernel_rfl) ?rd25q ?rd25y hHeld ?rd25r
                case rd25h => (simp only [List.getElem?_toArray, List.getElem?_cons_succ, List.getElem?_cons_zero]; rfl)
                case rd25q => exact fun _ _ _ h => h
                case rd25y => (refine Or.inl ⟨by first | kernel_rfl | rfl, ?_⟩; intro w hSw; (try dsimp only at hSw); obtain ⟨⟨c0', c1, -, -, -, -⟩, ⟨y0, y1⟩, -⟩ := hSw; go_simp <;> (try with_reducible rfl))
                try simp only [Act.put, List.setIfInBounds_toArray, List.set_cons_zero, List.set_cons_succ]
                refine wpAnyH_take (i := 25) (oi := ?rd26o) (v := ?rd26v) ?rd26h (by kernel_rfl) (by kernel_rfl) (by kernel_rfl) ?rd26q ?rd26y hHeld ?rd26r
                case rd26h => (simp only [List.getElem?_toArray, List.getElem?_cons_succ, List.getElem?_cons_zero]; rfl)
                case rd26q => exact fun _ _ _ h => h
                case rd26y => (refine Or.inl ⟨by first | kernel_rfl | rfl, ?_⟩; intro w hSw; (try dsimp only at hSw); obtain ⟨⟨c0', c1, -, -, -, -⟩, ⟨y0, y1⟩, -⟩ := hSw; go_simp <;> (try with_reducible rfl))
                try simp only [Act.put, List.setIfInBounds_toArray, List.set_cons_zero, List.set_cons_succ]
                refine wpAnyH_take (i := 26) (oi := ?rd27o) (v := ?rd27v) ?rd27h (by kernel_rfl) (by kernel_rfl) (by kernel_rfl) ?rd27q ?rd27y hHeld ?rd27r
                case rd27h => (simp only [List.getElem?_toArray, List.getElem?_cons_succ, List.getElem?_cons_zero]; rfl)
                case rd27q => exact fun _ _ _ h => h
                case rd27y => (refine Or.inl ⟨by first | kernel_rfl | rfl, ?_⟩; intro w hSw; (try dsimp only at hSw); obtain ⟨⟨c0', c1, -, -, -, -⟩, ⟨y0, y1⟩, -⟩ := hSw; go_simp <;> (try with_reducible rfl))
                try simp only [Act.put, List.setIfInBounds_toArray, List.set_cons_zero, List.set_cons_succ]
                refine wpAnyH_take (i := 27) (oi := ?rd28o) (v := ?rd28v) ?rd28h (by kernel_rfl) (by kernel_rfl) (by kernel_rfl) ?rd28q ?rd28y hHeld ?rd28r
                case rd28h => (simp only [List.getElem?_toArray, List.getElem?_cons_succ, List.getElem?_cons_zero]; rfl)
                case rd28q => exact fun _ _ _ h => h
                case rd28y => (refine Or.inl ⟨by first | kernel_rfl | rfl, ?_⟩; intro w hSw; (try dsimp only at hSw); obtain ⟨⟨c0', c1, -, -, -, -⟩, ⟨y0, y1⟩, -⟩ := hSw; go_simp <;> (try with_reducible rfl))
                try simp only [Act.put, List.setIfInBounds_toArray, List.set_cons_zero, List.set_cons_succ]
                refine wpAnyH_take (i := 28) (oi := ?rd29o) (v := ?rd29v) ?rd29h (by kernel_rfl) (by kernel_rfl) (by kernel_rfl) ?rd29q ?rd29y hHeld ?rd29r
                case rd29h => (simp only [List.getElem?_toArray, List.getElem?_cons_succ, List.getElem?_cons_zero]; rfl)
                case rd29q => exact fun _ _ _ h => h
                case rd29y => (refine Or.inl ⟨by first | kernel_rfl | rfl, ?_⟩; intro w hSw; (try dsimp only at hSw); obtain ⟨⟨c0', c1, -, -, -, -⟩, ⟨y0, y1⟩, -⟩ := hSw; go_simp <;> (try with_reducible rfl))
                try simp only [Act.put, List.setIfInBounds_toArray, List.set_cons_zero, List.set_cons_succ]
                refine wpAnyH_take (i := 29) (oi := ?rd30o) (v := ?rd30v) ?rd30h (by kernel_rfl) (by kernel_rfl) (by kernel_rfl) ?rd30q ?rd30y hHeld ?rd30r
                case rd30h => (simp only [List.getElem?_toArray, List.getElem?_cons_succ, List.getElem?_cons_zero]; rfl)
                case rd30q => exact fun _ _ _ h => h
                case rd30y => (refine Or.inl ⟨by first | kernel_rfl | rfl, ?_⟩; intro w hSw; (try dsimp only at hSw); obtain ⟨⟨c0', c1, -, -, -, -⟩, ⟨y0, y1⟩, -⟩ := hSw; go_simp <;> (try with_reducible rfl))
                try simp only [Act.put, List.setIfInBounds_toArray, List.set_cons_zero, List.set_cons_succ]
                refine wpAnyH_done (by kernel_rfl) ?_ _
                have HH := Lib.hid hHeld
                clear hHeld
                go_wp2
                go_roundw
                case rel => exact ⟨k + 1, r, a5, c5, o, by omega, by omega, by go_num, rfl, HN, HR, HROW.out.later ((Below.refl _ _).drew), HH.out.s, HH.out.bel⟩
                case measure => simp [intOf]; omega
            · have hf2 : x.t < f := by omega
              have hdf : decide (f ≤ x.t) = false := decide_eq_false hf
              have HN := Lib.hid (show o = (if true = true then rngL (l.take (k + 1)) s' f t else []) by
                rw [if_pos rfl, hsn, if_neg (by unfold inR; simp [hf]), List.append_nil, HO2.out])
              clear hsn hs
              go_wp2_with fail
              refine wp_region_held_drew (S := (RS7 w b ix T x f t)) (by kernel_rfl) H0.drew (fun hHeld => ?_)
              refine wpAnyH_take (i := 0) (oi := ?rc1o) (v := ?rc1v) ?rc1h (by kernel_rfl) (by kernel_rfl) (by kernel_rfl) ?rc1q ?rc1y hHeld ?rc1r
              case rc1h => (simp only [List.getElem?_toArray, List.getElem?_cons_zero]; rfl)
              case rc1q => exact fun _ _ _ h => h
              case rc1y => (refine Or.inl ⟨by first | kernel_rfl | rfl, ?_⟩; intro w hSw; (try dsimp only at hSw); obtain ⟨⟨c0', c1, -, -, -, -⟩, ⟨y0, y1⟩, -⟩ := hSw; go_simp <;> (try with_reducible rfl))
              try simp only [Act.put, List.setIfInBounds_toArray, List.set_cons_zero, List.set_cons_succ]
              refine wpAnyH_take (i := 1) (oi := ?rc2o) (v := ?rc2v) ?rc2h (by kernel_rfl) (by kernel_rfl) (by kernel_rfl) ?rc2q ?rc2y hHeld ?rc2r
              case rc2h => (simp only [List.getElem?_toArray, List.getElem?_cons_succ, List.getElem?_cons_zero]; rfl)
              case rc2q => exact fun _ _ _ h => h
              case rc2y => (refine Or.inl ⟨by first | kernel_rfl | rfl, ?_⟩; intro w hSw; (try dsimp only at hSw); obtain ⟨⟨c0', c1, -, -, -, -⟩, ⟨y0, y1⟩, -⟩ := hSw; go_simp <;> (try with_reducible rfl))
              try simp only [Act.put, List.setIfInBounds_toArray, List.set_cons_zero, List.set_cons_succ]
              refine wpAnyH_take (i := 2) (oi := ?rc3o) (v := ?rc3v) ?rc3h (by kernel_rfl) (by kernel_rfl) (by kernel_rfl) ?rc3q ?rc3y hHeld ?rc3r
              case rc3h => (simp only [List.getElem?_toArray, List.getElem?_cons_succ, List.getElem?_cons_zero]; rfl)
              case rc3q => exact fun _ _ _ h => h
              case rc3y => (refine Or.inl ⟨by first | kernel_rfl | rfl, ?_⟩; intro w hSw; (try dsimp only at hSw); obtain ⟨⟨c0', c1, -, -, -, -⟩, ⟨y0, y1⟩, -⟩ := hSw; go_simp <;> (try with_reducible rfl))
              try simp only [Act.put, List.setIfInBounds_toArray, List.set_cons_zero, List.set_cons_succ]
              refine wpAnyH_take (i := 3) (oi := ?rc4o) (v := ?rc4v) ?rc4h (by kernel_rfl) (by kernel_rfl) (by kernel_rfl) ?rc4q ?rc4y hHeld ?rc4r
              case rc4h => (simp only [List.getElem?_toArray, List.getElem?_cons_succ, List.getElem?_cons_zero]; rfl)
              case rc4q => exact fun _ _ _ h => h
              case rc4y => (refine Or.inl ⟨by first | kernel_rfl | rfl, ?_⟩; intro w hSw; (try dsimp only at hSw); obtain ⟨⟨c0', c1, -, -, -, -⟩, ⟨y0, y1⟩, -⟩ := hSw; go_simp <;> (try with_reducible rfl))
              try simp only [Act.put, List.setIfInBounds_toArray, List.set_cons_zero, List.set_cons_succ]
              refine wpAnyH_take (i := 4) (oi := ?rc5o) (v := ?rc5v) ?rc5h (by kernel_rfl) (by kernel_rfl) (by kernel_rfl) ?rc5q ?rc5y hHeld ?rc5r
              case rc5h => (simp only [List.getElem?_toArray, List.getElem?_cons_succ, List.getElem?_cons_zero]; rfl)
              case rc5q => exact fun _ _ _ h => h
              case rc5y => (refine Or.inl ⟨by first | kernel_rfl | rfl, ?_⟩; intro w hSw; (try dsimp only at hSw); obtain ⟨⟨c0', c1, -, -, -, -⟩, ⟨y0, y1⟩, -⟩ := hSw; go_simp <;> (try with_reducible rfl))
              try simp only [Act.put, List.setIfInBounds_toArray, List.set_cons_zero, List.set_cons_succ]
              refine wpAnyH_take (i := 5) (oi := ?rc6o) (v := ?rc6v) ?rc6h (by kernel_rfl) (by kernel_rfl) (by kernel_rfl) ?rc6q ?rc6y hHeld ?rc6r
              case rc6h => (simp only [List.getElem?_toArray, List.getElem?_cons_succ, List.getElem?_cons_zero]; rfl)
              case rc6q => exact fun _ _ _ h => h
              case rc6y => (refine Or.inl ⟨by first | kernel_rfl | rfl, ?_⟩; intro w hSw; (try dsimp only at hSw); obtain ⟨⟨c0', c1, -, -, -, -⟩, ⟨y0, y1⟩, -⟩ := hSw; go_simp <;> (try with_reducible rfl))
              try simp only [Act.put, List.setIfInBounds_toArray, List.set_cons_zero, List.set_cons_succ]
              refine wpAnyH_take (i := 6) (oi := ?rc7o) (v := ?rc7v) ?rc7h (by kernel_rfl) (by kernel_rfl) (by kernel_rfl) ?rc7q ?rc7y hHeld ?rc7r
              case rc7h => (simp only [List.getElem?_toArray, List.getElem?_cons_succ, List.getElem?_cons_zero]; rfl)
              case rc7q => exact fun _ _ _ h => h
              case rc7y => (refine Or.inl ⟨by first | kernel_rfl | rfl, ?_⟩; intro w hSw; (try dsimp only at hSw); obtain ⟨⟨c0', c1, -, -, -, -⟩, ⟨y0, y1⟩, -⟩ := hSw; go_simp <;> (try with_reducible rfl))
              try simp only [Act.put, List.setIfInBounds_toArray, List.set_cons_zero, List.set_cons_succ]
              refine wpAnyH_take (i := 7) (oi := ?rc8o) (v := ?rc8v) ?rc8h (by kernel_rfl) (by kernel_rfl) (by kernel_rfl) ?rc8q ?rc8y hHeld ?rc8r
              case rc8h => (simp only [List.getElem?_toArray, List.getElem?_cons_succ, List.getElem?_cons_zero]; rfl)
              case rc8q => exact fun _ _ _ h => h
              case rc8y => (refine Or.inl ⟨by first | kernel_rfl | rfl, ?_⟩; intro w hSw; (try dsimp only at hSw); obtain ⟨⟨c0', c1, -, -, -, -⟩, ⟨y0, y1⟩, -⟩ := hSw; go_simp <;> (try with_reducible rfl))
              try simp only [Act.put, List.setIfInBounds_toArray, List.set_cons_zero, List.set_cons_succ]
              refine wpAnyH_take (i := 8) (oi := ?rc9o) (v := ?rc9v) ?rc9h (by kernel_rfl) (by kernel_rfl) (by kernel_rfl) ?rc9q ?rc9y hHeld ?rc9r
              case rc9h => (simp only [List.getElem?_toArray, List.getElem?_cons_succ, List.getElem?_cons_zero]; rfl)
              case rc9q => exact fun _ _ _ h => h
              case rc9y => (refine Or.inl ⟨by first | kernel_rfl | rfl, ?_⟩; intro w hSw; (try dsimp only at hSw); obtain ⟨⟨c0', c1, -, -, -, -⟩, ⟨y0, y1⟩, -⟩ := hSw; go_simp <;> (try with_reducible rfl))
              try simp only [Act.put, List.setIfInBounds_toArray, List.set_cons_zero, List.set_cons_succ]
              refine wpAnyH_take (i := 9) (oi := ?rc10o) (v := ?rc10v) ?rc10h (by kernel_rfl) (by kernel_rfl) (by kernel_rfl) ?rc10q ?rc10y hHeld ?rc10r
              case rc10h => (simp only [List.getElem?_toArray, List.getElem?_cons_succ, List.getElem?_cons_zero]; rfl)
              case rc10q => exact fun _ _ _ h => h
              case rc10y => (refine Or.inl ⟨by first | kernel_rfl | rfl, ?_⟩; intro w hSw; (try dsimp only at hSw); obtain ⟨⟨c0', c1, -, -, -, -⟩, ⟨y0, y1⟩, -⟩ := hSw; go_simp <;> (try with_reducible rfl))
              try simp only [Act.put, List.setIfInBounds_toArray, List.set_cons_zero, List.set_cons_succ]
              refine wpAnyH_take (i := 10) (oi := ?rc11o) (v := ?rc11v) ?rc11h (by kernel_rfl) (by kernel_rfl) (by kernel_rfl) ?rc11q ?rc11y hHeld ?rc11r
              case rc11h => (simp only [List.getElem?_toArray, List.getElem?_cons_succ, List.getElem?_cons_zero]; rfl)
              case rc11q => exact fun _ _ _ h => h
              case rc11y => (refine Or.inl ⟨by first | kernel_rfl | rfl, ?_⟩; intro w hSw; (try dsimp only at hSw); obtain ⟨⟨c0', c1, -, -, -, -⟩, ⟨y0, y1⟩, -⟩ := hSw; go_simp <;> (try with_reducible rfl))
              try simp only [Act.put, List.setIfInBounds_toArray, List.set_cons_zero, List.set_cons_succ]
              refine wpAnyH_take (i := 11) (oi := ?rc12o) (v := ?rc12v) ?rc12h (by kernel_rfl) (by kernel_rfl) (by kernel_rfl) ?rc12q ?rc12y hHeld ?rc12r
              case rc12h => (simp only [List.getElem?_toArray, List.getElem?_cons_succ, List.getElem?_cons_zero]; rfl)
              case rc12q => exact fun _ _ _ h => h
              case rc12y => (refine Or.inl ⟨by first | kernel_rfl | rfl, ?_⟩; intro w hSw; (try dsimp only at hSw); obtain ⟨⟨c0', c1, -, -, -, -⟩, ⟨y0, y1⟩, -⟩ := hSw; go_simp <;> (try with_reducible rfl))
              try simp only [Act.put, List.setIfInBounds_toArray, List.set_cons_zero, List.set_cons_succ]
              refine wpAnyH_take (i := 12) (oi := ?rc13o) (v := ?rc13v) ?rc13h (by kernel_rfl) (by kernel_rfl) (by kernel_rfl) ?rc13q ?rc13y hHeld ?rc13r
              case rc13h => (simp only [List.getElem?_toArray, List.getElem?_cons_succ, List.getElem?_cons_zero]; rfl)
              case rc13q => exact fun _ _ _ h => h
              case rc13y => (refine Or.inl ⟨by first | kernel_rfl | rfl, ?_⟩; intro w hSw; (try dsimp only at hSw); obtain ⟨⟨c0', c1, -, -, -, -⟩, ⟨y0, y1⟩, -⟩ := hSw; go_simp <;> (try with_reducible rfl))
              try simp only [Act.put, List.setIfInBounds_toArray, List.set_cons_zero, List.set_cons_succ]
              refine wpAnyH_take (i := 13) (oi := ?rc14o) (v := ?rc14v) ?rc14h (by kernel_rfl) (by kernel_rfl) (by kernel_rfl) ?rc14q ?rc14y hHeld ?rc14r
              case rc14h => (simp only [List.getElem?_toArray, List.getElem?_cons_succ, List.getElem?_cons_zero]; rfl)
              case rc14q => exact fun _ _ _ h => h
              case rc14y => (refine Or.inl ⟨by first | kernel_rfl | rfl, ?_⟩; intro w hSw; (try dsimp only at hSw); obtain ⟨⟨c0', c1, -, -, -, -⟩, ⟨y0, y1⟩, -⟩ := hSw; go_simp <;> (try with_reducible rfl))
              try simp only [Act.put, List.setIfInBounds_toArray, List.set_cons_zero, List.set_cons_succ]
              refine wpAnyH_take (i := 14) (oi := ?rc15o) (v := ?rc15v) ?rc15h (by kernel_rfl) (by kernel_rfl) (by kernel_rfl) ?rc15q ?rc15y hHeld ?rc15r
              case rc15h => (simp only [List.getElem?_toArray, List.getElem?_cons_succ, List.getElem?_cons_zero]; rfl)
              case rc15q => exact fun _ _ _ h => h
              case rc15y => (refine Or.inl ⟨by first | kernel_rfl | rfl, ?_⟩; intro w hSw; (try dsimp only at hSw); obtain ⟨⟨c0', c1, -, -, -, -⟩, ⟨y0, y1⟩, -⟩ := hSw; go_simp <;> (try with_reducible rfl))
              try simp only [Act.put, List.setIfInBounds_toArray, List.set_cons_zero, List.set_cons_succ]
              refine wpAnyH_take (i := 15) (oi := ?rc16o) (v := ?rc16v) ?rc16h (by kernel_rfl) (by kernel_rfl) (by kernel_rfl) ?rc16q ?rc16y hHeld ?rc16r
              case rc16h => (simp only [List.getElem?_toArray, List.getElem?_cons_succ, List.getElem?_cons_zero]; rfl)
              case rc16q => exact fun _ _ _ h => h
              case rc16y => (refine Or.inl ⟨by first | kernel_rfl | rfl, ?_⟩; intro w hSw; (try dsimp only at hSw); obtain ⟨⟨c0', c1, -, -, -, -⟩, ⟨y0, y1⟩, -⟩ := hSw; go_simp <;> (try with_reducible rfl))
              try simp only [Act.put, List.setIfInBounds_toArray, List.set_cons_zero, List.set_cons_succ]
              refine wpAnyH_take (i := 16) (oi := ?rc17o) (v := ?rc17v) ?rc17h (by kernel_rfl) (by kernel_rfl) (by kernel_rfl) ?rc17q ?rc17y hHeld ?rc17r
              case rc17h => (simp only [List.getElem?_toArray, List.getElem?_cons_succ, List.getElem?_cons_zero]; rfl)
              case rc17q => exact fun _ _ _ h => h
              case rc17y => (refine Or.inl ⟨by first | kernel_rfl | rfl, ?_⟩; intro w hSw; (try dsimp only at hSw); obtain ⟨⟨c0', c1, -, -, -, -⟩, ⟨y0, y1⟩, -⟩ := hSw; go_simp <;> (try with_reducible rfl))
              try simp only [Act.put, List.setIfInBounds_toArray, List.set_cons_zero, List.set_cons_succ]
              refine wpAnyH_take (i := 17) (oi := ?rc18o) (v := ?rc18v) ?rc18h (by kernel_rfl) (by kernel_rfl) (by kernel_rfl) ?rc18q ?rc18y hHeld ?rc18r
              case rc18h => (simp only [List.getElem?_toArray, List.getElem?_cons_succ, List.getElem?_cons_zero]; rfl)
              case rc18q => exact fun _ _ _ h => h
              case rc18y => (refine Or.inl ⟨by first | kernel_rfl | rfl, ?_⟩; intro w hSw; (try dsimp only at hSw); obtain ⟨⟨c0', c1, -, -, -, -⟩, ⟨y0, y1⟩, -⟩ := hSw; go_simp <;> (try with_reducible rfl))
              try simp only [Act.put, List.setIfInBounds_toArray, List.set_cons_zero, List.set_cons_succ]
              refine wpAnyH_take (i := 18) (oi := ?rc19o) (v := ?rc19v) ?rc19h (by kernel_rfl) (by kernel_rfl) (by kernel_rfl) ?rc19q ?rc19y hHeld ?rc19r
              case rc19h => (simp only [List.getElem?_toArray, List.getElem?_cons_succ, List.getElem?_cons_zero]; rfl)
              case rc19q => exact fun _ _ _ h => h
              case rc19y => (refine Or.inl ⟨by first | kernel_rfl | rfl, ?_⟩; intro w hSw; (try dsimp only at hSw); obtain ⟨⟨c0', c1, -, -, -, -⟩, ⟨y0, y1⟩, -⟩ := hSw; go_simp <;> (try with_reducible rfl))
              try simp only [Act.put, List.setIfInBounds_toArray, List.set_cons_zero, List.set_cons_succ]
              refine wpAnyH_take (i := 19) (oi := ?rc20o) (v := ?rc20v) ?rc20h (by kernel_rfl) (by kernel_rfl) (by kernel_rfl) ?rc20q ?rc20y hHeld ?rc20r
              case rc20h => (simp only [List.getElem?_toArray, List.getElem?_cons_succ, List.getElem?_cons_zero]; rfl)
              case rc20q => exact fun _ _ _ h => h
              case rc20y => (refine Or.inl ⟨by first | kernel_rfl | rfl, ?_⟩; intro w hSw; (try dsimp only at hSw); obtain ⟨⟨c0', c1, -, -, -, -⟩, ⟨y0, y1⟩, -⟩ := hSw; go_simp <;> (try with_reducible rfl))
              try simp only [Act.put, List.setIfInBounds_toArray, List.set_cons_zero, List.set_cons_succ]
              refine wpAnyH_take (i := 20) (oi := ?rc21o) (v := ?rc21v) ?rc21h (by kernel_rfl) (by kernel_rfl) (by kernel_rfl) ?rc21q ?rc21y hHeld ?rc21r
              case rc21h => (simp only [List.getElem?_toArray, List.getElem?_cons_succ, List.getElem?_cons_zero]; rfl)
              case rc21q => exact fun _ _ _ h => h
              case rc21y => (refine Or.inl ⟨by first | kernel_rfl | rfl, ?_⟩; intro w hSw; (try dsimp only at hSw); obtain ⟨⟨c0', c1, -, -, -, -⟩, ⟨y0, y1⟩, -⟩ := hSw; go_simp <;> (try with_reducible rfl))
              try simp only [Act.put, List.setIfInBounds_toArray, List.set_cons_zero, List.set_cons_succ]
              refine wpAnyH_take (i := 21) (oi := ?rc22o) (v := undef) ?rc22h (by kernel_rfl) (by kernel_rfl) (by kernel_rfl) ?rc22q ?rc22y hHeld ?rc22r
              case rc22h => (simp only [List.getElem?_toArray, List.getElem?_cons_succ, List.getElem?_cons_zero]; rfl)
              case rc22q => exact fun _ _ _ h => h
              case rc22y => exact Or.inr ⟨by first | kernel_rfl | rfl, rfl⟩
              try simp only [Act.put, List.setIfInBounds_toArray, List.set_cons_zero, List.set_cons_succ]
              refine wpAnyH_take (i := 22) (oi := ?rc23o) (v := undef) ?rc23h (by kernel_rfl) (by kernel_rfl) (by kernel_rfl) ?rc23q ?rc23y hHeld ?rc23r
              case rc23h => (simp only [List.getElem?_toArray, List.getElem?_cons_succ, List.getElem?_cons_zero]; rfl)
              case rc23q => exact fun _ _ _ h => h
              case rc23y => exact Or.inr ⟨by first | kernel_rfl | rfl, rfl⟩
              try simp only [Act.put, List.setIfInBounds_toArray, List.set_cons_zero, List.set_cons_succ]
              refine wpAnyH_take (i := 23) (oi := ?rc24o) (v := undef) ?rc24h (by kernel_rfl) (by kernel_rfl) (by kernel_rfl) ?rc24q ?rc24y hHeld ?rc24r
              case rc24h => (simp only [List.getElem?_toArray, List.getElem?_cons_succ, List.getElem?_cons_zero]; rfl)
              case rc24q => exact fun _ _ _ h => h
              case rc24y => exact Or.inr ⟨by first | kernel_rfl | rfl, rfl⟩
              try simp only [Act.put, List.setIfInBounds_toArray, List.set_cons_zero, List.set_cons_succ]
              refine wpAnyH_take (i := 24) (oi := ?rc25o) (v := undef) ?rc25h (by kernel_rfl) (by kernel_rfl) (by kernel_rfl) ?rc25q ?rc25y hHeld ?rc25r
              case rc25h => (simp only [List.getElem?_toArray, List.getElem?_cons_succ, List.getElem?_cons_zero]; rfl)
              case rc25q => exact fun _ _ _ h => h
              case rc25y => exact Or.inr ⟨by first | kernel_rfl | rfl, rfl⟩
              try simp only [Act.put, List.setIfInBounds_toArray, List.set_cons_zero, List.set_cons_succ]
              refine wpAnyH_take (i := 25) (oi := ?rc26o) (v := undef) ?rc26h (by kernel_rfl) (by kernel_rfl) (by kernel_rfl) ?rc26q ?rc26y hHeld ?rc26r
              case rc26h => (simp only [List.getElem?_toArray, List.getElem?_cons_succ, List.getElem?_cons_zero]; rfl)
              case rc26q => exact fun _ _ _ h => h
              case rc26y => exact Or.inr ⟨by first | kernel_rfl | rfl, rfl⟩
              try simp only [Act.put, List.setIfInBounds_toArray, List.set_cons_zero, List.set_cons_succ]
              refine wpAnyH_take (i := 26) (oi := ?rc27o) (v := undef) ?rc27h (by kernel_rfl) (by kernel_rfl) (by kernel_rfl) ?rc27q ?rc27y hHeld ?rc27r
              case rc27h => (simp only [List.getElem?_toArray, List.getElem?_cons_succ, List.getElem?_cons_zero]; rfl)
              case rc27q => exact fun _ _ _ h => h
              case rc27y => exact Or.inr ⟨by first | kernel_rfl | rfl, rfl⟩
              try simp only [Act.put, List.setIfInBounds_toArray, List.set_cons_zero, List.set_cons_succ]
              refine wpAnyH_take (i := 27) (oi := ?rc28o) (v := undef) ?rc28h (by kernel_rfl) (by kernel_rfl) (by kernel_rfl) ?rc28q ?rc28y hHeld ?rc28r
              case rc28h => (simp only [List.getElem?_toArray, List.getElem?_cons_succ, List.getElem?_cons_zero]; rfl)
              case rc28q => exact fun _ _ _ h => h
              case rc28y => exact Or.inr ⟨by first | kernel_rfl | rfl, rfl⟩
              try simp only [Act.put, List.setIfInBounds_toArray, List.set_cons_zero, List.set_cons_succ]
              refine wpAnyH_take (i := 28) (oi := ?rc29o) (v := undef) ?rc29h (by kernel_rfl) (by kernel_rfl) (by kernel_rfl) ?rc29q ?rc29y hHeld ?rc29r
              case rc29h => (simp only [List.getElem?_toArray, List.getElem?_cons_succ, List.getElem?_cons_zero]; rfl)
              case rc29q => exact fun _ _ _ h => h
              case rc29y => exact Or.inr ⟨by first | kernel_rfl | rfl, rfl⟩
              try simp only [Act.put, List.setIfInBounds_toArray, List.set_cons_zero, List.set_cons_succ]
              refine wpAnyH_take (i := 29) (oi := ?rc30o) (v := ?rc30v) ?rc30h (by kernel_rfl) (by kernel_rfl) (by kernel_rfl) ?rc30q ?rc30y hHeld ?rc30r
              case rc30h => (simp only [List.getElem?_toArray, List.getElem?_cons_succ, List.getElem?_cons_zero]; rfl)
              case rc30q => exact fun _ _ _ h => h
              case rc30y => (refine Or.inl ⟨by first | kernel_rfl | rfl, ?_⟩; intro w hSw; (try dsimp only at hSw); obtain ⟨⟨c0', c1, -, -, -, -⟩, ⟨y0, y1⟩, -⟩ := hSw; go_simp <;> (try with_reducible rfl))
              try simp only [Act.put, List.setIfInBounds_toArray, List.set_cons_zero, List.set_cons_succ]
              refine wpAnyH_done (by kernel_rfl) ?_ _
              have HH := Lib.hid hHeld
              clear hHeld
              go_wp2
              go_roundw
              case rel => exact ⟨k + 1, r, a5, c5, o, by omega, by omega, by go_num, rfl, HN, HR, HROW.out.later ((Below.refl _ _).drew), HH.out.s, HH.out.bel⟩
              case measure => simp [intOf]; omega
          · have hqs := seq_ne hs
            have HN := Lib.hid (show o = (if true = true then rngL (l.take (k + 1)) s' f t else []) by
              rw [if_pos rfl, hsn, if_neg (by unfold inR; simp [hs]), List.append_nil, HO2.out])
            clear hsn hs
            go_wp2_with fail
            refine wp_region_held_drew (S := (RS7 w b ix T x f t)) (by kernel_rfl) H0.drew (fun hHeld => ?_)
            refine wpAnyH_take (i := 0) (oi := ?rb1o) (v := ?rb1v) ?rb1h (by kernel_rfl) (by kernel_rfl) (by kernel_rfl) ?rb1q ?rb1y hHeld ?rb1r
            case rb1h => (simp only [List.getElem?_toArray, List.getElem?_cons_zero]; rfl)
            case rb1q => exact fun _ _ _ h => h
            case rb1y => (refine Or.inl ⟨by first | kernel_rfl | rfl, ?_⟩; intro w hSw; (try dsimp only at hSw); obtain ⟨⟨c0', c1, -, -, -, -⟩, ⟨y0, y1⟩, -⟩ := hSw; go_simp <;> (try with_reducible rfl))
            try simp only [Act.put, List.setIfInBounds_toArray, List.set_cons_zero, List.set_cons_succ]
            refine wpAnyH_take (i := 1) (oi := ?rb2o) (v := ?rb2v) ?rb2h (by kernel_rfl) (by kernel_rfl) (by kernel_rfl) ?rb2q ?rb2y hHeld ?rb2r
            case rb2h => (simp only [List.getElem?_toArray, List.getElem?_cons_succ, List.getElem?_cons_zero]; rfl)
            case rb2q => exact fun _ _ _ h => h
            case rb2y => (refine Or.inl ⟨by first | kernel_rfl | rfl, ?_⟩; intro w hSw; (try dsimp only at hSw); obtain ⟨⟨c0', c1, -, -, -, -⟩, ⟨y0, y1⟩, -⟩ := hSw; go_simp <;> (try with_reducible rfl))
            try simp only [Act.put, List.setIfInBounds_toArray, List.set_cons_zero, List.set_cons_succ]
            refine wpAnyH_take (i := 2) (oi := ?rb3o) (v := ?rb3v) ?rb3h (by kernel_rfl) (by kernel_rfl) (by kernel_rfl) ?rb3q ?rb3y hHeld ?rb3r
            case rb3h => (simp only [List.getElem?_toArray, List.getElem?_cons_succ, List.getElem?_cons_zero]; rfl)
            case rb3q => exact fun _ _ _ h => h
            case rb3y => (refine Or.inl ⟨by first | kernel_rfl | rfl, ?_⟩; intro w hSw; (try dsimp only at hSw); obtain ⟨⟨c0', c1, -, -, -, -⟩, ⟨y0, y1⟩, -⟩ := hSw; go_simp <;> (try with_reducible rfl))
            try simp only [Act.put, List.setIfInBounds_toArray, List.set_cons_zero, List.set_cons_succ]
            refine wpAnyH_take (i := 3) (oi := ?rb4o) (v := ?rb4v) ?rb4h (by kernel_rfl) (by kernel_rfl) (by kernel_rfl) ?rb4q ?rb4y hHeld ?rb4r
            case rb4h => (simp only [List.getElem?_toArray, List.getElem?_cons_succ, List.getElem?_cons_zero]; rfl)
            case rb4q => exact fun _ _ _ h => h
            case rb4y => (refine Or.inl ⟨by first | kernel_rfl | rfl, ?_⟩; intro w hSw; (try dsimp only at hSw); obtain ⟨⟨c0', c1, -, -, -, -⟩, ⟨y0, y1⟩, -⟩ := hSw; go_simp <;> (try with_reducible rfl))
            try simp only [Act.put, List.setIfInBounds_toArray, List.set_cons_zero, List.set_cons_succ]
            refine wpAnyH_take (i := 4) (oi := ?rb5o) (v := ?rb5v) ?rb5h (by kernel_rfl) (by kernel_rfl) (by kernel_rfl) ?rb5q ?rb5y hHeld ?rb5r
            case rb5h => (simp only [List.getElem?_toArray, List.getElem?_cons_succ, List.getElem?_cons_zero]; rfl)
            case rb5q => exact fun _ _ _ h => h
            case rb5y => (refine Or.inl ⟨by first | kernel_rfl | rfl, ?_⟩; intro w hSw; (try dsimp only at hSw); obtain ⟨⟨c0', c1, -, -, -, -⟩, ⟨y0, y1⟩, -⟩ := hSw; go_simp <;> (try with_reducible rfl))
            try simp only [Act.put, List.setIfInBounds_toArray, List.set_cons_zero, List.set_cons_succ]
            refine wpAnyH_take (i := 5) (oi := ?rb6o) (v := ?rb6v) ?rb6h (by kernel_rfl) (by kernel_rfl) (by kernel_rfl) ?rb6q ?rb6y hHeld ?rb6r
            case rb6h => (simp only [List.getElem?_toArray, List.getElem?_cons_succ, List.getElem?_cons_zero]; rfl)
            case rb6q => exact fun _ _ _ h => h
            case rb6y => (refine Or.inl ⟨by first | kernel_rfl | rfl, ?_⟩; intro w hSw; (try dsimp only at hSw); obtain ⟨⟨c0', c1, -, -, -, -⟩, ⟨y0, y1⟩, -⟩ := hSw; go_simp <;> (try with_reducible rfl))
            try simp only [Act.put, List.setIfInBounds_toArray, List.set_cons_zero, List.set_cons_succ]
            refine wpAnyH_take (i := 6) (oi := ?rb7o) (v := ?rb7v) ?rb7h (by kernel_rfl) (by kernel_rfl) (by kernel_rfl) ?rb7q ?rb7y hHeld ?rb7r
            case rb7h => (simp only [List.getElem?_toArray, List.getElem?_cons_succ, List.getElem?_cons_zero]; rfl)
            case rb7q => exact fun _ _ _ h => h
            case rb7y => (refine Or.inl ⟨by first | kernel_rfl | rfl, ?_⟩; intro w hSw; (try dsimp only at hSw); obtain ⟨⟨c0', c1, -, -, -, -⟩, ⟨y0, y1⟩, -⟩ := hSw; go_simp <;> (try with_reducible rfl))
            try simp only [Act.put, List.setIfInBounds_toArray, List.set_cons_zero, List.set_cons_succ]
            refine wpAnyH_take (i := 7) (oi := ?rb8o) (v := ?rb8v) ?rb8h (by kernel_rfl) (by kernel_rfl) (by kernel_rfl) ?rb8q ?rb8y hHeld ?rb8r
            case rb8h => (simp only [List.getElem?_toArray, List.getElem?_cons_succ, List.getElem?_cons_zero]; rfl)
            case rb8q => exact fun _ _ _ h => h
            case rb8y => (refine Or.inl ⟨by first | kernel_rfl | rfl, ?_⟩; intro w hSw; (try dsimp only at hSw); obtain ⟨⟨c0', c1, -, -, -, -⟩, ⟨y0, y1⟩, -⟩ := hSw; go_simp <;> (try with_reducible rfl))
            try simp only [Act.put, List.setIfInBounds_toArray, List.set_cons_zero, List.set_cons_succ]
            refine wpAnyH_take (i := 8) (oi := ?rb9o) (v := ?rb9v) ?rb9h (by kernel_rfl) (by kernel_rfl) (by kernel_rfl) ?rb9q ?rb9y hHeld ?rb9r
            case rb9h => (simp only [List.getElem?_toArray, List.getElem?_cons_succ, List.getElem?_cons_zero]; rfl)
            case rb9q => exact fun _ _ _ h => h
            case rb9y => (refine Or.inl ⟨by first | kernel_rfl | rfl, ?_⟩; intro w hSw; (try dsimp only at hSw); obtain ⟨⟨c0', c1, -, -, -, -⟩, ⟨y0, y1⟩, -⟩ := hSw; go_simp <;> (try with_reducible rfl))
            try simp only [Act.put, List.setIfInBounds_toArray, List.set_cons_zero, List.set_cons_succ]
            refine wpAnyH_take (i := 9) (oi := ?rb10o) (v := ?rb10v) ?rb10h (by kernel_rfl) (by kernel_rfl) (by kernel_rfl) ?rb10q ?rb10y hHeld ?rb10r
            case rb10h => (simp only [List.getElem?_toArray, List.getElem?_cons_succ, List.getElem?_cons_zero]; rfl)
            case rb10q => exact fun _ _ _ h => h
            case rb10y => (refine Or.inl ⟨by first | kernel_rfl | rfl, ?_⟩; intro w hSw; (try dsimp only at hSw); obtain ⟨⟨c0', c1, -, -, -, -⟩, ⟨y0, y1⟩, -⟩ := hSw; go_simp <;> (try with_reducible rfl))
            try simp only [Act.put, List.setIfInBounds_toArray, List.set_cons_zero, List.set_cons_succ]
            refine wpAnyH_take (i := 10) (oi := ?rb11o) (v := ?rb11v) ?rb11h (by kernel_rfl) (by kernel_rfl) (by kernel_rfl) ?rb11q ?rb11y hHeld ?rb11r
            case rb11h => (simp only [List.getElem?_toArray, List.getElem?_cons_succ, List.getElem?_cons_zero]; rfl)
            case rb11q => exact fun _ _ _ h => h
            case rb11y => (refine Or.inl ⟨by first | kernel_rfl | rfl, ?_⟩; intro w hSw; (try dsimp only at hSw); obtain ⟨⟨c0', c1, -, -, -, -⟩, ⟨y0, y1⟩, -⟩ := hSw; go_simp <;> (try with_reducible rfl))
            try simp only [Act.put, List.setIfInBounds_toArray, List.set_cons_zero, List.set_cons_succ]
            refine wpAnyH_take (i := 11) (oi := ?rb12o) (v := undef) ?rb12h (by kernel_rfl) (by kernel_rfl) (by kernel_rfl) ?rb12q ?rb12y hHeld ?rb12r
            case rb12h => (simp only [List.getElem?_toArray, List.getElem?_cons_succ, List.getElem?_cons_zero]; rfl)
            case rb12q => exact fun _ _ _ h => h
            case rb12y => exact Or.inr ⟨by first | kernel_rfl | rfl, rfl⟩
            try simp only [Act.put, List.setIfInBounds_toArray, List.set_cons_zero, List.set_cons_succ]
            refine wpAnyH_take (i := 12) (oi := ?rb13o) (v := undef) ?rb13h (by kernel_rfl) (by kernel_rfl) (by kernel_rfl) ?rb13q ?rb13y hHeld ?rb13r
            case rb13h => (simp only [List.getElem?_toArray, List.getElem?_cons_succ, List.getElem?_cons_zero]; rfl)
            case rb13q => exact fun _ _ _ h => h
            case rb13y => exact Or.inr ⟨by first | kernel_rfl | rfl, rfl⟩
            try simp only [Act.put, List.setIfInBounds_toArray, List.set_cons_zero, List.set_cons_succ]
            refine wpAnyH_take (i := 13) (oi := ?rb14o) (v := undef) ?rb14h (by kernel_rfl) (by kernel_rfl) (by kernel_rfl) ?rb14q ?rb14y hHeld ?rb14r
            case rb14h => (simp only [List.getElem?_toArray, List.getElem?_cons_succ, List.getElem?_cons_zero]; rfl)
            case rb14q => exact fun _ _ _ h => h
            case rb14y => exact Or.inr ⟨by first | kernel_rfl | rfl, rfl⟩
            try simp only [Act.put, List.setIfInBounds_toArray, List.set_cons_zero, List.set_cons_succ]
            refine wpAnyH_take (i := 14) (oi := ?rb15o) (v := undef) ?rb15h (by kernel_rfl) (by kernel_rfl) (by kernel_rfl) ?rb15q ?rb15y hHeld ?rb15r
            case rb15h => (simp only [List.getElem?_toArray, List.getElem?_cons_succ, List.getElem?_cons_zero]; rfl)
            case rb15q => exact fun _ _ _ h => h
            case rb15y => exact Or.inr ⟨by first | kernel_rfl | rfl, rfl⟩
            try simp only [Act.put, List.setIfInBounds_toArray, List.set_cons_zero, List.set_cons_succ]
            refine wpAnyH_take (i := 15) (oi := ?rb16o) (v := undef) ?rb16h (by kernel_rfl) (by kernel_rfl) (by kernel_rfl) ?rb16q ?rb16y hHeld ?rb16r
            case rb16h => (simp only [List.getElem?_toArray, List.getElem?_cons_succ, List.getElem?_cons_zero]; rfl)
            case rb16q => exact fun _ _ _ h => h
            case rb16y => exact Or.inr ⟨by first | kernel_rfl | rfl, rfl⟩
            try simp only [Act.put, List.setIfInBounds_toArray, List.set_cons_zero, List.set_cons_succ]
            refine wpAnyH_take (i := 16) (oi := ?rb17o) (v := undef) ?rb17h (by kernel_rfl) (by kernel_rfl) (by kernel_rfl) ?rb17q ?rb17y hHeld ?rb17r
            case rb17h => (simp only [List.getElem?_toArray, List.getElem?_cons_succ, List.getElem?_cons_zero]; rfl)
            case rb17q => exact fun _ _ _ h => h
            case rb17y => exact Or.inr ⟨by first | kernel_rfl | rfl, rfl⟩
            try simp only [Act.put, List.setIfInBounds_toArray, List.set_cons_zero, List.set_cons_succ]
            refine wpAnyH_take (i := 17) (oi := ?rb18o) (v := undef) ?rb18h (by kernel_rfl) (by kernel_rfl) (by kernel_rfl) ?rb18q ?rb18y hHeld ?rb18r
            case rb18h => (simp only [List.getElem?_toArray, List.getElem?_cons_succ, List.getElem?_cons_zero]; rfl)
            case rb18q => exact fun _ _ _ h => h
            case rb18y => exact Or.inr ⟨by first | kernel_rfl | rfl, rfl⟩
            try simp only [Act.put, List.setIfInBounds_toArray, List.set_cons_zero, List.set_cons_succ]
            refine wpAnyH_take (i := 18) (oi := ?rb19o) (v := undef) ?rb19h (by kernel_rfl) (by kernel_rfl) (by kernel_rfl) ?rb19q ?rb19y hHeld ?rb19r
            case rb19h => (simp only [List.getElem?_toArray, List.getElem?_cons_succ, List.getElem?_cons_zero]; rfl)
            case rb19q => exact fun _ _ _ h => h
            case rb19y => exact Or.inr ⟨by first | kernel_rfl | rfl, rfl⟩
            try simp only [Act.put, List.setIfInBounds_toArray, List.set_cons_zero, List.set_cons_succ]
            refine wpAnyH_take (i := 19) (oi := ?rb20o) (v := ?rb20v) ?rb20h (by kernel_rfl) (by kernel_rfl) (by kernel_rfl) ?rb20q ?rb20y hHeld ?rb20r
            case rb20h => (simp only [List.getElem?_toArray, List.getElem?_cons_succ, List.getElem?_cons_zero]; rfl)
            case rb20q => exact fun _ _ _ h => h
            case rb20y => (refine Or.inl ⟨by first | kernel_rfl | rfl, ?_⟩; intro w hSw; (try dsimp only at hSw); obtain ⟨⟨c0', c1, -, -, -, -⟩, ⟨y0, y1⟩, -⟩ := hSw; go_simp <;> (try with_reducible rfl))
            try simp only [Act.put, List.setIfInBounds_toArray, List.set_cons_zero, List.set_cons_succ]
            refine wpAnyH_take (i := 20) (oi := ?rb21o) (v := ?rb21v) ?rb21h (by kernel_rfl) (by kernel_rfl) (by kernel_rfl) ?rb21q ?rb21y hHeld ?rb21r
            case rb21h => (simp only [List.getElem?_toArray, List.getElem?_cons_succ, List.getElem?_cons_zero]; rfl)
            case rb21q => exact fun _ _ _ h => h
            case rb21y => (refine Or.inl ⟨by first | kernel_rfl | rfl, ?_⟩; intro w hSw; (try dsimp only at hSw); obtain ⟨⟨c0', c1, -, -, -, -⟩, ⟨y0, y1⟩, -⟩ := hSw; go_simp <;> (try with_reducible rfl))
            try simp only [Act.put, List.setIfInBounds_toArray, List.set_cons_zero, List.set_cons_succ]
            refine wpAnyH_take (i := 21) (oi := ?rb22o) (v := undef) ?rb22h (by kernel_rfl) (by kernel_rfl) (by kernel_rfl) ?rb22q ?rb22y hHeld ?rb22r
            case rb22h => (simp only [List.getElem?_toArray, List.getElem?_cons_succ, List.getElem?_cons_zero]; rfl)
            case rb22q => exact fun _ _ _ h => h
            case rb22y => exact Or.inr ⟨by first | kernel_rfl | rfl, rfl⟩
            try simp only [Act.put, List.setIfInBounds_toArray, List.set_cons_zero, List.set_cons_succ]
            refine wpAnyH_take (i := 22) (oi := ?rb23o) (v := undef) ?rb23h (by kernel_rfl) (by kernel_rfl) (by kernel_rfl) ?rb23q ?rb23y hHeld ?rb23r
            case rb23h => (simp only [List.getElem?_toArray, List.getElem?_cons_succ, List.getElem?_cons_zero]; rfl)
            case rb23q => exact fun _ _ _ h => h
            case rb23y => exact Or.inr ⟨by first | kernel_rfl | rfl, rfl⟩
            try simp only [Act.put, List.setIfInBounds_toArray, List.set_cons_zero, List.set_cons_succ]
            refine wpAnyH_take (i := 23) (oi := ?rb24o) (v := undef) ?rb24h (by kernel_rfl) (by kernel_rfl) (by kernel_rfl) ?rb24q ?rb24y hHeld ?rb24r
            case rb24h => (simp only [List.getElem?_toArray, List.getElem?_cons_succ, List.getElem?_cons_zero]; rfl)
            case rb24q => exact fun _ _ _ h => h
            case rb24y => exact Or.inr ⟨by first | kernel_rfl | rfl, rfl⟩
            try simp only [Act.put, List.setIfInBounds_toArray, List.set_cons_zero, List.set_cons_succ]
            refine wpAnyH_take (i := 24) (oi := ?rb25o) (v := undef) ?rb25h (by kernel_rfl) (by kernel_rfl) (by kernel_rfl) ?rb25q ?rb25y hHeld ?rb25r
            case rb25h => (simp only [List.getElem?_toArray, List.getElem?_cons_succ, List.getElem?_cons_zero]; rfl)
            case rb25q => exact fun _ _ _ h => h
            case rb25y => exact Or.inr ⟨by first | kernel_rfl | rfl, rfl⟩
            try simp only [Act.put, List.setIfInBounds_toArray, List.set_cons_zero, List.set_cons_succ]
            refine wpAnyH_take (i := 25) (oi := ?rb26o) (v := undef) ?rb26h (by kernel_rfl) (by kernel_rfl) (by kernel_rfl) ?rb26q ?rb26y hHeld ?rb26r
            case rb26h => (simp only [List.getElem?_toArray, List.getElem?_cons_succ, List.getElem?_cons_zero]; rfl)
            case rb26q => exact fun _ _ _ h => h
            case rb26y => exact Or.inr ⟨by first | kernel_rfl | rfl, rfl⟩
            try simp only [Act.put, List.setIfInBounds_toArray, List.set_cons_zero, List.set_cons_succ]
            refine wpAnyH_take (i := 26) (oi := ?rb27o) (v := undef) ?rb27h (by kernel_rfl) (by kernel_rfl) (by kernel_rfl) ?rb27q ?rb27y hHeld ?rb27r
            case rb27h => (simp only [List.getElem?_toArray, List.getElem?_cons_succ, List.getElem?_cons_zero]; rfl)
            case rb27q => exact fun _ _ _ h => h
            case rb27y => exact Or.inr ⟨by first | kernel_rfl | rfl, rfl⟩
            try simp only [Act.put, List.setIfInBounds_toArray, List.set_cons_zero, List.set_cons_succ]
            refine wpAnyH_take (i := 27) (oi := ?rb28o) (v := undef) ?rb28h (by kernel_rfl) (by kernel_rfl) (by kernel_rfl) ?rb28q ?rb28y hHeld ?rb28r
            case rb28h => (simp only [List.getElem?_toArray, List.getElem?_cons_succ, List.getElem?_cons_zero]; rfl)
            case rb28q => exact fun _ _ _ h => h
            case rb28y => exact Or.inr ⟨by first | kernel_rfl | rfl, rfl⟩
            try simp only [Act.put, List.setIfInBounds_toArray, List.set_cons_zero, List.set_cons_succ]
            refine wpAnyH_take (i := 28) (oi := ?rb29o) (v := undef) ?rb29h (by kernel_rfl) (by kernel_rfl) (by kernel_rfl) ?rb29q ?rb29y hHeld ?rb29r
            case rb29h => (simp only [List.getElem?_toArray, List.getElem?_cons_succ, List.getElem?_cons_zero]; rfl)
            case rb29q => exact fun _ _ _ h => h
            case rb29y => exact Or.inr ⟨by first | kernel_rfl | rfl, rfl⟩
            try simp only [Act.put, List.setIfInBounds_toArray, List.set_cons_zero, List.set_cons_succ]
            refine wpAnyH_take (i := 29) (oi := ?rb30o) (v := ?rb30v) ?rb30h (by kernel_rfl) (by kernel_rfl) (by kernel_rfl) ?rb30q ?rb30y hHeld ?rb30r
            case rb30h => (simp only [List.getElem?_toArray, List.getElem?_cons_succ, List.getElem?_cons_zero]; rfl)
            case rb30q => exact fun _ _ _ h => h
            case rb30y => (refine Or.inl ⟨by first | kernel_rfl | rfl, ?_⟩; intro w hSw; (try dsimp only at hSw); obtain ⟨⟨c0', c1, -, -, -, -⟩, ⟨y0, y1⟩, -⟩ := hSw; go_simp <;> (try with_reducible rfl))
            try simp only [Act.put, List.setIfInBounds_toArray, List.set_cons_zero, List.set_cons_succ]
            refine wpAnyH_done (by kernel_rfl) ?_ _
            have HH := Lib.hid hHeld
            clear hHeld
            go_wp2
            go_roundw
            case rel => exact ⟨k + 1, r, a5, c5, o, by omega, by omega, by go_num, rfl, HN, HR, HROW.out.later ((Below.refl _ _).drew), HH.out.s, HH.out.bel⟩
            case measure => simp [intOf]; omega
    · have hlti : ¬ (k : Int) < (l.length : Int) := by omega
      have HE := Lib.hid (show o = rangeL l s' f t by
        rw [HO.out, List.take_of_length_le (by omega)]
        unfold rangeL; rw [HY.out])
      clear hrow hB hA1
      go_wp2
      go_ret
      exact ⟨_, rfl, by rw [← HE.out]; exact HROW.out.base (by have := HTE.out; omega), HB.out⟩
set_option maxHeartbeats 4000000 in
theorem same_texts (a0 b0 : Option Addr) (c d B C n : Nat) (l : List ByteArray) (w : World) (hn : l.length = n) (ha : NRow w B (.slice a0 n c) l) (hb : NRow w C (.slice b0 n d) l) (hl : n ≤ 900000) : Calls Tryd.prog 24 #[.slice a0 n c, .slice b0 n d] w fun e w' => e = .returned (.bool true) ∧ Below w.heap.size w w' := by
  have HA := Lib.hid ha
  have HBB := Lib.hid hb
  have HN := Lib.hid hn
  have hnn : ((n : Int) != (n : Int)) = false := by simp
  clear ha hb hn
  go_enter Tryd.func24, Tryd.ntmps24
  go_wp2
  go_loopw [5] (fun i wr => ∃ (k : Nat), k ≤ n ∧ i = .int .i64 (k : Int) ∧ Below w.heap.size w wr) (fun i _ => n - (intOf i).toNat)
  case atStart => exact ⟨0, by omega, rfl, Below.refl _ _⟩
  case round =>
    obtain ⟨k, hk, rfl, hB⟩ := hrel
    by_cases hlt : k < n
    · have hlti : (k : Int) < (n : Int) := by omega
      have hkl : k < l.length := by rw [HN.out]; exact hlt
      obtain ⟨g, rfl, hg, hx⟩ := HA.out.at_ (by omega)
      obtain ⟨g2, rfl, hg2, hx2⟩ := HBB.out.at_ (by omega)
      have x0 := (hB.cell (p := ⟨g, k, none⟩) hg).trans (hx k hkl)
      have x1 := (hB.cell (p := ⟨g2, k, none⟩) hg2).trans (hx2 k hkl)
      obtain ⟨y, hy⟩ : ∃ y, l[k] = y := ⟨_, rfl⟩
      rw [hy] at x0 x1
      have hyy : (y.toList != y.toList) = false := by simp
      clear hx hx2 hy
      go_wp2_with fail
      go_quiet (fail)
      go_wp2
      go_roundw
      case rel => exact ⟨k + 1, by omega, by go_num, by first | exact hB | exact hB.drew | exact below_drewN hB _⟩
      case measure => simp [intOf]; omega
    · have hlti : ¬ (k : Int) < (n : Int) := by omega
      go_wp2
      go_ret
      exact ⟨rfl, hB⟩
end Go.Proofs.YtkomfenjeoaelaaDoor
