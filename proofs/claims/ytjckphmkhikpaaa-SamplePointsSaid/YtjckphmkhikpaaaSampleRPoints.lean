/- The contract of the document's Points. -/
import Derived.Test.YtjckphmkhikpaaaSamplePPoints
set_option maxRecDepth 20000
namespace Go.Proofs.Ytjckphmkhikpaaa
open Go.RowKit Go.Proofs.Ytjckphmkhikpaaa.Vi Go.Proofs.Ytjckphmkhikpaaa.Mk

/-- Held while a region draws: a point of a slice. -/
structure QHeld (w : World) (b o : Nat) (p : Pt) (w' : World) : Prop where
  at_ : PtO w' b o p
  bel : Below w.heap.size w w'
theorem QHeld.keep {w w1 w2 : World} {b o : Nat} {p : Pt} (h : QHeld w b o p w1) (k : Below w1.heap.size w1 w2) : QHeld w b o p w2 := ⟨h.at_.below k h.at_.room, bel_next h.bel k⟩
theorem QHeld.drew {w w1 : World} {b o : Nat} {p : Pt} (h : QHeld w b o p w1) : QHeld w b o p w1.drew := h.keep ((Below.refl _ _).drew)

set_option maxHeartbeats 8000000 in
theorem rpoints_is (a0 : Option Addr) (cap0 : Nat) (l : List Pt) (w : World) (hS : Pts w w.heap.size a0 l) (hl : l.length ≤ 100000) (hf : ∀ p ∈ l, p.s.size ≤ 1000000 ∧ p.vfit) : Calls Try.prog 28 #[.slice a0 l.length cap0] w (PointsDone l w) := by
  have HS := Lib.hid hS
  have HF := Lib.hid hf
  clear hS hf
  unfold PointsDone
  go_enter Try.func28, Try.ntmps28
  go_wp2
  go_loopw [4] (fun i wr => ∃ (k : Nat), k ≤ l.length ∧ i = .int .i64 (k : Int) ∧ Below w.heap.size w wr ∧ Hid (∀ j (hj : j < l.length), j < k → (l[j]).ok = true)) (fun i _ => l.length - (intOf i).toNat)
  case atStart => exact ⟨0, by omega, rfl, Below.refl _ _, Lib.hid fun j _ hj => absurd hj (Nat.not_lt_zero _)⟩
  case round =>
    obtain ⟨k, hk, rfl, hB, hall⟩ := hrel
    by_cases hlt : k < l.length
    · have hlti : (k : Int) < (l.length : Int) := by omega
      rcases HS.out.at_ with rfl | ⟨b, off, rfl, hbw, hc⟩
      · simp at hlt
      · have hA := (hc k hlt).below hB hbw
        have hf := HF.out _ (List.getElem_mem hlt)
        have HNO := Lib.hid (fun (h : (l[k]).ok = false) => ptsA_no hlt h)
        have HGO := Lib.hid (fun (h : (l[k]).ok = true) => show ∀ j (hj : j < l.length), j < k + 1 → (l[j]).ok = true from fun j hj hjk => by
          by_cases e : j = k
          · subst e; exact h
          · exact hall.out j hj (by omega))
        obtain ⟨p, hp⟩ : ∃ p, l[k] = p := ⟨_, rfl⟩
        rw [hp] at hA hf HNO HGO
        obtain ⟨c0, c1, c2, c3, c4, c5⟩ := hA
        have kc := fun w => rcheckp_is p w (by omega)
        unfold Pt.err at kc
        unfold ptV at kc
        have HBH := Lib.hid hB
        clear hc hp hall hB hf
        cases hok : p.ok with
        | true =>
          have HH := Lib.hid (HGO.out hok)
          rw [hok] at kc
          clear HGO HNO hok
          go_wp2_with (go_at_call 34; (with_reducible refine (kc _).mono ?_); rintro e w1 ⟨rfl, hb1⟩)
          go_roundw
          case rel => exact ⟨k + 1, by omega, by go_num, HBH.out.trans (hb1.mono HBH.out.size), HH⟩
          case measure => simp [intOf]; omega
        | false =>
          have HH := Lib.hid (HNO.out hok)
          rw [hok] at kc
          clear HGO HNO hok
          go_wp2_with (go_at_call 34; (with_reducible refine (kc _).mono ?_); rintro e w1 ⟨rfl, hb1⟩)
          go_ret2
          exact ⟨by rw [HH.out]; rfl, HBH.out.trans (hb1.mono HBH.out.size)⟩
    · have hlti : ¬ (k : Int) < (l.length : Int) := by omega
      have hall2 : ∀ j (hj : j < l.length), (l[j]).ok = true := fun j hj => hall.out j hj (by omega)
      have HBH := Lib.hid hB
      clear hB hall
      by_cases hn : 1000 < l.length
      · have hni : (1000 : Int) < (l.length : Int) := by omega
        have HH := Lib.hid (ptsA_many hall2 hn)
        clear hall2
        go_wp2
        go_ret2
        exact ⟨by rw [HH.out]; rfl, HBH.out⟩
      · have hni : ¬ (1000 : Int) < (l.length : Int) := by omega
        have HH := Lib.hid (ptsA_yes hall2 hn)
        have HOK := Lib.hid (fun p (hp : p ∈ l) => (⟨by obtain ⟨j, hj, rfl⟩ := List.getElem_of_mem hp; exact hall2 j hj, (HF.out p hp).2⟩ : p.ok = true ∧ p.vfit))
        clear hall2
        obtain ⟨w3, hw3⟩ : ∃ x, x = wr := ⟨_, rfl⟩
        subst hw3
        have hu : IntKind.u64.wrap (l.length : Int) = (l.length : Int) := by rw [IntKind.wrap_u64]; omega
        obtain ⟨h0, hh0⟩ : ∃ s, tx (enc l.length) = s := ⟨_, rfl⟩
        have kp := fun w => refPut_is l.length h0 w (by omega) (Lib.hid hh0)
        have HH0 := Lib.hid (show tx (enc l.length ++ bytesP (l.take 0)) = h0 by rw [← hh0]; simp [bytesP])
        clear hh0
        go_wp2_with (first
          | (go_at_call 40; (with_reducible refine (kp _).mono ?_); rintro e w4 ⟨rfl, hb4⟩))
        have HB5 := Lib.hid hb4
        clear hb4
        go_loopw [5, 6] (fun v i wr => ∃ (k : Nat) (s : ByteArray), k ≤ l.length ∧ i = .int .i64 (k : Int) ∧ v = .string s ∧ Hid (tx (enc l.length ++ bytesP (l.take k)) = s) ∧ Below w3.heap.size w3 wr) (fun _ i _ => l.length - (intOf i).toNat)
        case atStart => exact ⟨0, h0, by omega, rfl, rfl, HH0, HB5.out⟩
        case round =>
          obtain ⟨k, s, hk, rfl, rfl, hs, hB⟩ := hrel
          clear HH0 HB5
          by_cases hkl : k < l.length
          · have hlti : (k : Int) < (l.length : Int) := by omega
            rcases HS.out.at_ with hl0 | ⟨b, off, rfl, hbw, hc⟩
            · rw [hl0] at hkl; simp at hkl
            · have hA := ((hc k hkl).below HBH.out hbw).below hB (Nat.lt_of_lt_of_le hbw HBH.out.size)
              have hf := HOK.out _ (List.getElem_mem hkl)
              have hlen := bytesP_take_len l k HOK.out (by omega)
              have hsn := bytesP_snoc' l k hkl
              obtain ⟨p, hp⟩ : ∃ p, l[k] = p := ⟨_, rfl⟩
              rw [hp] at hA hf hsn
              have hss : s.size ≤ 120000 := by
                have := enc_len10 l.length (by omega)
                rw [← hs.out, tx_size, List.length_append]; omega
              obtain ⟨hpo, hv⟩ := hf
              obtain ⟨hnm, ⟨t1, t2⟩, hst⟩ := Pt.ok_parts hpo
              have hn40 := name_len hnm
              obtain ⟨A1, hA1⟩ : ∃ s, ahead p.s = s := ⟨_, rfl⟩
              have k1 := fun w => refText_is p.s A1 w (by omega) (Lib.hid hA1)
              have z1 : A1.size ≤ 50 := by
                have := enc_len10 p.s.size (by omega)
                rw [← hA1]; unfold ahead; rw [tx_size, List.length_append]; simp; omega
              obtain ⟨A2, hA2⟩ : ∃ s, tx (enc p.t.toNat) = s := ⟨_, rfl⟩
              have k2 := fun w => putIntR p.t A2 w t1 t2 (Lib.hid hA2)
              have z2 : A2.size ≤ 10 := by rw [← hA2, tx_size]; exact enc_len10 _ (by omega)
              obtain ⟨A3, hA3⟩ : ∃ s, tx (enc (zig p.v).toNat) = s := ⟨_, rfl⟩
              have kz := fun w => refZig_any p.v w hv.1 hv.2
              have k3 := fun w => zputR p.v A3 w hv (Lib.hid hA3)
              obtain ⟨v1, v2⟩ := zig_bounds p.v hv.1 hv.2
              have z3 : A3.size ≤ 10 := by rw [← hA3, tx_size]; exact enc_len10 _ (by omega)
              obtain ⟨B1, hB1⟩ : ∃ s, tx p.st.bytes = s := ⟨_, rfl⟩
              have k4 := fun w => rbytes_is p.st B1 w (Lib.hid hB1)
              have z4 : B1.size ≤ 30 := by rw [← hB1, tx_size]; exact st_bytes_len _
              have ut : IntKind.u64.wrap p.t = p.t := u64_in p.t t1 t2
              obtain ⟨X1, hX1⟩ : ∃ sz, s ++ A1 = sz := ⟨_, rfl⟩
              have yX1 : X1.size = s.size + A1.size := by rw [← hX1]; simp
              have pX1 : s.size + A1.size ≤ 9223372036854775807 := by omega
              have qX1 : ¬ 9223372036854775807 < s.size + A1.size := by omega
              obtain ⟨X2, hX2⟩ : ∃ sz, X1 ++ A2 = sz := ⟨_, rfl⟩
              have yX2 : X2.size = X1.size + A2.size := by rw [← hX2]; simp
              have pX2 : X1.size + A2.size ≤ 9223372036854775807 := by omega
              have qX2 : ¬ 9223372036854775807 < X1.size + A2.size := by omega
              obtain ⟨X3, hX3⟩ : ∃ sz, X2 ++ A3 = sz := ⟨_, rfl⟩
              have yX3 : X3.size = X2.size + A3.size := by rw [← hX3]; simp
              have pX3 : X2.size + A3.size ≤ 9223372036854775807 := by omega
              have qX3 : ¬ 9223372036854775807 < X2.size + A3.size := by omega
              obtain ⟨X4, hX4⟩ : ∃ sz, X3 ++ B1 = sz := ⟨_, rfl⟩
              have yX4 : X4.size = X3.size + B1.size := by rw [← hX4]; simp
              have pX4 : X3.size + B1.size ≤ 9223372036854775807 := by omega
              have qX4 : ¬ 9223372036854775807 < X3.size + B1.size := by omega
              have hfin : tx (enc l.length ++ bytesP (l.take (k + 1))) = X4 := by
                have e1 : ahead p.s = tx (enc p.s.size ++ p.s.data.toList) := rfl
                rw [hsn, ← hX4, ← hX3, ← hX2, ← hX1, ← hs.out, ← hA1, e1, ← hA2, ← hA3, ← hB1, tx_app, tx_app, tx_app, tx_app]
                unfold Pt.bytes
                simp only [List.append_assoc]
              have HX := Lib.hid hfin
              have HBB := Lib.hid hB
              generalize zig p.v = zz at *
              have hH : QHeld wr b (off + k * 6) p wr := ⟨hA, Below.refl _ _⟩
              clear hc hp hlen hsn hs hfin hA1 hA2 hA3 hB1 z1 z2 z3 z4 hnm hn40 v1 v2 hv hpo hst t1 t2 yX1 yX2 yX3 yX4 hA hB hss
              go_wp2_with fail
              refine wp_region_held_drew (S := (QHeld wr b (off + k * 6) p)) (by kernel_rfl) hH.drew (fun hHeld => ?_)
              refine wpAnyH_take (i := 0) (oi := ?op1o) (v := ?op1v) ?op1h (by kernel_rfl) (by kernel_rfl) (by kernel_rfl) ?op1q ?op1y hHeld ?op1r
              case op1h => (simp only [List.getElem?_toArray, List.getElem?_cons_zero]; rfl)
              case op1q => exact fun _ _ _ h => h
              case op1y => (refine Or.inl ⟨by first | kernel_rfl | rfl, ?_⟩; intro w hSw; (try dsimp only at hSw); obtain ⟨⟨x0, x1, x2, x3, x4, x5⟩, -⟩ := hSw; go_simp <;> (try with_reducible rfl))
              try simp only [Act.put, List.setIfInBounds_toArray, List.set_cons_zero, List.set_cons_succ]
              refine wpAnyH_take (i := 1) (oi := ?op2o) (v := ?op2v) ?op2h (by kernel_rfl) (by kernel_rfl) (by kernel_rfl) ?op2q ?op2y hHeld ?op2r
              case op2h => (simp only [List.getElem?_toArray, List.getElem?_cons_succ, List.getElem?_cons_zero]; rfl)
              case op2q => exact fun _ _ _ h => h
              case op2y => (refine Or.inl ⟨by first | kernel_rfl | rfl, ?_⟩; intro w hSw; (try dsimp only at hSw); obtain ⟨⟨x0, x1, x2, x3, x4, x5⟩, -⟩ := hSw; go_simp <;> (try with_reducible rfl))
              try simp only [Act.put, List.setIfInBounds_toArray, List.set_cons_zero, List.set_cons_succ]
              refine wpAnyH_take (i := 2) (oi := ?op3o) (v := ?op3v) ?op3h (by kernel_rfl) (by kernel_rfl) (by kernel_rfl) ?op3q ?op3y hHeld ?op3r
              case op3h => (simp only [List.getElem?_toArray, List.getElem?_cons_succ, List.getElem?_cons_zero]; rfl)
              case op3q => exact fun _ _ _ h => h
              case op3y => (refine Or.inl ⟨by first | kernel_rfl | rfl, ?_⟩; intro w hSw; (try dsimp only at hSw); obtain ⟨⟨x0, x1, x2, x3, x4, x5⟩, -⟩ := hSw; go_simp <;> (try with_reducible rfl))
              try simp only [Act.put, List.setIfInBounds_toArray, List.set_cons_zero, List.set_cons_succ]
              refine wpAnyH_take (i := 3) (oi := ?op4o) (v := ?op4v) ?op4h (by kernel_rfl) (by kernel_rfl) (by kernel_rfl) ?op4q ?op4y hHeld ?op4r
              case op4h => (simp only [List.getElem?_toArray, List.getElem?_cons_succ, List.getElem?_cons_zero]; rfl)
              case op4q => exact fun _ _ _ h => h
              case op4y => (refine Or.inl ⟨by first | kernel_rfl | rfl, ?_⟩; intro w hSw; (try dsimp only at hSw); obtain ⟨⟨x0, x1, x2, x3, x4, x5⟩, -⟩ := hSw; go_simp <;> (try with_reducible rfl))
              try simp only [Act.put, List.setIfInBounds_toArray, List.set_cons_zero, List.set_cons_succ]
              refine wpAnyH_take (i := 4) (oi := ?op5o) (v := ?op5v) ?op5h (by kernel_rfl) (by kernel_rfl) (by kernel_rfl) ?op5q ?op5y hHeld ?op5r
              case op5h => (simp only [List.getElem?_toArray, List.getElem?_cons_succ, List.getElem?_cons_zero]; rfl)
              case op5q => exact fun _ _ _ h => h
              case op5y => (refine Or.inl ⟨by first | kernel_rfl | rfl, ?_⟩; intro w hSw; (try dsimp only at hSw); obtain ⟨⟨x0, x1, x2, x3, x4, x5⟩, -⟩ := hSw; go_simp <;> (try with_reducible rfl))
              try simp only [Act.put, List.setIfInBounds_toArray, List.set_cons_zero, List.set_cons_succ]
              refine wpAnyH_take (i := 5) (oi := ?op6o) (v := ?op6v) ?op6h (by kernel_rfl) (by kernel_rfl) (by kernel_rfl) ?op6q ?op6y hHeld ?op6r
              case op6h => (simp only [List.getElem?_toArray, List.getElem?_cons_succ, List.getElem?_cons_zero]; rfl)
              case op6q => exact fun _ _ _ h => h
              case op6y => (refine Or.inl ⟨by first | kernel_rfl | rfl, ?_⟩; intro w hSw; (try dsimp only at hSw); obtain ⟨⟨x0, x1, x2, x3, x4, x5⟩, -⟩ := hSw; go_simp <;> (try with_reducible rfl))
              try simp only [Act.put, List.setIfInBounds_toArray, List.set_cons_zero, List.set_cons_succ]
              refine wpAnyH_take (i := 8) (oi := ?op7o) (v := ?op7v) ?op7h (by kernel_rfl) (by kernel_rfl) (by kernel_rfl) ?op7q ?op7y hHeld ?op7r
              case op7h => (simp only [List.getElem?_toArray, List.getElem?_cons_succ, List.getElem?_cons_zero]; rfl)
              case op7q => exact fun _ _ _ h => h
              case op7y => (refine Or.inl ⟨by first | kernel_rfl | rfl, ?_⟩; intro w hSw; (try dsimp only at hSw); obtain ⟨⟨x0, x1, x2, x3, x4, x5⟩, -⟩ := hSw; go_simp <;> (try with_reducible rfl))
              try simp only [Act.put, List.setIfInBounds_toArray, List.set_cons_zero, List.set_cons_succ]
              refine wpAnyH_take (i := 9) (oi := ?op8o) (v := ?op8v) ?op8h (by kernel_rfl) (by kernel_rfl) (by kernel_rfl) ?op8q ?op8y hHeld ?op8r
              case op8h => (simp only [List.getElem?_toArray, List.getElem?_cons_succ, List.getElem?_cons_zero]; rfl)
              case op8q => exact fun _ _ _ h => h
              case op8y => (refine Or.inl ⟨by first | kernel_rfl | rfl, ?_⟩; intro w hSw; (try dsimp only at hSw); obtain ⟨⟨x0, x1, x2, x3, x4, x5⟩, -⟩ := hSw; go_simp <;> (try with_reducible rfl))
              try simp only [Act.put, List.setIfInBounds_toArray, List.set_cons_zero, List.set_cons_succ]
              refine wpAnyH_take (i := 10) (oi := ?op9o) (v := ?op9v) ?op9h (by kernel_rfl) (by kernel_rfl) (by kernel_rfl) ?op9q ?op9y hHeld ?op9r
              case op9h => (simp only [List.getElem?_toArray, List.getElem?_cons_succ, List.getElem?_cons_zero]; rfl)
              case op9q => exact fun _ _ _ h => h
              case op9y => (refine Or.inl ⟨by first | kernel_rfl | rfl, ?_⟩; intro w hSw; (try dsimp only at hSw); obtain ⟨⟨x0, x1, x2, x3, x4, x5⟩, -⟩ := hSw; go_simp <;> (try with_reducible rfl))
              try simp only [Act.put, List.setIfInBounds_toArray, List.set_cons_zero, List.set_cons_succ]
              refine wpAnyH_take (i := 11) (oi := ?op10o) (v := ?op10v) ?op10h (by kernel_rfl) (by kernel_rfl) (by kernel_rfl) ?op10q ?op10y hHeld ?op10r
              case op10h => (simp only [List.getElem?_toArray, List.getElem?_cons_succ, List.getElem?_cons_zero]; rfl)
              case op10q => exact fun _ _ _ h => h
              case op10y => (refine Or.inl ⟨by first | kernel_rfl | rfl, ?_⟩; intro w hSw; (try dsimp only at hSw); obtain ⟨⟨x0, x1, x2, x3, x4, x5⟩, -⟩ := hSw; go_simp <;> (try with_reducible rfl))
              try simp only [Act.put, List.setIfInBounds_toArray, List.set_cons_zero, List.set_cons_succ]
              refine wpAnyH_take (i := 12) (oi := ?op11o) (v := ?op11v) ?op11h (by kernel_rfl) (by kernel_rfl) (by kernel_rfl) ?op11q ?op11y hHeld ?op11r
              case op11h => (simp only [List.getElem?_toArray, List.getElem?_cons_succ, List.getElem?_cons_zero]; rfl)
              case op11q => exact fun _ _ _ h => h
              case op11y => (refine Or.inl ⟨by first | kernel_rfl | rfl, ?_⟩; intro w hSw; (try dsimp only at hSw); obtain ⟨⟨x0, x1, x2, x3, x4, x5⟩, -⟩ := hSw; go_simp <;> (try with_reducible rfl))
              try simp only [Act.put, List.setIfInBounds_toArray, List.set_cons_zero, List.set_cons_succ]
              refine wpAnyH_take (i := 13) (oi := ?op12o) (v := ?op12v) ?op12h (by kernel_rfl) (by kernel_rfl) (by kernel_rfl) ?op12q ?op12y hHeld ?op12r
              case op12h => (simp only [List.getElem?_toArray, List.getElem?_cons_succ, List.getElem?_cons_zero]; rfl)
              case op12q => exact fun _ _ _ h => h
              case op12y => (refine Or.inl ⟨by first | kernel_rfl | rfl, ?_⟩; intro w hSw; (try dsimp only at hSw); obtain ⟨⟨x0, x1, x2, x3, x4, x5⟩, -⟩ := hSw; go_simp <;> (try with_reducible rfl))
              try simp only [Act.put, List.setIfInBounds_toArray, List.set_cons_zero, List.set_cons_succ]
              refine wpAnyH_take (i := 16) (oi := ?op13o) (v := ?op13v) ?op13h (by kernel_rfl) (by kernel_rfl) (by kernel_rfl) ?op13q ?op13y hHeld ?op13r
              case op13h => (simp only [List.getElem?_toArray, List.getElem?_cons_succ, List.getElem?_cons_zero]; rfl)
              case op13q => exact fun _ _ _ h => h
              case op13y => (refine Or.inl ⟨by first | kernel_rfl | rfl, ?_⟩; intro w hSw; (try dsimp only at hSw); obtain ⟨⟨x0, x1, x2, x3, x4, x5⟩, -⟩ := hSw; go_simp <;> (try with_reducible rfl))
              try simp only [Act.put, List.setIfInBounds_toArray, List.set_cons_zero, List.set_cons_succ]
              refine wpAnyH_take (i := 17) (oi := ?op14o) (v := ?op14v) ?op14h (by kernel_rfl) (by kernel_rfl) (by kernel_rfl) ?op14q ?op14y hHeld ?op14r
              case op14h => (simp only [List.getElem?_toArray, List.getElem?_cons_succ, List.getElem?_cons_zero]; rfl)
              case op14q => exact fun _ _ _ h => h
              case op14y => (refine Or.inl ⟨by first | kernel_rfl | rfl, ?_⟩; intro w hSw; (try dsimp only at hSw); obtain ⟨⟨x0, x1, x2, x3, x4, x5⟩, -⟩ := hSw; go_simp <;> (try with_reducible rfl))
              try simp only [Act.put, List.setIfInBounds_toArray, List.set_cons_zero, List.set_cons_succ]
              refine wpAnyH_take (i := 18) (oi := ?op15o) (v := ?op15v) ?op15h (by kernel_rfl) (by kernel_rfl) (by kernel_rfl) ?op15q ?op15y hHeld ?op15r
              case op15h => (simp only [List.getElem?_toArray, List.getElem?_cons_succ, List.getElem?_cons_zero]; rfl)
              case op15q => exact fun _ _ _ h => h
              case op15y => (refine Or.inl ⟨by first | kernel_rfl | rfl, ?_⟩; intro w hSw; (try dsimp only at hSw); obtain ⟨⟨x0, x1, x2, x3, x4, x5⟩, -⟩ := hSw; go_simp <;> (try with_reducible rfl))
              try simp only [Act.put, List.setIfInBounds_toArray, List.set_cons_zero, List.set_cons_succ]
              refine wpAnyH_take (i := 19) (oi := ?op16o) (v := ?op16v) ?op16h (by kernel_rfl) (by kernel_rfl) (by kernel_rfl) ?op16q ?op16y hHeld ?op16r
              case op16h => (simp only [List.getElem?_toArray, List.getElem?_cons_succ, List.getElem?_cons_zero]; rfl)
              case op16q => exact fun _ _ _ h => h
              case op16y => (refine Or.inl ⟨by first | kernel_rfl | rfl, ?_⟩; intro w hSw; (try dsimp only at hSw); obtain ⟨⟨x0, x1, x2, x3, x4, x5⟩, -⟩ := hSw; go_simp <;> (try with_reducible rfl))
              try simp only [Act.put, List.setIfInBounds_toArray, List.set_cons_zero, List.set_cons_succ]
              refine wpAnyH_take (i := 20) (oi := ?op17o) (v := ?op17v) ?op17h (by kernel_rfl) (by kernel_rfl) (by kernel_rfl) ?op17q ?op17y hHeld ?op17r
              case op17h => (simp only [List.getElem?_toArray, List.getElem?_cons_succ, List.getElem?_cons_zero]; rfl)
              case op17q => exact fun _ _ _ h => h
              case op17y => (refine Or.inl ⟨by first | kernel_rfl | rfl, ?_⟩; intro w hSw; (try dsimp only at hSw); obtain ⟨⟨x0, x1, x2, x3, x4, x5⟩, -⟩ := hSw; go_simp <;> (try with_reducible rfl))
              try simp only [Act.put, List.setIfInBounds_toArray, List.set_cons_zero, List.set_cons_succ]
              refine wpAnyH_take (i := 24) (oi := ?op18o) (v := ?op18v) ?op18h (by kernel_rfl) (by kernel_rfl) (by kernel_rfl) ?op18q ?op18y hHeld ?op18r
              case op18h => (simp only [List.getElem?_toArray, List.getElem?_cons_succ, List.getElem?_cons_zero]; rfl)
              case op18q => exact fun _ _ _ h => h
              case op18y => (refine Or.inl ⟨by first | kernel_rfl | rfl, ?_⟩; intro w hSw; (try dsimp only at hSw); obtain ⟨⟨x0, x1, x2, x3, x4, x5⟩, -⟩ := hSw; go_simp <;> (try with_reducible rfl))
              try simp only [Act.put, List.setIfInBounds_toArray, List.set_cons_zero, List.set_cons_succ]
              refine wpAnyH_take (i := 25) (oi := ?op19o) (v := ?op19v) ?op19h (by kernel_rfl) (by kernel_rfl) (by kernel_rfl) ?op19q ?op19y hHeld ?op19r
              case op19h => (simp only [List.getElem?_toArray, List.getElem?_cons_succ, List.getElem?_cons_zero]; rfl)
              case op19q => exact fun _ _ _ h => h
              case op19y => (refine Or.inl ⟨by first | kernel_rfl | rfl, ?_⟩; intro w hSw; (try dsimp only at hSw); obtain ⟨⟨x0, x1, x2, x3, x4, x5⟩, -⟩ := hSw; go_simp <;> (try with_reducible rfl))
              try simp only [Act.put, List.setIfInBounds_toArray, List.set_cons_zero, List.set_cons_succ]
              refine wpAnyH_take (i := 26) (oi := ?op20o) (v := ?op20v) ?op20h (by kernel_rfl) (by kernel_rfl) (by kernel_rfl) ?op20q ?op20y hHeld ?op20r
              case op20h => (simp only [List.getElem?_toArray, List.getElem?_cons_succ, List.getElem?_cons_zero]; rfl)
              case op20q => exact fun _ _ _ h => h
              case op20y => (refine Or.inl ⟨by first | kernel_rfl | rfl, ?_⟩; intro w hSw; (try dsimp only at hSw); obtain ⟨⟨x0, x1, x2, x3, x4, x5⟩, -⟩ := hSw; go_simp <;> (try with_reducible rfl))
              try simp only [Act.put, List.setIfInBounds_toArray, List.set_cons_zero, List.set_cons_succ]
              refine wpAnyH_take (i := 27) (oi := ?op21o) (v := ?op21v) ?op21h (by kernel_rfl) (by kernel_rfl) (by kernel_rfl) ?op21q ?op21y hHeld ?op21r
              case op21h => (simp only [List.getElem?_toArray, List.getElem?_cons_succ, List.getElem?_cons_zero]; rfl)
              case op21q => exact fun _ _ _ h => h
              case op21y => (refine Or.inl ⟨by first | kernel_rfl | rfl, ?_⟩; intro w hSw; (try dsimp only at hSw); obtain ⟨⟨x0, x1, x2, x3, x4, x5⟩, -⟩ := hSw; go_simp <;> (try with_reducible rfl))
              try simp only [Act.put, List.setIfInBounds_toArray, List.set_cons_zero, List.set_cons_succ]
              refine wpAnyH_take (i := 28) (oi := ?op22o) (v := ?op22v) ?op22h (by kernel_rfl) (by kernel_rfl) (by kernel_rfl) ?op22q ?op22y hHeld ?op22r
              case op22h => (simp only [List.getElem?_toArray, List.getElem?_cons_succ, List.getElem?_cons_zero]; rfl)
              case op22q => exact fun _ _ _ h => h
              case op22y => (refine Or.inl ⟨by first | kernel_rfl | rfl, ?_⟩; intro w hSw; (try dsimp only at hSw); obtain ⟨⟨x0, x1, x2, x3, x4, x5⟩, -⟩ := hSw; go_simp <;> (try with_reducible rfl))
              try simp only [Act.put, List.setIfInBounds_toArray, List.set_cons_zero, List.set_cons_succ]
              refine wpAnyH_ready (rs := [6]) (by kernel_rfl) (by simp) ?_
              refine (AllReadyH.cons rfl (fun K hK => ?_) AllReadyH.nil)
              go_simp
              ((with_reducible refine (k1 _).mono ?_); rintro e w' ⟨rfl, hb'⟩)
              refine hK.out _ _ (hHeld.keep hb') (fun hHeld => ?_)
              clear hK K
              try simp only [Act.put, List.setIfInBounds_toArray, List.set_cons_zero, List.set_cons_succ]
              refine wpAnyH_take (i := 7) (oi := ?op23o) (v := ?op23v) ?op23h (by kernel_rfl) (by kernel_rfl) (by kernel_rfl) ?op23q ?op23y hHeld ?op23r
              case op23h => (simp only [List.getElem?_toArray, List.getElem?_cons_succ, List.getElem?_cons_zero]; rfl)
              case op23q => exact fun _ _ _ h => h
              case op23y => (refine Or.inl ⟨by first | kernel_rfl | rfl, ?_⟩; intro w hSw; (try dsimp only at hSw); obtain ⟨⟨x0, x1, x2, x3, x4, x5⟩, -⟩ := hSw; go_simp <;> (try with_reducible rfl))
              try simp only [Act.put, List.setIfInBounds_toArray, List.set_cons_zero, List.set_cons_succ]
              refine wpAnyH_ready (rs := [14]) (by kernel_rfl) (by simp) ?_
              refine (AllReadyH.cons rfl (fun K hK => ?_) AllReadyH.nil)
              go_simp
              ((with_reducible refine (k2 _).mono ?_); rintro e w' ⟨rfl, hb'⟩)
              refine hK.out _ _ (hHeld.keep hb') (fun hHeld => ?_)
              clear hK K
              try simp only [Act.put, List.setIfInBounds_toArray, List.set_cons_zero, List.set_cons_succ]
              refine wpAnyH_take (i := 15) (oi := ?op24o) (v := ?op24v) ?op24h (by kernel_rfl) (by kernel_rfl) (by kernel_rfl) ?op24q ?op24y hHeld ?op24r
              case op24h => (simp only [List.getElem?_toArray, List.getElem?_cons_succ, List.getElem?_cons_zero]; rfl)
              case op24q => exact fun _ _ _ h => h
              case op24y => (refine Or.inl ⟨by first | kernel_rfl | rfl, ?_⟩; intro w hSw; (try dsimp only at hSw); obtain ⟨⟨x0, x1, x2, x3, x4, x5⟩, -⟩ := hSw; go_simp <;> (try with_reducible rfl))
              try simp only [Act.put, List.setIfInBounds_toArray, List.set_cons_zero, List.set_cons_succ]
              refine wpAnyH_ready (rs := [21]) (by kernel_rfl) (by simp) ?_
              refine (AllReadyH.cons rfl (fun K hK => ?_) AllReadyH.nil)
              go_simp
              ((with_reducible refine (kz _).mono ?_); rintro e w' ⟨rfl, rfl⟩)
              refine hK.out _ _ (hHeld) (fun hHeld => ?_)
              clear hK K
              try simp only [Act.put, List.setIfInBounds_toArray, List.set_cons_zero, List.set_cons_succ]
              refine wpAnyH_ready (rs := [22]) (by kernel_rfl) (by simp) ?_
              refine (AllReadyH.cons rfl (fun K hK => ?_) AllReadyH.nil)
              go_simp
              ((with_reducible refine (k3 _).mono ?_); rintro e w' ⟨rfl, hb'⟩)
              refine hK.out _ _ (hHeld.keep hb') (fun hHeld => ?_)
              clear hK K
              try simp only [Act.put, List.setIfInBounds_toArray, List.set_cons_zero, List.set_cons_succ]
              refine wpAnyH_take (i := 23) (oi := ?op25o) (v := ?op25v) ?op25h (by kernel_rfl) (by kernel_rfl) (by kernel_rfl) ?op25q ?op25y hHeld ?op25r
              case op25h => (simp only [List.getElem?_toArray, List.getElem?_cons_succ, List.getElem?_cons_zero]; rfl)
              case op25q => exact fun _ _ _ h => h
              case op25y => (refine Or.inl ⟨by first | kernel_rfl | rfl, ?_⟩; intro w hSw; (try dsimp only at hSw); obtain ⟨⟨x0, x1, x2, x3, x4, x5⟩, -⟩ := hSw; go_simp <;> (try with_reducible rfl))
              try simp only [Act.put, List.setIfInBounds_toArray, List.set_cons_zero, List.set_cons_succ]
              refine wpAnyH_ready (rs := [29]) (by kernel_rfl) (by simp) ?_
              refine (AllReadyH.cons rfl (fun K hK => ?_) AllReadyH.nil)
              go_simp
              ((with_reducible refine (k4 _).mono ?_); rintro e w' ⟨rfl, hb'⟩)
              refine hK.out _ _ (hHeld.keep hb') (fun hHeld => ?_)
              clear hK K
              try simp only [Act.put, List.setIfInBounds_toArray, List.set_cons_zero, List.set_cons_succ]
              refine wpAnyH_take (i := 30) (oi := ?op26o) (v := ?op26v) ?op26h (by kernel_rfl) (by kernel_rfl) (by kernel_rfl) ?op26q ?op26y hHeld ?op26r
              case op26h => (simp only [List.getElem?_toArray, List.getElem?_cons_succ, List.getElem?_cons_zero]; rfl)
              case op26q => exact fun _ _ _ h => h
              case op26y => (refine Or.inl ⟨by first | kernel_rfl | rfl, ?_⟩; intro w hSw; (try dsimp only at hSw); obtain ⟨⟨x0, x1, x2, x3, x4, x5⟩, -⟩ := hSw; go_simp <;> (try with_reducible rfl))
              try simp only [Act.put, List.setIfInBounds_toArray, List.set_cons_zero, List.set_cons_succ]
              refine wpAnyH_take (i := 31) (oi := ?op27o) (v := ?op27v) ?op27h (by kernel_rfl) (by kernel_rfl) (by kernel_rfl) ?op27q ?op27y hHeld ?op27r
              case op27h => (simp only [List.getElem?_toArray, List.getElem?_cons_succ, List.getElem?_cons_zero]; rfl)
              case op27q => exact fun _ _ _ h => h
              case op27y => (refine Or.inl ⟨by first | kernel_rfl | rfl, ?_⟩; intro w hSw; (try dsimp only at hSw); obtain ⟨⟨x0, x1, x2, x3, x4, x5⟩, -⟩ := hSw; go_simp <;> (try with_reducible rfl))
              try simp only [Act.put, List.setIfInBounds_toArray, List.set_cons_zero, List.set_cons_succ]
              refine wpAnyH_done (by kernel_rfl) ?_ _
              have hbel := hHeld.bel
              go_wp2
              go_roundw
              case rel => exact ⟨k + 1, X4, by omega, by go_num, rfl, HX, HBB.out.trans (hbel.mono HBB.out.size)⟩
              case measure => simp [intOf]; omega
          · have hlti : ¬ (k : Int) < (l.length : Int) := by omega
            have hkl2 : l.take k = l := List.take_of_length_le (by omega)
            rw [hkl2] at hs
            have HBB := Lib.hid hB
            have HX := Lib.hid (show (ptsA l).1 = s by rw [HH.out, ← hs.out]; rfl)
            clear hB hkl2 hs
            go_wp2
            go_ret2
            exact ⟨by rw [HX.out, HH.out]; rfl, HBH.out.trans (HBB.out.mono HBH.out.size)⟩
end Go.Proofs.Ytjckphmkhikpaaa
