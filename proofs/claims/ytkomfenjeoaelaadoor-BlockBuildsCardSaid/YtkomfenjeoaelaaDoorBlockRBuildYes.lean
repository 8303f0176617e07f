/- Build builds: the document's. -/
import Derived.Test.YtkomfenjeoaelaaDoorBlockBuildYes
import Derived.Test.YtkomfenjeoaelaaDoorBlockRBuildNo
import Derived.Test.YtkomfenjeoaelaaDoorBlockRLooks
import Derived.Test.YtkomfenjeoaelaaDoorSumG
set_option maxRecDepth 50000
set_option linter.unusedSimpArgs false
set_option linter.unusedVariables false
namespace Go.Proofs.YtkomfenjeoaelaaDoor
open Go.RowKit Go.Proofs.YtkomfenjeoaelaaDoor.Crc Go.Proofs.YtkomfenjeoaelaaDoor.Vi Go.Proofs.YtkomfenjeoaelaaDoor.Mk

theorem rsealed12 (s t : ByteArray) (w : World) (H : Hid (sealedB s = t)) (hs : s.size ≤ 1000000) : Calls Tryd.prog 55 #[.string s] w fun e w' => e = .returned (.string t) ∧ Below w.heap.size w w' := by
  have := refSealed_any s w hs
  rwa [H.out] at this
theorem zputR12 (v : Int) (s : ByteArray) (w : World) (hv : -9223372036854775808 ≤ v ∧ v ≤ 9223372036854775807) (hs : Hid (tx (enc (zig v).toNat) = s)) : Calls Tryd.prog 51 #[.int .u64 (zig v)] w (TextDone s w) := by
  obtain ⟨h1, h2⟩ := zig_bounds v hv.1 hv.2
  have := refPut_is (zig v).toNat s w (by omega) hs
  rw [Int.toNat_of_nonneg h1] at this
  exact this
/-- Held while Range is called. -/
structure SN (w : World) (g k A : Nat) (s : ByteArray) (a0 : Option Addr) (c0 : Nat) (l : List Pt) (w' : World) : Prop where
  x : w'.cell? ⟨g, k, none⟩ = some (.string s)
  y : SpA w' A 0 1099511627777
  l : Lst w' w'.heap.size a0 c0 l
  bel : Below w.heap.size w w'
theorem SN.keep {w w1 w2 : World} {g k A : Nat} {s : ByteArray} {a0 : Option Addr} {c0 : Nat} {l : List Pt} (h : SN w g k A s a0 c0 l w1) (q : Below w1.heap.size w1 w2) : SN w g k A s a0 c0 l w2 := ⟨(q.cell (p := ⟨g, k, none⟩) (World.block_lt_of_cell? _ _ h.x)).trans h.x, h.y.later q, h.l.later q, bel_next h.bel q⟩
theorem SN.drew {w w1 : World} {g k A : Nat} {s : ByteArray} {a0 : Option Addr} {c0 : Nat} {l : List Pt} (h : SN w g k A s a0 c0 l w1) : SN w g k A s a0 c0 l w1.drew := h.keep ((Below.refl _ _).drew)
/-- Held while a point's bytes are put. -/
structure SM (w : World) (b o : Nat) (p : Pt) (w' : World) : Prop where
  x : PtO w' b o p
  bel : Below w.heap.size w w'
theorem SM.keep {w w1 w2 : World} {b o : Nat} {p : Pt} (h : SM w b o p w1) (q : Below w1.heap.size w1 w2) : SM w b o p w2 := ⟨h.x.below q h.x.room, bel_next h.bel q⟩
theorem SM.drew {w w1 : World} {b o : Nat} {p : Pt} (h : SM w b o p w1) : SM w b o p w1.drew := h.keep ((Below.refl _ _).drew)

set_option maxHeartbeats 16000000 in
theorem rbuild_yes (a0 : Option Addr) (c0 : Nat) (l : List Pt) (w : World) (hS : Lst w w.heap.size a0 c0 l) (hE : bldE l = 0) : Calls Tryd.prog 28 #[.slice a0 l.length c0] w fun e w' => e = .returned (.tuple #[.string (sealedB (tx (bodyA l))), .int .i64 0]) ∧ Below w.heap.size w w' := by
  obtain ⟨hs, hok, hl⟩ := bldE_zero hE
  have hname : ∀ p ∈ l, p.s.size ≤ 40 := fun p hp => ok_name (hok p hp)
  have ks := rsorted_is a0 c0 l w hS (by omega)
  rw [hs] at ks
  have kse := fun w h => rseries_is a0 c0 l w h (by omega)
  have krg := fun s w h => rrange_is a0 c0 l s 0 1099511627777 w h (by omega)
  simp only [rangeL_all] at krg
  have hst := fun s => allR_steps hs s
  have hNl := serL_len l
  have hNm : ∀ s ∈ serL l, s.size ≤ 40 := fun s h => by obtain ⟨p, hp, rfl⟩ := serN_mem l _ s h; exact hname p hp
  have hc := cntN_le hs
  have hbl : (bodyN l (serL l) (serL l).length).length ≤ 900000 := by
    have := bodyN_len hs (by omega) (by omega) hNm (serL l).length (Nat.le_refl _)
    rw [List.take_length] at this
    unfold cntN at hc
    omega
  have hml : ∀ s, (allR l s).length ≤ 3000 := fun s => Nat.le_trans (rngL_len l s 0 1099511627777) hl
  have hA : bodyA l = bodyN l (serL l) (serL l).length := rfl
  rw [hA]
  obtain ⟨N, hN⟩ : ∃ N, serL l = N := ⟨_, rfl⟩
  rw [hN] at kse hNl hNm hbl ⊢
  have HS := Lib.hid hS
  have HOK := Lib.hid hok
  have HST := Lib.hid hst
  have HNM := Lib.hid hNm
  have HBL := Lib.hid hbl
  have HML := Lib.hid hml
  clear hS hok hs hE hname hst hNm hbl hc hml hA hN
  go_enter Tryd.func28, Tryd.ntmps28
  go_wp2_with (go_at_call 17; (with_reducible refine ks.mono ?_); rintro e w1 ⟨rfl, hb1⟩)
  go_loopw [5] (fun i wr => ∃ (k : Nat), k ≤ l.length ∧ i = .int .i64 (k : Int) ∧ Below w.heap.size w wr) (fun i _ => l.length - (intOf i).toNat)
  case atStart => exact ⟨0, by omega, rfl, hb1⟩
  case round =>
    obtain ⟨k, hk, rfl, hB⟩ := hrel
    clear hb1
    by_cases hlt : k < l.length
    · have hlti : (k : Int) < (l.length : Int) := by omega
      rcases HS.out.pts.at_ with rfl | ⟨b, off, rfl, hbw, hc⟩
      · simp at hlt
      · have hA := (hc k hlt).below hB hbw
        have hf := HOK.out _ (List.getElem_mem hlt)
        obtain ⟨p, hp⟩ : ∃ p, l[k] = p := ⟨_, rfl⟩
        rw [hp] at hA hf
        obtain ⟨x0, x1, x2, x3, x4, x5⟩ := hA
        have kc := fun w => rcheckp_is p w (by have := ok_name hf; omega)
        unfold Pt.err at kc
        unfold ptV at kc
        rw [hf] at kc
        have HBH := Lib.hid hB
        clear hc hp hB hf
        go_wp2_with (go_at_call 50; (with_reducible refine (kc _).mono ?_); rintro e w1 ⟨rfl, hb1⟩)
        go_roundw
        case rel => exact ⟨k + 1, by omega, by go_num, bel_next HBH.out hb1⟩
        case measure => simp [intOf]; omega
    · have hlti : ¬ (k : Int) < (l.length : Int) := by omega
      have hni : ¬ (3000 : Int) < (l.length : Int) := by omega
      obtain ⟨w3, hw3⟩ : ∃ x, x = wr := ⟨_, rfl⟩
      subst hw3
      have HB3 := Lib.hid hB
      have hS3 := HS.out.below hB |>.mono hB.size
      have kse3 := kse w3 hS3
      have HS3 := Lib.hid hS3
      have hu : IntKind.u64.wrap (N.length : Int) = (N.length : Int) := by rw [IntKind.wrap_u64]; omega
      obtain ⟨h0, hh0⟩ : ∃ s, tx (bodyN l N 0) = s := ⟨_, rfl⟩
      have kp := fun w => refPut_is N.length h0 w (by omega) (Lib.hid hh0)
      have HH0 := Lib.hid hh0
      clear hh0 hB hS3 HS kse HOK
      go_wp2_with (first
        | (go_at_call 26; (with_reducible refine kse3.mono ?_); rintro e w5 ⟨vN, rfl, hN5, hb5⟩; (obtain ⟨aN, cN, rfl⟩ := hN5.slice); (have HN5 := Lib.hid hN5); (have HB35 := Lib.hid hb5); (have HS5 := Lib.hid (HS3.out.later hb5)); clear hN5 hb5)
        | (go_at_call 51; (with_reducible refine (kp _).mono ?_); rintro e w7 ⟨rfl, hb7⟩))
      have HB7 := Lib.hid hb7
      clear hb7 kse3
      go_loopw [7, 8] (fun s i wr => ∃ (k : Nat), k ≤ N.length ∧ i = .int .i64 (k : Int) ∧ s = .string (tx (bodyN l N k)) ∧ Below w5.heap.size w5 wr) (fun _ i _ => N.length - (intOf i).toNat)
      case atStart => exact ⟨0, by omega, rfl, by rw [HH0.out], HB7.out⟩
      case round =>
        obtain ⟨k, hk, rfl, rfl, hB⟩ := hrel
        clear HB7
        obtain ⟨w8, hw8⟩ : ∃ x, x = wr := ⟨_, rfl⟩
        subst hw8
        by_cases hkl : k < N.length
        · have hlti : (k : Int) < (N.length : Int) := by omega
          obtain ⟨g, rfl, hg, hc⟩ := HN5.out.at_ (by omega)
          have x0 := (hB.cell (p := ⟨g, k, none⟩) hg).trans (hc k hkl)
          have hns := HNM.out _ (List.getElem_mem hkl)
          have hml := HML.out N[k]
          have hst := HST.out N[k]
          have hle := fun i (hi : i ≤ (allR l N[k]).length) => Nat.le_trans (midN_le (l := l) hkl hi) HBL.out
          have hall := midN_all (l := l) hkl
          have kr := krg N[k]
          obtain ⟨s, hs⟩ : ∃ s, N[k] = s := ⟨_, rfl⟩
          rw [hs] at x0 hns hml hst hle hall kr
          obtain ⟨M, hM⟩ : ∃ M, allR l s = M := ⟨_, rfl⟩
          rw [hM] at hml hst hle hall kr
          obtain ⟨m, hm⟩ : ∃ m, M.length = m := ⟨_, rfl⟩
          have hum : IntKind.u64.wrap (m : Int) = (m : Int) := by rw [IntKind.wrap_u64]; omega
          obtain ⟨S1, hS1⟩ : ∃ S, ahead s = S := ⟨_, rfl⟩
          obtain ⟨S2, hS2⟩ : ∃ S, tx (enc m) = S := ⟨_, rfl⟩
          have kt := fun w => refText_is s S1 w (by omega) (Lib.hid hS1)
          have kp2 := fun w => refPut_is m S2 w (by omega) (Lib.hid hS2)
          obtain ⟨T0, hT0⟩ : ∃ T, tx (bodyN l N k) = T := ⟨_, rfl⟩
          have hxs0 : T0 ++ S1 ++ S2 = tx (midN l N k s M 0) := by rw [mid_start, ← hT0, ← hS1, ← hS2, hm, ahead, tx_app, tx_app, List.append_assoc]
          have hsz : T0.size + S1.size + S2.size ≤ 1000000 := by
            have e := congrArg ByteArray.size hxs0
            rw [ByteArray.size_append, ByteArray.size_append, tx_size] at e
            have := hle 0 (Nat.zero_le _)
            omega
          rw [hT0]
          obtain ⟨X1, hX1⟩ : ∃ s, T0 ++ S1 = s := ⟨_, rfl⟩
          have yX1 : X1.size = T0.size + S1.size := by rw [← hX1]; simp
          have pX1 : T0.size + S1.size ≤ 9223372036854775807 := by omega
          have qX1 : ¬ 9223372036854775807 < T0.size + S1.size := by omega
          obtain ⟨X2, hX2⟩ : ∃ s, X1 ++ S2 = s := ⟨_, rfl⟩
          have yX2 : X2.size = X1.size + S2.size := by rw [← hX2]; simp
          have pX2 : X1.size + S2.size ≤ 9223372036854775807 := by omega
          have qX2 : ¬ 9223372036854775807 < X1.size + S2.size := by omega
          have HX2 := Lib.hid (show X2 = tx (midN l N k s M 0) by rw [← hxs0, ← hX2, ← hX1])
          have hb8 := (Below.refl w8.heap.size w8).alloc (Nat.le_refl _) (.cells #[.int .i64 0, .int .i64 1099511627777] 34)
          have H0 : SN w8 g k w8.heap.size s a0 c0 l (w8.alloc (.cells #[.int .i64 0, .int .i64 1099511627777] 34)) := ⟨(hb8.cell (p := ⟨g, k, none⟩) (World.block_lt_of_cell? _ _ x0)).trans x0, SpA.new w8 0 1099511627777, ((HS5.out.below hB).mono hB.size).later hb8, hb8⟩
          have HBH := Lib.hid hB
          have HM := Lib.hid hm
          have HLE := Lib.hid hle
          have HALL := Lib.hid hall
          have HSTM := Lib.hid hst
          clear hc hs hM hm hS1 hS2 hT0 hB hle hall hst hxs0 hns hb8 yX1 yX2 hsz
          go_wp2_with fail
          refine wp_region_held_drew (S := (SN w8 g k w8.heap.size s a0 c0 l)) (by kernel_rfl) H0.drew (fun hHeld => ?_)
          refine wpAnyH_take (i := 0) (oi := ?ou1o) (v := ?ou1v) ?ou1h (by kernel_rfl) (by kernel_rfl) (by kernel_rfl) ?ou1q ?ou1y hHeld ?ou1r
          case ou1h => (simp only [List.getElem?_toArray, List.getElem?_cons_zero]; rfl)
          case ou1q => exact fun _ _ _ h => h
          case ou1y => (refine Or.inl ⟨by first | kernel_rfl | rfl, ?_⟩; intro w hSw; (try dsimp only at hSw); obtain ⟨x0, ⟨sp0, sp1⟩, -, -⟩ := hSw; go_simp <;> (try with_reducible rfl))
          try simp only [Act.put, List.setIfInBounds_toArray, List.set_cons_zero, List.set_cons_succ]
          refine wpAnyH_take (i := 1) (oi := ?ou2o) (v := ?ou2v) ?ou2h (by kernel_rfl) (by kernel_rfl) (by kernel_rfl) ?ou2q ?ou2y hHeld ?ou2r
          case ou2h => (simp only [List.getElem?_toArray, List.getElem?_cons_succ, List.getElem?_cons_zero]; rfl)
          case ou2q => exact fun _ _ _ h => h
          case ou2y => (refine Or.inl ⟨by first | kernel_rfl | rfl, ?_⟩; intro w hSw; (try dsimp only at hSw); obtain ⟨x0, ⟨sp0, sp1⟩, -, -⟩ := hSw; go_simp <;> (try with_reducible rfl))
          try simp only [Act.put, List.setIfInBounds_toArray, List.set_cons_zero, List.set_cons_succ]
          refine wpAnyH_take (i := 2) (oi := ?ou3o) (v := ?ou3v) ?ou3h (by kernel_rfl) (by kernel_rfl) (by kernel_rfl) ?ou3q ?ou3y hHeld ?ou3r
          case ou3h => (simp only [List.getElem?_toArray, List.getElem?_cons_succ, List.getElem?_cons_zero]; rfl)
          case ou3q => exact fun _ _ _ h => h
          case ou3y => (refine Or.inl ⟨by first | kernel_rfl | rfl, ?_⟩; intro w hSw; (try dsimp only at hSw); obtain ⟨x0, ⟨sp0, sp1⟩, -, -⟩ := hSw; go_simp <;> (try with_reducible rfl))
          try simp only [Act.put, List.setIfInBounds_toArray, List.set_cons_zero, List.set_cons_succ]
          refine wpAnyH_take (i := 3) (oi := ?ou4o) (v := ?ou4v) ?ou4h (by kernel_rfl) (by kernel_rfl) (by kernel_rfl) ?ou4q ?ou4y hHeld ?ou4r
          case ou4h => (simp only [List.getElem?_toArray, List.getElem?_cons_succ, List.getElem?_cons_zero]; rfl)
          case ou4q => exact fun _ _ _ h => h
          case ou4y => (refine Or.inl ⟨by first | kernel_rfl | rfl, ?_⟩; intro w hSw; (try dsimp only at hSw); obtain ⟨x0, ⟨sp0, sp1⟩, -, -⟩ := hSw; go_simp <;> (try with_reducible rfl))
          try simp only [Act.put, List.setIfInBounds_toArray, List.set_cons_zero, List.set_cons_succ]
          refine wpAnyH_take (i := 4) (oi := ?ou5o) (v := ?ou5v) ?ou5h (by kernel_rfl) (by kernel_rfl) (by kernel_rfl) ?ou5q ?ou5y hHeld ?ou5r
          case ou5h => (simp only [List.getElem?_toArray, List.getElem?_cons_succ, List.getElem?_cons_zero]; rfl)
          case ou5q => exact fun _ _ _ h => h
          case ou5y => (refine Or.inl ⟨by first | kernel_rfl | rfl, ?_⟩; intro w hSw; (try dsimp only at hSw); obtain ⟨x0, ⟨sp0, sp1⟩, -, -⟩ := hSw; go_simp <;> (try with_reducible rfl))
          try simp only [Act.put, List.setIfInBounds_toArray, List.set_cons_zero, List.set_cons_succ]
          refine wpAnyH_take (i := 5) (oi := ?ou6o) (v := ?ou6v) ?ou6h (by kernel_rfl) (by kernel_rfl) (by kernel_rfl) ?ou6q ?ou6y hHeld ?ou6r
          case ou6h => (simp only [List.getElem?_toArray, List.getElem?_cons_succ, List.getElem?_cons_zero]; rfl)
          case ou6q => exact fun _ _ _ h => h
          case ou6y => (refine Or.inl ⟨by first | kernel_rfl | rfl, ?_⟩; intro w hSw; (try dsimp only at hSw); obtain ⟨x0, ⟨sp0, sp1⟩, -, -⟩ := hSw; go_simp <;> (try with_reducible rfl))
          try simp only [Act.put, List.setIfInBounds_toArray, List.set_cons_zero, List.set_cons_succ]
          refine wpAnyH_ready (rs := [6]) (by kernel_rfl) (by simp) ?_
          refine (AllReadyH.cons rfl (fun K hK => ?_) AllReadyH.nil)
          go_simp
          ((with_reducible refine (kr _ hHeld.l).mono ?_); rintro e w' ⟨vM, rfl, hR, hb'⟩)
          refine hK.out _ _ (hHeld.keep hb') (fun hHeld => ?_)
          clear hK K
          try simp only [Act.put, List.setIfInBounds_toArray, List.set_cons_zero, List.set_cons_succ]
          refine wpAnyH_take (i := 7) (oi := ?ou7o) (v := ?ou7v) ?ou7h (by kernel_rfl) (by kernel_rfl) (by kernel_rfl) ?ou7q ?ou7y hHeld ?ou7r
          case ou7h => (simp only [List.getElem?_toArray, List.getElem?_cons_succ, List.getElem?_cons_zero]; rfl)
          case ou7q => exact fun _ _ _ h => h
          case ou7y => (refine Or.inl ⟨by first | kernel_rfl | rfl, ?_⟩; intro w hSw; (try dsimp only at hSw); obtain ⟨x0, ⟨sp0, sp1⟩, -, -⟩ := hSw; go_simp <;> (try with_reducible rfl))
          try simp only [Act.put, List.setIfInBounds_toArray, List.set_cons_zero, List.set_cons_succ]
          refine wpAnyH_done (by kernel_rfl) ?_ _
          have hsl := hR.slice
          obtain ⟨aM, cM, rfl⟩ := hsl
          rw [HM.out] at hR
          obtain ⟨Q, off, hsh, -, hQ2, hQr⟩ := hR.spot 0 (by have := World.block_lt_of_cell? _ _ hHeld.x; omega)
          have HSH := Lib.hid hsh
          have HQR := Lib.hid hQr
          have HQ := Lib.hid hQ2
          have HH := Lib.hid hHeld
          have hx9 := hHeld.x
          rw [HM.out]
          clear hR hsh hQ2 hQr hHeld H0
          go_wp2_with (first
            | (go_at_call 52; (with_reducible refine (kt _).mono ?_); rintro e w10 ⟨rfl, hb10⟩; (have HB10 := Lib.hid hb10); clear hb10)
            | (go_at_call 51; (with_reducible refine (kp2 _).mono ?_); rintro e w11 ⟨rfl, hb11⟩; (have HB11 := Lib.hid (HB10.out.trans (hb11.mono HB10.out.size))); clear hb11))
          have HB12 := Lib.hid (bel_next HBH.out (bel_next HH.out.bel HB11.out))
          have HR12 := Lib.hid (fun i (hi : i < M.length) => (HQR.out i hi).same (HB11.out.block Q HQ.out))
          have HQ12 := Lib.hid (Nat.lt_of_lt_of_le HQ.out HB11.out.size)
          clear HQR HQ HH hx9 HB10 HB11
          go_loopw [7, 11, 12, 13] (fun y t v i wr => ∃ (j : Nat), j ≤ m ∧ i = .int .i64 (j : Int) ∧ y = .string (tx (midN l N k s M j)) ∧ t = .int .i64 (priorP M j).t ∧ v = .int .i64 (priorP M j).v ∧ Below w11.heap.size w11 wr) (fun _ _ _ i _ => m - (intOf i).toNat)
          case atStart => exact ⟨0, by omega, rfl, by rw [HX2.out], rfl, rfl, Below.refl _ _⟩
          case round =>
            obtain ⟨j, hj, rfl, rfl, rfl, rfl, hB13⟩ := hrel
            obtain ⟨w14, hw14⟩ : ∃ x, x = wr := ⟨_, rfl⟩
            subst hw14
            by_cases hjm : j < m
            · have hlti : (j : Int) < (m : Int) := by omega
              have hjM : j < M.length := by rw [HM.out]; exact hjm
              obtain rfl := HSH.out (by omega)
              have hrow := (HR12.out j hjM).same (hB13.block Q HQ12.out)
              have hstp := HSTM.out j hjM
              have hle1 := HLE.out (j + 1) (by omega)
              have hms := midN_step (l := l) (N := N) (k := k) (s := s) hjM
              obtain ⟨p, hp⟩ : ∃ p, M[j] = p := ⟨_, rfl⟩
              have hnext := priorP_succ hjM
              rw [hp] at hrow hstp hms hnext
              obtain ⟨q, hq⟩ : ∃ q, priorP M j = q := ⟨_, rfl⟩
              rw [hq] at hstp hms
              rw [hq]
              obtain ⟨t1, t2⟩ := hstp
              obtain ⟨dd, hd⟩ : ∃ d, p.t - q.t = d := ⟨_, rfl⟩
              rw [hd] at t1 t2
              have hdw : IntKind.i64.wrap (p.t - q.t) = dd := by rw [hd, IntKind.wrap_i64]; omega
              obtain ⟨z, hz⟩ : ∃ z, IntKind.i64.wrap (p.v - q.v) = z := ⟨_, rfl⟩
              have hv : -9223372036854775808 ≤ z ∧ z ≤ 9223372036854775807 := by rw [← hz]; exact wrap_fit _
              obtain ⟨A1, hA1⟩ : ∃ s, tx (enc dd.toNat) = s := ⟨_, rfl⟩
              have k1 := fun w => putIntR dd A1 w t1 (by omega) (Lib.hid hA1)
              have kz := fun w => refZig_any z w hv.1 hv.2
              obtain ⟨A2, hA2⟩ : ∃ s, tx (enc (zig z).toNat) = s := ⟨_, rfl⟩
              have k2 := fun w => zputR12 z A2 w hv (Lib.hid hA2)
              obtain ⟨B1, hB1⟩ : ∃ s, tx p.st.bytes = s := ⟨_, rfl⟩
              have k4 := fun w => rbytes_is p.st B1 w (Lib.hid hB1)
              have ut : IntKind.u64.wrap dd = dd := u64_in dd t1 (by omega)
              obtain ⟨T0, hT0⟩ : ∃ T, tx (midN l N k s M j) = T := ⟨_, rfl⟩
              have hxs0 : T0 ++ A1 ++ A2 ++ B1 = tx (midN l N k s M (j + 1)) := by
                rw [hms, ← hT0, ← hA1, ← hA2, ← hB1, tx_app, tx_app, tx_app]
                unfold putA
                rw [hz, hd]
                simp only [List.append_assoc]
              have hsz : T0.size + A1.size + A2.size + B1.size ≤ 1000000 := by
                have e := congrArg ByteArray.size hxs0
                rw [ByteArray.size_append, ByteArray.size_append, ByteArray.size_append, tx_size] at e
                omega
              rw [hT0]
              obtain ⟨Y1, hY1⟩ : ∃ s, T0 ++ A1 = s := ⟨_, rfl⟩
              have yY1 : Y1.size = T0.size + A1.size := by rw [← hY1]; simp
              have pY1 : T0.size + A1.size ≤ 9223372036854775807 := by omega
              have qY1 : ¬ 9223372036854775807 < T0.size + A1.size := by omega
              obtain ⟨Y2, hY2⟩ : ∃ s, Y1 ++ A2 = s := ⟨_, rfl⟩
              have yY2 : Y2.size = Y1.size + A2.size := by rw [← hY2]; simp
              have pY2 : Y1.size + A2.size ≤ 9223372036854775807 := by omega
              have qY2 : ¬ 9223372036854775807 < Y1.size + A2.size := by omega
              obtain ⟨Y3, hY3⟩ : ∃ s, Y2 ++ B1 = s := ⟨_, rfl⟩
              have yY3 : Y3.size = Y2.size + B1.size := by rw [← hY3]; simp
              have pY3 : Y2.size + B1.size ≤ 9223372036854775807 := by omega
              have qY3 : ¬ 9223372036854775807 < Y2.size + B1.size := by omega
              have HY3 := Lib.hid (show Y3 = tx (midN l N k s M (j + 1)) by rw [← hxs0, ← hY3, ← hY2, ← hY1])
              have HNX := Lib.hid hnext
              have HBJ := Lib.hid hB13
              have H1 : SM w14 Q (off + j * 6) p w14 := ⟨hrow, Below.refl _ _⟩
              obtain ⟨ip, hip⟩ : ∃ ip, off + j * 6 = ip := ⟨_, rfl⟩
              rw [hip] at H1
              generalize zig z = zz at *
              clear hp hq hle1 hms hnext hd hv hA1 hA2 hB1 hT0 hxs0 hsz hB13 t1 t2 yY1 yY2 yY3 hrow
              go_wp2_with fail
              refine wp_region_held_drew (S := (SM w14 Q ip p)) (by kernel_rfl) H1.drew (fun hHeld => ?_)
              refine wpAnyH_take (i := 0) (oi := ?in1o) (v := ?in1v) ?in1h (by kernel_rfl) (by kernel_rfl) (by kernel_rfl) ?in1q ?in1y hHeld ?in1r
              case in1h => (simp only [List.getElem?_toArray, List.getElem?_cons_zero]; rfl)
              case in1q => exact fun _ _ _ h => h
              case in1y => (refine Or.inl ⟨by first | kernel_rfl | rfl, ?_⟩; intro w hSw; (try dsimp only at hSw); obtain ⟨⟨-, x1, x2, x3, x4, x5⟩, -⟩ := hSw; go_simp <;> (try with_reducible rfl))
              try simp only [Act.put, List.setIfInBounds_toArray, List.set_cons_zero, List.set_cons_succ]
              refine wpAnyH_take (i := 1) (oi := ?in2o) (v := ?in2v) ?in2h (by kernel_rfl) (by kernel_rfl) (by kernel_rfl) ?in2q ?in2y hHeld ?in2r
              case in2h => (simp only [List.getElem?_toArray, List.getElem?_cons_succ, List.getElem?_cons_zero]; rfl)
              case in2q => exact fun _ _ _ h => h
              case in2y => (refine Or.inl ⟨by first | kernel_rfl | rfl, ?_⟩; intro w hSw; (try dsimp only at hSw); obtain ⟨⟨-, x1, x2, x3, x4, x5⟩, -⟩ := hSw; go_simp <;> (try with_reducible rfl))
              try simp only [Act.put, List.setIfInBounds_toArray, List.set_cons_zero, List.set_cons_succ]
              refine wpAnyH_take (i := 2) (oi := ?in3o) (v := ?in3v) ?in3h (by kernel_rfl) (by kernel_rfl) (by kernel_rfl) ?in3q ?in3y hHeld ?in3r
              case in3h => (simp only [List.getElem?_toArray, List.getElem?_cons_succ, List.getElem?_cons_zero]; rfl)
              case in3q => exact fun _ _ _ h => h
              case in3y => (refine Or.inl ⟨by first | kernel_rfl | rfl, ?_⟩; intro w hSw; (try dsimp only at hSw); obtain ⟨⟨-, x1, x2, x3, x4, x5⟩, -⟩ := hSw; go_simp <;> (try with_reducible rfl))
              try simp only [Act.put, List.setIfInBounds_toArray, List.set_cons_zero, List.set_cons_succ]
              refine wpAnyH_take (i := 3) (oi := ?in4o) (v := ?in4v) ?in4h (by kernel_rfl) (by kernel_rfl) (by kernel_rfl) ?in4q ?in4y hHeld ?in4r
              case in4h => (simp only [List.getElem?_toArray, List.getElem?_cons_succ, List.getElem?_cons_zero]; rfl)
              case in4q => exact fun _ _ _ h => h
              case in4y => (refine Or.inl ⟨by first | kernel_rfl | rfl, ?_⟩; intro w hSw; (try dsimp only at hSw); obtain ⟨⟨-, x1, x2, x3, x4, x5⟩, -⟩ := hSw; go_simp <;> (try with_reducible rfl))
              try simp only [Act.put, List.setIfInBounds_toArray, List.set_cons_zero, List.set_cons_succ]
              refine wpAnyH_take (i := 4) (oi := ?in5o) (v := ?in5v) ?in5h (by kernel_rfl) (by kernel_rfl) (by kernel_rfl) ?in5q ?in5y hHeld ?in5r
              case in5h => (simp only [List.getElem?_toArray, List.getElem?_cons_succ, List.getElem?_cons_zero]; rfl)
              case in5q => exact fun _ _ _ h => h
              case in5y => (refine Or.inl ⟨by first | kernel_rfl | rfl, ?_⟩; intro w hSw; (try dsimp only at hSw); obtain ⟨⟨-, x1, x2, x3, x4, x5⟩, -⟩ := hSw; go_simp <;> (try with_reducible rfl))
              try simp only [Act.put, List.setIfInBounds_toArray, List.set_cons_zero, List.set_cons_succ]
              refine wpAnyH_take (i := 5) (oi := ?in6o) (v := ?in6v) ?in6h (by kernel_rfl) (by kernel_rfl) (by kernel_rfl) ?in6q ?in6y hHeld ?in6r
              case in6h => (simp only [List.getElem?_toArray, List.getElem?_cons_succ, List.getElem?_cons_zero]; rfl)
              case in6q => exact fun _ _ _ h => h
              case in6y => (refine Or.inl ⟨by first | kernel_rfl | rfl, ?_⟩; intro w hSw; (try dsimp only at hSw); obtain ⟨⟨-, x1, x2, x3, x4, x5⟩, -⟩ := hSw; go_simp <;> (try with_reducible rfl))
              try simp only [Act.put, List.setIfInBounds_toArray, List.set_cons_zero, List.set_cons_succ]
              refine wpAnyH_take (i := 6) (oi := ?in7o) (v := ?in7v) ?in7h (by kernel_rfl) (by kernel_rfl) (by kernel_rfl) ?in7q ?in7y hHeld ?in7r
              case in7h => (simp only [List.getElem?_toArray, List.getElem?_cons_succ, List.getElem?_cons_zero]; rfl)
              case in7q => exact fun _ _ _ h => h
              case in7y => (refine Or.inl ⟨by first | kernel_rfl | rfl, ?_⟩; intro w hSw; (try dsimp only at hSw); obtain ⟨⟨-, x1, x2, x3, x4, x5⟩, -⟩ := hSw; go_simp <;> (try with_reducible rfl))
              try simp only [Act.put, List.setIfInBounds_toArray, List.set_cons_zero, List.set_cons_succ]
              refine wpAnyH_take (i := 7) (oi := ?in8o) (v := ?in8v) ?in8h (by kernel_rfl) (by kernel_rfl) (by kernel_rfl) ?in8q ?in8y hHeld ?in8r
              case in8h => (simp only [List.getElem?_toArray, List.getElem?_cons_succ, List.getElem?_cons_zero]; rfl)
              case in8q => exact fun _ _ _ h => h
              case in8y => (refine Or.inl ⟨by first | kernel_rfl | rfl, ?_⟩; intro w hSw; (try dsimp only at hSw); obtain ⟨⟨-, x1, x2, x3, x4, x5⟩, -⟩ := hSw; go_simp <;> (try with_reducible rfl))
              try simp only [Act.put, List.setIfInBounds_toArray, List.set_cons_zero, List.set_cons_succ]
              refine wpAnyH_take (i := 8) (oi := ?in9o) (v := ?in9v) ?in9h (by kernel_rfl) (by kernel_rfl) (by kernel_rfl) ?in9q ?in9y hHeld ?in9r
              case in9h => (simp only [List.getElem?_toArray, List.getElem?_cons_succ, List.getElem?_cons_zero]; rfl)
              case in9q => exact fun _ _ _ h => h
              case in9y => (refine Or.inl ⟨by first | kernel_rfl | rfl, ?_⟩; intro w hSw; (try dsimp only at hSw); obtain ⟨⟨-, x1, x2, x3, x4, x5⟩, -⟩ := hSw; go_simp <;> (try with_reducible rfl))
              try simp only [Act.put, List.setIfInBounds_toArray, List.set_cons_zero, List.set_cons_succ]
              refine wpAnyH_take (i := 11) (oi := ?in10o) (v := ?in10v) ?in10h (by kernel_rfl) (by kernel_rfl) (by kernel_rfl) ?in10q ?in10y hHeld ?in10r
              case in10h => (simp only [List.getElem?_toArray, List.getElem?_cons_succ, List.getElem?_cons_zero]; rfl)
              case in10q => exact fun _ _ _ h => h
              case in10y => (refine Or.inl ⟨by first | kernel_rfl | rfl, ?_⟩; intro w hSw; (try dsimp only at hSw); obtain ⟨⟨-, x1, x2, x3, x4, x5⟩, -⟩ := hSw; go_simp <;> (try with_reducible rfl))
              try simp only [Act.put, List.setIfInBounds_toArray, List.set_cons_zero, List.set_cons_succ]
              refine wpAnyH_take (i := 12) (oi := ?in11o) (v := ?in11v) ?in11h (by kernel_rfl) (by kernel_rfl) (by kernel_rfl) ?in11q ?in11y hHeld ?in11r
              case in11h => (simp only [List.getElem?_toArray, List.getElem?_cons_succ, List.getElem?_cons_zero]; rfl)
              case in11q => exact fun _ _ _ h => h
              case in11y => (refine Or.inl ⟨by first | kernel_rfl | rfl, ?_⟩; intro w hSw; (try dsimp only at hSw); obtain ⟨⟨-, x1, x2, x3, x4, x5⟩, -⟩ := hSw; go_simp <;> (try with_reducible rfl))
              try simp only [Act.put, List.setIfInBounds_toArray, List.set_cons_zero, List.set_cons_succ]
              refine wpAnyH_take (i := 13) (oi := ?in12o) (v := ?in12v) ?in12h (by kernel_rfl) (by kernel_rfl) (by kernel_rfl) ?in12q ?in12y hHeld ?in12r
              case in12h => (simp only [List.getElem?_toArray, List.getElem?_cons_succ, List.getElem?_cons_zero]; rfl)
              case in12q => exact fun _ _ _ h => h
              case in12y => (refine Or.inl ⟨by first | kernel_rfl | rfl, ?_⟩; intro w hSw; (try dsimp only at hSw); obtain ⟨⟨-, x1, x2, x3, x4, x5⟩, -⟩ := hSw; go_simp <;> (try with_reducible rfl))
              try simp only [Act.put, List.setIfInBounds_toArray, List.set_cons_zero, List.set_cons_succ]
              refine wpAnyH_take (i := 14) (oi := ?in13o) (v := ?in13v) ?in13h (by kernel_rfl) (by kernel_rfl) (by kernel_rfl) ?in13q ?in13y hHeld ?in13r
              case in13h => (simp only [List.getElem?_toArray, List.getElem?_cons_succ, List.getElem?_cons_zero]; rfl)
              case in13q => exact fun _ _ _ h => h
              case in13y => (refine Or.inl ⟨by first | kernel_rfl | rfl, ?_⟩; intro w hSw; (try dsimp only at hSw); obtain ⟨⟨-, x1, x2, x3, x4, x5⟩, -⟩ := hSw; go_simp <;> (try with_reducible rfl))
              try simp only [Act.put, List.setIfInBounds_toArray, List.set_cons_zero, List.set_cons_succ]
              refine wpAnyH_take (i := 15) (oi := ?in14o) (v := ?in14v) ?in14h (by kernel_rfl) (by kernel_rfl) (by kernel_rfl) ?in14q ?in14y hHeld ?in14r
              case in14h => (simp only [List.getElem?_toArray, List.getElem?_cons_succ, List.getElem?_cons_zero]; rfl)
              case in14q => exact fun _ _ _ h => h
              case in14y => (refine Or.inl ⟨by first | kernel_rfl | rfl, ?_⟩; intro w hSw; (try dsimp only at hSw); obtain ⟨⟨-, x1, x2, x3, x4, x5⟩, -⟩ := hSw; go_simp <;> (try with_reducible rfl))
              try simp only [Act.put, List.setIfInBounds_toArray, List.set_cons_zero, List.set_cons_succ]
              refine wpAnyH_take (i := 16) (oi := ?in15o) (v := ?in15v) ?in15h (by kernel_rfl) (by kernel_rfl) (by kernel_rfl) ?in15q ?in15y hHeld ?in15r
              case in15h => (simp only [List.getElem?_toArray, List.getElem?_cons_succ, List.getElem?_cons_zero]; rfl)
              case in15q => exact fun _ _ _ h => h
              case in15y => (refine Or.inl ⟨by first | kernel_rfl | rfl, ?_⟩; intro w hSw; (try dsimp only at hSw); obtain ⟨⟨-, x1, x2, x3, x4, x5⟩, -⟩ := hSw; go_simp <;> (try with_reducible rfl))
              try simp only [Act.put, List.setIfInBounds_toArray, List.set_cons_zero, List.set_cons_succ]
              refine wpAnyH_take (i := 17) (oi := ?in16o) (v := ?in16v) ?in16h (by kernel_rfl) (by kernel_rfl) (by kernel_rfl) ?in16q ?in16y hHeld ?in16r
              case in16h => (simp only [List.getElem?_toArray, List.getElem?_cons_succ, List.getElem?_cons_zero]; rfl)
              case in16q => exact fun _ _ _ h => h
              case in16y => (refine Or.inl ⟨by first | kernel_rfl | rfl, ?_⟩; intro w hSw; (try dsimp only at hSw); obtain ⟨⟨-, x1, x2, x3, x4, x5⟩, -⟩ := hSw; go_simp <;> (try with_reducible rfl))
              try simp only [Act.put, List.setIfInBounds_toArray, List.set_cons_zero, List.set_cons_succ]
              refine wpAnyH_take (i := 21) (oi := ?in17o) (v := ?in17v) ?in17h (by kernel_rfl) (by kernel_rfl) (by kernel_rfl) ?in17q ?in17y hHeld ?in17r
              case in17h => (simp only [List.getElem?_toArray, List.getElem?_cons_succ, List.getElem?_cons_zero]; rfl)
              case in17q => exact fun _ _ _ h => h
              case in17y => (refine Or.inl ⟨by first | kernel_rfl | rfl, ?_⟩; intro w hSw; (try dsimp only at hSw); obtain ⟨⟨-, x1, x2, x3, x4, x5⟩, -⟩ := hSw; go_simp <;> (try with_reducible rfl))
              try simp only [Act.put, List.setIfInBounds_toArray, List.set_cons_zero, List.set_cons_succ]
              refine wpAnyH_take (i := 22) (oi := ?in18o) (v := ?in18v) ?in18h (by kernel_rfl) (by kernel_rfl) (by kernel_rfl) ?in18q ?in18y hHeld ?in18r
              case in18h => (simp only [List.getElem?_toArray, List.getElem?_cons_succ, List.getElem?_cons_zero]; rfl)
              case in18q => exact fun _ _ _ h => h
              case in18y => (refine Or.inl ⟨by first | kernel_rfl | rfl, ?_⟩; intro w hSw; (try dsimp only at hSw); obtain ⟨⟨-, x1, x2, x3, x4, x5⟩, -⟩ := hSw; go_simp <;> (try with_reducible rfl))
              try simp only [Act.put, List.setIfInBounds_toArray, List.set_cons_zero, List.set_cons_succ]
              refine wpAnyH_take (i := 23) (oi := ?in19o) (v := ?in19v) ?in19h (by kernel_rfl) (by kernel_rfl) (by kernel_rfl) ?in19q ?in19y hHeld ?in19r
              case in19h => (simp only [List.getElem?_toArray, List.getElem?_cons_succ, List.getElem?_cons_zero]; rfl)
              case in19q => exact fun _ _ _ h => h
              case in19y => (refine Or.inl ⟨by first | kernel_rfl | rfl, ?_⟩; intro w hSw; (try dsimp only at hSw); obtain ⟨⟨-, x1, x2, x3, x4, x5⟩, -⟩ := hSw; go_simp <;> (try with_reducible rfl))
              try simp only [Act.put, List.setIfInBounds_toArray, List.set_cons_zero, List.set_cons_succ]
              refine wpAnyH_take (i := 24) (oi := ?in20o) (v := ?in20v) ?in20h (by kernel_rfl) (by kernel_rfl) (by kernel_rfl) ?in20q ?in20y hHeld ?in20r
              case in20h => (simp only [List.getElem?_toArray, List.getElem?_cons_succ, List.getElem?_cons_zero]; rfl)
              case in20q => exact fun _ _ _ h => h
              case in20y => (refine Or.inl ⟨by first | kernel_rfl | rfl, ?_⟩; intro w hSw; (try dsimp only at hSw); obtain ⟨⟨-, x1, x2, x3, x4, x5⟩, -⟩ := hSw; go_simp <;> (try with_reducible rfl))
              try simp only [Act.put, List.setIfInBounds_toArray, List.set_cons_zero, List.set_cons_succ]
              refine wpAnyH_take (i := 25) (oi := ?in21o) (v := ?in21v) ?in21h (by kernel_rfl) (by kernel_rfl) (by kernel_rfl) ?in21q ?in21y hHeld ?in21r
              case in21h => (simp only [List.getElem?_toArray, List.getElem?_cons_succ, List.getElem?_cons_zero]; rfl)
              case in21q => exact fun _ _ _ h => h
              case in21y => (refine Or.inl ⟨by first | kernel_rfl | rfl, ?_⟩; intro w hSw; (try dsimp only at hSw); obtain ⟨⟨-, x1, x2, x3, x4, x5⟩, -⟩ := hSw; go_simp <;> (try with_reducible rfl))
              try simp only [Act.put, List.setIfInBounds_toArray, List.set_cons_zero, List.set_cons_succ]
              refine wpAnyH_ready (rs := [9]) (by kernel_rfl) (by simp) ?_
              refine (AllReadyH.cons rfl (fun K hK => ?_) AllReadyH.nil)
              go_simp
              ((with_reducible refine (k1 _).mono ?_); rintro e w' ⟨rfl, hb'⟩)
              refine hK.out _ _ (hHeld.keep hb') (fun hHeld => ?_)
              clear hK K
              try simp only [Act.put, List.setIfInBounds_toArray, List.set_cons_zero, List.set_cons_succ]
              refine wpAnyH_take (i := 10) (oi := ?in22o) (v := ?in22v) ?in22h (by kernel_rfl) (by kernel_rfl) (by kernel_rfl) ?in22q ?in22y hHeld ?in22r
              case in22h => (simp only [List.getElem?_toArray, List.getElem?_cons_succ, List.getElem?_cons_zero]; rfl)
              case in22q => exact fun _ _ _ h => h
              case in22y => (refine Or.inl ⟨by first | kernel_rfl | rfl, ?_⟩; intro w hSw; (try dsimp only at hSw); obtain ⟨⟨-, x1, x2, x3, x4, x5⟩, -⟩ := hSw; go_simp <;> (try with_reducible rfl))
              try simp only [Act.put, List.setIfInBounds_toArray, List.set_cons_zero, List.set_cons_succ]
              refine wpAnyH_ready (rs := [18]) (by kernel_rfl) (by simp) ?_
              refine (AllReadyH.cons rfl (fun K hK => ?_) AllReadyH.nil)
              go_simp
              ((with_reducible refine (kz _).mono ?_); rintro e w' ⟨rfl, rfl⟩)
              refine hK.out _ _ (hHeld) (fun hHeld => ?_)
              clear hK K
              try simp only [Act.put, List.setIfInBounds_toArray, List.set_cons_zero, List.set_cons_succ]
              refine wpAnyH_ready (rs := [19]) (by kernel_rfl) (by simp) ?_
              refine (AllReadyH.cons rfl (fun K hK => ?_) AllReadyH.nil)
              go_simp
              ((with_reducible refine (k2 _).mono ?_); rintro e w' ⟨rfl, hb'⟩)
              refine hK.out _ _ (hHeld.keep hb') (fun hHeld => ?_)
              clear hK K
              try simp only [Act.put, List.setIfInBounds_toArray, List.set_cons_zero, List.set_cons_succ]
              refine wpAnyH_take (i := 20) (oi := ?in23o) (v := ?in23v) ?in23h (by kernel_rfl) (by kernel_rfl) (by kernel_rfl) ?in23q ?in23y hHeld ?in23r
              case in23h => (simp only [List.getElem?_toArray, List.getElem?_cons_succ, List.getElem?_cons_zero]; rfl)
              case in23q => exact fun _ _ _ h => h
              case in23y => (refine Or.inl ⟨by first | kernel_rfl | rfl, ?_⟩; intro w hSw; (try dsimp only at hSw); obtain ⟨⟨-, x1, x2, x3, x4, x5⟩, -⟩ := hSw; go_simp <;> (try with_reducible rfl))
              try simp only [Act.put, List.setIfInBounds_toArray, List.set_cons_zero, List.set_cons_succ]
              refine wpAnyH_ready (rs := [26]) (by kernel_rfl) (by simp) ?_
              refine (AllReadyH.cons rfl (fun K hK => ?_) AllReadyH.nil)
              go_simp
              ((with_reducible refine (k4 _).mono ?_); rintro e w' ⟨rfl, hb'⟩)
              refine hK.out _ _ (hHeld.keep hb') (fun hHeld => ?_)
              clear hK K
              try simp only [Act.put, List.setIfInBounds_toArray, List.set_cons_zero, List.set_cons_succ]
              refine wpAnyH_take (i := 27) (oi := ?in24o) (v := ?in24v) ?in24h (by kernel_rfl) (by kernel_rfl) (by kernel_rfl) ?in24q ?in24y hHeld ?in24r
              case in24h => (simp only [List.getElem?_toArray, List.getElem?_cons_succ, List.getElem?_cons_zero]; rfl)
              case in24q => exact fun _ _ _ h => h
              case in24y => (refine Or.inl ⟨by first | kernel_rfl | rfl, ?_⟩; intro w hSw; (try dsimp only at hSw); obtain ⟨⟨-, x1, x2, x3, x4, x5⟩, -⟩ := hSw; go_simp <;> (try with_reducible rfl))
              try simp only [Act.put, List.setIfInBounds_toArray, List.set_cons_zero, List.set_cons_succ]
              refine wpAnyH_take (i := 28) (oi := ?in25o) (v := ?in25v) ?in25h (by kernel_rfl) (by kernel_rfl) (by kernel_rfl) ?in25q ?in25y hHeld ?in25r
              case in25h => (simp only [List.getElem?_toArray, List.getElem?_cons_succ, List.getElem?_cons_zero]; rfl)
              case in25q => exact fun _ _ _ h => h
              case in25y => (refine Or.inl ⟨by first | kernel_rfl | rfl, ?_⟩; intro w hSw; (try dsimp only at hSw); obtain ⟨⟨-, x1, x2, x3, x4, x5⟩, -⟩ := hSw; go_simp <;> (try with_reducible rfl))
              try simp only [Act.put, List.setIfInBounds_toArray, List.set_cons_zero, List.set_cons_succ]
              refine wpAnyH_done (by kernel_rfl) ?_ _
              have HHH := Lib.hid hHeld
              have hx15 := hHeld.x
              obtain ⟨x0, x1, x2, x3, x4, x5⟩ := hx15
              clear hHeld H1
              go_wp2
              go_roundw
              case rel => exact ⟨j + 1, by omega, by go_num, by rw [HY3.out], by rw [HNX.out], by rw [HNX.out], bel_next HBJ.out HHH.out.bel⟩
              case measure => simp [intOf]; omega
            · obtain rfl : j = m := by omega
              have hlti : ¬ (j : Int) < (j : Int) := by omega
              have e := HALL.out
              rw [HM.out] at e
              rw [e]
              have HBE := Lib.hid (HB12.out.trans (hB13.mono HB12.out.size))
              clear hB13 e
              go_wp2
              go_roundw
              case rel => exact ⟨k + 1, by omega, by go_num, rfl, HBE.out⟩
              case measure => simp [intOf]; omega
        · obtain rfl : k = N.length := by omega
          have hlti : ¬ (N.length : Int) < (N.length : Int) := by omega
          have hbl := HBL.out
          obtain ⟨xs, hxs⟩ : ∃ xs, bodyN l N N.length = xs := ⟨_, rfl⟩
          rw [hxs] at hbl
          rw [hxs]
          obtain ⟨Z, hZ⟩ : ∃ Z, sealedB (tx xs) = Z := ⟨_, rfl⟩
          have HZ := Lib.hid (show sealedB (tx (bodyN l N N.length)) = Z by rw [hxs]; exact hZ)
          have kz := fun w => rsealed12 (tx xs) Z w (Lib.hid hZ) (by rw [tx_size]; omega)
          have HBX := Lib.hid (HB3.out.trans ((HB35.out.trans (hB.mono HB35.out.size)).mono HB3.out.size))
          clear hB hZ hbl
          go_wp2_with (go_at_call 55; (with_reducible refine (kz _).mono ?_); rintro e w9 ⟨rfl, hb9⟩)
          go_ret2
          exact ⟨by rw [HZ.out]; rfl, bel_next HBX.out hb9⟩
theorem rbuild_is (a0 : Option Addr) (c0 : Nat) (l : List Pt) (w : World) (hS : Lst w w.heap.size a0 c0 l) (hl : l.length ≤ 900000) (hn : ∀ p ∈ l, p.s.size ≤ 100000) : Calls Tryd.prog 28 #[.slice a0 l.length c0] w fun e w' => e = .returned (.tuple #[.string (bldS l), .int .i64 (bldE l)]) ∧ Below w.heap.size w w' := by
  unfold bldS
  by_cases hE : bldE l = 0
  · rw [if_pos hE, hE]
    exact rbuild_yes a0 c0 l w hS hE
  · rw [if_neg hE]
    by_cases hs : srtB l = true
    · exact rbuild_no a0 c0 l w hS hl hn hs hE
    · have hs' : srtB l = false := by simpa using hs
      rw [bldE_uns hs']
      exact rbuild_uns a0 c0 l w hS hl hs'
end Go.Proofs.YtkomfenjeoaelaaDoor
