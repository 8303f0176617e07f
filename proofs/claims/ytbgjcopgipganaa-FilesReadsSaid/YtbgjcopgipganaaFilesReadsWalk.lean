/- The walk of FilesReads. -/
import Derived.Test.YtbgjcopgipganaaFilesReadsBox
import Derived.Deep.RegionHeld
import Derived.Deep.CutRange
import Derived.Deep.CutBlock
set_option maxRecDepth 20000
set_option linter.unusedSimpArgs false
set_option linter.unusedVariables false
namespace Go.Proofs.Ytbgjcopgipganaa
open Go.RowKit Go.Maps Go.Shelf

namespace filesReads
theorem tmod5 (x : Int) : -4 ≤ x.tmod 5 ∧ x.tmod 5 ≤ 4 := by
  have h1 := Int.tmod_lt_of_pos x (show (0 : Int) < 5 by decide)
  have h2 := Int.lt_tmod_of_pos x (show (0 : Int) < 5 by decide)
  omega
set_option maxHeartbeats 16000000 in
theorem walk (a0 : Option Addr) (n0 c0 : Nat) (w : World) (h0 : ArgOps w a0 n0 c0) : Calls Try.prog 9 #[.slice a0 n0 c0] w fun e w' => e = .returned (.bool true) ∧ Below w.heap.size w w' := by
  obtain ⟨l, hll, hops, hlen, hfit⟩ := h0.has
  have ka := awake_is w
  have kc := fun s w => short_is s (cutB s 100) 100 100 w rfl (by omega) (Lib.hid rfl)
  have HC := Lib.hid (show ∀ i (h : i < l.length) (wr : World), Below w.heap.size w wr → ∃ g off, a0 = some ⟨g, off, none⟩ ∧ OpO wr g (off + i * 6) l[i] from fun i h wr hb => by
    rcases hops.at_ with e | ⟨g, off, e, hg, hc⟩
    · rw [e] at h; simp at h
    · exact ⟨g, off, e, (hc i h).below hb hg⟩)
  have HLL := Lib.hid hll
  have HFI := Lib.hid hfit
  clear hll hops h0 hfit
  go_enter Try.func9, Try.ntmps9
  go_wp2_with (first
    | (go_at_call 10; (with_reducible refine ka.mono ?_); rintro e w1 ⟨rfl, hB⟩; (have HB1 := Lib.hid hB); (have k2 := new_dir 1000000 w1); clear hB ka)
    | (go_at_call 11; (with_reducible refine k2.mono ?_); rintro e w2 ⟨b, L2, rfl, hD, hB, hl⟩; (have hO : One w w2 b (emptyS 1000000) L2 := ⟨hD.at_, fun i hi => Nat.le_trans HB1.out.size (hl i hi), bel_next HB1.out hB⟩); (have HR2 := Lib.hid (start_rs hO hD)); clear hO hD hB hl k2 HB1))
  obtain ⟨bn, hbn⟩ : ∃ x, w2.heap.size = x := ⟨_, rfl⟩
  rw [hbn] at HR2
  obtain ⟨bi, hbi⟩ : ∃ x, bn + 1 = x := ⟨_, rfl⟩
  rw [hbi] at HR2
  obtain ⟨bh, hbh⟩ : ∃ x, bi + 1 = x := ⟨_, rfl⟩
  rw [hbh] at HR2
  simp only [hbn, hbi, hbh]
  go_loopg [8] 40 (fun g ii wr => ∃ i : Nat, i + g = 40 ∧ ii = .int .i64 (i : Int) ∧ ∃ V S L B H, RS w wr b bn bi bh S L B H ∧ View S V i ∧ Fits V B H)
  case atStart => exact ⟨0, by omega, rfl, _, _, L2, _, _, HR2.out, view_0, fits_0⟩
  case round =>
    clear hbn hbi hbh
    obtain ⟨i, hi, rfl, V, S, L, B, H, hR, hV, hF⟩ := hrel
    have HR := Lib.hid hR
    have HV := Lib.hid hV
    have HF := Lib.hid hF
    clear hR hV hF HR2
    by_cases hin : i < n0
    · have hini : (i : Int) < (n0 : Int) := by omega
      by_cases hi40 : i < 40
      · have hi40i : (i : Int) < 40 := by omega
        cases gk with
        | zero => exact absurd hi40 (by omega)
        | succ g =>
          have hwi : IntKind.i64.wrap ((i : Int) + 1) = (i : Int) + 1 := by rw [IntKind.wrap_i64]; omega
          obtain ⟨o, ho⟩ : ∃ o, l[i]'(by rw [HLL.out]; exact hin) = o := ⟨_, rfl⟩
          have hof : o.fits w := HFI.out o (by rw [← ho]; exact List.getElem_mem _)
          obtain ⟨g0, off, rfl, cp⟩ := HC.out i (by rw [HLL.out]; exact hin) wr HR.out.one.bel
          rw [ho] at cp
          obtain ⟨p0, p1, p2, p3, p4, p5⟩ := cp
          have hns := hof.name
          have HON := Lib.hid hof.n
          have HOK := Lib.hid hof.k
          clear ho hof
          obtain ⟨ok, on, oname, odst, obody, opa, opl, opc⟩ := o
          dsimp only at p0 p1 p2 p3 p4 p5 hns HON HOK
          obtain ⟨m, hm⟩ : ∃ m, oname.size = m := ⟨_, rfl⟩
          obtain ⟨y, hy⟩ : ∃ y, m % 3 = y := ⟨_, rfl⟩
          have hyt : Int.tmod (m : Int) 3 = (y : Int) := by rw [Int.tmod_eq_emod_of_nonneg (by omega)]; omega
          have hyw : IntKind.i64.wrap (y : Int) = (y : Int) := by rw [IntKind.wrap_i64]; omega
          have hy3 : y < 3 := by omega
          obtain ⟨z, hz⟩ : ∃ z, bits .and .i64 on 1 = z := ⟨_, rfl⟩
          have hz2 : 0 ≤ z ∧ z < 2 := by rw [and_1] at hz; omega
          clear hy
          go_upto_if 46 with fail
          go_cut [10] from 23 to 184 (fun v W => (∃ x : Nat, x < 3 ∧ v = .int .i64 (x : Int)) ∧ RS w W b bn bi bh S L B H ∧ W.cell? ⟨wr.heap.size, 0, none⟩ = some (.int .i64 ok) ∧ W.cell? ⟨wr.heap.size, 4, none⟩ = some (.string obody))
          case first =>
            by_cases hN : on < 0
            · go_wp2_with fail
              go_meet
              case rel => exact ⟨⟨2, by decide, rfl⟩, HR.out.below (bel_al wr _), by simp [go_sem], by simp [go_sem]⟩
            · go_wp2_with fail
              go_meet
              case rel => exact ⟨⟨z.toNat, by omega, by rw [Int.toNat_of_nonneg hz2.1]⟩, HR.out.below (bel_al wr _), by simp [go_sem], by simp [go_sem]⟩
          case rest =>
            obtain ⟨⟨x, hx3, rfl⟩, hR1, q0, q4⟩ := hcut
            have HR1 := Lib.hid hR1
            have hz5 := tmod5 ok
            obtain ⟨r, hr⟩ : ∃ r, ok.tmod 5 = r := ⟨_, rfl⟩
            rw [hr] at hz5
            have hrw : IntKind.i64.wrap r = r := by rw [IntKind.wrap_i64]; omega
            have hrn : IntKind.i64.wrap (-r) = -r := by rw [IntKind.wrap_i64]; omega
            clear hR1 HR hz hz2 p0 p1 p2 p3 p4 p5
            go_upto_if 51 with fail
            go_cut [12] from 23 to 184 (fun v W => (∃ k : Nat, k < 5 ∧ v = .int .i64 (k : Int)) ∧ W = wc)
            case first =>
              by_cases hN : r < 0
              · go_wp2_with fail
                go_meet
                case rel => exact ⟨⟨(-r).toNat, by omega, by rw [Int.toNat_of_nonneg (by omega)]⟩, rfl⟩
              · go_wp2_with fail
                go_meet
                case rel => exact ⟨⟨r.toNat, by omega, by rw [Int.toNat_of_nonneg (by omega)]⟩, rfl⟩
            case rest =>
              obtain ⟨⟨k, hk5, rfl⟩, hwc2⟩ := hcut
              rw [hwc2]
              clear hwc2 hz5 hr hrw hrn q0
              have hxx : (x : Int) < 3 := by omega
              have hyy : (y : Int) < 3 := by omega
              go_upto_block 2 with fail
              go_cut [13] from 23 to 184 (fun v W => ∃ V S L B H, RS w W b bn bi bh S L B H ∧ View S V (i + 1) ∧ Fits V B H)
              case first =>
                have hfx := HF.out x hx3
                have cn := HR1.out.bx.atN hx3
                have cb := HR1.out.bx.atB hx3
                have fb := HR1.out.bx.fb (i := x)
                have fh := HR1.out.bx.fh (i := x)
                have hchg : S.chg.length ≤ 1000000 := by have := HV.out.chg; omega
                have hw := HR1.out.whole
                match k, hk5 with
                | 0, _ =>
                  rcases hv : V x with _ | s
                  · as_aux_lemma =>
                      have hbv : B x = false := by rw [hfx.1, hv]; rfl
                      rw [hbv] at cb
                      have hc := fun q hq => (HV.out.create (q := q) hw (by omega) hx3 hq).1 hv
                      go_wp2_with fail
                      refine wp_region_held_drew (S := (fun W => W.cell? ⟨bn, x, none⟩ = some (.string (key3 x)) ∧ W.cell? ⟨bi, x, none⟩ = some (.bool false))) (by kernel_rfl) ⟨cn, cb⟩ (fun hHeld => ?_)
                      refine wpAnyH_take (i := 0) (oi := ?oa1o) (v := ?oa1v) ?oa1h (by kernel_rfl) (by kernel_rfl) (by kernel_rfl) ?oa1q ?oa1y hHeld ?oa1r
                      case oa1h => (simp only [List.getElem?_toArray, List.getElem?_cons_zero]; rfl)
                      case oa1q => exact fun _ _ _ h => h
                      case oa1y => (refine Or.inl ⟨by first | kernel_rfl | rfl, ?_⟩; intro w hSw; (try dsimp only at hSw); obtain ⟨z1, z2⟩ := hSw; go_simp <;> (try with_reducible rfl))
                      try simp only [Act.put, List.setIfInBounds_toArray, List.set_cons_zero, List.set_cons_succ]
                      refine wpAnyH_take (i := 1) (oi := ?oa2o) (v := ?oa2v) ?oa2h (by kernel_rfl) (by kernel_rfl) (by kernel_rfl) ?oa2q ?oa2y hHeld ?oa2r
                      case oa2h => (simp only [List.getElem?_toArray, List.getElem?_cons_succ, List.getElem?_cons_zero]; rfl)
                      case oa2q => exact fun _ _ _ h => h
                      case oa2y => (refine Or.inl ⟨by first | kernel_rfl | rfl, ?_⟩; intro w hSw; (try dsimp only at hSw); obtain ⟨z1, z2⟩ := hSw; go_simp <;> (try with_reducible rfl))
                      try simp only [Act.put, List.setIfInBounds_toArray, List.set_cons_zero, List.set_cons_succ]
                      refine wpAnyH_take (i := 2) (oi := ?oa3o) (v := ?oa3v) ?oa3h (by kernel_rfl) (by kernel_rfl) (by kernel_rfl) ?oa3q ?oa3y hHeld ?oa3r
                      case oa3h => (simp only [List.getElem?_toArray, List.getElem?_cons_succ, List.getElem?_cons_zero]; rfl)
                      case oa3q => exact fun _ _ _ h => h
                      case oa3y => (refine Or.inl ⟨by first | kernel_rfl | rfl, ?_⟩; intro w hSw; (try dsimp only at hSw); obtain ⟨z1, z2⟩ := hSw; go_simp <;> (try with_reducible rfl))
                      try simp only [Act.put, List.setIfInBounds_toArray, List.set_cons_zero, List.set_cons_succ]
                      refine wpAnyH_take (i := 3) (oi := ?oa4o) (v := ?oa4v) ?oa4h (by kernel_rfl) (by kernel_rfl) (by kernel_rfl) ?oa4q ?oa4y hHeld ?oa4r
                      case oa4h => (simp only [List.getElem?_toArray, List.getElem?_cons_succ, List.getElem?_cons_zero]; rfl)
                      case oa4q => exact fun _ _ _ h => h
                      case oa4y => (refine Or.inl ⟨by first | kernel_rfl | rfl, ?_⟩; intro w hSw; (try dsimp only at hSw); obtain ⟨z1, z2⟩ := hSw; go_simp <;> (try with_reducible rfl))
                      try simp only [Act.put, List.setIfInBounds_toArray, List.set_cons_zero, List.set_cons_succ]
                      refine wpAnyH_take (i := 4) (oi := ?oa5o) (v := ?oa5v) ?oa5h (by kernel_rfl) (by kernel_rfl) (by kernel_rfl) ?oa5q ?oa5y hHeld ?oa5r
                      case oa5h => (simp only [List.getElem?_toArray, List.getElem?_cons_succ, List.getElem?_cons_zero]; rfl)
                      case oa5q => exact fun _ _ _ h => h
                      case oa5y => (refine Or.inl ⟨by first | kernel_rfl | rfl, ?_⟩; intro w hSw; (try dsimp only at hSw); obtain ⟨z1, z2⟩ := hSw; go_simp <;> (try with_reducible rfl))
                      try simp only [Act.put, List.setIfInBounds_toArray, List.set_cons_zero, List.set_cons_succ]
                      refine wpAnyH_take (i := 7) (oi := ?oa6o) (v := ?oa6v) ?oa6h (by kernel_rfl) (by kernel_rfl) (by kernel_rfl) ?oa6q ?oa6y hHeld ?oa6r
                      case oa6h => (simp only [List.getElem?_toArray, List.getElem?_cons_succ, List.getElem?_cons_zero]; rfl)
                      case oa6q => exact fun _ _ _ h => h
                      case oa6y => (refine Or.inl ⟨by first | kernel_rfl | rfl, ?_⟩; intro w hSw; (try dsimp only at hSw); obtain ⟨z1, z2⟩ := hSw; go_simp <;> (try with_reducible rfl))
                      try simp only [Act.put, List.setIfInBounds_toArray, List.set_cons_zero, List.set_cons_succ]
                      refine wpAnyH_take (i := 8) (oi := ?oa7o) (v := ?oa7v) ?oa7h (by kernel_rfl) (by kernel_rfl) (by kernel_rfl) ?oa7q ?oa7y hHeld ?oa7r
                      case oa7h => (simp only [List.getElem?_toArray, List.getElem?_cons_succ, List.getElem?_cons_zero]; rfl)
                      case oa7q => exact fun _ _ _ h => h
                      case oa7y => (refine Or.inl ⟨by first | kernel_rfl | rfl, ?_⟩; intro w hSw; (try dsimp only at hSw); obtain ⟨z1, z2⟩ := hSw; go_simp <;> (try with_reducible rfl))
                      try simp only [Act.put, List.setIfInBounds_toArray, List.set_cons_zero, List.set_cons_succ]
                      refine wpAnyH_take (i := 9) (oi := ?oa8o) (v := ?oa8v) ?oa8h (by kernel_rfl) (by kernel_rfl) (by kernel_rfl) ?oa8q ?oa8y hHeld ?oa8r
                      case oa8h => (simp only [List.getElem?_toArray, List.getElem?_cons_succ, List.getElem?_cons_zero]; rfl)
                      case oa8q => exact fun _ _ _ h => h
                      case oa8y => (refine Or.inl ⟨by first | kernel_rfl | rfl, ?_⟩; intro w hSw; (try dsimp only at hSw); obtain ⟨z1, z2⟩ := hSw; go_simp <;> (try with_reducible rfl))
                      try simp only [Act.put, List.setIfInBounds_toArray, List.set_cons_zero, List.set_cons_succ]
                      refine wpAnyH_ready (rs := [5]) (by kernel_rfl) (by simp) ?_
                      refine (AllReadyH.cons rfl (fun K hK => ?_) AllReadyH.nil)
                      go_simp
                      (go_at_call 14; (with_reducible refine (create_dir (key3 x) (HR1.out.below (Below.refl _ _).drew).dir hchg (key3_len x)).mono ?_); rintro e w3 ⟨q, hq, L3, rfl, hW, hD3⟩; (have hc := hc q ((HR1.out.below (Below.refl _ _).drew).one.at_.fresh_id hq)); (rw [hc.1]); (have HV3 := Lib.hid hc.2); (have HR3 := Lib.hid ((HR1.out.below (Below.refl _ _).drew).turn hW hD3)); (have fb3 := HR3.out.bx.fb (i := x)); (have cb3 := HR3.out.bx.atB hx3); clear hW hD3 hq hc)
                      refine hK.out _ _ (⟨HR3.out.bx.atN hx3, by rw [← hbv]; exact HR3.out.bx.atB hx3⟩) (fun hHeld => ?_)
                      clear hK K
                      try simp only [Act.put, List.setIfInBounds_toArray, List.set_cons_zero, List.set_cons_succ]
                      refine wpAnyH_take (i := 6) (oi := ?oa9o) (v := ?oa9v) ?oa9h (by kernel_rfl) (by kernel_rfl) (by kernel_rfl) ?oa9q ?oa9y hHeld ?oa9r
                      case oa9h => (simp only [List.getElem?_toArray, List.getElem?_cons_succ, List.getElem?_cons_zero]; rfl)
                      case oa9q => exact fun _ _ _ h => h
                      case oa9y => (refine Or.inl ⟨by first | kernel_rfl | rfl, ?_⟩; intro w hSw; (try dsimp only at hSw); obtain ⟨z1, z2⟩ := hSw; go_simp <;> (try with_reducible rfl))
                      try simp only [Act.put, List.setIfInBounds_toArray, List.set_cons_zero, List.set_cons_succ]
                      refine wpAnyH_take (i := 10) (oi := ?oa10o) (v := ?oa10v) ?oa10h (by kernel_rfl) (by kernel_rfl) (by kernel_rfl) ?oa10q ?oa10y hHeld ?oa10r
                      case oa10h => (simp only [List.getElem?_toArray, List.getElem?_cons_succ, List.getElem?_cons_zero]; rfl)
                      case oa10q => exact fun _ _ _ h => h
                      case oa10y => (refine Or.inl ⟨by first | kernel_rfl | rfl, ?_⟩; intro w hSw; (try dsimp only at hSw); obtain ⟨z1, z2⟩ := hSw; go_simp <;> (try with_reducible rfl))
                      try simp only [Act.put, List.setIfInBounds_toArray, List.set_cons_zero, List.set_cons_succ]
                      refine wpAnyH_done (by kernel_rfl) ?_ _
                      go_wp2
                      go_meet
                      case rel => exact ⟨_, _, L3, _, _, HR3.out.setB hx3 true, HV3.out, fits_create HF.out hx3 hv⟩
                  · as_aux_lemma =>
                      have hbv : B x = true := by rw [hfx.1, hv]; rfl
                      rw [hbv] at cb
                      have hc := fun q hq => (HV.out.create (q := q) hw (by omega) hx3 hq).2 (by rw [hv]; exact fun h => by cases h)
                      go_wp2_with fail
                      refine wp_region_held_drew (S := (fun W => W.cell? ⟨bn, x, none⟩ = some (.string (key3 x)) ∧ W.cell? ⟨bi, x, none⟩ = some (.bool true))) (by kernel_rfl) ⟨cn, cb⟩ (fun hHeld => ?_)
                      refine wpAnyH_take (i := 0) (oi := ?ob1o) (v := ?ob1v) ?ob1h (by kernel_rfl) (by kernel_rfl) (by kernel_rfl) ?ob1q ?ob1y hHeld ?ob1r
                      case ob1h => (simp only [List.getElem?_toArray, List.getElem?_cons_zero]; rfl)
                      case ob1q => exact fun _ _ _ h => h
                      case ob1y => (refine Or.inl ⟨by first | kernel_rfl | rfl, ?_⟩; intro w hSw; (try dsimp only at hSw); obtain ⟨z1, z2⟩ := hSw; go_simp <;> (try with_reducible rfl))
                      try simp only [Act.put, List.setIfInBounds_toArray, List.set_cons_zero, List.set_cons_succ]
                      refine wpAnyH_take (i := 1) (oi := ?ob2o) (v := ?ob2v) ?ob2h (by kernel_rfl) (by kernel_rfl) (by kernel_rfl) ?ob2q ?ob2y hHeld ?ob2r
                      case ob2h => (simp only [List.getElem?_toArray, List.getElem?_cons_succ, List.getElem?_cons_zero]; rfl)
                      case ob2q => exact fun _ _ _ h => h
                      case ob2y => (refine Or.inl ⟨by first | kernel_rfl | rfl, ?_⟩; intro w hSw; (try dsimp only at hSw); obtain ⟨z1, z2⟩ := hSw; go_simp <;> (try with_reducible rfl))
                      try simp only [Act.put, List.setIfInBounds_toArray, List.set_cons_zero, List.set_cons_succ]
                      refine wpAnyH_take (i := 2) (oi := ?ob3o) (v := ?ob3v) ?ob3h (by kernel_rfl) (by kernel_rfl) (by kernel_rfl) ?ob3q ?ob3y hHeld ?ob3r
                      case ob3h => (simp only [List.getElem?_toArray, List.getElem?_cons_succ, List.getElem?_cons_zero]; rfl)
                      case ob3q => exact fun _ _ _ h => h
                      case ob3y => (refine Or.inl ⟨by first | kernel_rfl | rfl, ?_⟩; intro w hSw; (try dsimp only at hSw); obtain ⟨z1, z2⟩ := hSw; go_simp <;> (try with_reducible rfl))
                      try simp only [Act.put, List.setIfInBounds_toArray, List.set_cons_zero, List.set_cons_succ]
                      refine wpAnyH_take (i := 3) (oi := ?ob4o) (v := ?ob4v) ?ob4h (by kernel_rfl) (by kernel_rfl) (by kernel_rfl) ?ob4q ?ob4y hHeld ?ob4r
                      case ob4h => (simp only [List.getElem?_toArray, List.getElem?_cons_succ, List.getElem?_cons_zero]; rfl)
                      case ob4q => exact fun _ _ _ h => h
                      case ob4y => (refine Or.inl ⟨by first | kernel_rfl | rfl, ?_⟩; intro w hSw; (try dsimp only at hSw); obtain ⟨z1, z2⟩ := hSw; go_simp <;> (try with_reducible rfl))
                      try simp only [Act.put, List.setIfInBounds_toArray, List.set_cons_zero, List.set_cons_succ]
                      refine wpAnyH_take (i := 4) (oi := ?ob5o) (v := ?ob5v) ?ob5h (by kernel_rfl) (by kernel_rfl) (by kernel_rfl) ?ob5q ?ob5y hHeld ?ob5r
                      case ob5h => (simp only [List.getElem?_toArray, List.getElem?_cons_succ, List.getElem?_cons_zero]; rfl)
                      case ob5q => exact fun _ _ _ h => h
                      case ob5y => (refine Or.inl ⟨by first | kernel_rfl | rfl, ?_⟩; intro w hSw; (try dsimp only at hSw); obtain ⟨z1, z2⟩ := hSw; go_simp <;> (try with_reducible rfl))
                      try simp only [Act.put, List.setIfInBounds_toArray, List.set_cons_zero, List.set_cons_succ]
                      refine wpAnyH_take (i := 7) (oi := ?ob6o) (v := ?ob6v) ?ob6h (by kernel_rfl) (by kernel_rfl) (by kernel_rfl) ?ob6q ?ob6y hHeld ?ob6r
                      case ob6h => (simp only [List.getElem?_toArray, List.getElem?_cons_succ, List.getElem?_cons_zero]; rfl)
                      case ob6q => exact fun _ _ _ h => h
                      case ob6y => (refine Or.inl ⟨by first | kernel_rfl | rfl, ?_⟩; intro w hSw; (try dsimp only at hSw); obtain ⟨z1, z2⟩ := hSw; go_simp <;> (try with_reducible rfl))
                      try simp only [Act.put, List.setIfInBounds_toArray, List.set_cons_zero, List.set_cons_succ]
                      refine wpAnyH_take (i := 8) (oi := ?ob7o) (v := ?ob7v) ?ob7h (by kernel_rfl) (by kernel_rfl) (by kernel_rfl) ?ob7q ?ob7y hHeld ?ob7r
                      case ob7h => (simp only [List.getElem?_toArray, List.getElem?_cons_succ, List.getElem?_cons_zero]; rfl)
                      case ob7q => exact fun _ _ _ h => h
                      case ob7y => (refine Or.inl ⟨by first | kernel_rfl | rfl, ?_⟩; intro w hSw; (try dsimp only at hSw); obtain ⟨z1, z2⟩ := hSw; go_simp <;> (try with_reducible rfl))
                      try simp only [Act.put, List.setIfInBounds_toArray, List.set_cons_zero, List.set_cons_succ]
                      refine wpAnyH_take (i := 9) (oi := ?ob8o) (v := ?ob8v) ?ob8h (by kernel_rfl) (by kernel_rfl) (by kernel_rfl) ?ob8q ?ob8y hHeld ?ob8r
                      case ob8h => (simp only [List.getElem?_toArray, List.getElem?_cons_succ, List.getElem?_cons_zero]; rfl)
                      case ob8q => exact fun _ _ _ h => h
                      case ob8y => (refine Or.inl ⟨by first | kernel_rfl | rfl, ?_⟩; intro w hSw; (try dsimp only at hSw); obtain ⟨z1, z2⟩ := hSw; go_simp <;> (try with_reducible rfl))
                      try simp only [Act.put, List.setIfInBounds_toArray, List.set_cons_zero, List.set_cons_succ]
                      refine wpAnyH_ready (rs := [5]) (by kernel_rfl) (by simp) ?_
                      refine (AllReadyH.cons rfl (fun K hK => ?_) AllReadyH.nil)
                      go_simp
                      (go_at_call 14; (with_reducible refine (create_dir (key3 x) (HR1.out.below (Below.refl _ _).drew).dir hchg (key3_len x)).mono ?_); rintro e w3 ⟨q, hq, L3, rfl, hW, hD3⟩; (have hc := hc q ((HR1.out.below (Below.refl _ _).drew).one.at_.fresh_id hq)); (rw [hc.1]); (have HV3 := Lib.hid hc.2); (have HR3 := Lib.hid ((HR1.out.below (Below.refl _ _).drew).turn hW hD3)); (have fb3 := HR3.out.bx.fb (i := x)); (have cb3 := HR3.out.bx.atB hx3); clear hW hD3 hq hc)
                      refine hK.out _ _ (⟨HR3.out.bx.atN hx3, by rw [← hbv]; exact HR3.out.bx.atB hx3⟩) (fun hHeld => ?_)
                      clear hK K
                      try simp only [Act.put, List.setIfInBounds_toArray, List.set_cons_zero, List.set_cons_succ]
                      refine wpAnyH_take (i := 6) (oi := ?ob9o) (v := ?ob9v) ?ob9h (by kernel_rfl) (by kernel_rfl) (by kernel_rfl) ?ob9q ?ob9y hHeld ?ob9r
                      case ob9h => (simp only [List.getElem?_toArray, List.getElem?_cons_succ, List.getElem?_cons_zero]; rfl)
                      case ob9q => exact fun _ _ _ h => h
                      case ob9y => (refine Or.inl ⟨by first | kernel_rfl | rfl, ?_⟩; intro w hSw; (try dsimp only at hSw); obtain ⟨z1, z2⟩ := hSw; go_simp <;> (try with_reducible rfl))
                      try simp only [Act.put, List.setIfInBounds_toArray, List.set_cons_zero, List.set_cons_succ]
                      refine wpAnyH_take (i := 10) (oi := ?ob10o) (v := ?ob10v) ?ob10h (by kernel_rfl) (by kernel_rfl) (by kernel_rfl) ?ob10q ?ob10y hHeld ?ob10r
                      case ob10h => (simp only [List.getElem?_toArray, List.getElem?_cons_succ, List.getElem?_cons_zero]; rfl)
                      case ob10q => exact fun _ _ _ h => h
                      case ob10y => (refine Or.inl ⟨by first | kernel_rfl | rfl, ?_⟩; intro w hSw; (try dsimp only at hSw); obtain ⟨z1, z2⟩ := hSw; go_simp <;> (try with_reducible rfl))
                      try simp only [Act.put, List.setIfInBounds_toArray, List.set_cons_zero, List.set_cons_succ]
                      refine wpAnyH_done (by kernel_rfl) ?_ _
                      go_wp2
                      go_meet
                      case rel => exact ⟨_, _, L3, _, _, HR3.out.setB hx3 true, HV3.out, fits_same HF.out hx3 hv⟩
                | 1, _ =>
                  rcases hv : V x with _ | s
                  · as_aux_lemma =>
                      have hbv : B x = false := by rw [hfx.1, hv]; rfl
                      rw [hbv] at cb
                      have hts := cutB_size obody 100
                      have kx := fun w => kc obody w
                      obtain ⟨t, ht⟩ : ∃ t, cutB obody 100 = t := ⟨_, rfl⟩
                      rw [ht] at kx hts
                      clear ht
                      obtain ⟨v1, v2⟩ := (HV.out.append (t := t) hw (by omega) hx3 hts).2 hv
                      have HV3 := Lib.hid v2
                      have kap := append_dir (key3 x) t (HR1.out.below (Below.refl _ _).drew).dir (key3_len x) (by omega)
                      rw [v1] at kap
                      clear v1 v2
                      go_upto_region 34 with (go_at_call 13; (with_reducible refine (kx _).mono ?_); rintro e w5 ⟨rfl, rfl⟩)
                      go_wp2_with fail
                      refine wp_region_held_drew (S := (fun W => W.cell? ⟨bn, x, none⟩ = some (.string (key3 x)) ∧ W.cell? ⟨bi, x, none⟩ = some (.bool false))) (by kernel_rfl) ⟨cn, cb⟩ (fun hHeld => ?_)
                      refine wpAnyH_take (i := 0) (oi := ?oc1o) (v := ?oc1v) ?oc1h (by kernel_rfl) (by kernel_rfl) (by kernel_rfl) ?oc1q ?oc1y hHeld ?oc1r
                      case oc1h => (simp only [List.getElem?_toArray, List.getElem?_cons_zero]; rfl)
                      case oc1q => exact fun _ _ _ h => h
                      case oc1y => (refine Or.inl ⟨by first | kernel_rfl | rfl, ?_⟩; intro w hSw; (try dsimp only at hSw); obtain ⟨z1, z2⟩ := hSw; go_simp <;> (try with_reducible rfl))
                      try simp only [Act.put, List.setIfInBounds_toArray, List.set_cons_zero, List.set_cons_succ]
                      refine wpAnyH_take (i := 1) (oi := ?oc2o) (v := ?oc2v) ?oc2h (by kernel_rfl) (by kernel_rfl) (by kernel_rfl) ?oc2q ?oc2y hHeld ?oc2r
                      case oc2h => (simp only [List.getElem?_toArray, List.getElem?_cons_succ, List.getElem?_cons_zero]; rfl)
                      case oc2q => exact fun _ _ _ h => h
                      case oc2y => (refine Or.inl ⟨by first | kernel_rfl | rfl, ?_⟩; intro w hSw; (try dsimp only at hSw); obtain ⟨z1, z2⟩ := hSw; go_simp <;> (try with_reducible rfl))
                      try simp only [Act.put, List.setIfInBounds_toArray, List.set_cons_zero, List.set_cons_succ]
                      refine wpAnyH_take (i := 2) (oi := ?oc3o) (v := ?oc3v) ?oc3h (by kernel_rfl) (by kernel_rfl) (by kernel_rfl) ?oc3q ?oc3y hHeld ?oc3r
                      case oc3h => (simp only [List.getElem?_toArray, List.getElem?_cons_succ, List.getElem?_cons_zero]; rfl)
                      case oc3q => exact fun _ _ _ h => h
                      case oc3y => (refine Or.inl ⟨by first | kernel_rfl | rfl, ?_⟩; intro w hSw; (try dsimp only at hSw); obtain ⟨z1, z2⟩ := hSw; go_simp <;> (try with_reducible rfl))
                      try simp only [Act.put, List.setIfInBounds_toArray, List.set_cons_zero, List.set_cons_succ]
                      refine wpAnyH_take (i := 3) (oi := ?oc4o) (v := ?oc4v) ?oc4h (by kernel_rfl) (by kernel_rfl) (by kernel_rfl) ?oc4q ?oc4y hHeld ?oc4r
                      case oc4h => (simp only [List.getElem?_toArray, List.getElem?_cons_succ, List.getElem?_cons_zero]; rfl)
                      case oc4q => exact fun _ _ _ h => h
                      case oc4y => (refine Or.inl ⟨by first | kernel_rfl | rfl, ?_⟩; intro w hSw; (try dsimp only at hSw); obtain ⟨z1, z2⟩ := hSw; go_simp <;> (try with_reducible rfl))
                      try simp only [Act.put, List.setIfInBounds_toArray, List.set_cons_zero, List.set_cons_succ]
                      refine wpAnyH_take (i := 4) (oi := ?oc5o) (v := ?oc5v) ?oc5h (by kernel_rfl) (by kernel_rfl) (by kernel_rfl) ?oc5q ?oc5y hHeld ?oc5r
                      case oc5h => (simp only [List.getElem?_toArray, List.getElem?_cons_succ, List.getElem?_cons_zero]; rfl)
                      case oc5q => exact fun _ _ _ h => h
                      case oc5y => (refine Or.inl ⟨by first | kernel_rfl | rfl, ?_⟩; intro w hSw; (try dsimp only at hSw); obtain ⟨z1, z2⟩ := hSw; go_simp <;> (try with_reducible rfl))
                      try simp only [Act.put, List.setIfInBounds_toArray, List.set_cons_zero, List.set_cons_succ]
                      refine wpAnyH_take (i := 5) (oi := ?oc6o) (v := ?oc6v) ?oc6h (by kernel_rfl) (by kernel_rfl) (by kernel_rfl) ?oc6q ?oc6y hHeld ?oc6r
                      case oc6h => (simp only [List.getElem?_toArray, List.getElem?_cons_succ, List.getElem?_cons_zero]; rfl)
                      case oc6q => exact fun _ _ _ h => h
                      case oc6y => (refine Or.inl ⟨by first | kernel_rfl | rfl, ?_⟩; intro w hSw; (try dsimp only at hSw); obtain ⟨z1, z2⟩ := hSw; go_simp <;> (try with_reducible rfl))
                      try simp only [Act.put, List.setIfInBounds_toArray, List.set_cons_zero, List.set_cons_succ]
                      refine wpAnyH_take (i := 8) (oi := ?oc7o) (v := ?oc7v) ?oc7h (by kernel_rfl) (by kernel_rfl) (by kernel_rfl) ?oc7q ?oc7y hHeld ?oc7r
                      case oc7h => (simp only [List.getElem?_toArray, List.getElem?_cons_succ, List.getElem?_cons_zero]; rfl)
                      case oc7q => exact fun _ _ _ h => h
                      case oc7y => (refine Or.inl ⟨by first | kernel_rfl | rfl, ?_⟩; intro w hSw; (try dsimp only at hSw); obtain ⟨z1, z2⟩ := hSw; go_simp <;> (try with_reducible rfl))
                      try simp only [Act.put, List.setIfInBounds_toArray, List.set_cons_zero, List.set_cons_succ]
                      refine wpAnyH_take (i := 9) (oi := ?oc8o) (v := ?oc8v) ?oc8h (by kernel_rfl) (by kernel_rfl) (by kernel_rfl) ?oc8q ?oc8y hHeld ?oc8r
                      case oc8h => (simp only [List.getElem?_toArray, List.getElem?_cons_succ, List.getElem?_cons_zero]; rfl)
                      case oc8q => exact fun _ _ _ h => h
                      case oc8y => (refine Or.inl ⟨by first | kernel_rfl | rfl, ?_⟩; intro w hSw; (try dsimp only at hSw); obtain ⟨z1, z2⟩ := hSw; go_simp <;> (try with_reducible rfl))
                      try simp only [Act.put, List.setIfInBounds_toArray, List.set_cons_zero, List.set_cons_succ]
                      refine wpAnyH_take (i := 10) (oi := ?oc9o) (v := ?oc9v) ?oc9h (by kernel_rfl) (by kernel_rfl) (by kernel_rfl) ?oc9q ?oc9y hHeld ?oc9r
                      case oc9h => (simp only [List.getElem?_toArray, List.getElem?_cons_succ, List.getElem?_cons_zero]; rfl)
                      case oc9q => exact fun _ _ _ h => h
                      case oc9y => (refine Or.inl ⟨by first | kernel_rfl | rfl, ?_⟩; intro w hSw; (try dsimp only at hSw); obtain ⟨z1, z2⟩ := hSw; go_simp <;> (try with_reducible rfl))
                      try simp only [Act.put, List.setIfInBounds_toArray, List.set_cons_zero, List.set_cons_succ]
                      refine wpAnyH_ready (rs := [6]) (by kernel_rfl) (by simp) ?_
                      refine (AllReadyH.cons rfl (fun K hK => ?_) AllReadyH.nil)
                      go_simp
                      (go_at_call 30; (with_reducible refine (kap).mono ?_); rintro e w3 ⟨L3, rfl, hW, hD3⟩; (have HR3 := Lib.hid ((HR1.out.below (Below.refl _ _).drew).turn hW hD3)); (have fh3 := HR3.out.bx.fh (i := x)); (have ch3 := HR3.out.bx.atH hx3); (have cb3 := HR3.out.bx.atB hx3); (rw [hbv] at cb3); clear hW hD3)
                      refine hK.out _ _ (⟨HR3.out.bx.atN hx3, by rw [← hbv]; exact HR3.out.bx.atB hx3⟩) (fun hHeld => ?_)
                      clear hK K
                      try simp only [Act.put, List.setIfInBounds_toArray, List.set_cons_zero, List.set_cons_succ]
                      refine wpAnyH_take (i := 7) (oi := ?oc10o) (v := ?oc10v) ?oc10h (by kernel_rfl) (by kernel_rfl) (by kernel_rfl) ?oc10q ?oc10y hHeld ?oc10r
                      case oc10h => (simp only [List.getElem?_toArray, List.getElem?_cons_succ, List.getElem?_cons_zero]; rfl)
                      case oc10q => exact fun _ _ _ h => h
                      case oc10y => (refine Or.inl ⟨by first | kernel_rfl | rfl, ?_⟩; intro w hSw; (try dsimp only at hSw); obtain ⟨z1, z2⟩ := hSw; go_simp <;> (try with_reducible rfl))
                      try simp only [Act.put, List.setIfInBounds_toArray, List.set_cons_zero, List.set_cons_succ]
                      refine wpAnyH_take (i := 11) (oi := ?oc11o) (v := ?oc11v) ?oc11h (by kernel_rfl) (by kernel_rfl) (by kernel_rfl) ?oc11q ?oc11y hHeld ?oc11r
                      case oc11h => (simp only [List.getElem?_toArray, List.getElem?_cons_succ, List.getElem?_cons_zero]; rfl)
                      case oc11q => exact fun _ _ _ h => h
                      case oc11y => (refine Or.inl ⟨by first | kernel_rfl | rfl, ?_⟩; intro w hSw; (try dsimp only at hSw); obtain ⟨z1, z2⟩ := hSw; go_simp <;> (try with_reducible rfl))
                      try simp only [Act.put, List.setIfInBounds_toArray, List.set_cons_zero, List.set_cons_succ]
                      refine wpAnyH_done (by kernel_rfl) ?_ _
                      go_wp2
                      go_meet
                      case rel => exact ⟨_, _, L3, _, _, HR3.out, HV3.out, HF.out⟩
                  · as_aux_lemma =>
                      have hbv : B x = true := by rw [hfx.1, hv]; rfl
                      rw [hbv] at cb
                      have hts := cutB_size obody 100
                      have kx := fun w => kc obody w
                      obtain ⟨t, ht⟩ : ∃ t, cutB obody 100 = t := ⟨_, rfl⟩
                      rw [ht] at kx hts
                      clear ht
                      have hsz : s.size ≤ 4000 := by
                        rcases HV.out.val x hx3 with ⟨h1, _⟩ | ⟨_, s2, _, h1, _, _, h4⟩
                        · rw [hv] at h1; cases h1
                        · rw [hv] at h1; injection h1 with h1; subst h1; omega
                      obtain ⟨v1, v2⟩ := (HV.out.append (t := t) hw (by omega) hx3 hts).1 s hv
                      have HV3 := Lib.hid v2
                      have kap := append_dir (key3 x) t (HR1.out.below (Below.refl _ _).drew).dir (key3_len x) (by omega)
                      rw [v1] at kap
                      clear v1 v2
                      go_upto_region 34 with (go_at_call 13; (with_reducible refine (kx _).mono ?_); rintro e w5 ⟨rfl, rfl⟩)
                      go_wp2_with fail
                      refine wp_region_held_drew (S := (fun W => W.cell? ⟨bn, x, none⟩ = some (.string (key3 x)) ∧ W.cell? ⟨bi, x, none⟩ = some (.bool true))) (by kernel_rfl) ⟨cn, cb⟩ (fun hHeld => ?_)
                      refine wpAnyH_take (i := 0) (oi := ?od1o) (v := ?od1v) ?od1h (by kernel_rfl) (by kernel_rfl) (by kernel_rfl) ?od1q ?od1y hHeld ?od1r
                      case od1h => (simp only [List.getElem?_toArray, List.getElem?_cons_zero]; rfl)
                      case od1q => exact fun _ _ _ h => h
                      case od1y => (refine Or.inl ⟨by first | kernel_rfl | rfl, ?_⟩; intro w hSw; (try dsimp only at hSw); obtain ⟨z1, z2⟩ := hSw; go_simp <;> (try with_reducible rfl))
                      try simp only [Act.put, List.setIfInBounds_toArray, List.set_cons_zero, List.set_cons_succ]
                      refine wpAnyH_take (i := 1) (oi := ?od2o) (v := ?od2v) ?od2h (by kernel_rfl) (by kernel_rfl) (by kernel_rfl) ?od2q ?od2y hHeld ?od2r
                      case od2h => (simp only [List.getElem?_toArray, List.getElem?_cons_succ, List.getElem?_cons_zero]; rfl)
                      case od2q => exact fun _ _ _ h => h
                      case od2y => (refine Or.inl ⟨by first | kernel_rfl | rfl, ?_⟩; intro w hSw; (try dsimp only at hSw); obtain ⟨z1, z2⟩ := hSw; go_simp <;> (try with_reducible rfl))
                      try simp only [Act.put, List.setIfInBounds_toArray, List.set_cons_zero, List.set_cons_succ]
                      refine wpAnyH_take (i := 2) (oi := ?od3o) (v := ?od3v) ?od3h (by kernel_rfl) (by kernel_rfl) (by kernel_rfl) ?od3q ?od3y hHeld ?od3r
                      case od3h => (simp only [List.getElem?_toArray, List.getElem?_cons_succ, List.getElem?_cons_zero]; rfl)
                      case od3q => exact fun _ _ _ h => h
                      case od3y => (refine Or.inl ⟨by first | kernel_rfl | rfl, ?_⟩; intro w hSw; (try dsimp only at hSw); obtain ⟨z1, z2⟩ := hSw; go_simp <;> (try with_reducible rfl))
                      try simp only [Act.put, List.setIfInBounds_toArray, List.set_cons_zero, List.set_cons_succ]
                      refine wpAnyH_take (i := 3) (oi := ?od4o) (v := ?od4v) ?od4h (by kernel_rfl) (by kernel_rfl) (by kernel_rfl) ?od4q ?od4y hHeld ?od4r
                      case od4h => (simp only [List.getElem?_toArray, List.getElem?_cons_succ, List.getElem?_cons_zero]; rfl)
                      case od4q => exact fun _ _ _ h => h
                      case od4y => (refine Or.inl ⟨by first | kernel_rfl | rfl, ?_⟩; intro w hSw; (try dsimp only at hSw); obtain ⟨z1, z2⟩ := hSw; go_simp <;> (try with_reducible rfl))
                      try simp only [Act.put, List.setIfInBounds_toArray, List.set_cons_zero, List.set_cons_succ]
                      refine wpAnyH_take (i := 4) (oi := ?od5o) (v := ?od5v) ?od5h (by kernel_rfl) (by kernel_rfl) (by kernel_rfl) ?od5q ?od5y hHeld ?od5r
                      case od5h => (simp only [List.getElem?_toArray, List.getElem?_cons_succ, List.getElem?_cons_zero]; rfl)
                      case od5q => exact fun _ _ _ h => h
                      case od5y => (refine Or.inl ⟨by first | kernel_rfl | rfl, ?_⟩; intro w hSw; (try dsimp only at hSw); obtain ⟨z1, z2⟩ := hSw; go_simp <;> (try with_reducible rfl))
                      try simp only [Act.put, List.setIfInBounds_toArray, List.set_cons_zero, List.set_cons_succ]
                      refine wpAnyH_take (i := 5) (oi := ?od6o) (v := ?od6v) ?od6h (by kernel_rfl) (by kernel_rfl) (by kernel_rfl) ?od6q ?od6y hHeld ?od6r
                      case od6h => (simp only [List.getElem?_toArray, List.getElem?_cons_succ, List.getElem?_cons_zero]; rfl)
                      case od6q => exact fun _ _ _ h => h
                      case od6y => (refine Or.inl ⟨by first | kernel_rfl | rfl, ?_⟩; intro w hSw; (try dsimp only at hSw); obtain ⟨z1, z2⟩ := hSw; go_simp <;> (try with_reducible rfl))
                      try simp only [Act.put, List.setIfInBounds_toArray, List.set_cons_zero, List.set_cons_succ]
                      refine wpAnyH_take (i := 8) (oi := ?od7o) (v := ?od7v) ?od7h (by kernel_rfl) (by kernel_rfl) (by kernel_rfl) ?od7q ?od7y hHeld ?od7r
                      case od7h => (simp only [List.getElem?_toArray, List.getElem?_cons_succ, List.getElem?_cons_zero]; rfl)
                      case od7q => exact fun _ _ _ h => h
                      case od7y => (refine Or.inl ⟨by first | kernel_rfl | rfl, ?_⟩; intro w hSw; (try dsimp only at hSw); obtain ⟨z1, z2⟩ := hSw; go_simp <;> (try with_reducible rfl))
                      try simp only [Act.put, List.setIfInBounds_toArray, List.set_cons_zero, List.set_cons_succ]
                      refine wpAnyH_take (i := 9) (oi := ?od8o) (v := ?od8v) ?od8h (by kernel_rfl) (by kernel_rfl) (by kernel_rfl) ?od8q ?od8y hHeld ?od8r
                      case od8h => (simp only [List.getElem?_toArray, List.getElem?_cons_succ, List.getElem?_cons_zero]; rfl)
                      case od8q => exact fun _ _ _ h => h
                      case od8y => (refine Or.inl ⟨by first | kernel_rfl | rfl, ?_⟩; intro w hSw; (try dsimp only at hSw); obtain ⟨z1, z2⟩ := hSw; go_simp <;> (try with_reducible rfl))
                      try simp only [Act.put, List.setIfInBounds_toArray, List.set_cons_zero, List.set_cons_succ]
                      refine wpAnyH_take (i := 10) (oi := ?od9o) (v := ?od9v) ?od9h (by kernel_rfl) (by kernel_rfl) (by kernel_rfl) ?od9q ?od9y hHeld ?od9r
                      case od9h => (simp only [List.getElem?_toArray, List.getElem?_cons_succ, List.getElem?_cons_zero]; rfl)
                      case od9q => exact fun _ _ _ h => h
                      case od9y => (refine Or.inl ⟨by first | kernel_rfl | rfl, ?_⟩; intro w hSw; (try dsimp only at hSw); obtain ⟨z1, z2⟩ := hSw; go_simp <;> (try with_reducible rfl))
                      try simp only [Act.put, List.setIfInBounds_toArray, List.set_cons_zero, List.set_cons_succ]
                      refine wpAnyH_ready (rs := [6]) (by kernel_rfl) (by simp) ?_
                      refine (AllReadyH.cons rfl (fun K hK => ?_) AllReadyH.nil)
                      go_simp
                      (go_at_call 30; (with_reducible refine (kap).mono ?_); rintro e w3 ⟨L3, rfl, hW, hD3⟩; (have HR3 := Lib.hid ((HR1.out.below (Below.refl _ _).drew).turn hW hD3)); (have fh3 := HR3.out.bx.fh (i := x)); (have ch3 := HR3.out.bx.atH hx3); (have cb3 := HR3.out.bx.atB hx3); (rw [hbv] at cb3); clear hW hD3; (have hsh : H x = s := by rw [hfx.2, hv]; rfl); (rw [hsh] at ch3))
                      refine hK.out _ _ (⟨HR3.out.bx.atN hx3, by rw [← hbv]; exact HR3.out.bx.atB hx3⟩) (fun hHeld => ?_)
                      clear hK K
                      try simp only [Act.put, List.setIfInBounds_toArray, List.set_cons_zero, List.set_cons_succ]
                      refine wpAnyH_take (i := 7) (oi := ?od10o) (v := ?od10v) ?od10h (by kernel_rfl) (by kernel_rfl) (by kernel_rfl) ?od10q ?od10y hHeld ?od10r
                      case od10h => (simp only [List.getElem?_toArray, List.getElem?_cons_succ, List.getElem?_cons_zero]; rfl)
                      case od10q => exact fun _ _ _ h => h
                      case od10y => (refine Or.inl ⟨by first | kernel_rfl | rfl, ?_⟩; intro w hSw; (try dsimp only at hSw); obtain ⟨z1, z2⟩ := hSw; go_simp <;> (try with_reducible rfl))
                      try simp only [Act.put, List.setIfInBounds_toArray, List.set_cons_zero, List.set_cons_succ]
                      refine wpAnyH_take (i := 11) (oi := ?od11o) (v := ?od11v) ?od11h (by kernel_rfl) (by kernel_rfl) (by kernel_rfl) ?od11q ?od11y hHeld ?od11r
                      case od11h => (simp only [List.getElem?_toArray, List.getElem?_cons_succ, List.getElem?_cons_zero]; rfl)
                      case od11q => exact fun _ _ _ h => h
                      case od11y => (refine Or.inl ⟨by first | kernel_rfl | rfl, ?_⟩; intro w hSw; (try dsimp only at hSw); obtain ⟨z1, z2⟩ := hSw; go_simp <;> (try with_reducible rfl))
                      try simp only [Act.put, List.setIfInBounds_toArray, List.set_cons_zero, List.set_cons_succ]
                      refine wpAnyH_done (by kernel_rfl) ?_ _
                      go_wp2
                      go_meet
                      case rel => exact ⟨_, _, L3, _, _, HR3.out.setH hx3 (s ++ t), HV3.out, fits_append HF.out hx3 hv⟩
                | 2, _ =>
                  rcases hv : V x with _ | s
                  · as_aux_lemma =>
                      have hbv : B x = false := by rw [hfx.1, hv]; rfl
                      rw [hbv] at cb
                      have hts := cutB_size obody 100
                      have kx := fun w => kc obody w
                      obtain ⟨t, ht⟩ : ∃ t, cutB obody 100 = t := ⟨_, rfl⟩
                      rw [ht] at kx hts
                      clear ht
                      obtain ⟨v1, v2⟩ := (HV.out.append (t := t) hw (by omega) hx3 hts).2 hv
                      have HV3 := Lib.hid v2
                      have kap := append_dir (key3 x) t (HR1.out.below (Below.refl _ _).drew).dir (key3_len x) (by omega)
                      rw [v1] at kap
                      clear v1 v2
                      go_upto_region 34 with (go_at_call 13; (with_reducible refine (kx _).mono ?_); rintro e w5 ⟨rfl, rfl⟩)
                      go_wp2_with fail
                      refine wp_region_held_drew (S := (fun W => W.cell? ⟨bn, x, none⟩ = some (.string (key3 x)) ∧ W.cell? ⟨bi, x, none⟩ = some (.bool false))) (by kernel_rfl) ⟨cn, cb⟩ (fun hHeld => ?_)
                      refine wpAnyH_take (i := 0) (oi := ?oe1o) (v := ?oe1v) ?oe1h (by kernel_rfl) (by kernel_rfl) (by kernel_rfl) ?oe1q ?oe1y hHeld ?oe1r
                      case oe1h => (simp only [List.getElem?_toArray, List.getElem?_cons_zero]; rfl)
                      case oe1q => exact fun _ _ _ h => h
                      case oe1y => (refine Or.inl ⟨by first | kernel_rfl | rfl, ?_⟩; intro w hSw; (try dsimp only at hSw); obtain ⟨z1, z2⟩ := hSw; go_simp <;> (try with_reducible rfl))
                      try simp only [Act.put, List.setIfInBounds_toArray, List.set_cons_zero, List.set_cons_succ]
                      refine wpAnyH_take (i := 1) (oi := ?oe2o) (v := ?oe2v) ?oe2h (by kernel_rfl) (by kernel_rfl) (by kernel_rfl) ?oe2q ?oe2y hHeld ?oe2r
                      case oe2h => (simp only [List.getElem?_toArray, List.getElem?_cons_succ, List.getElem?_cons_zero]; rfl)
                      case oe2q => exact fun _ _ _ h => h
                      case oe2y => (refine Or.inl ⟨by first | kernel_rfl | rfl, ?_⟩; intro w hSw; (try dsimp only at hSw); obtain ⟨z1, z2⟩ := hSw; go_simp <;> (try with_reducible rfl))
                      try simp only [Act.put, List.setIfInBounds_toArray, List.set_cons_zero, List.set_cons_succ]
                      refine wpAnyH_take (i := 2) (oi := ?oe3o) (v := ?oe3v) ?oe3h (by kernel_rfl) (by kernel_rfl) (by kernel_rfl) ?oe3q ?oe3y hHeld ?oe3r
                      case oe3h => (simp only [List.getElem?_toArray, List.getElem?_cons_succ, List.getElem?_cons_zero]; rfl)
                      case oe3q => exact fun _ _ _ h => h
                      case oe3y => (refine Or.inl ⟨by first | kernel_rfl | rfl, ?_⟩; intro w hSw; (try dsimp only at hSw); obtain ⟨z1, z2⟩ := hSw; go_simp <;> (try with_reducible rfl))
                      try simp only [Act.put, List.setIfInBounds_toArray, List.set_cons_zero, List.set_cons_succ]
                      refine wpAnyH_take (i := 3) (oi := ?oe4o) (v := ?oe4v) ?oe4h (by kernel_rfl) (by kernel_rfl) (by kernel_rfl) ?oe4q ?oe4y hHeld ?oe4r
                      case oe4h => (simp only [List.getElem?_toArray, List.getElem?_cons_succ, List.getElem?_cons_zero]; rfl)
                      case oe4q => exact fun _ _ _ h => h
                      case oe4y => (refine Or.inl ⟨by first | kernel_rfl | rfl, ?_⟩; intro w hSw; (try dsimp only at hSw); obtain ⟨z1, z2⟩ := hSw; go_simp <;> (try with_reducible rfl))
                      try simp only [Act.put, List.setIfInBounds_toArray, List.set_cons_zero, List.set_cons_succ]
                      refine wpAnyH_take (i := 4) (oi := ?oe5o) (v := ?oe5v) ?oe5h (by kernel_rfl) (by kernel_rfl) (by kernel_rfl) ?oe5q ?oe5y hHeld ?oe5r
                      case oe5h => (simp only [List.getElem?_toArray, List.getElem?_cons_succ, List.getElem?_cons_zero]; rfl)
                      case oe5q => exact fun _ _ _ h => h
                      case oe5y => (refine Or.inl ⟨by first | kernel_rfl | rfl, ?_⟩; intro w hSw; (try dsimp only at hSw); obtain ⟨z1, z2⟩ := hSw; go_simp <;> (try with_reducible rfl))
                      try simp only [Act.put, List.setIfInBounds_toArray, List.set_cons_zero, List.set_cons_succ]
                      refine wpAnyH_take (i := 5) (oi := ?oe6o) (v := ?oe6v) ?oe6h (by kernel_rfl) (by kernel_rfl) (by kernel_rfl) ?oe6q ?oe6y hHeld ?oe6r
                      case oe6h => (simp only [List.getElem?_toArray, List.getElem?_cons_succ, List.getElem?_cons_zero]; rfl)
                      case oe6q => exact fun _ _ _ h => h
                      case oe6y => (refine Or.inl ⟨by first | kernel_rfl | rfl, ?_⟩; intro w hSw; (try dsimp only at hSw); obtain ⟨z1, z2⟩ := hSw; go_simp <;> (try with_reducible rfl))
                      try simp only [Act.put, List.setIfInBounds_toArray, List.set_cons_zero, List.set_cons_succ]
                      refine wpAnyH_take (i := 8) (oi := ?oe7o) (v := ?oe7v) ?oe7h (by kernel_rfl) (by kernel_rfl) (by kernel_rfl) ?oe7q ?oe7y hHeld ?oe7r
                      case oe7h => (simp only [List.getElem?_toArray, List.getElem?_cons_succ, List.getElem?_cons_zero]; rfl)
                      case oe7q => exact fun _ _ _ h => h
                      case oe7y => (refine Or.inl ⟨by first | kernel_rfl | rfl, ?_⟩; intro w hSw; (try dsimp only at hSw); obtain ⟨z1, z2⟩ := hSw; go_simp <;> (try with_reducible rfl))
                      try simp only [Act.put, List.setIfInBounds_toArray, List.set_cons_zero, List.set_cons_succ]
                      refine wpAnyH_take (i := 9) (oi := ?oe8o) (v := ?oe8v) ?oe8h (by kernel_rfl) (by kernel_rfl) (by kernel_rfl) ?oe8q ?oe8y hHeld ?oe8r
                      case oe8h => (simp only [List.getElem?_toArray, List.getElem?_cons_succ, List.getElem?_cons_zero]; rfl)
                      case oe8q => exact fun _ _ _ h => h
                      case oe8y => (refine Or.inl ⟨by first | kernel_rfl | rfl, ?_⟩; intro w hSw; (try dsimp only at hSw); obtain ⟨z1, z2⟩ := hSw; go_simp <;> (try with_reducible rfl))
                      try simp only [Act.put, List.setIfInBounds_toArray, List.set_cons_zero, List.set_cons_succ]
                      refine wpAnyH_take (i := 10) (oi := ?oe9o) (v := ?oe9v) ?oe9h (by kernel_rfl) (by kernel_rfl) (by kernel_rfl) ?oe9q ?oe9y hHeld ?oe9r
                      case oe9h => (simp only [List.getElem?_toArray, List.getElem?_cons_succ, List.getElem?_cons_zero]; rfl)
                      case oe9q => exact fun _ _ _ h => h
                      case oe9y => (refine Or.inl ⟨by first | kernel_rfl | rfl, ?_⟩; intro w hSw; (try dsimp only at hSw); obtain ⟨z1, z2⟩ := hSw; go_simp <;> (try with_reducible rfl))
                      try simp only [Act.put, List.setIfInBounds_toArray, List.set_cons_zero, List.set_cons_succ]
                      refine wpAnyH_ready (rs := [6]) (by kernel_rfl) (by simp) ?_
                      refine (AllReadyH.cons rfl (fun K hK => ?_) AllReadyH.nil)
                      go_simp
                      (go_at_call 30; (with_reducible refine (kap).mono ?_); rintro e w3 ⟨L3, rfl, hW, hD3⟩; (have HR3 := Lib.hid ((HR1.out.below (Below.refl _ _).drew).turn hW hD3)); (have fh3 := HR3.out.bx.fh (i := x)); (have ch3 := HR3.out.bx.atH hx3); (have cb3 := HR3.out.bx.atB hx3); (rw [hbv] at cb3); clear hW hD3)
                      refine hK.out _ _ (⟨HR3.out.bx.atN hx3, by rw [← hbv]; exact HR3.out.bx.atB hx3⟩) (fun hHeld => ?_)
                      clear hK K
                      try simp only [Act.put, List.setIfInBounds_toArray, List.set_cons_zero, List.set_cons_succ]
                      refine wpAnyH_take (i := 7) (oi := ?oe10o) (v := ?oe10v) ?oe10h (by kernel_rfl) (by kernel_rfl) (by kernel_rfl) ?oe10q ?oe10y hHeld ?oe10r
                      case oe10h => (simp only [List.getElem?_toArray, List.getElem?_cons_succ, List.getElem?_cons_zero]; rfl)
                      case oe10q => exact fun _ _ _ h => h
                      case oe10y => (refine Or.inl ⟨by first | kernel_rfl | rfl, ?_⟩; intro w hSw; (try dsimp only at hSw); obtain ⟨z1, z2⟩ := hSw; go_simp <;> (try with_reducible rfl))
                      try simp only [Act.put, List.setIfInBounds_toArray, List.set_cons_zero, List.set_cons_succ]
                      refine wpAnyH_take (i := 11) (oi := ?oe11o) (v := ?oe11v) ?oe11h (by kernel_rfl) (by kernel_rfl) (by kernel_rfl) ?oe11q ?oe11y hHeld ?oe11r
                      case oe11h => (simp only [List.getElem?_toArray, List.getElem?_cons_succ, List.getElem?_cons_zero]; rfl)
                      case oe11q => exact fun _ _ _ h => h
                      case oe11y => (refine Or.inl ⟨by first | kernel_rfl | rfl, ?_⟩; intro w hSw; (try dsimp only at hSw); obtain ⟨z1, z2⟩ := hSw; go_simp <;> (try with_reducible rfl))
                      try simp only [Act.put, List.setIfInBounds_toArray, List.set_cons_zero, List.set_cons_succ]
                      refine wpAnyH_done (by kernel_rfl) ?_ _
                      go_wp2
                      go_meet
                      case rel => exact ⟨_, _, L3, _, _, HR3.out, HV3.out, HF.out⟩
                  · as_aux_lemma =>
                      have hbv : B x = true := by rw [hfx.1, hv]; rfl
                      rw [hbv] at cb
                      have hts := cutB_size obody 100
                      have kx := fun w => kc obody w
                      obtain ⟨t, ht⟩ : ∃ t, cutB obody 100 = t := ⟨_, rfl⟩
                      rw [ht] at kx hts
                      clear ht
                      have hsz : s.size ≤ 4000 := by
                        rcases HV.out.val x hx3 with ⟨h1, _⟩ | ⟨_, s2, _, h1, _, _, h4⟩
                        · rw [hv] at h1; cases h1
                        · rw [hv] at h1; injection h1 with h1; subst h1; omega
                      obtain ⟨v1, v2⟩ := (HV.out.append (t := t) hw (by omega) hx3 hts).1 s hv
                      have HV3 := Lib.hid v2
                      have kap := append_dir (key3 x) t (HR1.out.below (Below.refl _ _).drew).dir (key3_len x) (by omega)
                      rw [v1] at kap
                      clear v1 v2
                      go_upto_region 34 with (go_at_call 13; (with_reducible refine (kx _).mono ?_); rintro e w5 ⟨rfl, rfl⟩)
                      go_wp2_with fail
                      refine wp_region_held_drew (S := (fun W => W.cell? ⟨bn, x, none⟩ = some (.string (key3 x)) ∧ W.cell? ⟨bi, x, none⟩ = some (.bool true))) (by kernel_rfl) ⟨cn, cb⟩ (fun hHeld => ?_)
                      refine wpAnyH_take (i := 0) (oi := ?of1o) (v := ?of1v) ?of1h (by kernel_rfl) (by kernel_rfl) (by kernel_rfl) ?of1q ?of1y hHeld ?of1r
                      case of1h => (simp only [List.getElem?_toArray, List.getElem?_cons_zero]; rfl)
                      case of1q => exact fun _ _ _ h => h
                      case of1y => (refine Or.inl ⟨by first | kernel_rfl | rfl, ?_⟩; intro w hSw; (try dsimp only at hSw); obtain ⟨z1, z2⟩ := hSw; go_simp <;> (try with_reducible rfl))
                      try simp only [Act.put, List.setIfInBounds_toArray, List.set_cons_zero, List.set_cons_succ]
                      refine wpAnyH_take (i := 1) (oi := ?of2o) (v := ?of2v) ?of2h (by kernel_rfl) (by kernel_rfl) (by kernel_rfl) ?of2q ?of2y hHeld ?of2r
                      case of2h => (simp only [List.getElem?_toArray, List.getElem?_cons_succ, List.getElem?_cons_zero]; rfl)
                      case of2q => exact fun _ _ _ h => h
                      case of2y => (refine Or.inl ⟨by first | kernel_rfl | rfl, ?_⟩; intro w hSw; (try dsimp only at hSw); obtain ⟨z1, z2⟩ := hSw; go_simp <;> (try with_reducible rfl))
                      try simp only [Act.put, List.setIfInBounds_toArray, List.set_cons_zero, List.set_cons_succ]
                      refine wpAnyH_take (i := 2) (oi := ?of3o) (v := ?of3v) ?of3h (by kernel_rfl) (by kernel_rfl) (by kernel_rfl) ?of3q ?of3y hHeld ?of3r
                      case of3h => (simp only [List.getElem?_toArray, List.getElem?_cons_succ, List.getElem?_cons_zero]; rfl)
                      case of3q => exact fun _ _ _ h => h
                      case of3y => (refine Or.inl ⟨by first | kernel_rfl | rfl, ?_⟩; intro w hSw; (try dsimp only at hSw); obtain ⟨z1, z2⟩ := hSw; go_simp <;> (try with_reducible rfl))
                      try simp only [Act.put, List.setIfInBounds_toArray, List.set_cons_zero, List.set_cons_succ]
                      refine wpAnyH_take (i := 3) (oi := ?of4o) (v := ?of4v) ?of4h (by kernel_rfl) (by kernel_rfl) (by kernel_rfl) ?of4q ?of4y hHeld ?of4r
                      case of4h => (simp only [List.getElem?_toArray, List.getElem?_cons_succ, List.getElem?_cons_zero]; rfl)
                      case of4q => exact fun _ _ _ h => h
                      case of4y => (refine Or.inl ⟨by first | kernel_rfl | rfl, ?_⟩; intro w hSw; (try dsimp only at hSw); obtain ⟨z1, z2⟩ := hSw; go_simp <;> (try with_reducible rfl))
                      try simp only [Act.put, List.setIfInBounds_toArray, List.set_cons_zero, List.set_cons_succ]
                      refine wpAnyH_take (i := 4) (oi := ?of5o) (v := ?of5v) ?of5h (by kernel_rfl) (by kernel_rfl) (by kernel_rfl) ?of5q ?of5y hHeld ?of5r
                      case of5h => (simp only [List.getElem?_toArray, List.getElem?_cons_succ, List.getElem?_cons_zero]; rfl)
                      case of5q => exact fun _ _ _ h => h
                      case of5y => (refine Or.inl ⟨by first | kernel_rfl | rfl, ?_⟩; intro w hSw; (try dsimp only at hSw); obtain ⟨z1, z2⟩ := hSw; go_simp <;> (try with_reducible rfl))
                      try simp only [Act.put, List.setIfInBounds_toArray, List.set_cons_zero, List.set_cons_succ]
                      refine wpAnyH_take (i := 5) (oi := ?of6o) (v := ?of6v) ?of6h (by kernel_rfl) (by kernel_rfl) (by kernel_rfl) ?of6q ?of6y hHeld ?of6r
                      case of6h => (simp only [List.getElem?_toArray, List.getElem?_cons_succ, List.getElem?_cons_zero]; rfl)
                      case of6q => exact fun _ _ _ h => h
                      case of6y => (refine Or.inl ⟨by first | kernel_rfl | rfl, ?_⟩; intro w hSw; (try dsimp only at hSw); obtain ⟨z1, z2⟩ := hSw; go_simp <;> (try with_reducible rfl))
                      try simp only [Act.put, List.setIfInBounds_toArray, List.set_cons_zero, List.set_cons_succ]
                      refine wpAnyH_take (i := 8) (oi := ?of7o) (v := ?of7v) ?of7h (by kernel_rfl) (by kernel_rfl) (by kernel_rfl) ?of7q ?of7y hHeld ?of7r
                      case of7h => (simp only [List.getElem?_toArray, List.getElem?_cons_succ, List.getElem?_cons_zero]; rfl)
                      case of7q => exact fun _ _ _ h => h
                      case of7y => (refine Or.inl ⟨by first | kernel_rfl | rfl, ?_⟩; intro w hSw; (try dsimp only at hSw); obtain ⟨z1, z2⟩ := hSw; go_simp <;> (try with_reducible rfl))
                      try simp only [Act.put, List.setIfInBounds_toArray, List.set_cons_zero, List.set_cons_succ]
                      refine wpAnyH_take (i := 9) (oi := ?of8o) (v := ?of8v) ?of8h (by kernel_rfl) (by kernel_rfl) (by kernel_rfl) ?of8q ?of8y hHeld ?of8r
                      case of8h => (simp only [List.getElem?_toArray, List.getElem?_cons_succ, List.getElem?_cons_zero]; rfl)
                      case of8q => exact fun _ _ _ h => h
                      case of8y => (refine Or.inl ⟨by first | kernel_rfl | rfl, ?_⟩; intro w hSw; (try dsimp only at hSw); obtain ⟨z1, z2⟩ := hSw; go_simp <;> (try with_reducible rfl))
                      try simp only [Act.put, List.setIfInBounds_toArray, List.set_cons_zero, List.set_cons_succ]
                      refine wpAnyH_take (i := 10) (oi := ?of9o) (v := ?of9v) ?of9h (by kernel_rfl) (by kernel_rfl) (by kernel_rfl) ?of9q ?of9y hHeld ?of9r
                      case of9h => (simp only [List.getElem?_toArray, List.getElem?_cons_succ, List.getElem?_cons_zero]; rfl)
                      case of9q => exact fun _ _ _ h => h
                      case of9y => (refine Or.inl ⟨by first | kernel_rfl | rfl, ?_⟩; intro w hSw; (try dsimp only at hSw); obtain ⟨z1, z2⟩ := hSw; go_simp <;> (try with_reducible rfl))
                      try simp only [Act.put, List.setIfInBounds_toArray, List.set_cons_zero, List.set_cons_succ]
                      refine wpAnyH_ready (rs := [6]) (by kernel_rfl) (by simp) ?_
                      refine (AllReadyH.cons rfl (fun K hK => ?_) AllReadyH.nil)
                      go_simp
                      (go_at_call 30; (with_reducible refine (kap).mono ?_); rintro e w3 ⟨L3, rfl, hW, hD3⟩; (have HR3 := Lib.hid ((HR1.out.below (Below.refl _ _).drew).turn hW hD3)); (have fh3 := HR3.out.bx.fh (i := x)); (have ch3 := HR3.out.bx.atH hx3); (have cb3 := HR3.out.bx.atB hx3); (rw [hbv] at cb3); clear hW hD3; (have hsh : H x = s := by rw [hfx.2, hv]; rfl); (rw [hsh] at ch3))
                      refine hK.out _ _ (⟨HR3.out.bx.atN hx3, by rw [← hbv]; exact HR3.out.bx.atB hx3⟩) (fun hHeld => ?_)
                      clear hK K
                      try simp only [Act.put, List.setIfInBounds_toArray, List.set_cons_zero, List.set_cons_succ]
                      refine wpAnyH_take (i := 7) (oi := ?of10o) (v := ?of10v) ?of10h (by kernel_rfl) (by kernel_rfl) (by kernel_rfl) ?of10q ?of10y hHeld ?of10r
                      case of10h => (simp only [List.getElem?_toArray, List.getElem?_cons_succ, List.getElem?_cons_zero]; rfl)
                      case of10q => exact fun _ _ _ h => h
                      case of10y => (refine Or.inl ⟨by first | kernel_rfl | rfl, ?_⟩; intro w hSw; (try dsimp only at hSw); obtain ⟨z1, z2⟩ := hSw; go_simp <;> (try with_reducible rfl))
                      try simp only [Act.put, List.setIfInBounds_toArray, List.set_cons_zero, List.set_cons_succ]
                      refine wpAnyH_take (i := 11) (oi := ?of11o) (v := ?of11v) ?of11h (by kernel_rfl) (by kernel_rfl) (by kernel_rfl) ?of11q ?of11y hHeld ?of11r
                      case of11h => (simp only [List.getElem?_toArray, List.getElem?_cons_succ, List.getElem?_cons_zero]; rfl)
                      case of11q => exact fun _ _ _ h => h
                      case of11y => (refine Or.inl ⟨by first | kernel_rfl | rfl, ?_⟩; intro w hSw; (try dsimp only at hSw); obtain ⟨z1, z2⟩ := hSw; go_simp <;> (try with_reducible rfl))
                      try simp only [Act.put, List.setIfInBounds_toArray, List.set_cons_zero, List.set_cons_succ]
                      refine wpAnyH_done (by kernel_rfl) ?_ _
                      go_wp2
                      go_meet
                      case rel => exact ⟨_, _, L3, _, _, HR3.out.setH hx3 (s ++ t), HV3.out, fits_append HF.out hx3 hv⟩
                | 3, _ =>
                  rcases hv : V x with _ | s
                  · as_aux_lemma =>
                      have hbv : B x = false := by rw [hfx.1, hv]; rfl
                      rw [hbv] at cb
                      obtain ⟨v1, v2⟩ := (HV.out.delete hw hx3).2 hv
                      have HV3 := Lib.hid v2
                      have kde := delete_dir (key3 x) (HR1.out.below (Below.refl _ _).drew).dir hchg (key3_len x)
                      rw [v1] at kde
                      clear v1 v2
                      go_wp2_with fail
                      refine wp_region_held_drew (S := (fun W => W.cell? ⟨bn, x, none⟩ = some (.string (key3 x)) ∧ W.cell? ⟨bi, x, none⟩ = some (.bool false))) (by kernel_rfl) ⟨cn, cb⟩ (fun hHeld => ?_)
                      refine wpAnyH_take (i := 0) (oi := ?og1o) (v := ?og1v) ?og1h (by kernel_rfl) (by kernel_rfl) (by kernel_rfl) ?og1q ?og1y hHeld ?og1r
                      case og1h => (simp only [List.getElem?_toArray, List.getElem?_cons_zero]; rfl)
                      case og1q => exact fun _ _ _ h => h
                      case og1y => (refine Or.inl ⟨by first | kernel_rfl | rfl, ?_⟩; intro w hSw; (try dsimp only at hSw); obtain ⟨z1, z2⟩ := hSw; go_simp <;> (try with_reducible rfl))
                      try simp only [Act.put, List.setIfInBounds_toArray, List.set_cons_zero, List.set_cons_succ]
                      refine wpAnyH_take (i := 1) (oi := ?og2o) (v := ?og2v) ?og2h (by kernel_rfl) (by kernel_rfl) (by kernel_rfl) ?og2q ?og2y hHeld ?og2r
                      case og2h => (simp only [List.getElem?_toArray, List.getElem?_cons_succ, List.getElem?_cons_zero]; rfl)
                      case og2q => exact fun _ _ _ h => h
                      case og2y => (refine Or.inl ⟨by first | kernel_rfl | rfl, ?_⟩; intro w hSw; (try dsimp only at hSw); obtain ⟨z1, z2⟩ := hSw; go_simp <;> (try with_reducible rfl))
                      try simp only [Act.put, List.setIfInBounds_toArray, List.set_cons_zero, List.set_cons_succ]
                      refine wpAnyH_take (i := 2) (oi := ?og3o) (v := ?og3v) ?og3h (by kernel_rfl) (by kernel_rfl) (by kernel_rfl) ?og3q ?og3y hHeld ?og3r
                      case og3h => (simp only [List.getElem?_toArray, List.getElem?_cons_succ, List.getElem?_cons_zero]; rfl)
                      case og3q => exact fun _ _ _ h => h
                      case og3y => (refine Or.inl ⟨by first | kernel_rfl | rfl, ?_⟩; intro w hSw; (try dsimp only at hSw); obtain ⟨z1, z2⟩ := hSw; go_simp <;> (try with_reducible rfl))
                      try simp only [Act.put, List.setIfInBounds_toArray, List.set_cons_zero, List.set_cons_succ]
                      refine wpAnyH_take (i := 3) (oi := ?og4o) (v := ?og4v) ?og4h (by kernel_rfl) (by kernel_rfl) (by kernel_rfl) ?og4q ?og4y hHeld ?og4r
                      case og4h => (simp only [List.getElem?_toArray, List.getElem?_cons_succ, List.getElem?_cons_zero]; rfl)
                      case og4q => exact fun _ _ _ h => h
                      case og4y => (refine Or.inl ⟨by first | kernel_rfl | rfl, ?_⟩; intro w hSw; (try dsimp only at hSw); obtain ⟨z1, z2⟩ := hSw; go_simp <;> (try with_reducible rfl))
                      try simp only [Act.put, List.setIfInBounds_toArray, List.set_cons_zero, List.set_cons_succ]
                      refine wpAnyH_take (i := 4) (oi := ?og5o) (v := ?og5v) ?og5h (by kernel_rfl) (by kernel_rfl) (by kernel_rfl) ?og5q ?og5y hHeld ?og5r
                      case og5h => (simp only [List.getElem?_toArray, List.getElem?_cons_succ, List.getElem?_cons_zero]; rfl)
                      case og5q => exact fun _ _ _ h => h
                      case og5y => (refine Or.inl ⟨by first | kernel_rfl | rfl, ?_⟩; intro w hSw; (try dsimp only at hSw); obtain ⟨z1, z2⟩ := hSw; go_simp <;> (try with_reducible rfl))
                      try simp only [Act.put, List.setIfInBounds_toArray, List.set_cons_zero, List.set_cons_succ]
                      refine wpAnyH_take (i := 7) (oi := ?og6o) (v := ?og6v) ?og6h (by kernel_rfl) (by kernel_rfl) (by kernel_rfl) ?og6q ?og6y hHeld ?og6r
                      case og6h => (simp only [List.getElem?_toArray, List.getElem?_cons_succ, List.getElem?_cons_zero]; rfl)
                      case og6q => exact fun _ _ _ h => h
                      case og6y => (refine Or.inl ⟨by first | kernel_rfl | rfl, ?_⟩; intro w hSw; (try dsimp only at hSw); obtain ⟨z1, z2⟩ := hSw; go_simp <;> (try with_reducible rfl))
                      try simp only [Act.put, List.setIfInBounds_toArray, List.set_cons_zero, List.set_cons_succ]
                      refine wpAnyH_take (i := 8) (oi := ?og7o) (v := ?og7v) ?og7h (by kernel_rfl) (by kernel_rfl) (by kernel_rfl) ?og7q ?og7y hHeld ?og7r
                      case og7h => (simp only [List.getElem?_toArray, List.getElem?_cons_succ, List.getElem?_cons_zero]; rfl)
                      case og7q => exact fun _ _ _ h => h
                      case og7y => (refine Or.inl ⟨by first | kernel_rfl | rfl, ?_⟩; intro w hSw; (try dsimp only at hSw); obtain ⟨z1, z2⟩ := hSw; go_simp <;> (try with_reducible rfl))
                      try simp only [Act.put, List.setIfInBounds_toArray, List.set_cons_zero, List.set_cons_succ]
                      refine wpAnyH_take (i := 9) (oi := ?og8o) (v := ?og8v) ?og8h (by kernel_rfl) (by kernel_rfl) (by kernel_rfl) ?og8q ?og8y hHeld ?og8r
                      case og8h => (simp only [List.getElem?_toArray, List.getElem?_cons_succ, List.getElem?_cons_zero]; rfl)
                      case og8q => exact fun _ _ _ h => h
                      case og8y => (refine Or.inl ⟨by first | kernel_rfl | rfl, ?_⟩; intro w hSw; (try dsimp only at hSw); obtain ⟨z1, z2⟩ := hSw; go_simp <;> (try with_reducible rfl))
                      try simp only [Act.put, List.setIfInBounds_toArray, List.set_cons_zero, List.set_cons_succ]
                      refine wpAnyH_ready (rs := [5]) (by kernel_rfl) (by simp) ?_
                      refine (AllReadyH.cons rfl (fun K hK => ?_) AllReadyH.nil)
                      go_simp
                      (go_at_call 18; (with_reducible refine (kde).mono ?_); rintro e w3 ⟨L3, rfl, hW, hD3⟩; (have HR3 := Lib.hid ((HR1.out.below (Below.refl _ _).drew).turn hW hD3)); (have fh3 := HR3.out.bx.fh (i := x)); (have ch3 := HR3.out.bx.atH hx3); (have fb3 := HR3.out.bx.fb (i := x)); (have cb3 := HR3.out.bx.atB hx3); (have HNE := Lib.hid (show bh ≠ bi from kinds_ne HR3.out.bx.hh HR3.out.bx.hb (by decide))); clear hW hD3)
                      refine hK.out _ _ (⟨HR3.out.bx.atN hx3, by rw [← hbv]; exact HR3.out.bx.atB hx3⟩) (fun hHeld => ?_)
                      clear hK K
                      try simp only [Act.put, List.setIfInBounds_toArray, List.set_cons_zero, List.set_cons_succ]
                      refine wpAnyH_take (i := 6) (oi := ?og9o) (v := ?og9v) ?og9h (by kernel_rfl) (by kernel_rfl) (by kernel_rfl) ?og9q ?og9y hHeld ?og9r
                      case og9h => (simp only [List.getElem?_toArray, List.getElem?_cons_succ, List.getElem?_cons_zero]; rfl)
                      case og9q => exact fun _ _ _ h => h
                      case og9y => (refine Or.inl ⟨by first | kernel_rfl | rfl, ?_⟩; intro w hSw; (try dsimp only at hSw); obtain ⟨z1, z2⟩ := hSw; go_simp <;> (try with_reducible rfl))
                      try simp only [Act.put, List.setIfInBounds_toArray, List.set_cons_zero, List.set_cons_succ]
                      refine wpAnyH_take (i := 10) (oi := ?og10o) (v := ?og10v) ?og10h (by kernel_rfl) (by kernel_rfl) (by kernel_rfl) ?og10q ?og10y hHeld ?og10r
                      case og10h => (simp only [List.getElem?_toArray, List.getElem?_cons_succ, List.getElem?_cons_zero]; rfl)
                      case og10q => exact fun _ _ _ h => h
                      case og10y => (refine Or.inl ⟨by first | kernel_rfl | rfl, ?_⟩; intro w hSw; (try dsimp only at hSw); obtain ⟨z1, z2⟩ := hSw; go_simp <;> (try with_reducible rfl))
                      try simp only [Act.put, List.setIfInBounds_toArray, List.set_cons_zero, List.set_cons_succ]
                      refine wpAnyH_done (by kernel_rfl) ?_ _
                      have hne := HNE.out
                      have hne2 := hne.symm
                      go_wp2
                      go_meet
                      case rel => exact ⟨_, _, L3, _, _, (HR3.out.setB hx3 false).setH hx3 ⟨#[]⟩, HV3.out, (show Fits V _ _ from by have := fits_delete (x := x) HF.out; rwa [set3_none hv] at this)⟩
                  · as_aux_lemma =>
                      have hbv : B x = true := by rw [hfx.1, hv]; rfl
                      rw [hbv] at cb
                      obtain ⟨v1, v2⟩ := (HV.out.delete hw hx3).1 (by rw [hv]; exact fun h => by cases h)
                      have HV3 := Lib.hid v2
                      have kde := delete_dir (key3 x) (HR1.out.below (Below.refl _ _).drew).dir hchg (key3_len x)
                      rw [v1] at kde
                      clear v1 v2
                      go_wp2_with fail
                      refine wp_region_held_drew (S := (fun W => W.cell? ⟨bn, x, none⟩ = some (.string (key3 x)) ∧ W.cell? ⟨bi, x, none⟩ = some (.bool true))) (by kernel_rfl) ⟨cn, cb⟩ (fun hHeld => ?_)
                      refine wpAnyH_take (i := 0) (oi := ?oh1o) (v := ?oh1v) ?oh1h (by kernel_rfl) (by kernel_rfl) (by kernel_rfl) ?oh1q ?oh1y hHeld ?oh1r
                      case oh1h => (simp only [List.getElem?_toArray, List.getElem?_cons_zero]; rfl)
                      case oh1q => exact fun _ _ _ h => h
                      case oh1y => (refine Or.inl ⟨by first | kernel_rfl | rfl, ?_⟩; intro w hSw; (try dsimp only at hSw); obtain ⟨z1, z2⟩ := hSw; go_simp <;> (try with_reducible rfl))
                      try simp only [Act.put, List.setIfInBounds_toArray, List.set_cons_zero, List.set_cons_succ]
                      refine wpAnyH_take (i := 1) (oi := ?oh2o) (v := ?oh2v) ?oh2h (by kernel_rfl) (by kernel_rfl) (by kernel_rfl) ?oh2q ?oh2y hHeld ?oh2r
                      case oh2h => (simp only [List.getElem?_toArray, List.getElem?_cons_succ, List.getElem?_cons_zero]; rfl)
                      case oh2q => exact fun _ _ _ h => h
                      case oh2y => (refine Or.inl ⟨by first | kernel_rfl | rfl, ?_⟩; intro w hSw; (try dsimp only at hSw); obtain ⟨z1, z2⟩ := hSw; go_simp <;> (try with_reducible rfl))
                      try simp only [Act.put, List.setIfInBounds_toArray, List.set_cons_zero, List.set_cons_succ]
                      refine wpAnyH_take (i := 2) (oi := ?oh3o) (v := ?oh3v) ?oh3h (by kernel_rfl) (by kernel_rfl) (by kernel_rfl) ?oh3q ?oh3y hHeld ?oh3r
                      case oh3h => (simp only [List.getElem?_toArray, List.getElem?_cons_succ, List.getElem?_cons_zero]; rfl)
                      case oh3q => exact fun _ _ _ h => h
                      case oh3y => (refine Or.inl ⟨by first | kernel_rfl | rfl, ?_⟩; intro w hSw; (try dsimp only at hSw); obtain ⟨z1, z2⟩ := hSw; go_simp <;> (try with_reducible rfl))
                      try simp only [Act.put, List.setIfInBounds_toArray, List.set_cons_zero, List.set_cons_succ]
                      refine wpAnyH_take (i := 3) (oi := ?oh4o) (v := ?oh4v) ?oh4h (by kernel_rfl) (by kernel_rfl) (by kernel_rfl) ?oh4q ?oh4y hHeld ?oh4r
                      case oh4h => (simp only [List.getElem?_toArray, List.getElem?_cons_succ, List.getElem?_cons_zero]; rfl)
                      case oh4q => exact fun _ _ _ h => h
                      case oh4y => (refine Or.inl ⟨by first | kernel_rfl | rfl, ?_⟩; intro w hSw; (try dsimp only at hSw); obtain ⟨z1, z2⟩ := hSw; go_simp <;> (try with_reducible rfl))
                      try simp only [Act.put, List.setIfInBounds_toArray, List.set_cons_zero, List.set_cons_succ]
                      refine wpAnyH_take (i := 4) (oi := ?oh5o) (v := ?oh5v) ?oh5h (by kernel_rfl) (by kernel_rfl) (by kernel_rfl) ?oh5q ?oh5y hHeld ?oh5r
                      case oh5h => (simp only [List.getElem?_toArray, List.getElem?_cons_succ, List.getElem?_cons_zero]; rfl)
                      case oh5q => exact fun _ _ _ h => h
                      case oh5y => (refine Or.inl ⟨by first | kernel_rfl | rfl, ?_⟩; intro w hSw; (try dsimp only at hSw); obtain ⟨z1, z2⟩ := hSw; go_simp <;> (try with_reducible rfl))
                      try simp only [Act.put, List.setIfInBounds_toArray, List.set_cons_zero, List.set_cons_succ]
                      refine wpAnyH_take (i := 7) (oi := ?oh6o) (v := ?oh6v) ?oh6h (by kernel_rfl) (by kernel_rfl) (by kernel_rfl) ?oh6q ?oh6y hHeld ?oh6r
                      case oh6h => (simp only [List.getElem?_toArray, List.getElem?_cons_succ, List.getElem?_cons_zero]; rfl)
                      case oh6q => exact fun _ _ _ h => h
                      case oh6y => (refine Or.inl ⟨by first | kernel_rfl | rfl, ?_⟩; intro w hSw; (try dsimp only at hSw); obtain ⟨z1, z2⟩ := hSw; go_simp <;> (try with_reducible rfl))
                      try simp only [Act.put, List.setIfInBounds_toArray, List.set_cons_zero, List.set_cons_succ]
                      refine wpAnyH_take (i := 8) (oi := ?oh7o) (v := ?oh7v) ?oh7h (by kernel_rfl) (by kernel_rfl) (by kernel_rfl) ?oh7q ?oh7y hHeld ?oh7r
                      case oh7h => (simp only [List.getElem?_toArray, List.getElem?_cons_succ, List.getElem?_cons_zero]; rfl)
                      case oh7q => exact fun _ _ _ h => h
                      case oh7y => (refine Or.inl ⟨by first | kernel_rfl | rfl, ?_⟩; intro w hSw; (try dsimp only at hSw); obtain ⟨z1, z2⟩ := hSw; go_simp <;> (try with_reducible rfl))
                      try simp only [Act.put, List.setIfInBounds_toArray, List.set_cons_zero, List.set_cons_succ]
                      refine wpAnyH_take (i := 9) (oi := ?oh8o) (v := ?oh8v) ?oh8h (by kernel_rfl) (by kernel_rfl) (by kernel_rfl) ?oh8q ?oh8y hHeld ?oh8r
                      case oh8h => (simp only [List.getElem?_toArray, List.getElem?_cons_succ, List.getElem?_cons_zero]; rfl)
                      case oh8q => exact fun _ _ _ h => h
                      case oh8y => (refine Or.inl ⟨by first | kernel_rfl | rfl, ?_⟩; intro w hSw; (try dsimp only at hSw); obtain ⟨z1, z2⟩ := hSw; go_simp <;> (try with_reducible rfl))
                      try simp only [Act.put, List.setIfInBounds_toArray, List.set_cons_zero, List.set_cons_succ]
                      refine wpAnyH_ready (rs := [5]) (by kernel_rfl) (by simp) ?_
                      refine (AllReadyH.cons rfl (fun K hK => ?_) AllReadyH.nil)
                      go_simp
                      (go_at_call 18; (with_reducible refine (kde).mono ?_); rintro e w3 ⟨L3, rfl, hW, hD3⟩; (have HR3 := Lib.hid ((HR1.out.below (Below.refl _ _).drew).turn hW hD3)); (have fh3 := HR3.out.bx.fh (i := x)); (have ch3 := HR3.out.bx.atH hx3); (have fb3 := HR3.out.bx.fb (i := x)); (have cb3 := HR3.out.bx.atB hx3); (have HNE := Lib.hid (show bh ≠ bi from kinds_ne HR3.out.bx.hh HR3.out.bx.hb (by decide))); clear hW hD3)
                      refine hK.out _ _ (⟨HR3.out.bx.atN hx3, by rw [← hbv]; exact HR3.out.bx.atB hx3⟩) (fun hHeld => ?_)
                      clear hK K
                      try simp only [Act.put, List.setIfInBounds_toArray, List.set_cons_zero, List.set_cons_succ]
                      refine wpAnyH_take (i := 6) (oi := ?oh9o) (v := ?oh9v) ?oh9h (by kernel_rfl) (by kernel_rfl) (by kernel_rfl) ?oh9q ?oh9y hHeld ?oh9r
                      case oh9h => (simp only [List.getElem?_toArray, List.getElem?_cons_succ, List.getElem?_cons_zero]; rfl)
                      case oh9q => exact fun _ _ _ h => h
                      case oh9y => (refine Or.inl ⟨by first | kernel_rfl | rfl, ?_⟩; intro w hSw; (try dsimp only at hSw); obtain ⟨z1, z2⟩ := hSw; go_simp <;> (try with_reducible rfl))
                      try simp only [Act.put, List.setIfInBounds_toArray, List.set_cons_zero, List.set_cons_succ]
                      refine wpAnyH_take (i := 10) (oi := ?oh10o) (v := ?oh10v) ?oh10h (by kernel_rfl) (by kernel_rfl) (by kernel_rfl) ?oh10q ?oh10y hHeld ?oh10r
                      case oh10h => (simp only [List.getElem?_toArray, List.getElem?_cons_succ, List.getElem?_cons_zero]; rfl)
                      case oh10q => exact fun _ _ _ h => h
                      case oh10y => (refine Or.inl ⟨by first | kernel_rfl | rfl, ?_⟩; intro w hSw; (try dsimp only at hSw); obtain ⟨z1, z2⟩ := hSw; go_simp <;> (try with_reducible rfl))
                      try simp only [Act.put, List.setIfInBounds_toArray, List.set_cons_zero, List.set_cons_succ]
                      refine wpAnyH_done (by kernel_rfl) ?_ _
                      have hne := HNE.out
                      have hne2 := hne.symm
                      go_wp2
                      go_meet
                      case rel => exact ⟨_, _, L3, _, _, (HR3.out.setB hx3 false).setH hx3 ⟨#[]⟩, HV3.out, fits_delete HF.out⟩
                | 4, _ =>
                  rcases hv : V x with _ | s
                  · as_aux_lemma =>
                      have hbv : B x = false := by rw [hfx.1, hv]; rfl
                      rw [hbv] at cb
                      have cm := HR1.out.bx.atN hy3
                      obtain ⟨v1, v2⟩ := (HV.out.rename hw hx3 hy3).2 hv
                      have HV3 := Lib.hid v2
                      have kre := rename_dir (key3 x) (key3 y) (HR1.out.below (Below.refl _ _).drew).dir hchg (key3_len x) (key3_len y)
                      rw [v1] at kre
                      clear v1 v2
                      go_wp2_with fail
                      refine wp_region_held_drew (S := (fun W => W.cell? ⟨bn, x, none⟩ = some (.string (key3 x)) ∧ W.cell? ⟨bn, y, none⟩ = some (.string (key3 y)) ∧ W.cell? ⟨bi, x, none⟩ = some (.bool false))) (by kernel_rfl) ⟨cn, cm, cb⟩ (fun hHeld => ?_)
                      refine wpAnyH_take (i := 0) (oi := ?oi1o) (v := ?oi1v) ?oi1h (by kernel_rfl) (by kernel_rfl) (by kernel_rfl) ?oi1q ?oi1y hHeld ?oi1r
                      case oi1h => (simp only [List.getElem?_toArray, List.getElem?_cons_zero]; rfl)
                      case oi1q => exact fun _ _ _ h => h
                      case oi1y => (refine Or.inl ⟨by first | kernel_rfl | rfl, ?_⟩; intro w hSw; (try dsimp only at hSw); obtain ⟨z1, z2, z3⟩ := hSw; go_simp <;> (try with_reducible rfl))
                      try simp only [Act.put, List.setIfInBounds_toArray, List.set_cons_zero, List.set_cons_succ]
                      refine wpAnyH_take (i := 1) (oi := ?oi2o) (v := ?oi2v) ?oi2h (by kernel_rfl) (by kernel_rfl) (by kernel_rfl) ?oi2q ?oi2y hHeld ?oi2r
                      case oi2h => (simp only [List.getElem?_toArray, List.getElem?_cons_succ, List.getElem?_cons_zero]; rfl)
                      case oi2q => exact fun _ _ _ h => h
                      case oi2y => (refine Or.inl ⟨by first | kernel_rfl | rfl, ?_⟩; intro w hSw; (try dsimp only at hSw); obtain ⟨z1, z2, z3⟩ := hSw; go_simp <;> (try with_reducible rfl))
                      try simp only [Act.put, List.setIfInBounds_toArray, List.set_cons_zero, List.set_cons_succ]
                      refine wpAnyH_take (i := 2) (oi := ?oi3o) (v := ?oi3v) ?oi3h (by kernel_rfl) (by kernel_rfl) (by kernel_rfl) ?oi3q ?oi3y hHeld ?oi3r
                      case oi3h => (simp only [List.getElem?_toArray, List.getElem?_cons_succ, List.getElem?_cons_zero]; rfl)
                      case oi3q => exact fun _ _ _ h => h
                      case oi3y => (refine Or.inl ⟨by first | kernel_rfl | rfl, ?_⟩; intro w hSw; (try dsimp only at hSw); obtain ⟨z1, z2, z3⟩ := hSw; go_simp <;> (try with_reducible rfl))
                      try simp only [Act.put, List.setIfInBounds_toArray, List.set_cons_zero, List.set_cons_succ]
                      refine wpAnyH_take (i := 3) (oi := ?oi4o) (v := ?oi4v) ?oi4h (by kernel_rfl) (by kernel_rfl) (by kernel_rfl) ?oi4q ?oi4y hHeld ?oi4r
                      case oi4h => (simp only [List.getElem?_toArray, List.getElem?_cons_succ, List.getElem?_cons_zero]; rfl)
                      case oi4q => exact fun _ _ _ h => h
                      case oi4y => (refine Or.inl ⟨by first | kernel_rfl | rfl, ?_⟩; intro w hSw; (try dsimp only at hSw); obtain ⟨z1, z2, z3⟩ := hSw; go_simp <;> (try with_reducible rfl))
                      try simp only [Act.put, List.setIfInBounds_toArray, List.set_cons_zero, List.set_cons_succ]
                      refine wpAnyH_take (i := 4) (oi := ?oi5o) (v := ?oi5v) ?oi5h (by kernel_rfl) (by kernel_rfl) (by kernel_rfl) ?oi5q ?oi5y hHeld ?oi5r
                      case oi5h => (simp only [List.getElem?_toArray, List.getElem?_cons_succ, List.getElem?_cons_zero]; rfl)
                      case oi5q => exact fun _ _ _ h => h
                      case oi5y => (refine Or.inl ⟨by first | kernel_rfl | rfl, ?_⟩; intro w hSw; (try dsimp only at hSw); obtain ⟨z1, z2, z3⟩ := hSw; go_simp <;> (try with_reducible rfl))
                      try simp only [Act.put, List.setIfInBounds_toArray, List.set_cons_zero, List.set_cons_succ]
                      refine wpAnyH_take (i := 5) (oi := ?oi6o) (v := ?oi6v) ?oi6h (by kernel_rfl) (by kernel_rfl) (by kernel_rfl) ?oi6q ?oi6y hHeld ?oi6r
                      case oi6h => (simp only [List.getElem?_toArray, List.getElem?_cons_succ, List.getElem?_cons_zero]; rfl)
                      case oi6q => exact fun _ _ _ h => h
                      case oi6y => (refine Or.inl ⟨by first | kernel_rfl | rfl, ?_⟩; intro w hSw; (try dsimp only at hSw); obtain ⟨z1, z2, z3⟩ := hSw; go_simp <;> (try with_reducible rfl))
                      try simp only [Act.put, List.setIfInBounds_toArray, List.set_cons_zero, List.set_cons_succ]
                      refine wpAnyH_take (i := 6) (oi := ?oi7o) (v := ?oi7v) ?oi7h (by kernel_rfl) (by kernel_rfl) (by kernel_rfl) ?oi7q ?oi7y hHeld ?oi7r
                      case oi7h => (simp only [List.getElem?_toArray, List.getElem?_cons_succ, List.getElem?_cons_zero]; rfl)
                      case oi7q => exact fun _ _ _ h => h
                      case oi7y => (refine Or.inl ⟨by first | kernel_rfl | rfl, ?_⟩; intro w hSw; (try dsimp only at hSw); obtain ⟨z1, z2, z3⟩ := hSw; go_simp <;> (try with_reducible rfl))
                      try simp only [Act.put, List.setIfInBounds_toArray, List.set_cons_zero, List.set_cons_succ]
                      refine wpAnyH_take (i := 7) (oi := ?oi8o) (v := ?oi8v) ?oi8h (by kernel_rfl) (by kernel_rfl) (by kernel_rfl) ?oi8q ?oi8y hHeld ?oi8r
                      case oi8h => (simp only [List.getElem?_toArray, List.getElem?_cons_succ, List.getElem?_cons_zero]; rfl)
                      case oi8q => exact fun _ _ _ h => h
                      case oi8y => (refine Or.inl ⟨by first | kernel_rfl | rfl, ?_⟩; intro w hSw; (try dsimp only at hSw); obtain ⟨z1, z2, z3⟩ := hSw; go_simp <;> (try with_reducible rfl))
                      try simp only [Act.put, List.setIfInBounds_toArray, List.set_cons_zero, List.set_cons_succ]
                      refine wpAnyH_take (i := 8) (oi := ?oi9o) (v := ?oi9v) ?oi9h (by kernel_rfl) (by kernel_rfl) (by kernel_rfl) ?oi9q ?oi9y hHeld ?oi9r
                      case oi9h => (simp only [List.getElem?_toArray, List.getElem?_cons_succ, List.getElem?_cons_zero]; rfl)
                      case oi9q => exact fun _ _ _ h => h
                      case oi9y => (refine Or.inl ⟨by first | kernel_rfl | rfl, ?_⟩; intro w hSw; (try dsimp only at hSw); obtain ⟨z1, z2, z3⟩ := hSw; go_simp <;> (try with_reducible rfl))
                      try simp only [Act.put, List.setIfInBounds_toArray, List.set_cons_zero, List.set_cons_succ]
                      refine wpAnyH_take (i := 11) (oi := ?oi10o) (v := ?oi10v) ?oi10h (by kernel_rfl) (by kernel_rfl) (by kernel_rfl) ?oi10q ?oi10y hHeld ?oi10r
                      case oi10h => (simp only [List.getElem?_toArray, List.getElem?_cons_succ, List.getElem?_cons_zero]; rfl)
                      case oi10q => exact fun _ _ _ h => h
                      case oi10y => (refine Or.inl ⟨by first | kernel_rfl | rfl, ?_⟩; intro w hSw; (try dsimp only at hSw); obtain ⟨z1, z2, z3⟩ := hSw; go_simp <;> (try with_reducible rfl))
                      try simp only [Act.put, List.setIfInBounds_toArray, List.set_cons_zero, List.set_cons_succ]
                      refine wpAnyH_take (i := 12) (oi := ?oi11o) (v := ?oi11v) ?oi11h (by kernel_rfl) (by kernel_rfl) (by kernel_rfl) ?oi11q ?oi11y hHeld ?oi11r
                      case oi11h => (simp only [List.getElem?_toArray, List.getElem?_cons_succ, List.getElem?_cons_zero]; rfl)
                      case oi11q => exact fun _ _ _ h => h
                      case oi11y => (refine Or.inl ⟨by first | kernel_rfl | rfl, ?_⟩; intro w hSw; (try dsimp only at hSw); obtain ⟨z1, z2, z3⟩ := hSw; go_simp <;> (try with_reducible rfl))
                      try simp only [Act.put, List.setIfInBounds_toArray, List.set_cons_zero, List.set_cons_succ]
                      refine wpAnyH_take (i := 13) (oi := ?oi12o) (v := ?oi12v) ?oi12h (by kernel_rfl) (by kernel_rfl) (by kernel_rfl) ?oi12q ?oi12y hHeld ?oi12r
                      case oi12h => (simp only [List.getElem?_toArray, List.getElem?_cons_succ, List.getElem?_cons_zero]; rfl)
                      case oi12q => exact fun _ _ _ h => h
                      case oi12y => (refine Or.inl ⟨by first | kernel_rfl | rfl, ?_⟩; intro w hSw; (try dsimp only at hSw); obtain ⟨z1, z2, z3⟩ := hSw; go_simp <;> (try with_reducible rfl))
                      try simp only [Act.put, List.setIfInBounds_toArray, List.set_cons_zero, List.set_cons_succ]
                      refine wpAnyH_ready (rs := [9]) (by kernel_rfl) (by simp) ?_
                      refine (AllReadyH.cons rfl (fun K hK => ?_) AllReadyH.nil)
                      go_simp
                      (go_at_call 20; (with_reducible refine (kre).mono ?_); rintro e w3 ⟨L3, rfl, hW, hD3⟩; (have HR3 := Lib.hid ((HR1.out.below (Below.refl _ _).drew).turn hW hD3)); (have fh3 := fun i => HR3.out.bx.fh (i := i)); (have chx := HR3.out.bx.atH hx3); (have chy := HR3.out.bx.atH hy3); (have fb3 := fun i => HR3.out.bx.fb (i := i)); (have cb3 := HR3.out.bx.atB hx3); (have cby := HR3.out.bx.atB hy3); (have HNE := Lib.hid (show bh ≠ bi from kinds_ne HR3.out.bx.hh HR3.out.bx.hb (by decide))); (rw [hbv] at cb3); clear hW hD3)
                      refine hK.out _ _ (⟨HR3.out.bx.atN hx3, HR3.out.bx.atN hy3, by rw [← hbv]; exact HR3.out.bx.atB hx3⟩) (fun hHeld => ?_)
                      clear hK K
                      try simp only [Act.put, List.setIfInBounds_toArray, List.set_cons_zero, List.set_cons_succ]
                      refine wpAnyH_take (i := 10) (oi := ?oi13o) (v := ?oi13v) ?oi13h (by kernel_rfl) (by kernel_rfl) (by kernel_rfl) ?oi13q ?oi13y hHeld ?oi13r
                      case oi13h => (simp only [List.getElem?_toArray, List.getElem?_cons_succ, List.getElem?_cons_zero]; rfl)
                      case oi13q => exact fun _ _ _ h => h
                      case oi13y => (refine Or.inl ⟨by first | kernel_rfl | rfl, ?_⟩; intro w hSw; (try dsimp only at hSw); obtain ⟨z1, z2, z3⟩ := hSw; go_simp <;> (try with_reducible rfl))
                      try simp only [Act.put, List.setIfInBounds_toArray, List.set_cons_zero, List.set_cons_succ]
                      refine wpAnyH_take (i := 14) (oi := ?oi14o) (v := ?oi14v) ?oi14h (by kernel_rfl) (by kernel_rfl) (by kernel_rfl) ?oi14q ?oi14y hHeld ?oi14r
                      case oi14h => (simp only [List.getElem?_toArray, List.getElem?_cons_succ, List.getElem?_cons_zero]; rfl)
                      case oi14q => exact fun _ _ _ h => h
                      case oi14y => (refine Or.inl ⟨by first | kernel_rfl | rfl, ?_⟩; intro w hSw; (try dsimp only at hSw); obtain ⟨z1, z2, z3⟩ := hSw; go_simp <;> (try with_reducible rfl))
                      try simp only [Act.put, List.setIfInBounds_toArray, List.set_cons_zero, List.set_cons_succ]
                      refine wpAnyH_done (by kernel_rfl) ?_ _
                      go_wp2
                      go_meet
                      case rel => exact ⟨_, _, L3, _, _, HR3.out, HV3.out, HF.out⟩
                  · as_aux_lemma =>
                      have hbv : B x = true := by rw [hfx.1, hv]; rfl
                      rw [hbv] at cb
                      have cm := HR1.out.bx.atN hy3
                      obtain ⟨v1, v2⟩ := (HV.out.rename hw hx3 hy3).1 (by rw [hv]; exact fun h => by cases h)
                      have HV3 := Lib.hid v2
                      have kre := rename_dir (key3 x) (key3 y) (HR1.out.below (Below.refl _ _).drew).dir hchg (key3_len x) (key3_len y)
                      rw [v1] at kre
                      clear v1 v2
                      go_wp2_with fail
                      refine wp_region_held_drew (S := (fun W => W.cell? ⟨bn, x, none⟩ = some (.string (key3 x)) ∧ W.cell? ⟨bn, y, none⟩ = some (.string (key3 y)) ∧ W.cell? ⟨bi, x, none⟩ = some (.bool true))) (by kernel_rfl) ⟨cn, cm, cb⟩ (fun hHeld => ?_)
                      refine wpAnyH_take (i := 0) (oi := ?oj1o) (v := ?oj1v) ?oj1h (by kernel_rfl) (by kernel_rfl) (by kernel_rfl) ?oj1q ?oj1y hHeld ?oj1r
                      case oj1h => (simp only [List.getElem?_toArray, List.getElem?_cons_zero]; rfl)
                      case oj1q => exact fun _ _ _ h => h
                      case oj1y => (refine Or.inl ⟨by first | kernel_rfl | rfl, ?_⟩; intro w hSw; (try dsimp only at hSw); obtain ⟨z1, z2, z3⟩ := hSw; go_simp <;> (try with_reducible rfl))
                      try simp only [Act.put, List.setIfInBounds_toArray, List.set_cons_zero, List.set_cons_succ]
                      refine wpAnyH_take (i := 1) (oi := ?oj2o) (v := ?oj2v) ?oj2h (by kernel_rfl) (by kernel_rfl) (by kernel_rfl) ?oj2q ?oj2y hHeld ?oj2r
                      case oj2h => (simp only [List.getElem?_toArray, List.getElem?_cons_succ, List.getElem?_cons_zero]; rfl)
                      case oj2q => exact fun _ _ _ h => h
                      case oj2y => (refine Or.inl ⟨by first | kernel_rfl | rfl, ?_⟩; intro w hSw; (try dsimp only at hSw); obtain ⟨z1, z2, z3⟩ := hSw; go_simp <;> (try with_reducible rfl))
                      try simp only [Act.put, List.setIfInBounds_toArray, List.set_cons_zero, List.set_cons_succ]
                      refine wpAnyH_take (i := 2) (oi := ?oj3o) (v := ?oj3v) ?oj3h (by kernel_rfl) (by kernel_rfl) (by kernel_rfl) ?oj3q ?oj3y hHeld ?oj3r
                      case oj3h => (simp only [List.getElem?_toArray, List.getElem?_cons_succ, List.getElem?_cons_zero]; rfl)
                      case oj3q => exact fun _ _ _ h => h
                      case oj3y => (refine Or.inl ⟨by first | kernel_rfl | rfl, ?_⟩; intro w hSw; (try dsimp only at hSw); obtain ⟨z1, z2, z3⟩ := hSw; go_simp <;> (try with_reducible rfl))
                      try simp only [Act.put, List.setIfInBounds_toArray, List.set_cons_zero, List.set_cons_succ]
                      refine wpAnyH_take (i := 3) (oi := ?oj4o) (v := ?oj4v) ?oj4h (by kernel_rfl) (by kernel_rfl) (by kernel_rfl) ?oj4q ?oj4y hHeld ?oj4r
                      case oj4h => (simp only [List.getElem?_toArray, List.getElem?_cons_succ, List.getElem?_cons_zero]; rfl)
                      case oj4q => exact fun _ _ _ h => h
                      case oj4y => (refine Or.inl ⟨by first | kernel_rfl | rfl, ?_⟩; intro w hSw; (try dsimp only at hSw); obtain ⟨z1, z2, z3⟩ := hSw; go_simp <;> (try with_reducible rfl))
                      try simp only [Act.put, List.setIfInBounds_toArray, List.set_cons_zero, List.set_cons_succ]
                      refine wpAnyH_take (i := 4) (oi := ?oj5o) (v := ?oj5v) ?oj5h (by kernel_rfl) (by kernel_rfl) (by kernel_rfl) ?oj5q ?oj5y hHeld ?oj5r
                      case oj5h => (simp only [List.getElem?_toArray, List.getElem?_cons_succ, List.getElem?_cons_zero]; rfl)
                      case oj5q => exact fun _ _ _ h => h
                      case oj5y => (refine Or.inl ⟨by first | kernel_rfl | rfl, ?_⟩; intro w hSw; (try dsimp only at hSw); obtain ⟨z1, z2, z3⟩ := hSw; go_simp <;> (try with_reducible rfl))
                      try simp only [Act.put, List.setIfInBounds_toArray, List.set_cons_zero, List.set_cons_succ]
                      refine wpAnyH_take (i := 5) (oi := ?oj6o) (v := ?oj6v) ?oj6h (by kernel_rfl) (by kernel_rfl) (by kernel_rfl) ?oj6q ?oj6y hHeld ?oj6r
                      case oj6h => (simp only [List.getElem?_toArray, List.getElem?_cons_succ, List.getElem?_cons_zero]; rfl)
                      case oj6q => exact fun _ _ _ h => h
                      case oj6y => (refine Or.inl ⟨by first | kernel_rfl | rfl, ?_⟩; intro w hSw; (try dsimp only at hSw); obtain ⟨z1, z2, z3⟩ := hSw; go_simp <;> (try with_reducible rfl))
                      try simp only [Act.put, List.setIfInBounds_toArray, List.set_cons_zero, List.set_cons_succ]
                      refine wpAnyH_take (i := 6) (oi := ?oj7o) (v := ?oj7v) ?oj7h (by kernel_rfl) (by kernel_rfl) (by kernel_rfl) ?oj7q ?oj7y hHeld ?oj7r
                      case oj7h => (simp only [List.getElem?_toArray, List.getElem?_cons_succ, List.getElem?_cons_zero]; rfl)
                      case oj7q => exact fun _ _ _ h => h
                      case oj7y => (refine Or.inl ⟨by first | kernel_rfl | rfl, ?_⟩; intro w hSw; (try dsimp only at hSw); obtain ⟨z1, z2, z3⟩ := hSw; go_simp <;> (try with_reducible rfl))
                      try simp only [Act.put, List.setIfInBounds_toArray, List.set_cons_zero, List.set_cons_succ]
                      refine wpAnyH_take (i := 7) (oi := ?oj8o) (v := ?oj8v) ?oj8h (by kernel_rfl) (by kernel_rfl) (by kernel_rfl) ?oj8q ?oj8y hHeld ?oj8r
                      case oj8h => (simp only [List.getElem?_toArray, List.getElem?_cons_succ, List.getElem?_cons_zero]; rfl)
                      case oj8q => exact fun _ _ _ h => h
                      case oj8y => (refine Or.inl ⟨by first | kernel_rfl | rfl, ?_⟩; intro w hSw; (try dsimp only at hSw); obtain ⟨z1, z2, z3⟩ := hSw; go_simp <;> (try with_reducible rfl))
                      try simp only [Act.put, List.setIfInBounds_toArray, List.set_cons_zero, List.set_cons_succ]
                      refine wpAnyH_take (i := 8) (oi := ?oj9o) (v := ?oj9v) ?oj9h (by kernel_rfl) (by kernel_rfl) (by kernel_rfl) ?oj9q ?oj9y hHeld ?oj9r
                      case oj9h => (simp only [List.getElem?_toArray, List.getElem?_cons_succ, List.getElem?_cons_zero]; rfl)
                      case oj9q => exact fun _ _ _ h => h
                      case oj9y => (refine Or.inl ⟨by first | kernel_rfl | rfl, ?_⟩; intro w hSw; (try dsimp only at hSw); obtain ⟨z1, z2, z3⟩ := hSw; go_simp <;> (try with_reducible rfl))
                      try simp only [Act.put, List.setIfInBounds_toArray, List.set_cons_zero, List.set_cons_succ]
                      refine wpAnyH_take (i := 11) (oi := ?oj10o) (v := ?oj10v) ?oj10h (by kernel_rfl) (by kernel_rfl) (by kernel_rfl) ?oj10q ?oj10y hHeld ?oj10r
                      case oj10h => (simp only [List.getElem?_toArray, List.getElem?_cons_succ, List.getElem?_cons_zero]; rfl)
                      case oj10q => exact fun _ _ _ h => h
                      case oj10y => (refine Or.inl ⟨by first | kernel_rfl | rfl, ?_⟩; intro w hSw; (try dsimp only at hSw); obtain ⟨z1, z2, z3⟩ := hSw; go_simp <;> (try with_reducible rfl))
                      try simp only [Act.put, List.setIfInBounds_toArray, List.set_cons_zero, List.set_cons_succ]
                      refine wpAnyH_take (i := 12) (oi := ?oj11o) (v := ?oj11v) ?oj11h (by kernel_rfl) (by kernel_rfl) (by kernel_rfl) ?oj11q ?oj11y hHeld ?oj11r
                      case oj11h => (simp only [List.getElem?_toArray, List.getElem?_cons_succ, List.getElem?_cons_zero]; rfl)
                      case oj11q => exact fun _ _ _ h => h
                      case oj11y => (refine Or.inl ⟨by first | kernel_rfl | rfl, ?_⟩; intro w hSw; (try dsimp only at hSw); obtain ⟨z1, z2, z3⟩ := hSw; go_simp <;> (try with_reducible rfl))
                      try simp only [Act.put, List.setIfInBounds_toArray, List.set_cons_zero, List.set_cons_succ]
                      refine wpAnyH_take (i := 13) (oi := ?oj12o) (v := ?oj12v) ?oj12h (by kernel_rfl) (by kernel_rfl) (by kernel_rfl) ?oj12q ?oj12y hHeld ?oj12r
                      case oj12h => (simp only [List.getElem?_toArray, List.getElem?_cons_succ, List.getElem?_cons_zero]; rfl)
                      case oj12q => exact fun _ _ _ h => h
                      case oj12y => (refine Or.inl ⟨by first | kernel_rfl | rfl, ?_⟩; intro w hSw; (try dsimp only at hSw); obtain ⟨z1, z2, z3⟩ := hSw; go_simp <;> (try with_reducible rfl))
                      try simp only [Act.put, List.setIfInBounds_toArray, List.set_cons_zero, List.set_cons_succ]
                      refine wpAnyH_ready (rs := [9]) (by kernel_rfl) (by simp) ?_
                      refine (AllReadyH.cons rfl (fun K hK => ?_) AllReadyH.nil)
                      go_simp
                      (go_at_call 20; (with_reducible refine (kre).mono ?_); rintro e w3 ⟨L3, rfl, hW, hD3⟩; (have HR3 := Lib.hid ((HR1.out.below (Below.refl _ _).drew).turn hW hD3)); (have fh3 := fun i => HR3.out.bx.fh (i := i)); (have chx := HR3.out.bx.atH hx3); (have chy := HR3.out.bx.atH hy3); (have fb3 := fun i => HR3.out.bx.fb (i := i)); (have cb3 := HR3.out.bx.atB hx3); (have cby := HR3.out.bx.atB hy3); (have HNE := Lib.hid (show bh ≠ bi from kinds_ne HR3.out.bx.hh HR3.out.bx.hb (by decide))); (rw [hbv] at cb3); clear hW hD3)
                      refine hK.out _ _ (⟨HR3.out.bx.atN hx3, HR3.out.bx.atN hy3, by rw [← hbv]; exact HR3.out.bx.atB hx3⟩) (fun hHeld => ?_)
                      clear hK K
                      try simp only [Act.put, List.setIfInBounds_toArray, List.set_cons_zero, List.set_cons_succ]
                      refine wpAnyH_take (i := 10) (oi := ?oj13o) (v := ?oj13v) ?oj13h (by kernel_rfl) (by kernel_rfl) (by kernel_rfl) ?oj13q ?oj13y hHeld ?oj13r
                      case oj13h => (simp only [List.getElem?_toArray, List.getElem?_cons_succ, List.getElem?_cons_zero]; rfl)
                      case oj13q => exact fun _ _ _ h => h
                      case oj13y => (refine Or.inl ⟨by first | kernel_rfl | rfl, ?_⟩; intro w hSw; (try dsimp only at hSw); obtain ⟨z1, z2, z3⟩ := hSw; go_simp <;> (try with_reducible rfl))
                      try simp only [Act.put, List.setIfInBounds_toArray, List.set_cons_zero, List.set_cons_succ]
                      refine wpAnyH_take (i := 14) (oi := ?oj14o) (v := ?oj14v) ?oj14h (by kernel_rfl) (by kernel_rfl) (by kernel_rfl) ?oj14q ?oj14y hHeld ?oj14r
                      case oj14h => (simp only [List.getElem?_toArray, List.getElem?_cons_succ, List.getElem?_cons_zero]; rfl)
                      case oj14q => exact fun _ _ _ h => h
                      case oj14y => (refine Or.inl ⟨by first | kernel_rfl | rfl, ?_⟩; intro w hSw; (try dsimp only at hSw); obtain ⟨z1, z2, z3⟩ := hSw; go_simp <;> (try with_reducible rfl))
                      try simp only [Act.put, List.setIfInBounds_toArray, List.set_cons_zero, List.set_cons_succ]
                      refine wpAnyH_done (by kernel_rfl) ?_ _
                      have hsh : H x = s := by rw [hfx.2, hv]; rfl
                      rw [hsh] at chx
                      by_cases hxy : x = y
                      · have hd1 : ((x : Int) != (y : Int)) = false := by simp [hxy]
                        have hd2 : ((x : Int) == (y : Int)) = true := by simp [hxy]
                        have HXY := Lib.hid hxy
                        clear hxy
                        go_wp2
                        go_meet
                        case rel => exact ⟨_, _, L3, _, _, HR3.out, HV3.out, (by have hxy := HXY.out; subst hxy; exact fits_self HF.out)⟩
                      · have hxyi : ¬ (x : Int) = (y : Int) := by omega
                        have hne := HNE.out
                        have hne2 := hne.symm
                        have hyx : ¬ y = x := fun e => hxy e.symm
                        have f1 := fh3 x
                        have f2 := fh3 y
                        have f3 := fb3 x
                        have f4 := fb3 y
                        go_wp2
                        go_meet
                        case rel => exact ⟨_, _, L3, _, _, (((HR3.out.setB hy3 true).setH hy3 s).setB hx3 false).setH hx3 ⟨#[]⟩, HV3.out, fits_rename HF.out hx3 hv hxy⟩
              case rest =>
                as_aux_lemma =>
                  obtain ⟨V2, S2, L2b, B2, H2, hR2, hV2, hF2⟩ := hcut
                  have HR2 := Lib.hid hR2
                  have HV2 := Lib.hid hV2
                  have HF2 := Lib.hid hF2
                  clear hR2 hV2 hF2 HR1 HV HF q4
                  go_wp2_with fail
                  go_loopg [14, 15] 3 (fun g mv nv wn => ∃ n : Nat, n + g = 3 ∧ nv = .int .i64 (n : Int) ∧ mv = .int .i64 ((cnt3 V2 n : Nat) : Int) ∧ RS w wn b bn bi bh S2 L2b B2 H2)
                  case atStart => exact ⟨0, by omega, rfl, rfl, HR2.out⟩
                  case round =>
                    obtain ⟨n, hn, rfl, rfl, hR3⟩ := hrel
                    have HR3 := Lib.hid hR3
                    clear hR3 HR2
                    cases gk with
                    | zero =>
                      obtain rfl : n = 3 := by omega
                      have hlt : ¬ ((3 : Nat) : Int) < 3 := by omega
                      have kn := names_dir HR3.out.dir
                      have hcnt := HV2.out.names HR3.out.whole
                      rw [← cnt3_all] at hcnt
                      obtain ⟨c, hc⟩ : ∃ c, cnt3 V2 3 = c := ⟨_, rfl⟩
                      rw [hc] at hcnt
                      rw [hc]
                      have HCN := Lib.hid hcnt
                      clear hc hcnt
                      go_wp2_with (go_at_call 35; (with_reducible refine kn.mono ?_); rintro e w7 ⟨v7, rfl, hN, hB⟩; (obtain ⟨a7, c7, rfl⟩ := nrow_slice hN); (rw [List.length_map, HCN.out]); (have HR4 := Lib.hid (HR3.out.below hB)); clear hN hB kn)
                      go_roundg g
                      case measure => omega
                      case rel => exact ⟨i + 1, by omega, by go_num, V2, S2, L2b, B2, H2, HR4.out, HV2.out, HF2.out⟩
                    | succ g2 =>
                      have hn3 : n < 3 := by omega
                      have hlt : (n : Int) < 3 := by omega
                      have cn := HR3.out.bx.atN hn3
                      have kr := read_is b S2 L2b (key3 n) wr HR3.out.one.at_ HR3.out.whole.sane (key3_len n)
                      rw [HV2.out.read hn3] at kr
                      have hff := HF2.out n hn3
                      have hcl := cnt3_le V2 n
                      have hwn : IntKind.i64.wrap ((n : Int) + 1) = (n : Int) + 1 := by rw [IntKind.wrap_i64]; omega
                      have hwc3 : IntKind.i64.wrap (((cnt3 V2 n : Nat) : Int) + 1) = ((cnt3 V2 n : Nat) : Int) + 1 := by rw [IntKind.wrap_i64]; omega
                      rcases hv : V2 n with _ | s
                      · have hc1 : cnt3 V2 (n + 1) = cnt3 V2 n := by rw [cnt3, hv]; rfl
                        obtain ⟨cc, hcc⟩ : ∃ cc, cnt3 V2 n = cc := ⟨_, rfl⟩
                        rw [hv] at kr hff
                        obtain ⟨hf1, hf2⟩ := hff
                        rw [hcc] at hc1 hwc3 hcl
                        simp only [hcc]
                        clear hcc
                        go_wp2_with (go_at_call 32; (with_reducible refine kr.mono ?_); rintro e w8 ⟨rfl, hB⟩; (have HR4 := Lib.hid (HR3.out.below hB)); (have cb4 := HR4.out.bx.atB hn3); (have ch4 := HR4.out.bx.atH hn3); (rw [hf1] at cb4); (rw [hf2] at ch4); (dsimp only [Option.isSome, Option.getD] at cb4 ch4); clear hB kr)
                        go_roundg g2
                        case measure => omega
                        case rel => exact ⟨n + 1, by omega, by go_num, by rw [hc1], HR4.out⟩
                      · have hc1 : cnt3 V2 (n + 1) = cnt3 V2 n + 1 := by rw [cnt3, hv]; rfl
                        obtain ⟨cc, hcc⟩ : ∃ cc, cnt3 V2 n = cc := ⟨_, rfl⟩
                        rw [hv] at kr hff
                        obtain ⟨hf1, hf2⟩ := hff
                        rw [hcc] at hc1 hwc3 hcl
                        simp only [hcc]
                        clear hcc
                        go_wp2_with (go_at_call 32; (with_reducible refine kr.mono ?_); rintro e w8 ⟨rfl, hB⟩; (have HR4 := Lib.hid (HR3.out.below hB)); (have cb4 := HR4.out.bx.atB hn3); (have ch4 := HR4.out.bx.atH hn3); (rw [hf1] at cb4); (rw [hf2] at ch4); (dsimp only [Option.isSome, Option.getD] at cb4 ch4); clear hB kr)
                        go_roundg g2
                        case measure => omega
                        case rel => exact ⟨n + 1, by omega, by go_num, by rw [hc1]; go_num, HR4.out⟩
      · have hi40i : ¬ (i : Int) < 40 := by omega
        clear hi40
        go_wp2
        go_ret
        exact ⟨rfl, HR.out.one.bel⟩
    · have hini : ¬ (i : Int) < (n0 : Int) := by omega
      clear hin
      go_wp2
      go_ret
      exact ⟨rfl, HR.out.one.bel⟩
end filesReads
end Go.Proofs.Ytbgjcopgipganaa
