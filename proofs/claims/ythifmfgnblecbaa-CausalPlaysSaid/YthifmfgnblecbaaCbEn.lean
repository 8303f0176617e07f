/- The document's Next. -/
import Derived.Test.YthifmfgnblecbaaCbRows
import Derived.Test.YthifmfgnblecbaaCbNext
set_option maxRecDepth 200000
set_option linter.unusedSimpArgs false
set_option linter.unusedVariables false
namespace Go.Proofs.Ythifmfgnblecbaa.Og.Cb
open Go.RowKit Go.Maps Go.Proofs.Ythifmfgnblecbaa.Vi Go.Proofs.Ythifmfgnblecbaa.Mk

def ENextDone (w : World) (B b : Nat) (S : CS) (F : Nat → Prop) (e : Ending) (w' : World) : Prop := ∃ (x : Rd) (ov v : Value) (zs : List Rd), e = .returned (.tuple #[recV x.r x.dv, .bool (nextR S).isSome]) ∧ x.r = (nextR S).getD Rec.zero ∧ Ns w' x.dv x.r.d ∧ EbAt w' B b ov v zs (nextS S) (grow F w w') ∧ FrF F w w' ∧ (x.r.d ≠ [] → ∀ q, x.dv.ownBlock = some q → q < B)
set_option maxHeartbeats 8000000 in
theorem enext_is {w : World} {B b : Nat} {ov v : Value} {zs : List Rd} {S : CS} {F : Nat → Prop} (h : EbAt w B b ov v zs S F) (hB : B ≤ w.heap.size) : Calls Try.prog 13 #[.pointer (some ⟨b, 0, none⟩)] w (ENextDone w B b S F) := by
  obtain ⟨oa, oc, eo⟩ := h.ns.slice
  subst eo
  obtain ⟨a2, c2, e2⟩ := h.row.slice
  subst e2
  have hc1 := h.c1
  have hc2 := h.c2
  have hblt := h.lt
  have HH := Lib.hid h
  have HBB := Lib.hid hB
  obtain ⟨ln, hln⟩ : ∃ z, zs.length = z := ⟨_, rfl⟩
  rw [hln] at hc2
  have HLN := Lib.hid hln
  have hl4 : ln ≤ 408 := by have h1 := h.good.l408; rw [← h.len, hln] at h1; exact h1
  have HL4 := Lib.hid (show ln ≤ 100000 by omega)
  have HJ0 := Lib.hid (show NeJ w (w.alloc (.cells #[.int .i64 0, .string ⟨#[]⟩, .int .i64 0, .int .i64 0, .int .i64 0, .int .i64 0, .int .i64 0, .int .i64 0, .slice none 0 0] 33)) S 0 from ⟨(Below.refl _ _).alloc (Nat.le_refl _) _, RecW.new w Rec.zero (.slice none 0 0), rfl⟩)
  have ka := fun (k : Int) (W : World) (hb : Below w.heap.size w W) => rat_is (.slice oa S.out.length oc) S.out k W (Ns.later HH.out.ns hb)
  have kf := fun (s q : Int) (W : World) (hb : Below w.heap.size w W) => find_is (HH.out.later hb) s q
  have KA := Lib.hid ka
  have KF := Lib.hid kf
  clear h hB hln ka kf
  go_enter Try.func13, Try.ntmps13
  go_wp2
  go_loopw [4] (fun i wr => ∃ k : Nat, k ≤ 8 ∧ i = .int .i64 (k : Int) ∧ Hid (NeJ w wr S k)) (fun i _ => 8 - (intOf i).toNat)
  case atStart => exact ⟨0, by omega, rfl, HJ0⟩
  case round =>
    obtain ⟨k, hk, rfl, HJ⟩ := hrel
    clear HJ0
    obtain ⟨w3, hw3⟩ : ∃ x, x = wr := ⟨_, rfl⟩
    subst hw3
    by_cases hk8 : k < 8
    · have hlt2 : (k : Int) < 8 := by omega
      have HEQ := Lib.hid HJ.out.eq
      obtain ⟨y, hy⟩ : ∃ z, atL S.out (k : Int) = z := ⟨_, rfl⟩
      have hyb := atL_bounds S.out (k : Int)
      rw [hy] at hyb
      have hw1 : IntKind.i64.wrap (y + 1) = y + 1 := by rw [IntKind.wrap_i64]; omega
      have ka1 := KA.out (k : Int) w3 HJ.out.bel
      rw [hy] at ka1
      obtain ⟨sq, hsq⟩ : ∃ z, y + 1 = z := ⟨_, rfl⟩
      have HSB := Lib.hid (show -9223372036854775808 ≤ sq ∧ sq ≤ 9223372036854775807 by omega)
      have HSQ := Lib.hid (show atL S.out (k : Int) + 1 = sq by rw [hy]; exact hsq)
      have kfd := KF.out (k : Int) sq
      have hc13 := (HJ.out.bel.cell (p := ⟨b, 1, none⟩) hblt).trans hc1
      rw [hsq] at hw1
      clear hyb
      cases hz : hasB S.L (k : Int) sq with
      | false =>
        have HSTEP := Lib.hid (show nextR S = firstC S (k + 1) (8 - (k + 1)) from by rw [HEQ.out]; exact firstC_miss hk8 (cand_none (by rw [HSQ.out]; exact hz)))
        rw [find_no hz] at kfd
        clear hz hy
        go_wp2_with (first | (go_at_call 27; (with_reducible refine ka1.mono ?_); rintro e w4 ⟨rfl, hb4⟩; (have HB4 := Lib.hid (bel_next HJ.out.bel hb4)); (have HO4 := Lib.hid (HJ.out.out.below hb4)); clear hb4) | (go_at_call 36; (with_reducible refine (kfd _ HB4.out).mono ?_); rintro e w8 ⟨rfl, rfl⟩))
        go_roundw
        case rel => exact ⟨k + 1, by omega, by go_num, Lib.hid ⟨HB4.out, HO4.out, HSTEP.out⟩⟩
        case measure => simp [intOf]; omega
      | true =>
        obtain ⟨hpl, hk1, hk2⟩ := idx_at hz
        have hfi : findI S.L (k : Int) sq = ((idxN (k : Int) sq S.L : Nat) : Int) := if_pos hz
        have hdi := del_idx HH.out.good.apart hz
        rw [hfi] at kfd
        obtain ⟨p, hp⟩ : ∃ z, idxN (k : Int) sq S.L = z := ⟨_, rfl⟩
        simp only [hp] at hpl hk1 hk2 kfd hdi
        have hpz : p < zs.length := by rw [HH.out.len]; exact hpl
        have hzr := HH.out.get hpz hpl
        obtain ⟨g, off, ea, -, -, -, hcs⟩ := HH.out.row.cell (by omega)
        subst ea
        have HR9 := Lib.hid (hcs p hpz)
        obtain ⟨hN, hxo⟩ := HH.out.deps zs[p] (List.getElem_mem hpz)
        have hmem : zs[p].r ∈ S.L := by rw [hzr]; exact List.getElem_mem hpl
        rw [← hzr] at hk1 hk2
        have hml : (zs.take p ++ zs.drop (p + 1)).map Rd.r = delL S.L (k : Int) sq := by rw [List.map_append, List.map_take, List.map_drop, HH.out.rs]; exact hdi
        have HML := Lib.hid hml
        have hgd := CGood.del HH.out.good (k : Int) sq
        have HGD := Lib.hid hgd
        obtain ⟨z, hzz⟩ : ∃ z, zs[p] = z := ⟨_, rfl⟩
        rw [hzz] at HR9 hN hxo hmem hk1 hk2
        have kd := fun (W : World) (hb : Below w.heap.size w W) => edue_is (HH.out.later hb) z (Ns.later hN hb)
        obtain ⟨⟨zk, zss, zt, zv, ztier, ⟨zc, zst, zq⟩, zd⟩, za, zcc⟩ := z
        unfold recV Rd.dv at *
        dsimp only at *
        subst hk1
        have hk2 := hk2.symm
        subst hk2
        have HN := Lib.hid hN
        have HXO := Lib.hid hxo
        have g3 := getL_of HH.out.good.apart hmem
        dsimp only at g3
        rw [HLN.out] at hpz
        have hlt3 : (p : Int) < (ln : Int) := by omega
        have hn0 : ¬ (p : Int) < 0 := by omega
        have hn1 : decide ((p : Int) < 0) = false := decide_eq_false hn0
        clear hz hfi hdi hp hpl hzr hcs hN hxo hmem hml hgd hzz hy
        cases hd : dueB S ⟨zk, zss, zt, zv, ztier, ⟨zc, (k : Int), sq⟩, zd⟩ with
        | false =>
          have HSTEP := Lib.hid (show nextR S = firstC S (k + 1) (8 - (k + 1)) from by rw [HEQ.out]; exact firstC_miss hk8 (cand_not (x := ⟨zk, zss, zt, zv, ztier, ⟨zc, (k : Int), sq⟩, zd⟩) (by dsimp only; rw [HSQ.out]; exact g3) hd))
          rw [hd] at kd
          clear hd g3
          go_wp2_with (first | (go_at_call 27; (with_reducible refine ka1.mono ?_); rintro e w4 ⟨rfl, hb4⟩; (have HB4 := Lib.hid (bel_next HJ.out.bel hb4)); (have HO4 := Lib.hid (HJ.out.out.below hb4)); clear hb4) | (go_at_call 36; (with_reducible refine (kfd _ HB4.out).mono ?_); rintro e w8 ⟨rfl, rfl⟩; (have d2 := (HB4.out.cell (p := ⟨b, 2, none⟩) hblt).trans hc2); (obtain ⟨x0, x1, x2, x3, x4, x5, x6, x7, x8⟩ := R9.later HR9.out HB4.out); dsimp only at x0 x1 x2 x3 x4 x5 x6 x7 x8; (have kd2 := kd _ HB4.out)) | (go_at_call 37; (with_reducible refine kd2.mono ?_); rintro e w5 ⟨rfl, hb5⟩; (have HB5 := Lib.hid (bel_next HB4.out hb5)); (have HO5 := Lib.hid (HO4.out.below hb5)); clear hb5 d2 x0 x1 x2 x3 x4 x5 x6 x7 x8 kd2; (have d2 := (HB5.out.cell (p := ⟨b, 2, none⟩) hblt).trans hc2); (obtain ⟨x0, x1, x2, x3, x4, x5, x6, x7, x8⟩ := R9.later HR9.out HB5.out); dsimp only at x0 x1 x2 x3 x4 x5 x6 x7 x8))
          go_roundw
          case rel => exact ⟨k + 1, by omega, by go_num, Lib.hid ⟨HB5.out, HO5.out, HSTEP.out⟩⟩
          case measure => simp [intOf]; omega
        | true =>
          have HNR := Lib.hid (show nextR S = some ⟨zk, zss, zt, zv, ztier, ⟨zc, (k : Int), sq⟩, zd⟩ from by rw [HEQ.out]; exact firstC_hit hk8 (cand_yes (x := ⟨zk, zss, zt, zv, ztier, ⟨zc, (k : Int), sq⟩, zd⟩) (by dsimp only; rw [HSQ.out]; exact g3) hd))
          have HNS := Lib.hid (show nextS S = ⟨S.room, withL S.out (k : Int) sq, delL S.L (k : Int) sq⟩ from nextS_some HNR.out)
          have HGN := Lib.hid (show CGood ⟨S.room, withL S.out (k : Int) sq, delL S.L (k : Int) sq⟩ from by have := HH.out.good.next; rw [HNS.out] at this; exact this)
          rw [hd] at kd
          have hpl : p < ln := by omega
          clear hd g3
          go_upto_region 10 with (first | (go_at_call 27; (with_reducible refine ka1.mono ?_); rintro e w4 ⟨rfl, hb4⟩; (have HB4 := Lib.hid (bel_next HJ.out.bel hb4)); (have HO4 := Lib.hid (HJ.out.out.below hb4)); clear hb4) | (go_at_call 36; (with_reducible refine (kfd _ HB4.out).mono ?_); rintro e w8 ⟨rfl, rfl⟩; (have d2 := (HB4.out.cell (p := ⟨b, 2, none⟩) hblt).trans hc2); (obtain ⟨x0, x1, x2, x3, x4, x5, x6, x7, x8⟩ := R9.later HR9.out HB4.out); dsimp only at x0 x1 x2 x3 x4 x5 x6 x7 x8; (have kd2 := kd _ HB4.out)) | (go_at_call 37; (with_reducible refine kd2.mono ?_); rintro e w5 ⟨rfl, hb5⟩; (have HB5 := Lib.hid (bel_next HB4.out hb5)); (have HO5 := Lib.hid (HO4.out.below hb5)); clear hb5 d2 x0 x1 x2 x3 x4 x5 x6 x7 x8 kd2; (have d2 := (HB5.out.cell (p := ⟨b, 2, none⟩) hblt).trans hc2); (obtain ⟨x0, x1, x2, x3, x4, x5, x6, x7, x8⟩ := R9.later HR9.out HB5.out); dsimp only at x0 x1 x2 x3 x4 x5 x6 x7 x8))
          obtain ⟨W, hW⟩ : ∃ x, w5.alloc (.cells #[.int .i64 zk, .string zss, .int .i64 zt, .int .i64 zv, .int .i64 ztier, .int .i64 zc, .int .i64 (k : Int), .int .i64 sq, .slice za zd.length zcc] 33) = x := ⟨_, rfl⟩
          obtain ⟨M, hM⟩ : ∃ x, w5.heap.size = x := ⟨_, rfl⟩
          have HM5 := Lib.hid hM
          have HS5 := Lib.hid HO5.out.room
          have hbW : Below w5.heap.size w5 W := by rw [← hW]; exact (Below.refl _ _).alloc (Nat.le_refl _) _
          have hrW : R9 W M 0 ⟨⟨zk, zss, zt, zv, ztier, ⟨zc, (k : Int), sq⟩, zd⟩, za, zcc⟩ := by rw [← hW, ← hM]; exact R9.new w5 ⟨⟨zk, zss, zt, zv, ztier, ⟨zc, (k : Int), sq⟩, zd⟩, za, zcc⟩
          have hsW : W.heap.size = w5.heap.size + 1 := by rw [← hW]; simp
          have hrow5 := HH.out.row.later (bel_next HB5.out hbW)
          rw [HLN.out] at hrow5
          obtain ⟨o', hs1, hs2, hs3, hs4, hra, hrb⟩ := cuts hrow5 HLN.out hpl HL4.out
          obtain ⟨v6, w6, hrun1, hO6, hg6, ha6⟩ := append9 (w := W) (C := w5.heap.size) (n := 0) (xs := []) 43 (World.ownsRow_nil W w5.heap.size 33 9) hra (by rw [List.length_take, HLN.out]; omega) (by have := HL4.out; omega) (by omega)
          rw [List.nil_append, Nat.zero_add] at hO6
          have hb6 : Below w5.heap.size w5 w6 := ⟨hg6.os.trans hbW.os, hg6.tape.trans hbW.tape, hg6.output.trans hbW.output, Nat.le_trans hbW.size hg6.size, fun i hi => (hg6.block i (by omega) (by simp [Value.ownBlock])).trans (hbW.block i hi)⟩
          have hl6 := hO6.lt
          obtain ⟨v7, w7, hrun2, hO7, hg7, ha7⟩ := append9 (w := w6) (C := w5.heap.size) 43 hO6 (hrb.other (w' := w6) fun g' hg' => hg6.block g' (hrb.lt hg').2 (by simp [Value.ownBlock])) (by rw [List.length_drop, HLN.out]) (by have := HL4.out; omega) (by have := hb6.size; omega)
          obtain ⟨m7, hm7⟩ : ∃ z, p + (ln - (p + 1)) = z := ⟨_, rfl⟩
          have HM7 := Lib.hid hm7
          rw [hm7] at hO7
          obtain ⟨a7, c7, e7⟩ := own_slice hO7
          obtain ⟨a6, c6, e6⟩ := own_slice hO6
          subst e7 e6
          clear hm7
          have hb7 : Below w5.heap.size w5 w7 := ⟨hg7.os.trans hb6.os, hg7.tape.trans hb6.tape, hg7.output.trans hb6.output, Nat.le_trans hb6.size hg7.size, fun i hi => (hg7.block i (Nat.lt_of_lt_of_le hi hb6.size) (fun e => by have := (hl6 i e.symm).1; omega)).trans (hb6.block i hi)⟩
          have hv6 : ∀ q, (Value.slice a6 p c6).ownBlock = some q → q ≠ M := fun q hq => by
            rcases ha6 with e | e
            · rw [e] at hq; cases hq
            · rw [e] at hq; injection hq with hq; omega
          have hM6 : R9 w6 M 0 ⟨⟨zk, zss, zt, zv, ztier, ⟨zc, (k : Int), sq⟩, zd⟩, za, zcc⟩ := R9.other hrW (hg6.block M hrW.room (by simp [Value.ownBlock]))
          have hM7 : R9 w7 M 0 ⟨⟨zk, zss, zt, zv, ztier, ⟨zc, (k : Int), sq⟩, zd⟩, za, zcc⟩ := R9.other hM6 (hg7.block M hM6.room fun e => hv6 M e.symm rfl)
          have h5 := HH.out.later HB5.out
          obtain ⟨c28, f28, hE8, hF8⟩ := h5.cutL hb7 hO7 (by rw [List.length_append, List.length_take, List.length_drop, HLN.out]; have := HM7.out; omega) (Nat.le_refl _) (Nat.le_trans HBB.out HB5.out.size) (fun y hy => (List.mem_append.1 hy).elim List.mem_of_mem_take List.mem_of_mem_drop) HML.out HGD.out
          rw [HLN.out] at c28
          have hlt5 := h5.lt
          have d2W := ((bel_next HB5.out hbW).cell (p := ⟨b, 2, none⟩) hblt).trans hc2
          have d26 := ((bel_next HB5.out hb6).cell (p := ⟨b, 2, none⟩) hblt).trans hc2
          have hw2 : IntKind.i64.wrap ((p : Int) + 1) = (p : Int) + 1 := by rw [IntKind.wrap_i64]; have := HL4.out; omega
          have HO8a := Lib.hid (HO5.out.below hb7)
          have HR8a := Lib.hid hM7
          rw [hW, hM]
          clear hW hM hbW hrW hrow5 hra hrb hO6 hg6 ha6 hl6 hO7 hg7 ha7 hv6 hM6 hM7 h5 hsW d2 x0 x1 x2 x3 x4 x5 x6 x7 x8 kd kfd ka1
          go_upto_region 11 with (at_builtin; refine Lib.wpList_append_run _ rfl _ _ _ _ rfl _ _ rfl rfl _ _ hrun1 ?_)
          go_upto_region 12 with (at_builtin; refine Lib.wpList_append_run _ rfl _ _ _ _ rfl _ _ rfl rfl _ _ hrun2 ?_)
          obtain ⟨w8, hw8⟩ : ∃ x, w7.setCell ⟨b, 2, none⟩ (.slice a7 m7 c7) = x := ⟨_, rfl⟩
          have HS8 := Lib.hid (show w5.heap.size < w8.heap.size by rw [← hw8]; have := HR8a.out.room; have := HM5.out; simp; omega)
          have HO8 := Lib.hid (show RecW w8 w.heap.size Rec.zero (.slice none 0 0) by rw [← hw8]; exact recw_same HO8a.out (World.heap_setCell_off _ _ _ _ _ (by have := HH.out.lt; omega)))
          have HR8 := Lib.hid (show R9 w8 M 0 ⟨⟨zk, zss, zt, zv, ztier, ⟨zc, (k : Int), sq⟩, zd⟩, za, zcc⟩ by rw [← hw8]; exact R9.other HR8a.out (World.heap_setCell_off _ _ _ _ _ (by have := HM5.out; omega)))
          rw [hw8] at hE8 hF8 ⊢
          have HE8 := Lib.hid hE8
          have HFR8 := Lib.hid ((FrF.of (F := F) HB5.out).next hF8 fun q _ hq => hq)
          have kw := fun (W : World) (h : Ns W (.slice oa S.out.length oc) S.out) => rwithF_is (.slice oa S.out.length oc) S.out (k : Int) sq W h HSB.out
          have e18 := HE8.out.c1
          have f18 := HE8.out.fz 1
          clear hw8 hE8 hF8 hb6 hb7 hrun1 hrun2 hs1 hs2 hs3 hs4 c28 f28 d2W d26 hlt5
          refine wp_region_held_drew (S := (fun X : World => R9 X M 0 ⟨⟨zk, zss, zt, zv, ztier, ⟨zc, (k : Int), sq⟩, zd⟩, za, zcc⟩)) (by kernel_rfl) (R9.later HR8.out (Below.refl _ _).drew) (fun hHeld => ?_)
          refine wpAnyH_take (i := 0) (oi := ?m1o) (v := ?m1v) ?m1h (by kernel_rfl) (by kernel_rfl) (by kernel_rfl) ?m1q ?m1y hHeld ?m1r
          case m1h => (simp only [List.getElem?_toArray, List.getElem?_cons_zero]; rfl)
          case m1q => exact fun _ _ _ h => h
          case m1y => (refine Or.inl ⟨by first | kernel_rfl | rfl, ?_⟩; intro w hSw; (try dsimp only at hSw); obtain ⟨p0, p1, p2, p3, p4, p5, p6, p7, p8⟩ := hSw; dsimp only [Nat.zero_add] at p0 p1 p2 p3 p4 p5 p6 p7 p8; go_simp <;> (try with_reducible rfl))
          try simp only [Act.put, List.setIfInBounds_toArray, List.set_cons_zero, List.set_cons_succ]
          refine wpAnyH_take (i := 1) (oi := ?m2o) (v := ?m2v) ?m2h (by kernel_rfl) (by kernel_rfl) (by kernel_rfl) ?m2q ?m2y hHeld ?m2r
          case m2h => (simp only [List.getElem?_toArray, List.getElem?_cons_succ, List.getElem?_cons_zero]; rfl)
          case m2q => exact fun _ _ _ h => h
          case m2y => (refine Or.inl ⟨by first | kernel_rfl | rfl, ?_⟩; intro w hSw; (try dsimp only at hSw); obtain ⟨p0, p1, p2, p3, p4, p5, p6, p7, p8⟩ := hSw; dsimp only [Nat.zero_add] at p0 p1 p2 p3 p4 p5 p6 p7 p8; go_simp <;> (try with_reducible rfl))
          try simp only [Act.put, List.setIfInBounds_toArray, List.set_cons_zero, List.set_cons_succ]
          refine wpAnyH_take (i := 2) (oi := ?m3o) (v := ?m3v) ?m3h (by kernel_rfl) (by kernel_rfl) (by kernel_rfl) ?m3q ?m3y hHeld ?m3r
          case m3h => (simp only [List.getElem?_toArray, List.getElem?_cons_succ, List.getElem?_cons_zero]; rfl)
          case m3q => exact fun _ _ _ h => h
          case m3y => (refine Or.inl ⟨by first | kernel_rfl | rfl, ?_⟩; intro w hSw; (try dsimp only at hSw); obtain ⟨p0, p1, p2, p3, p4, p5, p6, p7, p8⟩ := hSw; dsimp only [Nat.zero_add] at p0 p1 p2 p3 p4 p5 p6 p7 p8; go_simp <;> (try with_reducible rfl))
          try simp only [Act.put, List.setIfInBounds_toArray, List.set_cons_zero, List.set_cons_succ]
          refine wpAnyH_take (i := 3) (oi := ?m4o) (v := ?m4v) ?m4h (by kernel_rfl) (by kernel_rfl) (by kernel_rfl) ?m4q ?m4y hHeld ?m4r
          case m4h => (simp only [List.getElem?_toArray, List.getElem?_cons_succ, List.getElem?_cons_zero]; rfl)
          case m4q => exact fun _ _ _ h => h
          case m4y => (refine Or.inl ⟨by first | kernel_rfl | rfl, ?_⟩; intro w hSw; (try dsimp only at hSw); obtain ⟨p0, p1, p2, p3, p4, p5, p6, p7, p8⟩ := hSw; dsimp only [Nat.zero_add] at p0 p1 p2 p3 p4 p5 p6 p7 p8; go_simp <;> (try with_reducible rfl))
          try simp only [Act.put, List.setIfInBounds_toArray, List.set_cons_zero, List.set_cons_succ]
          refine wpAnyH_take (i := 5) (oi := ?m5o) (v := ?m5v) ?m5h (by kernel_rfl) (by kernel_rfl) (by kernel_rfl) ?m5q ?m5y hHeld ?m5r
          case m5h => (simp only [List.getElem?_toArray, List.getElem?_cons_succ, List.getElem?_cons_zero]; rfl)
          case m5q => exact fun _ _ _ h => h
          case m5y => (refine Or.inl ⟨by first | kernel_rfl | rfl, ?_⟩; intro w hSw; (try dsimp only at hSw); obtain ⟨p0, p1, p2, p3, p4, p5, p6, p7, p8⟩ := hSw; dsimp only [Nat.zero_add] at p0 p1 p2 p3 p4 p5 p6 p7 p8; go_simp <;> (try with_reducible rfl))
          try simp only [Act.put, List.setIfInBounds_toArray, List.set_cons_zero, List.set_cons_succ]
          refine wpAnyH_take (i := 6) (oi := ?m6o) (v := ?m6v) ?m6h (by kernel_rfl) (by kernel_rfl) (by kernel_rfl) ?m6q ?m6y hHeld ?m6r
          case m6h => (simp only [List.getElem?_toArray, List.getElem?_cons_succ, List.getElem?_cons_zero]; rfl)
          case m6q => exact fun _ _ _ h => h
          case m6y => (refine Or.inl ⟨by first | kernel_rfl | rfl, ?_⟩; intro w hSw; (try dsimp only at hSw); obtain ⟨p0, p1, p2, p3, p4, p5, p6, p7, p8⟩ := hSw; dsimp only [Nat.zero_add] at p0 p1 p2 p3 p4 p5 p6 p7 p8; go_simp <;> (try with_reducible rfl))
          try simp only [Act.put, List.setIfInBounds_toArray, List.set_cons_zero, List.set_cons_succ]
          refine wpAnyH_take (i := 7) (oi := ?m7o) (v := ?m7v) ?m7h (by kernel_rfl) (by kernel_rfl) (by kernel_rfl) ?m7q ?m7y hHeld ?m7r
          case m7h => (simp only [List.getElem?_toArray, List.getElem?_cons_succ, List.getElem?_cons_zero]; rfl)
          case m7q => exact fun _ _ _ h => h
          case m7y => (refine Or.inl ⟨by first | kernel_rfl | rfl, ?_⟩; intro w hSw; (try dsimp only at hSw); obtain ⟨p0, p1, p2, p3, p4, p5, p6, p7, p8⟩ := hSw; dsimp only [Nat.zero_add] at p0 p1 p2 p3 p4 p5 p6 p7 p8; go_simp <;> (try with_reducible rfl))
          try simp only [Act.put, List.setIfInBounds_toArray, List.set_cons_zero, List.set_cons_succ]
          refine wpAnyH_take (i := 8) (oi := ?m8o) (v := ?m8v) ?m8h (by kernel_rfl) (by kernel_rfl) (by kernel_rfl) ?m8q ?m8y hHeld ?m8r
          case m8h => (simp only [List.getElem?_toArray, List.getElem?_cons_succ, List.getElem?_cons_zero]; rfl)
          case m8q => exact fun _ _ _ h => h
          case m8y => (refine Or.inl ⟨by first | kernel_rfl | rfl, ?_⟩; intro w hSw; (try dsimp only at hSw); obtain ⟨p0, p1, p2, p3, p4, p5, p6, p7, p8⟩ := hSw; dsimp only [Nat.zero_add] at p0 p1 p2 p3 p4 p5 p6 p7 p8; go_simp <;> (try with_reducible rfl))
          try simp only [Act.put, List.setIfInBounds_toArray, List.set_cons_zero, List.set_cons_succ]
          refine wpAnyH_ready (rs := [4]) (by kernel_rfl) (by simp) ?_
          refine (AllReadyH.cons rfl (fun K hK => ?_) AllReadyH.nil)
          go_simp
          skip
          refine hK.out _ _ (hHeld) (fun hHeld => ?_)
          clear hK K
          try simp only [Act.put, List.setIfInBounds_toArray, List.set_cons_zero, List.set_cons_succ]
          refine wpAnyH_ready (rs := [9]) (by kernel_rfl) (by simp) ?_
          refine (AllReadyH.cons rfl (fun K hK => ?_) AllReadyH.nil)
          go_simp
          (go_at_call 28; (with_reducible refine (kw _ (Ns.later HE8.out.ns (Below.refl _ _).drew)).mono ?_); rintro e w9 ⟨v9, rfl, hn9, hb9, hf9⟩; (obtain ⟨a9, c9, rfl⟩ := hn9.slice); (have HB9 := Lib.hid (bel_next (Below.refl _ _).drew hb9)); (have HN9 := Lib.hid hn9); (have HF9 := Lib.hid hf9); (have h9 := HE8.out.later HB9.out); (have hc19 := h9.c1); (have hf19 := h9.fz 1); (have N9 := R9.later hHeld hb9); clear h9 hn9 hb9 hf9)
          refine hK.out _ _ (N9) (fun hHeld => ?_)
          clear hK K
          try simp only [Act.put, List.setIfInBounds_toArray, List.set_cons_zero, List.set_cons_succ]
          refine wpAnyH_take (i := 10) (oi := ?m9o) (v := ?m9v) ?m9h (by kernel_rfl) (by kernel_rfl) (by kernel_rfl) ?m9q ?m9y hHeld ?m9r
          case m9h => (simp only [List.getElem?_toArray, List.getElem?_cons_succ, List.getElem?_cons_zero]; rfl)
          case m9q => exact fun _ _ _ h => h
          case m9y => (refine Or.inl ⟨by first | kernel_rfl | rfl, ?_⟩; intro w hSw; (try dsimp only at hSw); obtain ⟨p0, p1, p2, p3, p4, p5, p6, p7, p8⟩ := hSw; dsimp only [Nat.zero_add] at p0 p1 p2 p3 p4 p5 p6 p7 p8; go_simp <;> (try with_reducible rfl))
          try simp only [Act.put, List.setIfInBounds_toArray, List.set_cons_zero, List.set_cons_succ]
          refine wpAnyH_take (i := 11) (oi := ?m10o) (v := ?m10v) ?m10h (by kernel_rfl) (by kernel_rfl) (by kernel_rfl) ?m10q ?m10y hHeld ?m10r
          case m10h => (simp only [List.getElem?_toArray, List.getElem?_cons_succ, List.getElem?_cons_zero]; rfl)
          case m10q => exact fun _ _ _ h => h
          case m10y => (refine Or.inl ⟨by first | kernel_rfl | rfl, ?_⟩; intro w hSw; (try dsimp only at hSw); obtain ⟨p0, p1, p2, p3, p4, p5, p6, p7, p8⟩ := hSw; dsimp only [Nat.zero_add] at p0 p1 p2 p3 p4 p5 p6 p7 p8; go_simp <;> (try with_reducible rfl))
          try simp only [Act.put, List.setIfInBounds_toArray, List.set_cons_zero, List.set_cons_succ]
          refine wpAnyH_ready (rs := [12]) (by kernel_rfl) (by simp) ?_
          refine (AllReadyH.cons rfl (fun K hK => ?_) AllReadyH.nil)
          go_simp
          skip
          refine hK.out _ _ ((R9.other N9 (World.heap_setCell_off _ _ _ _ _ (by have := HH.out.lt; have := HM5.out; have := HS5.out; omega)))) (fun hHeld => ?_)
          clear hK K
          try simp only [Act.put]
          refine wpAnyH_done (by kernel_rfl) ?_ _
          obtain ⟨hE9, hF9⟩ := HE8.out.setOut HB9.out HN9.out (fun q hq => ⟨by have := (HF9.out q hq).1; simpa using this, (HF9.out q hq).2⟩) (by have := HS5.out; have := HS8.out; have := HBB.out; omega) HGN.out
          have hsz9 := HB9.out.size
          obtain ⟨wA, hwA⟩ : ∃ x, w9.setCell ⟨b, 1, none⟩ (.slice a9 (withL S.out (k : Int) sq).length c9) = x := ⟨_, rfl⟩
          have hsz : wA.heap.size = w9.heap.size := by rw [← hwA]; simp
          have hHo := HH.out.lt
          have ho2 := recw_same (HO8.out.below HB9.out) (show wA.heap[w.heap.size]? = w9.heap[w.heap.size]? by rw [← hwA]; exact World.heap_setCell_off _ _ _ _ _ (by omega))
          have hr2 := R9.other (R9.later HR8.out HB9.out) (show wA.heap[M]? = w9.heap[M]? by rw [← hwA]; exact World.heap_setCell_off _ _ _ _ _ (by have := HM5.out; have := HS5.out; omega))
          rw [hwA] at hE9 hF9 ⊢
          have HE9 := Lib.hid hE9
          have HFRA := Lib.hid ((HFR8.out.next (hF9) (fun q hl hq => hq.elim id (fun e => by have := HS5.out; omega)) : FrF F w wA))
          have HLT := Lib.hid (show w5.heap.size ≤ wA.heap.size by have := HS8.out; omega)
          have HLT9 := Lib.hid (show w8.heap.size ≤ wA.heap.size by omega)
          clear hwA hsz9 hsz hE9 hF9 hc19 hf19 N9
          obtain ⟨⟨s0, s1, s2, s3, s4, s5, s6, s7, s8⟩, t0, t1, t2, t3, t4, t5, t6, t7, t8⟩ := ho2
          obtain ⟨p0, p1, p2, p3, p4, p5, p6, p7, p8⟩ := hr2
          dsimp only [Nat.zero_add] at p0 p1 p2 p3 p4 p5 p6 p7 p8
          dsimp only [Rec.zero] at s0 s1 s2 s3 s4 s5 s6 s7 s8
          have hMne : ¬ M = w.heap.size := by have := HM5.out; have := HS5.out; omega
          have hMne2 : ¬ w.heap.size = M := by omega
          go_wp2
          refine bodyPost_ret (v := .tuple #[recV ⟨zk, zss, zt, zv, ztier, ⟨zc, (k : Int), sq⟩, zd⟩ (.slice za zd.length zcc), .bool true]) (by unfold recV; simp [results, Try.results13, go_sem, s0, s1, s2, s3, s4, s5, s6, s7, s8]; try rfl) rfl ⟨⟨⟨zk, zss, zt, zv, ztier, ⟨zc, (k : Int), sq⟩, zd⟩, za, zcc⟩, .slice a9 (withL S.out (k : Int) sq).length c9, .slice a7 m7 c7, zs.take p ++ zs.drop (p + 1), ?_, ?_, ?_, ?_, ?_, ?_⟩
          · rw [HNR.out]; rfl
          · rw [HNR.out]
            rfl
          · exact Ns.off HN.out (by simp only [World.size_setCell]; have := HLT.out; have := HS5.out; omega) fun hd q hq hl => (nine_off wA w.heap.size q (by omega) _ _ _ _ _ _ _ _ _).trans (HFRA.out.block q hl fun e => by have := HXO.out hd q hq; have := (HH.out.fp q e).1; omega)
          · rw [HNS.out]
            refine (HE9.out.off (G := fun q => q = w.heap.size) (nine_fr wA w.heap.size _ _ _ _ _ _ _ _ _) (fun q hq e => ?_) (fun q e => by have := HBB.out; omega)).wide (fun q hq => ?_) (grow_fp HH.out.fp HBB.out (by simp only [World.size_setCell]; have := HLT.out; have := HS5.out; omega))
            · have h1 := HS5.out
              have h2 := HS8.out
              rcases hq with (hq | hq) | hq
              · have := (HH.out.fp q hq).2; omega
              · omega
              · omega
            · have h1 := HS5.out
              have h2 := HS8.out
              have h3 := HLT9.out
              rcases hq with (hq | hq) | hq
              · exact Or.inl hq
              · exact Or.inr ⟨by omega, by simp only [World.size_setCell]; omega⟩
              · exact Or.inr ⟨by omega, by simp only [World.size_setCell]; omega⟩
          · refine HFRA.out.next (nine_fr wA w.heap.size _ _ _ _ _ _ _ _ _) fun q hq e => absurd e (by omega)
          · exact HXO.out
    · obtain rfl : k = 8 := by omega
      have HN := Lib.hid (show nextR S = none from HJ.out.eq)
      have HO := Lib.hid HJ.out.out
      have HB := Lib.hid HJ.out.bel
      obtain ⟨⟨s0, s1, s2, s3, s4, s5, s6, s7, s8⟩, t0, t1, t2, t3, t4, t5, t6, t7, t8⟩ := id HO.out
      dsimp only [Rec.zero] at s0 s1 s2 s3 s4 s5 s6 s7 s8
      clear hk hk8 KA KF
      go_wp2
      refine bodyPost_ret (v := .tuple #[recV Rec.zero (.slice none 0 0), .bool false]) (by unfold recV Rec.zero; simp [results, Try.results13, go_sem, s0, s1, s2, s3, s4, s5, s6, s7, s8]; try rfl) rfl ⟨⟨Rec.zero, none, 0⟩, .slice oa S.out.length oc, .slice a2 zs.length c2, zs, ?_, ?_, ?_, ?_, ?_, ?_⟩
      · rw [HN.out]; rfl
      · rw [HN.out]; rfl
      · exact (Nums.nil _ none 0).mono (Nat.zero_le _) (Nat.le_refl _)
      · have hb := nine_set HB.out w.heap.size (Nat.le_refl _) (.int .i64 0) (.string ⟨#[]⟩) (.int .i64 0) (.int .i64 0) (.int .i64 0) (.int .i64 0) (.int .i64 0) (.int .i64 0) (.slice none 0 0)
        rw [nextS_none HN.out]
        exact (HH.out.later hb).wide (fun q hq => Or.inl hq) (grow_fp HH.out.fp HBB.out hb.size)
      · exact FrF.of (nine_set HB.out w.heap.size (Nat.le_refl _) _ _ _ _ _ _ _ _ _)
      · intro hd; exact absurd rfl hd
end Go.Proofs.Ythifmfgnblecbaa.Og.Cb
