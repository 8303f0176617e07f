/- Contract: the document's Fold. -/
import Derived.Test.YtipjhlabcbkgjaaAggFold
import Derived.Test.YtipjhlabcbkgjaaAggRMerge
import Derived.Deep.RegionHeld
import Derived.Deep.CutRange
set_option maxRecDepth 20000
namespace Go.Proofs.Ytipjhlabcbkgjaa.Ag
open Go.RowKit Go.Proofs.Ytipjhlabcbkgjaa Go.Proofs.Ytipjhlabcbkgjaa.Wd Go.Proofs.Ytipjhlabcbkgjaa.Vi Go.Proofs.Ytipjhlabcbkgjaa.Mk

/-- Held in a round: the sum so far, the point where it came in. -/
structure FG (w : World) (g : Ag) (b o : Nat) (p : Pt) (W : World) : Prop where
  f : FR w g W
  p : PtO W b o p
  hb : b < w.heap.size
theorem FG.keep {w : World} {g : Ag} {b o : Nat} {p : Pt} {W W' : World} (h : FG w g b o p W) (k : Below W.heap.size W W') : FG w g b o p W' := ⟨h.f.keep k, h.p.below k h.p.room, h.hb⟩
theorem FG.drew {w : World} {g : Ag} {b o : Nat} {p : Pt} {W : World} (h : FG w g b o p W) : FG w g b o p W.drew := h.keep ((Below.refl _ _).drew)
set_option maxHeartbeats 4000000 in
theorem rfold_is (a0 : Option Addr) (cap n : Nat) (l : List Pt) (w : World) (hl : Hid (l.length = n)) (hP : Pts w w.heap.size a0 l) (hf : ∀ p ∈ l, p.fits) (hn : n ≤ 9223372036854775807) :
    Calls Try.prog 20 #[.slice a0 n cap] w fun e w' => e = .returned (agV (foldA l)) ∧ Below w.heap.size w w' := by
  obtain ⟨z, hz⟩ : ∃ z, foldA l = z := ⟨_, rfl⟩
  rw [hz]
  have HZ := Lib.hid hz
  have HN := Lib.hid (FR.new w)
  have HP := Lib.hid hP
  have HF := Lib.hid hf
  clear hP hf hz
  go_enter Try.func20, Try.ntmps20
  go_wp2_with fail
  obtain ⟨w0, hw0, h0⟩ := HN.out.name
  rw [← hw0]
  have H0 := Lib.hid h0
  clear hw0 h0
  go_loopw [4] (fun x wr => ∃ k : Nat, x = .int .i64 (k : Int) ∧ k ≤ n ∧ FR w (foldA (l.take k)) wr) (fun x _ => n - (intOf x).toNat)
  case atStart => exact ⟨0, rfl, Nat.zero_le _, H0.out⟩
  case round =>
    obtain ⟨k, rfl, hkn, hR⟩ := hrel
    obtain ⟨w2, hw2⟩ : ∃ x, x = wr := ⟨_, rfl⟩
    subst hw2
    have HR := Lib.hid hR
    clear hR
    by_cases hk : k < n
    · have hki : (k : Int) < (n : Int) := by omega
      have hkl : k < l.length := by rw [hl.out]; exact hk
      have hwk : IntKind.i64.wrap ((k : Int) + 1) = (k : Int) + 1 := by rw [IntKind.wrap_i64]; omega
      rcases HP.out.at_ with h0 | ⟨b, off, rfl, hb, hc⟩
      · rw [h0] at hkl; simp at hkl
      · obtain ⟨p, hp⟩ : ∃ p, l[k] = p := ⟨_, rfl⟩
        have cp := (hc k hkl).below HR.out.bel hb
        rw [hp] at cp
        have hpf : p.fits := HF.out p (by rw [← hp]; exact List.getElem_mem hkl)
        have HNX := Lib.hid (show foldA (l.take (k + 1)) = mgA (foldA (l.take k)) (oneA p.v p.st) by rw [List.take_succ_eq_append_getElem hkl, foldA_snoc, hp])
        have hgf : (foldA (l.take k)).fits := foldA_fits fun q hq => HF.out q (List.mem_of_mem_take hq)
        obtain ⟨g, hg⟩ : ∃ g, foldA (l.take k) = g := ⟨_, rfl⟩
        rw [hg] at HNX hgf HR
        have kon := fun W => rone_is p.s p.t p.v p.st W hpf.v
        have kmg := fun W => rmerge_is g (oneA p.v p.st) hgf (oneA_fits hpf.v) W
        have HFH := Lib.hid (FG.mk HR.out cp hb)
        have HQN := Lib.hid (show b ≠ w.heap.size + 1 by omega)
        clear hc hp hg hgf hpf cp hb
        go_wp2_with fail
        refine wp_region_held_drew (S := (fun W => PtO W b (off + k * 6) p)) (by kernel_rfl) HFH.out.drew.p (fun hHeld => ?_)
        refine wpAnyH_take (i := 1) (oi := ?o1o) (v := ?o1v) ?o1h (by kernel_rfl) (by kernel_rfl) (by kernel_rfl) ?o1q ?o1y hHeld ?o1r
        case o1h => (simp only [List.getElem?_toArray, List.getElem?_cons_succ, List.getElem?_cons_zero]; rfl)
        case o1q => exact fun _ _ _ h => h
        case o1y => (refine Or.inl ⟨by first | kernel_rfl | rfl, ?_⟩; intro w hSw; (try dsimp only at hSw); obtain ⟨y0, y1, y2, y3, y4, y5⟩ := hSw; go_simp <;> (try with_reducible rfl))
        try simp only [Act.put, List.setIfInBounds_toArray, List.set_cons_zero, List.set_cons_succ]
        refine wpAnyH_take (i := 2) (oi := ?o2o) (v := ?o2v) ?o2h (by kernel_rfl) (by kernel_rfl) (by kernel_rfl) ?o2q ?o2y hHeld ?o2r
        case o2h => (simp only [List.getElem?_toArray, List.getElem?_cons_succ, List.getElem?_cons_zero]; rfl)
        case o2q => exact fun _ _ _ h => h
        case o2y => (refine Or.inl ⟨by first | kernel_rfl | rfl, ?_⟩; intro w hSw; (try dsimp only at hSw); obtain ⟨y0, y1, y2, y3, y4, y5⟩ := hSw; go_simp <;> (try with_reducible rfl))
        try simp only [Act.put, List.setIfInBounds_toArray, List.set_cons_zero, List.set_cons_succ]
        refine wpAnyH_take (i := 3) (oi := ?o3o) (v := ?o3v) ?o3h (by kernel_rfl) (by kernel_rfl) (by kernel_rfl) ?o3q ?o3y hHeld ?o3r
        case o3h => (simp only [List.getElem?_toArray, List.getElem?_cons_succ, List.getElem?_cons_zero]; rfl)
        case o3q => exact fun _ _ _ h => h
        case o3y => (refine Or.inl ⟨by first | kernel_rfl | rfl, ?_⟩; intro w hSw; (try dsimp only at hSw); obtain ⟨y0, y1, y2, y3, y4, y5⟩ := hSw; go_simp <;> (try with_reducible rfl))
        try simp only [Act.put, List.setIfInBounds_toArray, List.set_cons_zero, List.set_cons_succ]
        refine wpAnyH_take (i := 4) (oi := ?o4o) (v := ?o4v) ?o4h (by kernel_rfl) (by kernel_rfl) (by kernel_rfl) ?o4q ?o4y hHeld ?o4r
        case o4h => (simp only [List.getElem?_toArray, List.getElem?_cons_succ, List.getElem?_cons_zero]; rfl)
        case o4q => exact fun _ _ _ h => h
        case o4y => (refine Or.inl ⟨by first | kernel_rfl | rfl, ?_⟩; intro w hSw; (try dsimp only at hSw); obtain ⟨y0, y1, y2, y3, y4, y5⟩ := hSw; go_simp <;> (try with_reducible rfl))
        try simp only [Act.put, List.setIfInBounds_toArray, List.set_cons_zero, List.set_cons_succ]
        refine wpAnyH_ready (rs := [0, 5]) (by kernel_rfl) (by simp) ?_
        refine (AllReadyH.cons rfl (fun K hK => ?_) (AllReadyH.cons rfl (fun K hK => ?_) AllReadyH.nil))
        ·
          refine (if_pos (by kernel_rfl)).mpr ?_
          first | refine load_ag _ rfl (w.heap.size + 1) g rfl H4.out.f.g.at_ ?_ | refine load_ag _ rfl (w.heap.size + 1) g rfl HFH.out.drew.f.g.at_ ?_
          refine hK.out _ _ (hHeld) (fun hHeld => ?_)
          clear hK K
          try simp only [Act.put, List.setIfInBounds_toArray]
          refine wpAnyH_ready (rs := [5]) (by kernel_rfl) (by simp) ?_
          refine (AllReadyH.cons rfl (fun K hK => ?_) AllReadyH.nil)
          go_simp
          ((with_reducible refine (kon _).mono ?_); rintro e w4 ⟨rfl, hb4⟩; (have H4 := Lib.hid (HFH.out.drew.keep hb4)))
          refine hK.out _ _ (H4.out.p) (fun hHeld => ?_)
          clear hK K
          try simp only [Act.put, List.setIfInBounds_toArray, List.set_cons_zero, List.set_cons_succ]
          refine wpAnyH_ready (rs := [6]) (by kernel_rfl) (by simp) ?_
          refine (AllReadyH.cons rfl (fun K hK => ?_) AllReadyH.nil)
          go_simp
          ((with_reducible refine (kmg _).mono ?_); rintro e w5 ⟨rfl, hb5⟩; have H5 := Lib.hid (H4.out.keep hb5))
          refine hK.out _ _ (H5.out.p) (fun hHeld => ?_)
          clear hK K
          try simp only [Act.put, List.setIfInBounds_toArray, List.set_cons_zero, List.set_cons_succ]
          refine wpAnyH_ready (rs := [7]) (by kernel_rfl) (by simp) ?_
          refine (AllReadyH.cons rfl (fun K hK => ?_) AllReadyH.nil)
          refine (if_pos (by kernel_rfl)).mpr ?_
          refine store_ag _ _ rfl (w.heap.size + 1) g (mgA g (oneA p.v p.st)) rfl rfl H5.out.f.g ?_
          refine hK.out _ _ (H5.out.p.st _ HQN.out) (fun hHeld => ?_)
          clear hK K
          try simp only [Act.put]
          refine wpAnyH_done (by kernel_rfl) ?_ _
          have HF2 := Lib.hid (H5.out.f.st (mgA g (oneA p.v p.st)))
          go_wp2
          go_roundw
          case rel => exact ⟨k + 1, by go_num, hk, by rw [HNX.out]; exact HF2.out⟩
          case measure => simp [intOf]; omega
        ·
          go_simp
          ((with_reducible refine (kon _).mono ?_); rintro e w4 ⟨rfl, hb4⟩; (have H4 := Lib.hid (HFH.out.drew.keep hb4)))
          refine hK.out _ _ (H4.out.p) (fun hHeld => ?_)
          clear hK K
          try simp only [Act.put, List.setIfInBounds_toArray, List.set_cons_zero, List.set_cons_succ]
          refine wpAnyH_ready (rs := [0]) (by kernel_rfl) (by simp) ?_
          refine (AllReadyH.cons rfl (fun K hK => ?_) AllReadyH.nil)
          refine (if_pos (by kernel_rfl)).mpr ?_
          first | refine load_ag _ rfl (w.heap.size + 1) g rfl H4.out.f.g.at_ ?_ | refine load_ag _ rfl (w.heap.size + 1) g rfl HFH.out.drew.f.g.at_ ?_
          refine hK.out _ _ (hHeld) (fun hHeld => ?_)
          clear hK K
          try simp only [Act.put, List.setIfInBounds_toArray]
          refine wpAnyH_ready (rs := [6]) (by kernel_rfl) (by simp) ?_
          refine (AllReadyH.cons rfl (fun K hK => ?_) AllReadyH.nil)
          go_simp
          ((with_reducible refine (kmg _).mono ?_); rintro e w5 ⟨rfl, hb5⟩; have H5 := Lib.hid (H4.out.keep hb5))
          refine hK.out _ _ (H5.out.p) (fun hHeld => ?_)
          clear hK K
          try simp only [Act.put, List.setIfInBounds_toArray, List.set_cons_zero, List.set_cons_succ]
          refine wpAnyH_ready (rs := [7]) (by kernel_rfl) (by simp) ?_
          refine (AllReadyH.cons rfl (fun K hK => ?_) AllReadyH.nil)
          refine (if_pos (by kernel_rfl)).mpr ?_
          refine store_ag _ _ rfl (w.heap.size + 1) g (mgA g (oneA p.v p.st)) rfl rfl H5.out.f.g ?_
          refine hK.out _ _ (H5.out.p.st _ HQN.out) (fun hHeld => ?_)
          clear hK K
          try simp only [Act.put]
          refine wpAnyH_done (by kernel_rfl) ?_ _
          have HF2 := Lib.hid (H5.out.f.st (mgA g (oneA p.v p.st)))
          go_wp2
          go_roundw
          case rel => exact ⟨k + 1, by go_num, hk, by rw [HNX.out]; exact HF2.out⟩
          case measure => simp [intOf]; omega
    · have hki : ¬ (k : Int) < (n : Int) := by omega
      have HG := Lib.hid (show FR w z w2 by have := HR.out; rwa [List.take_of_length_le (by rw [hl.out]; omega), HZ.out] at this)
      clear HR
      go_upto_region 6 with fail
      refine wp_region_lit ?_
      refine list_load_ag rfl _ rfl (w.heap.size + 1) z rfl HG.out.g.at_ ?_
      refine list_store_ag rfl _ _ rfl w.heap.size Ag.zero z rfl rfl HG.out.r ?_
      obtain ⟨w9, hw9, hfin, hbel⟩ := finF_name (HG.out.r.st z).at_ (stA_below z HG.out.bel (Nat.le_refl _))
      rw [← hw9]
      clear hw9 HG HP HF H0 HN hki hkn hn hk HZ
      refine wpList_nil ?_
      go_wp2
      refine bodyPost_ret (v := agV z) (results_ag Try.results20 _ _ w.heap.size _ rfl hfin) rfl ⟨rfl, hbel⟩
end Go.Proofs.Ytipjhlabcbkgjaa.Ag
