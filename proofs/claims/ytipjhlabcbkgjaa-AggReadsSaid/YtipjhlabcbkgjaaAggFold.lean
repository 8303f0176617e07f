/- Contract: Fold. -/
import Derived.Test.YtipjhlabcbkgjaaAggPts
import Derived.Test.YtipjhlabcbkgjaaAggOne
import Derived.Test.YtipjhlabcbkgjaaAggMerge
import Derived.Deep.RegionHeld
import Derived.Deep.CutRange
set_option maxRecDepth 20000
namespace Go.Proofs.Ytipjhlabcbkgjaa.Ag
open Go.RowKit Go.Proofs.Ytipjhlabcbkgjaa Go.Proofs.Ytipjhlabcbkgjaa.Wd Go.Proofs.Ytipjhlabcbkgjaa.Vi Go.Proofs.Ytipjhlabcbkgjaa.Mk

def foldA (l : List Pt) : Ag := l.foldl (fun a p => mgA a (oneA p.v p.st)) Ag.zero
theorem foldA_snoc (l : List Pt) (p : Pt) : foldA (l ++ [p]) = mgA (foldA l) (oneA p.v p.st) := by unfold foldA; rw [List.foldl_append]; rfl
theorem foldA_fits {l : List Pt} (h : ∀ p ∈ l, p.fits) : (foldA l).fits := by
  suffices k : ∀ (l : List Pt) (a : Ag), a.fits → (∀ p ∈ l, p.fits) → (l.foldl (fun a p => mgA a (oneA p.v p.st)) a).fits from k l _ zero_fits h
  intro l
  induction l with
  | nil => intro a ha _; exact ha
  | cons p l ih => intro a ha hp; exact ih _ (mgA_fits ha (oneA_fits (hp p List.mem_cons_self).v)) (fun q hq => hp q (List.mem_cons_of_mem _ hq))
/-- The two blocks of Fold: the result's, and what is known so far. -/
structure FR (w : World) (g : Ag) (W : World) : Prop where
  r : AgW W w.heap.size Ag.zero
  g : AgW W (w.heap.size + 1) g
  bel : Below w.heap.size w W
theorem FR.keep {w : World} {g : Ag} {W W' : World} (h : FR w g W) (k : Below W.heap.size W W') : FR w g W' := ⟨h.r.below k, h.g.below k, bel_next h.bel k⟩
theorem FR.st {w : World} {g : Ag} {W : World} (h : FR w g W) (g' : Ag) : FR w g' (stA W (w.heap.size + 1) g') := ⟨h.r.other (by omega), h.g.st g', stA_below g' h.bel (by omega)⟩
theorem FR.new (w : World) : FR w Ag.zero ((w.alloc (.cells #[.int .i64 0, .int .i64 0, .int .u64 0, .int .i64 0, .int .i64 0, .int .i64 0, .int .i64 0, .int .i64 0, .int .i64 0, .int .i64 0, .int .i64 0, .int .i64 0, .int .i64 0, .int .i64 0, .int .i64 0, .int .i64 0, .int .i64 0, .int .i64 0] 29)).alloc (.cells #[.int .i64 0, .int .i64 0, .int .u64 0, .int .i64 0, .int .i64 0, .int .i64 0, .int .i64 0, .int .i64 0, .int .i64 0, .int .i64 0, .int .i64 0, .int .i64 0, .int .i64 0, .int .i64 0, .int .i64 0, .int .i64 0, .int .i64 0, .int .i64 0] 29)) := by
  have h0 := AgW.zero w 29
  have h1 := AgW.zero (w.alloc (.cells #[.int .i64 0, .int .i64 0, .int .u64 0, .int .i64 0, .int .i64 0, .int .i64 0, .int .i64 0, .int .i64 0, .int .i64 0, .int .i64 0, .int .i64 0, .int .i64 0, .int .i64 0, .int .i64 0, .int .i64 0, .int .i64 0, .int .i64 0, .int .i64 0] 29)) 29
  rw [World.size_alloc] at h1
  exact ⟨h0.below ((Below.refl _ _).alloc (Nat.le_refl _) _), h1, bel_new (bel_new (Below.refl w.heap.size w) _) _⟩
theorem FR.name {w : World} {g : Ag} {W : World} (h : FR w g W) : ∃ x, x = W ∧ FR w g x := ⟨W, rfl, h⟩
/-- Held in a round: the sum so far, the point. -/
structure FH (w : World) (g : Ag) (q : Nat) (p : Pt) (W : World) : Prop where
  f : FR w g W
  p : PtO W q 0 p
theorem FH.keep {w : World} {g : Ag} {q : Nat} {p : Pt} {W W' : World} (h : FH w g q p W) (k : Below W.heap.size W W') : FH w g q p W' := ⟨h.f.keep k, h.p.below k h.p.room⟩
theorem FH.drew {w : World} {g : Ag} {q : Nat} {p : Pt} {W : World} (h : FH w g q p W) : FH w g q p W.drew := h.keep ((Below.refl _ _).drew)
theorem PtO.st {w : World} {b q : Nat} {p : Pt} {o : Nat} (h : PtO w b o p) (a : Ag) (hq : b ≠ q) : PtO (stA w q a) b o p :=
  have key : ∀ j, (stA w q a).cell? ⟨b, j, none⟩ = w.cell? ⟨b, j, none⟩ := fun j => World.cell?_setCells_out q _ 0 w ⟨b, j, none⟩ (fun e _ => absurd e hq)
  ⟨(key _).trans h.c0, (key _).trans h.c1, (key _).trans h.c2, (key _).trans h.c3, (key _).trans h.c4, (key _).trans h.c5⟩
theorem PtO.new (w : World) (p : Pt) (T : TypeId) : PtO (w.alloc (.cells #[.string p.s, .int .i64 p.t, .int .i64 p.v, .int .i64 p.st.c, .int .i64 p.st.s, .int .i64 p.st.q] T)) w.heap.size 0 p := by constructor <;> simp [go_sem]
theorem finF_name {w W : World} {b : Nat} {a : Ag} (h : AgAt W b a) (hb : Below w.heap.size w W) : ∃ x, x = W ∧ AgAt x b a ∧ Below w.heap.size w x := ⟨W, rfl, h, hb⟩

set_option maxHeartbeats 4000000 in
theorem fold_is (a0 : Option Addr) (cap n : Nat) (l : List Pt) (w : World) (hl : Hid (l.length = n)) (hP : Pts w w.heap.size a0 l) (hf : ∀ p ∈ l, p.fits) (hn : n ≤ 9223372036854775807) :
    Calls Try.prog 19 #[.slice a0 n cap] w fun e w' => e = .returned (agV (foldA l)) ∧ Below w.heap.size w w' := by
  obtain ⟨z, hz⟩ : ∃ z, foldA l = z := ⟨_, rfl⟩
  rw [hz]
  have HZ := Lib.hid hz
  have HN := Lib.hid (FR.new w)
  have HP := Lib.hid hP
  have HF := Lib.hid hf
  clear hP hf hz
  go_enter Try.func19, Try.ntmps19
  go_upto_region 1 with fail
  refine wp_region_lit ?_
  refine wpList_plain rfl fun K hK => ?_
  go_simp
  refine hK _ _ ?_
  clear hK K
  (try simp only [Act.put, List.setIfInBounds_toArray, List.set_cons_zero, List.set_cons_succ])
  refine wpList_plain rfl fun K hK => ?_
  go_simp
  refine hK _ _ ?_
  clear hK K
  (try simp only [Act.put, List.setIfInBounds_toArray, List.set_cons_zero, List.set_cons_succ])
  refine list_store_ag rfl _ _ rfl (w.heap.size + 1) Ag.zero Ag.zero rfl (by rw [agV_zero]; rfl) HN.out.g ?_
  obtain ⟨w0, hw0, h0⟩ := (HN.out.st Ag.zero).name
  rw [← hw0]
  have H0 := Lib.hid h0
  clear hw0 h0
  refine wpList_nil ?_
  go_wp2
  go_loopw [9] (fun x wr => ∃ k : Nat, x = .int .i64 (k : Int) ∧ k ≤ n ∧ FR w (foldA (l.take k)) wr) (fun x _ => n - (intOf x).toNat)
  case atStart => exact ⟨0, rfl, Nat.zero_le _, H0.out⟩
  case round =>
    obtain ⟨k, rfl, hkn, hR⟩ := hrel
    obtain ⟨w2, hw2⟩ : ∃ x, x = wr := ⟨_, rfl⟩
    subst hw2
    have HR := Lib.hid hR
    clear hR
    by_cases hk : k < n
    · have hki : (k : Int) < (n : Int) := by omega
      have hkl : k < l.length := by rw [hl.out]; exact hk
      have hwk : IntKind.i64.wrap ((k : Int) + 1) = (k : Int) + 1 := by rw [IntKind.wrap_i64]; omega
      rcases HP.out.at_ with h0 | ⟨b, off, rfl, hb, hc⟩
      · rw [h0] at hkl; simp at hkl
      · obtain ⟨p, hp⟩ : ∃ p, l[k] = p := ⟨_, rfl⟩
        have cp := (hc k hkl).below HR.out.bel hb
        rw [hp] at cp
        obtain ⟨p0, p1, p2, p3, p4, p5⟩ := cp
        have hpf : p.fits := HF.out p (by rw [← hp]; exact List.getElem_mem hkl)
        have HNX := Lib.hid (show foldA (l.take (k + 1)) = mgA (foldA (l.take k)) (oneA p.v p.st) by rw [List.take_succ_eq_append_getElem hkl, foldA_snoc, hp])
        have hgf : (foldA (l.take k)).fits := foldA_fits fun q hq => HF.out q (List.mem_of_mem_take hq)
        obtain ⟨g, hg⟩ : ∃ g, foldA (l.take k) = g := ⟨_, rfl⟩
        rw [hg] at HNX hgf HR
        have kon := fun W => one_is p.s p.t p.v p.st W hpf.v
        have HQN := Lib.hid (show w2.heap.size ≠ w.heap.size + 1 by have := HR.out.g.at_.room; omega)
        have kmg := fun W => merge_is g (oneA p.v p.st) hgf (oneA_fits hpf.v) W
        have HFH := Lib.hid (FH.mk (HR.out.keep ((Below.refl _ _).alloc (Nat.le_refl _) (.cells #[.string p.s, .int .i64 p.t, .int .i64 p.v, .int .i64 p.st.c, .int .i64 p.st.s, .int .i64 p.st.q] 31))) (PtO.new w2 p 31))
        clear hc hp hg hgf hpf
        go_wp2_with fail
        refine wp_region_held_drew (S := (fun W => PtO W w2.heap.size 0 p)) (by kernel_rfl) HFH.out.drew.p (fun hHeld => ?_)
        refine wpAnyH_take (i := 1) (oi := ?o1o) (v := ?o1v) ?o1h (by kernel_rfl) (by kernel_rfl) (by kernel_rfl) ?o1q ?o1y hHeld ?o1r
        case o1h => (simp only [List.getElem?_toArray, List.getElem?_cons_succ, List.getElem?_cons_zero]; rfl)
        case o1q => exact fun _ _ _ h => h
        case o1y => (refine Or.inl ⟨by first | kernel_rfl | rfl, ?_⟩; intro w hSw; (try dsimp only at hSw); obtain ⟨y0, y1, y2, y3, y4, y5⟩ := hSw; go_simp <;> (try with_reducible rfl))
        try simp only [Act.put, List.setIfInBounds_toArray, List.set_cons_zero, List.set_cons_succ]
        refine wpAnyH_ready (rs := [0, 2]) (by kernel_rfl) (by simp) ?_
        refine (AllReadyH.cons rfl (fun K hK => ?_) (AllReadyH.cons rfl (fun K hK => ?_) AllReadyH.nil))
        ·
          refine (if_pos (by kernel_rfl)).mpr ?_
          first | refine load_ag _ rfl (w.heap.size + 1) g rfl H4.out.f.g.at_ ?_ | refine load_ag _ rfl (w.heap.size + 1) g rfl HFH.out.drew.f.g.at_ ?_
          refine hK.out _ _ (hHeld) (fun hHeld => ?_)
          clear hK K
          try simp only [Act.put, List.setIfInBounds_toArray]
          refine wpAnyH_ready (rs := [2]) (by kernel_rfl) (by simp) ?_
          refine (AllReadyH.cons rfl (fun K hK => ?_) AllReadyH.nil)
          go_simp
          ((with_reducible refine (kon _).mono ?_); rintro e w4 ⟨rfl, hb4⟩; (have H4 := Lib.hid (HFH.out.drew.keep hb4)))
          refine hK.out _ _ (H4.out.p) (fun hHeld => ?_)
          clear hK K
          try simp only [Act.put, List.setIfInBounds_toArray, List.set_cons_zero, List.set_cons_succ]
          refine wpAnyH_ready (rs := [3]) (by kernel_rfl) (by simp) ?_
          refine (AllReadyH.cons rfl (fun K hK => ?_) AllReadyH.nil)
          go_simp
          ((with_reducible refine (kmg _).mono ?_); rintro e w5 ⟨rfl, hb5⟩; have H5 := Lib.hid (H4.out.keep hb5))
          refine hK.out _ _ (H5.out.p) (fun hHeld => ?_)
          clear hK K
          try simp only [Act.put, List.setIfInBounds_toArray, List.set_cons_zero, List.set_cons_succ]
          refine wpAnyH_ready (rs := [4]) (by kernel_rfl) (by simp) ?_
          refine (AllReadyH.cons rfl (fun K hK => ?_) AllReadyH.nil)
          refine (if_pos (by kernel_rfl)).mpr ?_
          refine store_ag _ _ rfl (w.heap.size + 1) g (mgA g (oneA p.v p.st)) rfl rfl H5.out.f.g ?_
          refine hK.out _ _ (H5.out.p.st _ HQN.out) (fun hHeld => ?_)
          clear hK K
          try simp only [Act.put]
          refine wpAnyH_done (by kernel_rfl) ?_ _
          have HF2 := Lib.hid (H5.out.f.st (mgA g (oneA p.v p.st)))
          go_wp2
          go_roundw
          case rel => exact ⟨k + 1, by go_num, hk, by rw [HNX.out]; exact HF2.out⟩
          case measure => simp [intOf]; omega
        ·
          go_simp
          ((with_reducible refine (kon _).mono ?_); rintro e w4 ⟨rfl, hb4⟩; (have H4 := Lib.hid (HFH.out.drew.keep hb4)))
          refine hK.out _ _ (H4.out.p) (fun hHeld => ?_)
          clear hK K
          try simp only [Act.put, List.setIfInBounds_toArray, List.set_cons_zero, List.set_cons_succ]
          refine wpAnyH_ready (rs := [0]) (by kernel_rfl) (by simp) ?_
          refine (AllReadyH.cons rfl (fun K hK => ?_) AllReadyH.nil)
          refine (if_pos (by kernel_rfl)).mpr ?_
          first | refine load_ag _ rfl (w.heap.size + 1) g rfl H4.out.f.g.at_ ?_ | refine load_ag _ rfl (w.heap.size + 1) g rfl HFH.out.drew.f.g.at_ ?_
          refine hK.out _ _ (hHeld) (fun hHeld => ?_)
          clear hK K
          try simp only [Act.put, List.setIfInBounds_toArray]
          refine wpAnyH_ready (rs := [3]) (by kernel_rfl) (by simp) ?_
          refine (AllReadyH.cons rfl (fun K hK => ?_) AllReadyH.nil)
          go_simp
          ((with_reducible refine (kmg _).mono ?_); rintro e w5 ⟨rfl, hb5⟩; have H5 := Lib.hid (H4.out.keep hb5))
          refine hK.out _ _ (H5.out.p) (fun hHeld => ?_)
          clear hK K
          try simp only [Act.put, List.setIfInBounds_toArray, List.set_cons_zero, List.set_cons_succ]
          refine wpAnyH_ready (rs := [4]) (by kernel_rfl) (by simp) ?_
          refine (AllReadyH.cons rfl (fun K hK => ?_) AllReadyH.nil)
          refine (if_pos (by kernel_rfl)).mpr ?_
          refine store_ag _ _ rfl (w.heap.size + 1) g (mgA g (oneA p.v p.st)) rfl rfl H5.out.f.g ?_
          refine hK.out _ _ (H5.out.p.st _ HQN.out) (fun hHeld => ?_)
          clear hK K
          try simp only [Act.put]
          refine wpAnyH_done (by kernel_rfl) ?_ _
          have HF2 := Lib.hid (H5.out.f.st (mgA g (oneA p.v p.st)))
          go_wp2
          go_roundw
          case rel => exact ⟨k + 1, by go_num, hk, by rw [HNX.out]; exact HF2.out⟩
          case measure => simp [intOf]; omega
    · have hki : ¬ (k : Int) < (n : Int) := by omega
      have HG := Lib.hid (show FR w z w2 by have := HR.out; rwa [List.take_of_length_le (by rw [hl.out]; omega), HZ.out] at this)
      clear HR
      go_upto_region 7 with fail
      refine wp_region_lit ?_
      refine list_load_ag rfl _ rfl (w.heap.size + 1) z rfl HG.out.g.at_ ?_
      refine list_store_ag rfl _ _ rfl w.heap.size Ag.zero z rfl rfl HG.out.r ?_
      obtain ⟨w9, hw9, hfin, hbel⟩ := finF_name (HG.out.r.st z).at_ (stA_below z HG.out.bel (Nat.le_refl _))
      rw [← hw9]
      clear hw9 HG HP HF H0 HN hki hkn hn hk HZ
      refine wpList_nil ?_
      go_wp2
      refine bodyPost_ret (v := agV z) (results_ag Try.results19 _ _ w.heap.size _ rfl hfin) rfl ⟨rfl, hbel⟩
end Go.Proofs.Ytipjhlabcbkgjaa.Ag
