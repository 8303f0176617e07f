/- Contract: Read, the aggregate whose bytes these are. -/
import Derived.Test.YtipjhlabcbkgjaaAggTaken
set_option maxRecDepth 20000
namespace Go.Proofs.Ytipjhlabcbkgjaa.Ag
open Go.RowKit Go.Proofs.Ytipjhlabcbkgjaa Go.Proofs.Ytipjhlabcbkgjaa.Wd Go.Proofs.Ytipjhlabcbkgjaa.Vi Go.Proofs.Ytipjhlabcbkgjaa.Mk

theorem takenA_fits (S : ByteArray) : (takenA S).fits := by
  unfold takenA
  dsimp only
  split
  · exact zero_fits
  · obtain ⟨v1, r1, b1, v2, r2, b2, v3, r3, b3, a, r4, b4, q1, q2, q3, q4, hmid⟩ := midQ_parts (S.extract ((getR S.data.toList 0).2.1.toNat + 16) S.size)
    rw [hmid]
    have k1 := numQ_bounds q1
    have k2 := numQ_bounds q2
    have k3 := numQ_bounds q3
    exact ⟨w64_in _, sm_in _, zag_bounds v1 k1.1 k1.2.1, zag_bounds v2 k2.1 k2.2.1, zag_bounds v3 k3.1 k3.2.1, fun i => w64_in _⟩
def readOk (S : ByteArray) : Prop := errA (takenA S) = 0 ∧ tx (bytesA (takenA S)) = S
open Classical in
noncomputable def readA (S : ByteArray) : Ag × Int := if readOk S then (takenA S, 0) else (Ag.zero, 10)
theorem readA_yes {S : ByteArray} (h : readOk S) : readA S = (takenA S, 0) := if_pos h
theorem readA_no {S : ByteArray} (h : ¬ readOk S) : readA S = (Ag.zero, 10) := if_neg h
theorem results_ag2 {fn : Func} {p q : Tmp} (h : fn.results = #[.cell p 29, .tmp q]) (tmps : Array Value) (w : World) (b : Nat) (a : Ag) (v : Value) (hp : tmps.getD p undef = .pointer (some ⟨b, 0, none⟩)) (hq : tmps.getD q undef = v) (hA : AgAt w b a) :
    (results fn tmps).run Try.prog w = .ok (.tuple #[agV a, v]) w := by
  have hp2 : tmps[p]?.getD undef = .pointer (some ⟨b, 0, none⟩) := by simpa using hp
  have hq2 : tmps[q]?.getD undef = v := by simpa using hq
  have hl := run_loadVar_mid (P := Try.prog) w b 0 29 (cells18 a) _ hA.r Try.underlying29 rfl infoAg
  rw [agV_is]
  generalize cells18 a = l at *
  simp [results, h, hp2, hq2, asAddr, hl]
/-- The result's block, and what was taken. -/
structure RD (w : World) (b : Nat) (g : Ag) (W : World) : Prop where
  res : AgW W w.heap.size Ag.zero
  a : AgAt W b g
  l : w.heap.size < b
  bel : Below w.heap.size w W
theorem RD.keep {w : World} {b : Nat} {g : Ag} {W W' : World} (h : RD w b g W) (k : Below W.heap.size W W') : RD w b g W' := ⟨h.res.below k, h.a.below k, h.l, bel_next h.bel k⟩
set_option maxHeartbeats 4000000 in
theorem read8_is (S : ByteArray) (w : World) (hs : S.size ≤ 1000) (g : Ag) (er : Int) (H : Hid (readA S = (g, er))) : Calls Try.prog 25 #[.string S] w fun e w' => e = .returned (.tuple #[agV g, .int .i64 er]) ∧ Below w.heap.size w w' := by
  obtain ⟨a, ha⟩ : ∃ z, takenA S = z := ⟨_, rfl⟩
  have haf : a.fits := by rw [← ha]; exact takenA_fits S
  have kt := fun W => taken_is S W hs
  rw [ha] at kt
  obtain ⟨T, hT⟩ : ∃ z, tx (bytesA a) = z := ⟨_, rfl⟩
  have kb := fun W => bytes8_is a haf T (Lib.hid hT) W
  obtain ⟨er1, her1⟩ : ∃ z, errA a = z := ⟨_, rfl⟩
  rw [her1] at kb
  have hr0 := AgW.zero w 29
  have hrb := (Below.refl w.heap.size w).alloc (Nat.le_refl _) (.cells #[.int .i64 0, .int .i64 0, .int .u64 0, .int .i64 0, .int .i64 0, .int .i64 0, .int .i64 0, .int .i64 0, .int .i64 0, .int .i64 0, .int .i64 0, .int .i64 0, .int .i64 0, .int .i64 0, .int .i64 0, .int .i64 0, .int .i64 0, .int .i64 0] 29)
  have HR0 := Lib.hid (And.intro hr0 hrb)
  clear hr0 hrb
  have HW : Hid ((er1 = 0 ∧ T = S ∧ g = a ∧ er = 0) ∨ ((er1 = 1 ∨ er1 = 0 ∧ T ≠ S) ∧ g = Ag.zero ∧ er = 10)) := by
    refine Lib.hid ?_
    have h := H.out
    by_cases hok : readOk S
    · rw [readA_yes hok, ha] at h
      unfold readOk at hok
      rw [ha, her1, hT] at hok
      exact Or.inl ⟨hok.1, hok.2, by injection h with h1 h2; exact h1.symm, by injection h with h1 h2; exact h2.symm⟩
    · rw [readA_no hok] at h
      unfold readOk at hok
      rw [ha, her1, hT] at hok
      refine Or.inr ⟨?_, by injection h with h1 h2; exact h1.symm, by injection h with h1 h2; exact h2.symm⟩
      by_cases h0 : er1 = 0
      · exact Or.inr ⟨h0, fun e => hok ⟨h0, e⟩⟩
      · left
        rw [← her1] at h0 ⊢
        unfold errA at h0 ⊢
        split at h0
        · exact absurd rfl h0
        · rename_i hc; rw [if_neg hc]
  clear H hT her1 ha haf
  go_enter Try.func25, Try.ntmps25
  go_upto_region 1 with fail
  obtain ⟨w0, hw0, hr, hb⟩ := resW_name HR0.out.1 HR0.out.2
  rw [← hw0]
  have H0 := Lib.hid (And.intro hr hb)
  clear hw0 hr hb HR0
  go_upto_region 1 with fail
  refine wp_region_lit ?_
  refine wpList_plain rfl fun K hK => ?_
  go_simp
  refine hK _ _ ?_
  clear hK K
  (try simp only [Act.put, List.setIfInBounds_toArray, List.set_cons_zero, List.set_cons_succ])
  refine wpList_plain rfl fun K hK => ?_
  go_simp
  ((with_reducible refine (kt _).mono ?_); rintro e w3 ⟨rfl, hb3⟩)
  refine hK _ _ ?_
  clear hK K
  (try simp only [Act.put, List.setIfInBounds_toArray, List.set_cons_zero, List.set_cons_succ])
  refine wpList_plain rfl fun K hK => ?_
  go_simp
  refine hK _ _ ?_
  clear hK K
  (try simp only [Act.put, List.setIfInBounds_toArray, List.set_cons_zero, List.set_cons_succ])
  refine list_store_ag rfl _ _ rfl w3.heap.size Ag.zero a rfl rfl (AgW.zero w3 _) ?_
  refine wpList_nil ?_
  obtain ⟨w4, hw4, h4⟩ : ∃ x, x = stA (w3.alloc (.cells #[.int .i64 0, .int .i64 0, .int .u64 0, .int .i64 0, .int .i64 0, .int .i64 0, .int .i64 0, .int .i64 0, .int .i64 0, .int .i64 0, .int .i64 0, .int .i64 0, .int .i64 0, .int .i64 0, .int .i64 0, .int .i64 0, .int .i64 0, .int .i64 0] 29)) w3.heap.size a ∧ RD w w3.heap.size a x := by
    have hr3 := H0.out.1.below hb3
    have hb03 := bel_next H0.out.2 hb3
    have kk := stA_below a (bel_new (Below.refl w3.heap.size w3) (.cells #[.int .i64 0, .int .i64 0, .int .u64 0, .int .i64 0, .int .i64 0, .int .i64 0, .int .i64 0, .int .i64 0, .int .i64 0, .int .i64 0, .int .i64 0, .int .i64 0, .int .i64 0, .int .i64 0, .int .i64 0, .int .i64 0, .int .i64 0, .int .i64 0] 29)) (Nat.le_refl _)
    exact ⟨_, rfl, hr3.below kk, ((AgW.zero w3 29).st a).at_, hr3.at_.room, bel_next hb03 kk⟩
  rw [← hw4]
  obtain ⟨b4, hb4e⟩ : ∃ b, w3.heap.size = b := ⟨_, rfl⟩
  rw [hb4e] at h4 ⊢
  have H3 := Lib.hid h4
  clear hw4 h4 hb3 hb4e kt H0
  go_upto_region 2 with fail
  refine wp_region_lit ?_
  refine list_load_ag rfl _ rfl b4 a rfl H3.out.a ?_
  refine wpList_plain rfl fun K hK => ?_
  go_simp
  ((with_reducible refine (kb _).mono ?_); rintro e w5 ⟨rfl, hb5⟩)
  refine hK _ _ ?_
  clear hK K
  refine wpList_plain rfl fun K hK => ?_
  go_simp
  refine hK _ _ ?_
  clear hK K
  (try simp only [Act.put, List.setIfInBounds_toArray, List.set_cons_zero, List.set_cons_succ])
  refine wpList_plain rfl fun K hK => ?_
  go_simp
  refine hK _ _ ?_
  clear hK K
  (try simp only [Act.put, List.setIfInBounds_toArray, List.set_cons_zero, List.set_cons_succ])
  refine wpList_plain rfl fun K hK => ?_
  go_simp
  refine hK _ _ ?_
  clear hK K
  (try simp only [Act.put, List.setIfInBounds_toArray, List.set_cons_zero, List.set_cons_succ])
  refine wpList_plain rfl fun K hK => ?_
  go_simp
  refine hK _ _ ?_
  clear hK K
  (try simp only [Act.put, List.setIfInBounds_toArray, List.set_cons_zero, List.set_cons_succ])
  refine wpList_plain rfl fun K hK => ?_
  go_simp
  refine hK _ _ ?_
  clear hK K
  (try simp only [Act.put, List.setIfInBounds_toArray, List.set_cons_zero, List.set_cons_succ])
  refine wpList_nil ?_
  have H4 := Lib.hid (H3.out.keep hb5)
  clear hb5 kb H3
  rcases HW.out with ⟨rfl, rfl, rfl, rfl⟩ | ⟨rfl | ⟨rfl, hne⟩, rfl, rfl⟩
  · clear HW
    go_upto_region 5 with fail
    refine wp_region_lit ?_
    refine list_load_ag rfl _ rfl b4 g rfl H4.out.a ?_
    refine list_store_ag rfl _ _ rfl w.heap.size Ag.zero g rfl rfl H4.out.res ?_
    obtain ⟨w9, hw9, hfin, hbel⟩ := finM_name (H4.out.res.st g).at_ (stA_below g H4.out.bel (Nat.le_refl _))
    rw [← hw9]
    clear hw9
    refine wpList_plain rfl fun K hK => ?_
    go_simp
    refine hK _ _ ?_
    clear hK K
    (try simp only [Act.put, List.setIfInBounds_toArray, List.set_cons_zero, List.set_cons_succ])
    refine wpList_nil ?_
    go_wp2
    refine bodyPost_ret (v := .tuple #[agV g, .int .i64 0]) (results_ag2 Try.results25 _ _ w.heap.size g (.int .i64 0) rfl rfl hfin) rfl ⟨rfl, hbel⟩
  · clear HW
    go_upto_region 4 with fail
    refine wp_region_lit ?_
    refine wpList_plain rfl fun K hK => ?_
    go_simp
    refine hK _ _ ?_
    clear hK K
    (try simp only [Act.put, List.setIfInBounds_toArray, List.set_cons_zero, List.set_cons_succ])
    refine list_store_ag rfl _ _ rfl w.heap.size Ag.zero Ag.zero rfl (by rw [agV_zero]; rfl) H4.out.res ?_
    obtain ⟨w9, hw9, hfin, hbel⟩ := finM_name (H4.out.res.st Ag.zero).at_ (stA_below Ag.zero H4.out.bel (Nat.le_refl _))
    rw [← hw9]
    clear hw9
    refine wpList_plain rfl fun K hK => ?_
    go_simp
    refine hK _ _ ?_
    clear hK K
    (try simp only [Act.put, List.setIfInBounds_toArray, List.set_cons_zero, List.set_cons_succ])
    refine wpList_nil ?_
    go_wp2
    refine bodyPost_ret (v := .tuple #[agV Ag.zero, .int .i64 10]) (results_ag2 Try.results25 _ _ w.heap.size Ag.zero (.int .i64 10) rfl rfl hfin) rfl ⟨rfl, hbel⟩
  · clear HW
    have hne1 := str_ne hne
    clear hne
    go_upto_region 4 with fail
    refine wp_region_lit ?_
    refine wpList_plain rfl fun K hK => ?_
    go_simp
    refine hK _ _ ?_
    clear hK K
    (try simp only [Act.put, List.setIfInBounds_toArray, List.set_cons_zero, List.set_cons_succ])
    refine list_store_ag rfl _ _ rfl w.heap.size Ag.zero Ag.zero rfl (by rw [agV_zero]; rfl) H4.out.res ?_
    obtain ⟨w9, hw9, hfin, hbel⟩ := finM_name (H4.out.res.st Ag.zero).at_ (stA_below Ag.zero H4.out.bel (Nat.le_refl _))
    rw [← hw9]
    clear hw9
    refine wpList_plain rfl fun K hK => ?_
    go_simp
    refine hK _ _ ?_
    clear hK K
    (try simp only [Act.put, List.setIfInBounds_toArray, List.set_cons_zero, List.set_cons_succ])
    refine wpList_nil ?_
    go_wp2
    refine bodyPost_ret (v := .tuple #[agV Ag.zero, .int .i64 10]) (results_ag2 Try.results25 _ _ w.heap.size Ag.zero (.int .i64 10) rfl rfl hfin) rfl ⟨rfl, hbel⟩
end Go.Proofs.Ytipjhlabcbkgjaa.Ag
