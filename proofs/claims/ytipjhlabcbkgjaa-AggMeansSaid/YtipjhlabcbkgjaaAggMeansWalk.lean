/- The walk of AggMeans. -/
import Derived.Test.YtipjhlabcbkgjaaAggAwake
import Derived.Test.YtipjhlabcbkgjaaAggMeansMath
import Derived.Test.YtipjhlabcbkgjaaAggRight
import Derived.Test.YtipjhlabcbkgjaaAggArgs
import Derived.Test.YtipjhlabcbkgjaaAggYields
set_option maxRecDepth 20000
namespace Go.Proofs.Ytipjhlabcbkgjaa.aggMeans
open Go.RowKit Go.Proofs.Ytipjhlabcbkgjaa Go.Proofs.Ytipjhlabcbkgjaa.Wd Go.Proofs.Ytipjhlabcbkgjaa.Vi Go.Proofs.Ytipjhlabcbkgjaa.Mk Go.Proofs.Ytipjhlabcbkgjaa.Ag

/-- What the loop has put together. -/
structure MmRel (w wr : World) (l : List Pt) (o : Value) (k : Nat) : Prop where
  row : PRow wr w.heap.size o (mmL l k)
  bel : Below w.heap.size w wr
structure HA (w : World) (b : Nat) (a : Ag) (W : World) : Prop where
  a : AgAt W b a
  bel : Below w.heap.size w W
theorem HA.keep {w : World} {b : Nat} {a : Ag} {W W' : World} (h : HA w b a W) (k : Below W.heap.size W W') : HA w b a W' := ⟨h.a.below k, bel_next h.bel k⟩
set_option maxHeartbeats 4000000 in
theorem walk (a0 : Option Addr) (len cap : Nat) (w : World) (h : ArgPts w a0 len cap) : Calls Try.prog 10 #[.slice a0 len cap] w fun e w' => e = .returned (.bool true) ∧ Below w.heap.size w w' := by
  obtain ⟨⟨l, hl, hP, hlen, hf⟩, hc⟩ := h
  obtain ⟨i0, hi, hz0, hz1, hz2⟩ := info_parts infoP
  have HP := Lib.hid hP
  have HF := Lib.hid hf
  have HL := Lib.hid hl
  clear hP hf hl hc
  go_enter Try.func10, Try.ntmps10
  go_wp2_with (go_at_call 11; (with_reducible refine (awake_is _).mono ?_); rintro e w1 ⟨rfl, hb1⟩; (have H1 := Lib.hid hb1); clear hb1)
  have HR0 := Lib.hid (show MmRel w1 w1 l (.slice none 0 0) 0 from ⟨PRow.nil _ _, Below.refl _ _⟩)
  have HP1 := Lib.hid ((HP.out.below H1.out).mono H1.out.size)
  go_loopw [4, 5, 6, 7] (fun o s i _ wr => ∃ k : Nat, k ≤ 40 ∧ k ≤ len ∧ i = .int .i64 (k : Int) ∧ s = .int .i64 (sumV (mmL l k)) ∧ MmRel w1 wr l o k) (fun _ _ i _ _ => 40 - (intOf i).toNat)
  case atStart => exact ⟨0, by omega, by omega, rfl, rfl, HR0.out⟩
  case round =>
    obtain ⟨k, hk, hkl, rfl, rfl, P⟩ := hrel
    clear HR0
    by_cases hgo : k < len ∧ k < 40
    · obtain ⟨g1, g2⟩ := hgo
      have hi1 : (k : Int) < (len : Int) := by omega
      have hi2 : (k : Int) < 40 := by omega
      have hwk : IntKind.i64.wrap ((k : Int) + 1) = (k : Int) + 1 := by rw [IntKind.wrap_i64]; omega
      have gl : k < l.length := by rw [HL.out]; exact g1
      rcases HP1.out.at_ with h0 | ⟨b, off, rfl, hbw, hcc⟩
      · rw [h0] at gl; simp at gl
      · have hA := hcc k gl
        obtain ⟨p, hp⟩ : ∃ p, l[k] = p := ⟨_, rfl⟩
        rw [hp] at hA
        obtain ⟨c0, c1, c2, c3, c4, c5⟩ := hA.below P.bel hbw
        obtain ⟨x, hx⟩ : ∃ x, p.v.tmod 1125899906842624 = x := ⟨_, rfl⟩
        have hxb := tmod_bound p.v
        rw [hx] at hxb
        have hwx : IntKind.i64.wrap x = x := by rw [IntKind.wrap_i64]; omega
        obtain ⟨s, hs⟩ : ∃ s, sumV (mmL l k) = s := ⟨_, rfl⟩
        have hsb := mm_sum l k hk
        rw [hs] at hsb
        have hws : IntKind.i64.wrap (s + x) = s + x := by rw [IntKind.wrap_i64]; omega
        have HG := Lib.hid (show mmL l (k + 1) = mmL l k ++ [(⟨p.s, p.t, x, p.st⟩ : Pt)] by rw [mmL_step gl, hp, ← hx]; rfl)
        have HS := Lib.hid (show sumV (mmL l (k + 1)) = s + x by rw [HG.out, sumV_snoc, hs])
        obtain ⟨a5, cc5, rfl⟩ := P.row.slice
        have hkl2 : (mmL l k).length = k := by rw [mmL_len]; omega
        have hrow : wr.ownsRow w1.heap.size 31 6 (.slice a5 k cc5) k ((mmL l k).flatMap cells6) := by have := P.row; unfold PRow at this; rw [hkl2] at this; exact this
        have HNN := Lib.hid hkl2
        have hN := (Below.refl wr.heap.size wr).alloc (Nat.le_refl _) (.cells #[.string p.s, .int .i64 p.t, .int .i64 x, .int .i64 p.st.c, .int .i64 p.st.s, .int .i64 p.st.q] 31)
        have hR := owns6_later hrow hN
        have hBB := bel_next P.bel hN
        have hBr := hBB.size
        have hWR := Lib.hid P.bel.size
        have hne : ∀ q, (Value.slice a5 k cc5).ownBlock = some q → w1.heap.size ≤ q := fun q hq => (World.ownsRow.lt hR q hq).1
        have HR := Lib.hid hR
        have HBB := Lib.hid hBB
        have HBr := Lib.hid hBr
        have HNE := Lib.hid hne
        rw [hkl2, hs]
        have HSB := Lib.hid hsb
        clear hcc hA P hp hkl2 hrow hN hR hBB hBr hne hs hsb
        go_wp2_with (at_builtin; refine wpList_append_own _ rfl _ _ 37 rfl w1.heap.size 31 i0 (.agg #[.string ⟨#[]⟩, .int .i64 0, .int .i64 0, .int .i64 0, .int .i64 0, .int .i64 0]) 6 56 Try.underlying37 hi hz0 hz1 hz2 rfl (by decide) _ _ _ rfl (HR.out.alloc _) ⟨wr.heap.size + 1, 0, none⟩ 1 1 (cells6 ⟨p.s, p.t, x, p.st⟩) rfl rfl ?c1 ?c2 ?c3 ?c4 ?c5 ?_)
        case c1 =>
          intro j u hj
          match j, hj with
          | 0, hj | 1, hj | 2, hj | 3, hj | 4, hj | 5, hj => simp [cells6] at hj; subst hj; first | (simp [Addr.add]; done) | (simp; done)
        case c2 => intro u hu; simp [cells6] at hu; rcases hu with rfl | rfl | rfl | rfl | rfl | rfl <;> rfl
        case c3 => unfold maxLen; (try simp); omega
        case c4 => (try simp); omega
        case c5 => have := HBr.out; (try simp at this ⊢); omega
        intro v' w3 hown3 hgrow _
        have hB3 := HBB.out.trans (((Below.refl w1.heap.size _).alloc HBr.out _).grown hgrow (by have := hWR.out; simp; omega) HNE.out)
        have hR3 : PRow w3 w1.heap.size v' (mmL l (k + 1)) := by
          unfold PRow
          rw [HG.out, List.length_append, List.flatMap_append, HNN.out]
          simpa [cells6] using hown3
        have HR3 := Lib.hid (show MmRel w1 w3 l v' (k + 1) from ⟨hR3, hB3⟩)
        clear hown3 hgrow hR3 hB3
        go_wp2
        go_roundw
        case rel => exact ⟨k + 1, by omega, by omega, by go_num, by rw [HS.out], HR3.out⟩
        case measure => simp [intOf]; omega
    · have hg2 : ((k : Int) < (len : Int) ∧ ¬ (k : Int) < 40) ∨ ¬ (k : Int) < (len : Int) := by omega
      have hend : mmL l k = mmL l 40 := by
        have := HL.out
        by_cases h40 : k = 40
        · rw [h40]
        · unfold mmL; rw [List.take_of_length_le (by omega), List.take_of_length_le (by omega)]
      obtain ⟨m, hm⟩ : ∃ m, mmL l 40 = m := ⟨_, rfl⟩
      obtain ⟨a5, cc5, rfl⟩ := P.row.slice
      have hmk : m.length = k := by rw [← hm, ← hend, mmL_len]; have := HL.out; omega
      have hfm : ∀ p ∈ m, p.fits := fun p hp => mmL_fits HF.out (by rw [hm]; exact hp)
      have hrow : PRow wr w1.heap.size (.slice a5 (mmL l k).length cc5) m := by have := P.row; rwa [hend, hm] at this ⊢
      have hpts := hrow.pts
      have hb2 := bel_next H1.out P.bel
      rw [hend, hm, hmk]
      have K0 := fold_known m hfm (by omega)
      have hsb := mm_sum l 40 (by omega)
      rw [hm] at hsb
      obtain ⟨S, hS⟩ : ∃ S, sumV m = S := ⟨_, rfl⟩
      obtain ⟨g, hg⟩ : ∃ g, foldA m = g := ⟨_, rfl⟩
      rw [hg] at K0
      rw [hS] at hsb ⊢
      have hgf : g.fits := by rw [← hg]; exact foldA_fits hfm
      have hgn : g.n = (k : Int) := by rw [K0.n, hmk]
      have hgs : g.s = S := by rw [K0.s]; exact hS
      have kf := fun W (hp : Pts W W.heap.size a5 m) => fold_is a5 cc5 k m W (Lib.hid hmk) hp hfm (by omega)
      rw [hg] at kf
      have HPT := Lib.hid hpts
      have HB2 := Lib.hid hb2
      have km := fun W => mean_is g hgf W
      obtain ⟨w2, hw2⟩ : ∃ x, x = wr := ⟨_, rfl⟩
      subst hw2
      rcases hg2 with ⟨hg2, hg3⟩ | hg2
      · skip
        have hne : m ≠ [] := fun e => (show k ≠ 0 by omega) (by rw [e] at hmk; exact hmk.symm)
        have hlo := sum_lo m g.mn K0.lo
        have hhi := sum_hi m g.mx K0.hi
        rw [hmk, hS] at hlo hhi
        have F := means_facts (show 1 ≤ k by omega) hsb hlo hhi
        obtain ⟨q, hq⟩ : ∃ q, S.tdiv (k : Int) = q := ⟨_, rfl⟩
        obtain ⟨r, hr⟩ : ∃ r, S.tmod (k : Int) = r := ⟨_, rfl⟩
        rw [hq, hr] at F
        have hqq : g.s.tdiv g.n = q := by rw [hgs, hgn, hq]
        have hsm : isSmall q = true := decide_eq_true ⟨F.q0, F.q1⟩
        have hmv : meanA g = some q := by rw [mean_some (by omega) hqq, if_pos hsm]
        rw [hmv] at km
        unfold meanV at km
        obtain ⟨q0, q1, p0, p1, re, lo, hi', r0, r1, s0, s1⟩ := F
        have hwp : IntKind.i64.wrap (q * (k : Int)) = q * (k : Int) := by rw [IntKind.wrap_i64]; omega
        have hwr : IntKind.i64.wrap (S - q * (k : Int)) = r := by rw [IntKind.wrap_i64]; omega
        have hwn : IntKind.i64.wrap (-(k : Int)) = -(k : Int) := by rw [IntKind.wrap_i64]; omega
        have hki : ((k : Int) == 0) = false := by simp; omega
        have d1 : decide (g.mn ≤ q) = true := decide_eq_true lo
        have d2 : decide (q ≤ g.mx) = true := decide_eq_true hi'
        have d3 : decide (r < (k : Int)) = true := decide_eq_true r0
        have d4 : decide (-(k : Int) < r) = true := decide_eq_true r1
        have hsgn : (0 ≤ S ∧ 0 ≤ r) ∨ (S < 0 ∧ S ≤ 0 ∧ r ≤ 0) := by omega
        clear hend hm hfm hrow hpts K0 hS hg P hgf hgs hgo hmk hgn hlo hhi hq hr hmv hne hqq hsm q0 q1 p0 p1 re s0 s1 hsb
        go_upto_region 11 with fail
        refine wp_region_lit ?_
        refine wpList_plain rfl fun K hK => ?_
        go_simp
        refine hK _ _ ?_
        clear hK K
        (try simp only [Act.put, List.setIfInBounds_toArray, List.set_cons_zero, List.set_cons_succ])
        refine wpList_plain rfl fun K hK => ?_
        go_simp
        ((with_reducible refine (kf _ HPT.out).mono ?_); rintro e w3 ⟨rfl, hb3⟩)
        refine hK _ _ ?_
        clear hK K
        (try simp only [Act.put, List.setIfInBounds_toArray, List.set_cons_zero, List.set_cons_succ])
        refine wpList_plain rfl fun K hK => ?_
        go_simp
        refine hK _ _ ?_
        clear hK K
        (try simp only [Act.put, List.setIfInBounds_toArray, List.set_cons_zero, List.set_cons_succ])
        refine list_store_ag rfl _ _ rfl w3.heap.size Ag.zero g rfl rfl (AgW.zero w3 _) ?_
        refine wpList_nil ?_
        obtain ⟨w4, hw4, h4⟩ : ∃ x, x = stA (w3.alloc (.cells #[.int .i64 0, .int .i64 0, .int .u64 0, .int .i64 0, .int .i64 0, .int .i64 0, .int .i64 0, .int .i64 0, .int .i64 0, .int .i64 0, .int .i64 0, .int .i64 0, .int .i64 0, .int .i64 0, .int .i64 0, .int .i64 0, .int .i64 0, .int .i64 0] 29)) w3.heap.size g ∧ HA w w3.heap.size g x :=
          ⟨_, rfl, ((AgW.zero w3 29).st g).at_, stA_below _ (bel_new (bel_next HB2.out hb3) _) (bel_next HB2.out hb3).size⟩
        rw [← hw4]
        obtain ⟨b4, hb4e⟩ : ∃ b, w3.heap.size = b := ⟨_, rfl⟩
        rw [hb4e] at h4 ⊢
        have H3 := Lib.hid h4
        clear hw4 h4 hb3 hb4e kf HPT HB2
        go_upto_region 12 with fail
        refine wp_region_lit ?_
        refine list_load_ag rfl _ rfl b4 g rfl H3.out.a ?_
        refine wpList_plain rfl fun K hK => ?_
        go_simp
        ((with_reducible refine (km _).mono ?_); rintro e w5 ⟨rfl, hb5⟩)
        refine hK _ _ ?_
        clear hK K
        refine wpList_plain rfl fun K hK => ?_
        go_simp
        refine hK _ _ ?_
        clear hK K
        (try simp only [Act.put, List.setIfInBounds_toArray, List.set_cons_zero, List.set_cons_succ])
        refine wpList_plain rfl fun K hK => ?_
        go_simp
        refine hK _ _ ?_
        clear hK K
        (try simp only [Act.put, List.setIfInBounds_toArray, List.set_cons_zero, List.set_cons_succ])
        refine wpList_plain rfl fun K hK => ?_
        go_simp
        refine hK _ _ ?_
        clear hK K
        (try simp only [Act.put, List.setIfInBounds_toArray, List.set_cons_zero, List.set_cons_succ])
        refine wpList_plain rfl fun K hK => ?_
        go_simp
        refine hK _ _ ?_
        clear hK K
        (try simp only [Act.put, List.setIfInBounds_toArray, List.set_cons_zero, List.set_cons_succ])
        refine wpList_plain rfl fun K hK => ?_
        go_simp
        refine hK _ _ ?_
        clear hK K
        (try simp only [Act.put, List.setIfInBounds_toArray, List.set_cons_zero, List.set_cons_succ])
        refine wpList_nil ?_
        have H4 := Lib.hid (H3.out.keep hb5)
        clear hb5 km
        have x3 := H4.out.a.cell 3 rfl
        have x4 := H4.out.a.cell 4 rfl
        rcases hsgn with ⟨e1, e2⟩ | ⟨e0, e1, e2⟩
        · go_wp2
          go_ret
          exact ⟨rfl, H4.out.bel⟩
        · go_wp2
          go_ret
          exact ⟨rfl, H4.out.bel⟩
      · skip
        by_cases hk0 : k = 0
        · subst hk0
          have hmv : meanA g = none := mean_none (Or.inl (by omega))
          rw [hmv] at km
          unfold meanV at km
          clear hend hm hfm hrow hpts K0 hS hg P hgf hgs hgo hmk hgn
          go_upto_region 11 with fail
          refine wp_region_lit ?_
          refine wpList_plain rfl fun K hK => ?_
          go_simp
          refine hK _ _ ?_
          clear hK K
          (try simp only [Act.put, List.setIfInBounds_toArray, List.set_cons_zero, List.set_cons_succ])
          refine wpList_plain rfl fun K hK => ?_
          go_simp
          ((with_reducible refine (kf _ HPT.out).mono ?_); rintro e w3 ⟨rfl, hb3⟩)
          refine hK _ _ ?_
          clear hK K
          (try simp only [Act.put, List.setIfInBounds_toArray, List.set_cons_zero, List.set_cons_succ])
          refine wpList_plain rfl fun K hK => ?_
          go_simp
          refine hK _ _ ?_
          clear hK K
          (try simp only [Act.put, List.setIfInBounds_toArray, List.set_cons_zero, List.set_cons_succ])
          refine list_store_ag rfl _ _ rfl w3.heap.size Ag.zero g rfl rfl (AgW.zero w3 _) ?_
          refine wpList_nil ?_
          obtain ⟨w4, hw4, h4⟩ : ∃ x, x = stA (w3.alloc (.cells #[.int .i64 0, .int .i64 0, .int .u64 0, .int .i64 0, .int .i64 0, .int .i64 0, .int .i64 0, .int .i64 0, .int .i64 0, .int .i64 0, .int .i64 0, .int .i64 0, .int .i64 0, .int .i64 0, .int .i64 0, .int .i64 0, .int .i64 0, .int .i64 0] 29)) w3.heap.size g ∧ HA w w3.heap.size g x :=
            ⟨_, rfl, ((AgW.zero w3 29).st g).at_, stA_below _ (bel_new (bel_next HB2.out hb3) _) (bel_next HB2.out hb3).size⟩
          rw [← hw4]
          obtain ⟨b4, hb4e⟩ : ∃ b, w3.heap.size = b := ⟨_, rfl⟩
          rw [hb4e] at h4 ⊢
          have H3 := Lib.hid h4
          clear hw4 h4 hb3 hb4e kf HPT HB2
          go_upto_region 12 with fail
          refine wp_region_lit ?_
          refine list_load_ag rfl _ rfl b4 g rfl H3.out.a ?_
          refine wpList_plain rfl fun K hK => ?_
          go_simp
          ((with_reducible refine (km _).mono ?_); rintro e w5 ⟨rfl, hb5⟩)
          refine hK _ _ ?_
          clear hK K
          refine wpList_plain rfl fun K hK => ?_
          go_simp
          refine hK _ _ ?_
          clear hK K
          (try simp only [Act.put, List.setIfInBounds_toArray, List.set_cons_zero, List.set_cons_succ])
          refine wpList_plain rfl fun K hK => ?_
          go_simp
          refine hK _ _ ?_
          clear hK K
          (try simp only [Act.put, List.setIfInBounds_toArray, List.set_cons_zero, List.set_cons_succ])
          refine wpList_plain rfl fun K hK => ?_
          go_simp
          refine hK _ _ ?_
          clear hK K
          (try simp only [Act.put, List.setIfInBounds_toArray, List.set_cons_zero, List.set_cons_succ])
          refine wpList_plain rfl fun K hK => ?_
          go_simp
          refine hK _ _ ?_
          clear hK K
          (try simp only [Act.put, List.setIfInBounds_toArray, List.set_cons_zero, List.set_cons_succ])
          refine wpList_plain rfl fun K hK => ?_
          go_simp
          refine hK _ _ ?_
          clear hK K
          (try simp only [Act.put, List.setIfInBounds_toArray, List.set_cons_zero, List.set_cons_succ])
          refine wpList_nil ?_
          have H4 := Lib.hid (H3.out.keep hb5)
          clear hb5 km
          have x3 := H4.out.a.cell 3 rfl
          have x4 := H4.out.a.cell 4 rfl
          go_wp2
          go_ret
          exact ⟨rfl, H4.out.bel⟩
        · have hne : m ≠ [] := fun e => hk0 (by rw [e] at hmk; exact hmk.symm)
          have hlo := sum_lo m g.mn K0.lo
          have hhi := sum_hi m g.mx K0.hi
          rw [hmk, hS] at hlo hhi
          have F := means_facts (show 1 ≤ k by omega) hsb hlo hhi
          obtain ⟨q, hq⟩ : ∃ q, S.tdiv (k : Int) = q := ⟨_, rfl⟩
          obtain ⟨r, hr⟩ : ∃ r, S.tmod (k : Int) = r := ⟨_, rfl⟩
          rw [hq, hr] at F
          have hqq : g.s.tdiv g.n = q := by rw [hgs, hgn, hq]
          have hsm : isSmall q = true := decide_eq_true ⟨F.q0, F.q1⟩
          have hmv : meanA g = some q := by rw [mean_some (by omega) hqq, if_pos hsm]
          rw [hmv] at km
          unfold meanV at km
          obtain ⟨q0, q1, p0, p1, re, lo, hi', r0, r1, s0, s1⟩ := F
          have hwp : IntKind.i64.wrap (q * (k : Int)) = q * (k : Int) := by rw [IntKind.wrap_i64]; omega
          have hwr : IntKind.i64.wrap (S - q * (k : Int)) = r := by rw [IntKind.wrap_i64]; omega
          have hwn : IntKind.i64.wrap (-(k : Int)) = -(k : Int) := by rw [IntKind.wrap_i64]; omega
          have hki : ((k : Int) == 0) = false := by simp; omega
          have d1 : decide (g.mn ≤ q) = true := decide_eq_true lo
          have d2 : decide (q ≤ g.mx) = true := decide_eq_true hi'
          have d3 : decide (r < (k : Int)) = true := decide_eq_true r0
          have d4 : decide (-(k : Int) < r) = true := decide_eq_true r1
          have hsgn : (0 ≤ S ∧ 0 ≤ r) ∨ (S < 0 ∧ S ≤ 0 ∧ r ≤ 0) := by omega
          clear hend hm hfm hrow hpts K0 hS hg P hgf hgs hgo hmk hgn hlo hhi hq hr hmv hne hqq hsm q0 q1 p0 p1 re s0 s1 hsb
          go_upto_region 11 with fail
          refine wp_region_lit ?_
          refine wpList_plain rfl fun K hK => ?_
          go_simp
          refine hK _ _ ?_
          clear hK K
          (try simp only [Act.put, List.setIfInBounds_toArray, List.set_cons_zero, List.set_cons_succ])
          refine wpList_plain rfl fun K hK => ?_
          go_simp
          ((with_reducible refine (kf _ HPT.out).mono ?_); rintro e w3 ⟨rfl, hb3⟩)
          refine hK _ _ ?_
          clear hK K
          (try simp only [Act.put, List.setIfInBounds_toArray, List.set_cons_zero, List.set_cons_succ])
          refine wpList_plain rfl fun K hK => ?_
          go_simp
          refine hK _ _ ?_
          clear hK K
          (try simp only [Act.put, List.setIfInBounds_toArray, List.set_cons_zero, List.set_cons_succ])
          refine list_store_ag rfl _ _ rfl w3.heap.size Ag.zero g rfl rfl (AgW.zero w3 _) ?_
          refine wpList_nil ?_
          obtain ⟨w4, hw4, h4⟩ : ∃ x, x = stA (w3.alloc (.cells #[.int .i64 0, .int .i64 0, .int .u64 0, .int .i64 0, .int .i64 0, .int .i64 0, .int .i64 0, .int .i64 0, .int .i64 0, .int .i64 0, .int .i64 0, .int .i64 0, .int .i64 0, .int .i64 0, .int .i64 0, .int .i64 0, .int .i64 0, .int .i64 0] 29)) w3.heap.size g ∧ HA w w3.heap.size g x :=
            ⟨_, rfl, ((AgW.zero w3 29).st g).at_, stA_below _ (bel_new (bel_next HB2.out hb3) _) (bel_next HB2.out hb3).size⟩
          rw [← hw4]
          obtain ⟨b4, hb4e⟩ : ∃ b, w3.heap.size = b := ⟨_, rfl⟩
          rw [hb4e] at h4 ⊢
          have H3 := Lib.hid h4
          clear hw4 h4 hb3 hb4e kf HPT HB2
          go_upto_region 12 with fail
          refine wp_region_lit ?_
          refine list_load_ag rfl _ rfl b4 g rfl H3.out.a ?_
          refine wpList_plain rfl fun K hK => ?_
          go_simp
          ((with_reducible refine (km _).mono ?_); rintro e w5 ⟨rfl, hb5⟩)
          refine hK _ _ ?_
          clear hK K
          refine wpList_plain rfl fun K hK => ?_
          go_simp
          refine hK _ _ ?_
          clear hK K
          (try simp only [Act.put, List.setIfInBounds_toArray, List.set_cons_zero, List.set_cons_succ])
          refine wpList_plain rfl fun K hK => ?_
          go_simp
          refine hK _ _ ?_
          clear hK K
          (try simp only [Act.put, List.setIfInBounds_toArray, List.set_cons_zero, List.set_cons_succ])
          refine wpList_plain rfl fun K hK => ?_
          go_simp
          refine hK _ _ ?_
          clear hK K
          (try simp only [Act.put, List.setIfInBounds_toArray, List.set_cons_zero, List.set_cons_succ])
          refine wpList_plain rfl fun K hK => ?_
          go_simp
          refine hK _ _ ?_
          clear hK K
          (try simp only [Act.put, List.setIfInBounds_toArray, List.set_cons_zero, List.set_cons_succ])
          refine wpList_plain rfl fun K hK => ?_
          go_simp
          refine hK _ _ ?_
          clear hK K
          (try simp only [Act.put, List.setIfInBounds_toArray, List.set_cons_zero, List.set_cons_succ])
          refine wpList_nil ?_
          have H4 := Lib.hid (H3.out.keep hb5)
          clear hb5 km
          have x3 := H4.out.a.cell 3 rfl
          have x4 := H4.out.a.cell 4 rfl
          rcases hsgn with ⟨e1, e2⟩ | ⟨e0, e1, e2⟩
          · go_wp2
            go_ret
            exact ⟨rfl, H4.out.bel⟩
          · go_wp2
            go_ret
            exact ⟨rfl, H4.out.bel⟩
end Go.Proofs.Ytipjhlabcbkgjaa.aggMeans
