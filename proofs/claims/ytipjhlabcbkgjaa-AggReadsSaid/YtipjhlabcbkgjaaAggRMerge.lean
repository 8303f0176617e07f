/- Contract: the document's Merge. -/
import Derived.Test.YtipjhlabcbkgjaaAggAt
import Derived.Test.YtipjhlabcbkgjaaAggList
import Derived.Test.YtipjhlabcbkgjaaAggUnder
import Derived.Test.YtipjhlabcbkgjaaAggMerge
import Derived.Test.YtipjhlabcbkgjaaWideC
import Derived.Test.YtipjhlabcbkgjaaMarkA
import Derived.Deep.RegionHeld
import Derived.Deep.CutRange
import Derived.RegionTactic
set_option maxRecDepth 20000
namespace Go.Proofs.Ytipjhlabcbkgjaa.Ag
open Go.RowKit Go.Proofs.Ytipjhlabcbkgjaa Go.Proofs.Ytipjhlabcbkgjaa.Wd Go.Proofs.Ytipjhlabcbkgjaa.Vi Go.Proofs.Ytipjhlabcbkgjaa.Mk

theorem AgW.put_n {w : World} {b : Nat} {g : Ag} (h : AgW w b g) (n : Int) : AgW (w.setCell ⟨b, 0, none⟩ (.int .i64 n)) b { g with n := n } := ((AgL.of h).put 0 (by decide) (.int .i64 n)).to rfl
theorem AgW.put_s {w : World} {b : Nat} {g : Ag} (h : AgW w b g) (s : Int) : AgW ((w.setCell ⟨b, 1, none⟩ (.int .i64 (wh s))).setCell ⟨b, 2, none⟩ (.int .u64 (wl s))) b { g with s := s } := (((AgL.of h).put 1 (by decide) (.int .i64 (wh s))).put 2 (by decide) (.int .u64 (wl s))).to rfl
theorem AgW.put_mn {w : World} {b : Nat} {g : Ag} (h : AgW w b g) (n : Int) : AgW (w.setCell ⟨b, 3, none⟩ (.int .i64 n)) b { g with mn := n } := ((AgL.of h).put 3 (by decide) (.int .i64 n)).to rfl
theorem AgW.put_mx {w : World} {b : Nat} {g : Ag} (h : AgW w b g) (n : Int) : AgW (w.setCell ⟨b, 4, none⟩ (.int .i64 n)) b { g with mx := n } := ((AgL.of h).put 4 (by decide) (.int .i64 n)).to rfl
theorem AgW.put_la {w : World} {b : Nat} {g : Ag} (h : AgW w b g) (n : Int) : AgW (w.setCell ⟨b, 5, none⟩ (.int .i64 n)) b { g with la := n } := ((AgL.of h).put 5 (by decide) (.int .i64 n)).to rfl
theorem AgW.put_st {w : World} {b : Nat} {g : Ag} (h : AgW w b g) (s : St) : AgW (((w.setCell ⟨b, 6, none⟩ (.int .i64 s.c)).setCell ⟨b, 7, none⟩ (.int .i64 s.s)).setCell ⟨b, 8, none⟩ (.int .i64 s.q)) b { g with st := s } := ((((AgL.of h).put 6 (by decide) (.int .i64 s.c)).put 7 (by decide) (.int .i64 s.s)).put 8 (by decide) (.int .i64 s.q)).to rfl
def setB (f : Nat → Int) (k : Nat) (n : Int) : Nat → Int := fun i => if i = k then n else f i
theorem cells18_setB (g : Ag) (k : Nat) (hk : k < 9) (n : Int) : (cells18 g).set (9 + k) (.int .i64 n) = cells18 { g with b := setB g.b k n } := by
  have hc : k = 0 ∨ k = 1 ∨ k = 2 ∨ k = 3 ∨ k = 4 ∨ k = 5 ∨ k = 6 ∨ k = 7 ∨ k = 8 := by omega
  rcases hc with rfl | rfl | rfl | rfl | rfl | rfl | rfl | rfl | rfl <;> simp [cells18, setB]
theorem AgW.put_b {w : World} {b : Nat} {g : Ag} (h : AgW w b g) (k : Nat) (hk : k < 9) (n : Int) : AgW (w.setCell ⟨b, 9 + k, none⟩ (.int .i64 n)) b { g with b := setB g.b k n } := ((AgL.of h).put (9 + k) (by omega) (.int .i64 n)).to (cells18_setB g k hk n)
/-- Both, the result's block and the one that is written. -/
structure MQ (w : World) (a c : Ag) (q : Nat) (g : Ag) (W : World) : Prop where
  a : AgAt W w.heap.size a
  c : AgAt W (w.heap.size + 1) c
  r : AgW W (w.heap.size + 1 + 1) Ag.zero
  g : AgW W q g
  far : w.heap.size + 3 ≤ q
  bel : Below w.heap.size w W
theorem MQ.put {w : World} {a c : Ag} {q : Nat} {g : Ag} {W W' : World} (h : MQ w a c q g W) (k : Below (w.heap.size + 3) W W') (g' : Ag) (hg : AgW W' q g') : MQ w a c q g' W' :=
  ⟨h.a.upto k (by omega), h.c.upto k (by omega), h.r.upto k (by omega), hg, h.far, h.bel.trans (k.mono (by omega))⟩
theorem MQ.keep {w : World} {a c : Ag} {q : Nat} {g : Ag} {W W' : World} (h : MQ w a c q g W) (k : Below W.heap.size W W') : MQ w a c q g W' :=
  ⟨h.a.below k, h.c.below k, h.r.below k, h.g.below k, h.far, bel_next h.bel k⟩
theorem MQ.set {w : World} {a c : Ag} {q : Nat} {g : Ag} {W : World} (h : MQ w a c q g W) (j : Nat) (v : Value) : Below (w.heap.size + 3) W (W.setCell ⟨q, j, none⟩ v) := (Below.refl _ _).setCell (p := ⟨q, j, none⟩) h.far v
theorem MQ.put_n {w : World} {a c : Ag} {q : Nat} {g : Ag} {W : World} (h : MQ w a c q g W) (n : Int) : MQ w a c q { g with n := n } (W.setCell ⟨q, 0, none⟩ (.int .i64 n)) := h.put (h.set _ _) _ (h.g.put_n n)
theorem MQ.put_s {w : World} {a c : Ag} {q : Nat} {g : Ag} {W : World} (h : MQ w a c q g W) (s : Int) : MQ w a c q { g with s := s } ((W.setCell ⟨q, 1, none⟩ (.int .i64 (wh s))).setCell ⟨q, 2, none⟩ (.int .u64 (wl s))) := h.put ((h.set _ _).setCell (p := ⟨q, 2, none⟩) h.far _) _ (h.g.put_s s)
theorem MQ.put_mn {w : World} {a c : Ag} {q : Nat} {g : Ag} {W : World} (h : MQ w a c q g W) (n : Int) : MQ w a c q { g with mn := n } (W.setCell ⟨q, 3, none⟩ (.int .i64 n)) := h.put (h.set _ _) _ (h.g.put_mn n)
theorem MQ.put_mx {w : World} {a c : Ag} {q : Nat} {g : Ag} {W : World} (h : MQ w a c q g W) (n : Int) : MQ w a c q { g with mx := n } (W.setCell ⟨q, 4, none⟩ (.int .i64 n)) := h.put (h.set _ _) _ (h.g.put_mx n)
theorem MQ.put_la {w : World} {a c : Ag} {q : Nat} {g : Ag} {W : World} (h : MQ w a c q g W) (n : Int) : MQ w a c q { g with la := n } (W.setCell ⟨q, 5, none⟩ (.int .i64 n)) := h.put (h.set _ _) _ (h.g.put_la n)
theorem MQ.put_st {w : World} {a c : Ag} {q : Nat} {g : Ag} {W : World} (h : MQ w a c q g W) (s : St) : MQ w a c q { g with st := s } (((W.setCell ⟨q, 6, none⟩ (.int .i64 s.c)).setCell ⟨q, 7, none⟩ (.int .i64 s.s)).setCell ⟨q, 8, none⟩ (.int .i64 s.q)) := h.put (((h.set _ _).setCell (p := ⟨q, 7, none⟩) h.far _).setCell (p := ⟨q, 8, none⟩) h.far _) _ (h.g.put_st s)
theorem MQ.put_b {w : World} {a c : Ag} {q : Nat} {g : Ag} {W : World} (h : MQ w a c q g W) (k : Nat) (hk : k < 9) (n : Int) : MQ w a c q { g with b := setB g.b k n } (W.setCell ⟨q, 9 + k, none⟩ (.int .i64 n)) := h.put (h.set _ _) _ (h.g.put_b k hk n)
theorem MQ.name {w : World} {a c : Ag} {q : Nat} {g : Ag} {W : World} (h : MQ w a c q g W) : ∃ x, x = W ∧ MQ w a c q g x := ⟨W, rfl, h⟩
/-- The buckets behind k rounds. -/
def bK (a c : Ag) (k : Nat) : Nat → Int := fun i => if i < k then w64 (a.b i + c.b i) else a.b i
theorem bK_zero (a c : Ag) : bK a c 0 = a.b := by funext i; simp [bK]
theorem bK_step (a c : Ag) (k : Nat) : setB (bK a c k) k (w64 (a.b k + c.b k)) = bK a c (k + 1) := by
  funext i
  unfold setB bK
  by_cases h : i = k
  · subst h; rw [if_pos rfl, if_pos (by omega)]
  · rw [if_neg h]
    by_cases h2 : i < k
    · rw [if_pos h2, if_pos (by omega)]
    · rw [if_neg h2, if_neg (by omega)]
theorem bK_nine (a c g : Ag) : cells18 { g with b := bK a c 9 } = cells18 { g with b := fun i => w64 (a.b i + c.b i) } := by simp [cells18, bK]
theorem AgW.same {w : World} {b : Nat} {g g' : Ag} (h : AgW w b g) (e : cells18 g = cells18 g') : AgW w b g' := (AgL.of h).to e
theorem w64_wrap (x : Int) : w64 x = wrap64 x := by rw [w64, IntKind.wrap_i64, wrap64]
/-- Held in a round: both. -/
structure M19 (b : Nat) (a c : Ag) (W : World) : Prop where
  a : AgAt W b a
  c : AgAt W (b + 1) c
theorem M19.keep {b : Nat} {a c : Ag} {W W' : World} (h : M19 b a c W) (k : Below W.heap.size W W') : M19 b a c W' := ⟨h.a.below k, h.c.below k⟩
theorem M19.drew {b : Nat} {a c : Ag} {W : World} (h : M19 b a c W) : M19 b a c W.drew := h.keep ((Below.refl _ _).drew)
theorem M19.set {b q : Nat} {a c : Ag} {W : World} (h : M19 b a c W) (hq : b + 2 ≤ q) (j : Nat) (v : Value) : M19 b a c (W.setCell ⟨q, j, none⟩ v) :=
  have k : Below (b + 2) W (W.setCell ⟨q, j, none⟩ v) := (Below.refl _ _).setCell (p := ⟨q, j, none⟩) hq v
  ⟨h.a.upto k (by omega), h.c.upto k (by omega)⟩

set_option maxHeartbeats 4000000 in
theorem rmerge_is (a c : Ag) (ha : a.fits) (hc : c.fits) (w : World) : Calls Try.prog 17 #[agV a, agV c] w fun e w' => e = .returned (agV (mgA a c)) ∧ Below w.heap.size w w' := by
  obtain ⟨m, hm⟩ : ∃ m, mgA a c = m := ⟨_, rfl⟩
  rw [hm]
  have hN := MR.new w a c
  simp only [cells18, Ag.zero, wh_zero, wl_zero] at hN
  have HN := Lib.hid hN
  clear hN
  rw [show agV a = .agg #[.int .i64 a.n, .int .i64 (wh a.s), .int .u64 (wl a.s), .int .i64 a.mn, .int .i64 a.mx, .int .i64 a.la, .int .i64 a.st.c, .int .i64 a.st.s, .int .i64 a.st.q, .int .i64 (a.b 0), .int .i64 (a.b 1), .int .i64 (a.b 2), .int .i64 (a.b 3), .int .i64 (a.b 4), .int .i64 (a.b 5), .int .i64 (a.b 6), .int .i64 (a.b 7), .int .i64 (a.b 8)] from rfl, show agV c = .agg #[.int .i64 c.n, .int .i64 (wh c.s), .int .u64 (wl c.s), .int .i64 c.mn, .int .i64 c.mx, .int .i64 c.la, .int .i64 c.st.c, .int .i64 c.st.s, .int .i64 c.st.q, .int .i64 (c.b 0), .int .i64 (c.b 1), .int .i64 (c.b 2), .int .i64 (c.b 3), .int .i64 (c.b 4), .int .i64 (c.b 5), .int .i64 (c.b 6), .int .i64 (c.b 7), .int .i64 (c.b 8)] from rfl]
  go_enter Try.func17, Try.ntmps17
  go_upto_region 1 with fail
  obtain ⟨w0, hw0, h0⟩ := HN.out.name
  rw [← hw0]
  have H0 := Lib.hid h0
  have a0 := h0.a.cell 0 rfl
  have c0 := h0.c.cell 0 rfl
  clear hw0 h0
  by_cases hna : a.n = 0
  · have hnb : (a.n == 0) = true := by simpa using hna
    obtain rfl : c = m := by rw [← hm]; unfold mgA; rw [if_pos hna]
    clear hna hm
    go_upto_region 2 with fail
    refine wp_region_lit ?_
    refine list_load_ag rfl _ rfl (w.heap.size + 1) c rfl H0.out.c ?_
    refine list_store_ag rfl _ _ rfl (w.heap.size + 1 + 1) Ag.zero c rfl rfl H0.out.r ?_
    obtain ⟨w9, hw9, hfin, hbel⟩ := finM_name (H0.out.r.st c).at_ (stA_below c H0.out.bel (by omega))
    rw [← hw9]
    refine wpList_nil ?_
    go_wp2
    refine bodyPost_ret (v := agV c) (results_ag Try.results17 _ _ (w.heap.size + 1 + 1) _ rfl hfin) rfl ⟨rfl, hbel⟩
  · have hnb : (a.n == 0) = false := by simpa using hna
    by_cases hnc : c.n = 0
    · have hncb : (c.n == 0) = true := by simpa using hnc
      obtain rfl : a = m := by rw [← hm]; unfold mgA; rw [if_neg hna, if_pos hnc]
      clear hna hnc hm
      go_upto_region 4 with fail
      refine wp_region_lit ?_
      refine list_load_ag rfl _ rfl w.heap.size a rfl H0.out.a ?_
      refine list_store_ag rfl _ _ rfl (w.heap.size + 1 + 1) Ag.zero a rfl rfl H0.out.r ?_
      obtain ⟨w9, hw9, hfin, hbel⟩ := finM_name (H0.out.r.st a).at_ (stA_below a H0.out.bel (by omega))
      rw [← hw9]
      refine wpList_nil ?_
      go_wp2
      refine bodyPost_ret (v := agV a) (results_ag Try.results17 _ _ (w.heap.size + 1 + 1) _ rfl hfin) rfl ⟨rfl, hbel⟩
    · have hncb : (c.n == 0) = false := by simpa using hnc
      obtain ⟨x, hx⟩ : ∃ x, a.st.lt c.st = x := ⟨_, rfl⟩
      obtain ⟨la, hla⟩ : ∃ la, (if x then c.la else a.la) = la := ⟨_, rfl⟩
      obtain ⟨st, hst⟩ : ∃ st, (if x then c.st else a.st) = st := ⟨_, rfl⟩
      obtain rfl : (⟨w64 (a.n + c.n), sm (a.s + c.s), min a.mn c.mn, max a.mx c.mx, la, st, fun i => w64 (a.b i + c.b i)⟩ : Ag) = m := by rw [← hm, ← hla, ← hst, ← hx]; unfold mgA; rw [if_neg hna, if_neg hnc]
      have HLS := Lib.hid (And.intro hla hst)
      have HX := Lib.hid hx
      clear hna hnc hm hla hst hx
      go_upto_region 5 with fail
      refine wp_region_lit ?_
      refine list_load_ag rfl _ rfl w.heap.size a rfl H0.out.a ?_
      refine wpList_plain rfl fun K hK => ?_
      go_simp
      refine hK _ _ ?_
      clear hK K
      (try simp only [Act.put, List.setIfInBounds_toArray, List.set_cons_zero, List.set_cons_succ])
      refine list_store_ag rfl _ _ rfl w0.heap.size Ag.zero a rfl rfl (AgW.zero w0 _) ?_
      have hq3 : w.heap.size + 3 ≤ w0.heap.size := by have := H0.out.r.at_.room; omega
      obtain ⟨w1, hw1, h1, hq1⟩ := MR.name2 ((H0.out.keep ((Below.refl _ _).alloc (Nat.le_refl _) _)).upto (stA_below a (Below.refl _ _) hq3)) ((AgW.zero w0 29).st a)
      rw [← hw1]
      obtain ⟨q, hq⟩ : ∃ q, w0.heap.size = q := ⟨_, rfl⟩
      rw [hq] at hq1 hq3 ⊢
      refine wpList_nil ?_
      have H1 := Lib.hid (MQ.mk h1.a h1.c h1.r hq1 hq3 h1.bel)
      have HNN := Lib.hid hncb
      clear hw1 h1 hq1 hq a0 c0 H0 hnb hncb hq3
      -- Count
      have a0 := H1.out.a.cell 0 rfl
      have c0 := H1.out.c.cell 0 rfl
      have q0 := H1.out.g.at_.cell 0 rfl
      have f0 := (AgL.of H1.out.g).free 0 (by decide)
      go_upto_region 7 with fail
      obtain ⟨w2, hw2, h2⟩ := (show MQ w a c q ⟨w64 (a.n + c.n), a.s, a.mn, a.mx, a.la, a.st, a.b⟩ _ from H1.out.put_n (w64 (a.n + c.n))).name
      rw [w64_wrap] at hw2
      rw [← hw2]
      have H2 := Lib.hid h2
      clear hw2 h2 a0 c0 q0 f0 w1 H1
      -- Sum
      have kad := fun W => refAdd_any (wh a.s) (wl a.s) (wh c.s) (wl c.s) (wh (sm (a.s + c.s))) (wl (sm (a.s + c.s))) a.s c.s (sm (a.s + c.s)) W (wrep ha.s) (wrep hc.s) (wrep (sm_in _)) (sm_cong _)
      have a1 := H2.out.a.cell 1 rfl
      have a2 := H2.out.a.cell 2 rfl
      have c1 := H2.out.c.cell 1 rfl
      have c2 := H2.out.c.cell 2 rfl
      go_upto_region 8 with (go_at_call 37; (with_reducible refine (kad _).mono ?_); rintro e w3 ⟨rfl, hb3⟩; (have H3 := Lib.hid (H2.out.keep hb3)); (have s1 := H3.out.g.at_.cell 1 rfl); (have s2 := H3.out.g.at_.cell 2 rfl); (have s3 := (AgL.of H3.out.g).free 1 (by decide)); (have s4 := (AgL.of H3.out.g).free 2 (by decide)); clear hb3)
      obtain ⟨w4, hw4, h4⟩ := (show MQ w a c q ⟨w64 (a.n + c.n), sm (a.s + c.s), a.mn, a.mx, a.la, a.st, a.b⟩ _ from H3.out.put_s (sm (a.s + c.s))).name
      rw [← hw4]
      have H4 := Lib.hid h4
      clear hw4 h4 a1 a2 c1 c2 s1 s2 s3 s4 H3 H2 w2 w3 kad
      -- Min
      have c3 := H4.out.c.cell 3 rfl
      have q3 := H4.out.g.at_.cell 3 rfl
      have f3 := (AgL.of H4.out.g).free 3 (by decide)
      go_upto_if 33 with fail
      go_cut [] from 29 (fun W => MQ w a c q ⟨w64 (a.n + c.n), sm (a.s + c.s), min a.mn c.mn, a.mx, a.la, a.st, a.b⟩ W)
      case first =>
        by_cases hlt : c.mn < a.mn
        · have hmin : min a.mn c.mn = c.mn := by omega
          have HM := Lib.hid hmin
          clear hmin
          go_wp2_with fail
          go_meet
          case rel => rw [HM.out]; exact H4.out.put_mn c.mn
        · have hmin : min a.mn c.mn = a.mn := by omega
          have HM := Lib.hid hmin
          clear hmin
          go_wp2_with fail
          go_meet
          case rel => rw [HM.out]; exact H4.out
      case rest =>
      have H5 := Lib.hid hcut
      clear hcut c3 q3 f3 H4 w4
      have c4 := H5.out.c.cell 4 rfl
      have q4 := H5.out.g.at_.cell 4 rfl
      have f4 := (AgL.of H5.out.g).free 4 (by decide)
      rename_i w5
      go_upto_if 41 with fail
      go_cut [] from 37 (fun W => MQ w a c q ⟨w64 (a.n + c.n), sm (a.s + c.s), min a.mn c.mn, max a.mx c.mx, a.la, a.st, a.b⟩ W)
      case first =>
        by_cases hlt : a.mx < c.mx
        · have hmax : max a.mx c.mx = c.mx := by omega
          have HM := Lib.hid hmax
          clear hmax
          go_wp2_with fail
          go_meet
          case rel => rw [HM.out]; exact H5.out.put_mx c.mx
        · have hmax : max a.mx c.mx = a.mx := by omega
          have HM := Lib.hid hmax
          clear hmax
          go_wp2_with fail
          go_meet
          case rel => rw [HM.out]; exact H5.out
      case rest =>
      have H6 := Lib.hid hcut
      clear hcut c4 q4 f4 H5
      have kl := fun W => rlessV a.st c.st x HX W
      have a6 := H6.out.a.cell 6 rfl
      have a7 := H6.out.a.cell 7 rfl
      have a8 := H6.out.a.cell 8 rfl
      have c6 := H6.out.c.cell 6 rfl
      have c7 := H6.out.c.cell 7 rfl
      have c8 := H6.out.c.cell 8 rfl
      go_upto_if 50 with (go_at_call 38; (with_reducible refine (kl _).mono ?_); rintro e w7 ⟨rfl, hb7⟩; (have H7 := Lib.hid (H6.out.keep hb7)); clear a6 a7 a8 c6 c7 c8 hb7)
      go_cut [] from 34 (fun W => MQ w a c q ⟨w64 (a.n + c.n), sm (a.s + c.s), min a.mn c.mn, max a.mx c.mx, la, st, a.b⟩ W)
      case first =>
        cases x with
        | true =>
          have c5 := H7.out.c.cell 5 rfl
          have c6 := H7.out.c.cell 6 rfl
          have c7 := H7.out.c.cell 7 rfl
          have c8 := H7.out.c.cell 8 rfl
          have q5 := H7.out.g.at_.cell 5 rfl
          have q6 := H7.out.g.at_.cell 6 rfl
          have q7 := H7.out.g.at_.cell 7 rfl
          have q8 := H7.out.g.at_.cell 8 rfl
          have f5 := (AgL.of H7.out.g).free 5 (by decide)
          have f6 := (AgL.of H7.out.g).free 6 (by decide)
          have f7 := (AgL.of H7.out.g).free 7 (by decide)
          have f8 := (AgL.of H7.out.g).free 8 (by decide)
          go_upto_region 15 with fail
          obtain ⟨w8, hw8, h8⟩ := (show MQ w a c q ⟨w64 (a.n + c.n), sm (a.s + c.s), min a.mn c.mn, max a.mx c.mx, a.la, c.st, a.b⟩ _ from H7.out.put_st c.st).name
          rw [← hw8]
          clear hw8 c5 c6 c7 c8 q5 q6 q7 q8 f5 f6 f7 f8
          have H8 := Lib.hid h8
          clear h8
          have c5 := H8.out.c.cell 5 rfl
          have q5 := H8.out.g.at_.cell 5 rfl
          have f5 := (AgL.of H8.out.g).free 5 (by decide)
          go_wp2_with fail
          go_meet
          case rel => obtain ⟨e1, e2⟩ := HLS.out; rw [← e1, ← e2]; exact H8.out.put_la c.la
        | false =>
          go_wp2_with fail
          go_meet
          case rel => obtain ⟨e1, e2⟩ := HLS.out; rw [← e1, ← e2]; exact H7.out
      case rest =>
      have H9 := Lib.hid hcut
      clear hcut H6 H7
      clear HLS HX kl HNN
      go_wp2_with fail
      go_loopw [7] (fun i wr => ∃ k : Nat, i = .int .i64 (k : Int) ∧ k ≤ 9 ∧ MQ w a c q ⟨w64 (a.n + c.n), sm (a.s + c.s), min a.mn c.mn, max a.mx c.mx, la, st, bK a c k⟩ wr) (fun i _ => 9 - (intOf i).toNat)
      case atStart => exact ⟨0, rfl, by omega, by rw [bK_zero]; exact H9.out⟩
      case round =>
        obtain ⟨k, rfl, hk, hQ⟩ := hrel
        have HQ := Lib.hid hQ
        clear hQ H9
        by_cases hk9 : k < 9
        · have hk9i : (k : Int) < 9 := by omega
          have hk0i : 0 ≤ (k : Int) := by omega
          have hwk : IntKind.i64.wrap ((k : Int) + 1) = (k : Int) + 1 := by rw [IntKind.wrap_i64]; omega
          have HM := Lib.hid (M19.mk HQ.out.a HQ.out.c)
          have s1 := (AgL.of HQ.out.g).cell (9 + k) (List.getElem?_eq_getElem (by rw [show (cells18 _).length = 18 from rfl]; omega))
          have s2 := (AgL.of HQ.out.g).free (9 + k) (by omega)
          have hqf : w.heap.size + 2 ≤ q := by have := HQ.out.far; omega
          have HQF := Lib.hid hqf
          clear hqf
          go_wp2_with fail
          refine wp_region_held_drew (S := (M19 w.heap.size a c)) (by kernel_rfl) HM.out.drew (fun hHeld => ?_)
          refine wpAnyH_take (i := 0) (oi := ?o1o) (v := ?o1v) ?o1h (by kernel_rfl) (by kernel_rfl) (by kernel_rfl) ?o1q ?o1y hHeld ?o1r
          case o1h => (simp only [List.getElem?_toArray, List.getElem?_cons_zero]; rfl)
          case o1q => exact fun _ _ _ h => h
          case o1y => (refine Or.inl ⟨by first | kernel_rfl | rfl, ?_⟩; intro w hSw; (try dsimp only at hSw); have x1 := hSw.a.bucket k hk9; have x2 := hSw.c.bucket k hk9; have x3 := x1; have x4 := x2; rw [Nat.add_comm] at x3 x4; go_simp <;> (try with_reducible rfl))
          try simp only [Act.put, List.setIfInBounds_toArray, List.set_cons_zero, List.set_cons_succ]
          refine wpAnyH_take (i := 1) (oi := ?o2o) (v := ?o2v) ?o2h (by kernel_rfl) (by kernel_rfl) (by kernel_rfl) ?o2q ?o2y hHeld ?o2r
          case o2h => (simp only [List.getElem?_toArray, List.getElem?_cons_succ, List.getElem?_cons_zero]; rfl)
          case o2q => exact fun _ _ _ h => h
          case o2y => (refine Or.inl ⟨by first | kernel_rfl | rfl, ?_⟩; intro w hSw; (try dsimp only at hSw); have x1 := hSw.a.bucket k hk9; have x2 := hSw.c.bucket k hk9; have x3 := x1; have x4 := x2; rw [Nat.add_comm] at x3 x4; go_simp <;> (try with_reducible rfl))
          try simp only [Act.put, List.setIfInBounds_toArray, List.set_cons_zero, List.set_cons_succ]
          refine wpAnyH_take (i := 2) (oi := ?o3o) (v := ?o3v) ?o3h (by kernel_rfl) (by kernel_rfl) (by kernel_rfl) ?o3q ?o3y hHeld ?o3r
          case o3h => (simp only [List.getElem?_toArray, List.getElem?_cons_succ, List.getElem?_cons_zero]; rfl)
          case o3q => exact fun _ _ _ h => h
          case o3y => (refine Or.inl ⟨by first | kernel_rfl | rfl, ?_⟩; intro w hSw; (try dsimp only at hSw); have x1 := hSw.a.bucket k hk9; have x2 := hSw.c.bucket k hk9; have x3 := x1; have x4 := x2; rw [Nat.add_comm] at x3 x4; go_simp <;> (try with_reducible rfl))
          try simp only [Act.put, List.setIfInBounds_toArray, List.set_cons_zero, List.set_cons_succ]
          refine wpAnyH_take (i := 3) (oi := ?o4o) (v := ?o4v) ?o4h (by kernel_rfl) (by kernel_rfl) (by kernel_rfl) ?o4q ?o4y hHeld ?o4r
          case o4h => (simp only [List.getElem?_toArray, List.getElem?_cons_succ, List.getElem?_cons_zero]; rfl)
          case o4q => exact fun _ _ _ h => h
          case o4y => (refine Or.inl ⟨by first | kernel_rfl | rfl, ?_⟩; intro w hSw; (try dsimp only at hSw); have x1 := hSw.a.bucket k hk9; have x2 := hSw.c.bucket k hk9; have x3 := x1; have x4 := x2; rw [Nat.add_comm] at x3 x4; go_simp <;> (try with_reducible rfl))
          try simp only [Act.put, List.setIfInBounds_toArray, List.set_cons_zero, List.set_cons_succ]
          refine wpAnyH_take (i := 4) (oi := ?o5o) (v := ?o5v) ?o5h (by kernel_rfl) (by kernel_rfl) (by kernel_rfl) ?o5q ?o5y hHeld ?o5r
          case o5h => (simp only [List.getElem?_toArray, List.getElem?_cons_succ, List.getElem?_cons_zero]; rfl)
          case o5q => exact fun _ _ _ h => h
          case o5y => (refine Or.inl ⟨by first | kernel_rfl | rfl, ?_⟩; intro w hSw; (try dsimp only at hSw); have x1 := hSw.a.bucket k hk9; have x2 := hSw.c.bucket k hk9; have x3 := x1; have x4 := x2; rw [Nat.add_comm] at x3 x4; go_simp <;> (try with_reducible rfl))
          try simp only [Act.put, List.setIfInBounds_toArray, List.set_cons_zero, List.set_cons_succ]
          refine wpAnyH_take (i := 5) (oi := ?o6o) (v := ?o6v) ?o6h (by kernel_rfl) (by kernel_rfl) (by kernel_rfl) ?o6q ?o6y hHeld ?o6r
          case o6h => (simp only [List.getElem?_toArray, List.getElem?_cons_succ, List.getElem?_cons_zero]; rfl)
          case o6q => exact fun _ _ _ h => h
          case o6y => (refine Or.inl ⟨by first | kernel_rfl | rfl, ?_⟩; intro w hSw; (try dsimp only at hSw); have x1 := hSw.a.bucket k hk9; have x2 := hSw.c.bucket k hk9; have x3 := x1; have x4 := x2; rw [Nat.add_comm] at x3 x4; go_simp <;> (try with_reducible rfl))
          try simp only [Act.put, List.setIfInBounds_toArray, List.set_cons_zero, List.set_cons_succ]
          refine wpAnyH_take (i := 6) (oi := ?o7o) (v := ?o7v) ?o7h (by kernel_rfl) (by kernel_rfl) (by kernel_rfl) ?o7q ?o7y hHeld ?o7r
          case o7h => (simp only [List.getElem?_toArray, List.getElem?_cons_succ, List.getElem?_cons_zero]; rfl)
          case o7q => exact fun _ _ _ h => h
          case o7y => (refine Or.inl ⟨by first | kernel_rfl | rfl, ?_⟩; intro w hSw; (try dsimp only at hSw); have x1 := hSw.a.bucket k hk9; have x2 := hSw.c.bucket k hk9; have x3 := x1; have x4 := x2; rw [Nat.add_comm] at x3 x4; go_simp <;> (try with_reducible rfl))
          try simp only [Act.put, List.setIfInBounds_toArray, List.set_cons_zero, List.set_cons_succ]
          refine wpAnyH_take (i := 7) (oi := ?o8o) (v := ?o8v) ?o8h (by kernel_rfl) (by kernel_rfl) (by kernel_rfl) ?o8q ?o8y hHeld ?o8r
          case o8h => (simp only [List.getElem?_toArray, List.getElem?_cons_succ, List.getElem?_cons_zero]; rfl)
          case o8q => exact fun _ _ _ h => h
          case o8y => (refine Or.inl ⟨by first | kernel_rfl | rfl, ?_⟩; intro w hSw; (try dsimp only at hSw); have x1 := hSw.a.bucket k hk9; have x2 := hSw.c.bucket k hk9; have x3 := x1; have x4 := x2; rw [Nat.add_comm] at x3 x4; go_simp <;> (try with_reducible rfl))
          try simp only [Act.put, List.setIfInBounds_toArray, List.set_cons_zero, List.set_cons_succ]
          refine wpAnyH_take (i := 8) (oi := ?o9o) (v := ?o9v) ?o9h (by kernel_rfl) (by kernel_rfl) (by kernel_rfl) ?o9q ?o9y hHeld ?o9r
          case o9h => (simp only [List.getElem?_toArray, List.getElem?_cons_succ, List.getElem?_cons_zero]; rfl)
          case o9q => exact fun _ _ _ h => h
          case o9y => (refine Or.inl ⟨by first | kernel_rfl | rfl, ?_⟩; intro w hSw; (try dsimp only at hSw); have x1 := hSw.a.bucket k hk9; have x2 := hSw.c.bucket k hk9; have x3 := x1; have x4 := x2; rw [Nat.add_comm] at x3 x4; go_simp <;> (try with_reducible rfl))
          try simp only [Act.put, List.setIfInBounds_toArray, List.set_cons_zero, List.set_cons_succ]
          refine wpAnyH_take (i := 9) (oi := ?o10o) (v := ?o10v) ?o10h (by kernel_rfl) (by kernel_rfl) (by kernel_rfl) ?o10q ?o10y hHeld ?o10r
          case o10h => (simp only [List.getElem?_toArray, List.getElem?_cons_succ, List.getElem?_cons_zero]; rfl)
          case o10q => exact fun _ _ _ h => h
          case o10y => (refine Or.inl ⟨by first | kernel_rfl | rfl, ?_⟩; intro w hSw; (try dsimp only at hSw); have x1 := hSw.a.bucket k hk9; have x2 := hSw.c.bucket k hk9; have x3 := x1; have x4 := x2; rw [Nat.add_comm] at x3 x4; go_simp <;> (try with_reducible rfl))
          try simp only [Act.put, List.setIfInBounds_toArray, List.set_cons_zero, List.set_cons_succ]
          refine wpAnyH_take (i := 10) (oi := ?o11o) (v := ?o11v) ?o11h (by kernel_rfl) (by kernel_rfl) (by kernel_rfl) ?o11q ?o11y hHeld ?o11r
          case o11h => (simp only [List.getElem?_toArray, List.getElem?_cons_succ, List.getElem?_cons_zero]; rfl)
          case o11q => exact fun _ _ _ h => h
          case o11y => (refine Or.inl ⟨by first | kernel_rfl | rfl, ?_⟩; intro w hSw; (try dsimp only at hSw); have x1 := hSw.a.bucket k hk9; have x2 := hSw.c.bucket k hk9; have x3 := x1; have x4 := x2; rw [Nat.add_comm] at x3 x4; go_simp <;> (try with_reducible rfl))
          try simp only [Act.put, List.setIfInBounds_toArray, List.set_cons_zero, List.set_cons_succ]
          refine wpAnyH_take (i := 11) (oi := ?o12o) (v := ?o12v) ?o12h (by kernel_rfl) (by kernel_rfl) (by kernel_rfl) ?o12q ?o12y hHeld ?o12r
          case o12h => (simp only [List.getElem?_toArray, List.getElem?_cons_succ, List.getElem?_cons_zero]; rfl)
          case o12q => exact fun _ _ _ h => h
          case o12y => (refine Or.inl ⟨by first | kernel_rfl | rfl, ?_⟩; intro w hSw; (try dsimp only at hSw); have x1 := hSw.a.bucket k hk9; have x2 := hSw.c.bucket k hk9; have x3 := x1; have x4 := x2; rw [Nat.add_comm] at x3 x4; go_simp <;> (try with_reducible rfl))
          try simp only [Act.put, List.setIfInBounds_toArray, List.set_cons_zero, List.set_cons_succ]
          refine wpAnyH_ready (rs := [12]) (by kernel_rfl) (by simp) ?_
          refine (AllReadyH.cons rfl (fun K hK => ?_) AllReadyH.nil)
          go_simp
          skip
          refine hK.out _ _ (hHeld.set HQF.out _ _) (fun hHeld => ?_)
          clear hK K
          try simp only [Act.put]
          refine wpAnyH_done (by kernel_rfl) ?_ _
          obtain ⟨w10, hw10, h10⟩ := (show MQ w a c q ⟨w64 (a.n + c.n), sm (a.s + c.s), min a.mn c.mn, max a.mx c.mx, la, st, bK a c (k + 1)⟩ (World.drew (wr.setCell ⟨q, 9 + k, none⟩ (.int .i64 (IntKind.i64.wrap (a.b k + c.b k))))) from by have h := (HQ.out.put_b k hk9 (w64 (a.b k + c.b k))).keep ((Below.refl _ _).drew); simp only [bK_step] at h; exact h).name
          rw [← hw10]
          have H10 := Lib.hid h10
          clear hw10 h10 hHeld s1 s2
          go_wp2
          go_roundw
          case rel => exact ⟨k + 1, by go_num, by omega, H10.out⟩
          case measure => simp [intOf]; omega
        · have hk' : k = 9 := by omega
          subst hk'
          go_upto_region 20 with fail
          refine wp_region_lit ?_
          refine list_load_ag rfl _ rfl q _ rfl HQ.out.g.at_ ?_
          refine list_store_ag rfl _ _ rfl (w.heap.size + 1 + 1) Ag.zero _ rfl rfl HQ.out.r ?_
          obtain ⟨w9, hw9, hfin, hbel⟩ := finM_name (HQ.out.r.st ⟨w64 (a.n + c.n), sm (a.s + c.s), min a.mn c.mn, max a.mx c.mx, la, st, bK a c 9⟩).at_ (stA_below ⟨w64 (a.n + c.n), sm (a.s + c.s), min a.mn c.mn, max a.mx c.mx, la, st, bK a c 9⟩ HQ.out.bel (by omega))
          rw [← hw9]
          refine wpList_nil ?_
          go_wp2
          refine bodyPost_ret (v := agV ⟨w64 (a.n + c.n), sm (a.s + c.s), min a.mn c.mn, max a.mx c.mx, la, st, bK a c 9⟩) (results_ag Try.results17 _ _ (w.heap.size + 1 + 1) _ rfl hfin) rfl ⟨?_, hbel⟩
          show Ending.returned (.agg (cells18 _).toArray) = Ending.returned (.agg (cells18 _).toArray)
          rw [bK_nine a c ⟨w64 (a.n + c.n), sm (a.s + c.s), min a.mn c.mn, max a.mx c.mx, la, st, a.b⟩]
end Go.Proofs.Ytipjhlabcbkgjaa.Ag
