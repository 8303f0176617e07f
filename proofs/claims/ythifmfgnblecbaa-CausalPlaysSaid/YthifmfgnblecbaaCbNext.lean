/- Next: what is due is delivered. -/
import Derived.Test.YthifmfgnblecbaaCbOffer
set_option maxRecDepth 20000
set_option linter.unusedSimpArgs false
set_option linter.unusedVariables false
namespace Go.Proofs.Ythifmfgnblecbaa.Og.Cb
open Go.RowKit Go.Maps Go.Proofs.Ythifmfgnblecbaa.Vi Go.Proofs.Ythifmfgnblecbaa.Mk

theorem cand_none {S : CS} {i : Int} (h : hasB S.L i (atL S.out i + 1) = false) : candB S i = none := by
  unfold candB; rw [getL_none_iff.2 h]
theorem cand_has {S : CS} {i : Int} {x : Rec} (h : hasB S.L i (atL S.out i + 1) = true) (hx : x = (getL S.L i (atL S.out i + 1)).getD Rec.zero) : x ∈ S.L ∧ x.st.s = i ∧ getL S.L i (atL S.out i + 1) = some x := by
  unfold hasB at h
  obtain ⟨r, hr⟩ := Option.isSome_iff_exists.1 h
  rw [hr] at hx ⊢
  have hx : x = r := hx
  subst hx
  exact ⟨(getL_mem hr).1, (getL_mem hr).2.1, rfl⟩
theorem cand_not {S : CS} {x : Rec} (h : getL S.L x.st.s (atL S.out x.st.s + 1) = some x) (hd : dueB S x = false) : candB S x.st.s = none := by
  unfold candB; rw [h]; simp [hd]
theorem cand_yes {S : CS} {x : Rec} (h : getL S.L x.st.s (atL S.out x.st.s + 1) = some x) (hd : dueB S x = true) : candB S x.st.s = some x := by
  unfold candB; rw [h]; simp [hd]
theorem firstC_miss {S : CS} {k : Nat} (hk : k < 8) (h : candB S (k : Int) = none) : firstC S k (8 - k) = firstC S (k + 1) (8 - (k + 1)) := by
  rw [show 8 - k = (8 - (k + 1)) + 1 by omega]
  show (match candB S (k : Int) with | some r => some r | none => firstC S (k + 1) (8 - (k + 1))) = _
  rw [h]
theorem firstC_hit {S : CS} {k : Nat} (hk : k < 8) {r : Rec} (h : candB S (k : Int) = some r) : firstC S k (8 - k) = some r := by
  rw [show 8 - k = (8 - (k + 1)) + 1 by omega]
  show (match candB S (k : Int) with | some r => some r | none => firstC S (k + 1) (8 - (k + 1))) = _
  rw [h]
theorem CGood.del {S : CS} (h : CGood S) (s q : Int) : CGood ⟨S.room, S.out, delL S.L s q⟩ := by
  refine ⟨h.rm, h.plain, h.apart.filter _, fun r hr => h.ok r (delL_mem.1 hr).1, fun r hr => h.above r (delL_mem.1 hr).1, Int.le_trans ?_ h.few⟩
  have h2 : ((delL S.L s q).filter fun x => !(dueB S x)).length ≤ (S.L.filter fun x => !(dueB S x)).length := by
    unfold delL
    exact (List.Sublist.filter _ (List.filter_sublist ..)).length_le
  show (((((delL S.L s q).filter fun x => !(dueB ⟨S.room, S.out, delL S.L s q⟩ x)).length : Nat) : Int)) ≤ _
  have e : ∀ x, dueB ⟨S.room, S.out, delL S.L s q⟩ x = dueB S x := fun x => rfl
  simp only [e]
  omega
theorem tight {w : World} {m n k : Nat} {D : DataW Value} (h : w.ownsMap Try.prog TKK slR m n D) (hk : Maps.size D = k) : w.ownsMap Try.prog TKK slR m k D := by
  obtain ⟨es, cl, h1, h2, h3, rfl⟩ := h
  refine ⟨es, cl, h1, h2, ?_, rfl⟩
  rw [← hk]
  exact Nat.le_of_eq (length_read es).symm
theorem CbAt.drop {w : World} {B b m : Nat} {ov : Value} {S : CS} {F : Nat → Prop} (h : CbAt w B b (some m) ov S F) {r : Rec} (hr : r ∈ S.L) (T : TypeId) :
    ∃ w', (Builtin.delete_ #[TMM, TKK] T #[.map (some m), kV r.st.s r.st.q]).run Try.prog w = .ok (.tuple #[]) w' ∧ CbAt w' B b (some m) ov ⟨S.room, S.out, delL S.L r.st.s r.st.q⟩ F ∧ (∀ q, q ≠ m → q < w.heap.size → w'.heap[q]? = w.heap[q]?) ∧ FrF F w w' := by
  obtain ⟨hm, hmb, D, hD, hI⟩ := h.some_ m rfl
  obtain ⟨i1, i2⟩ := okI (h.good.ok r hr)
  obtain ⟨w', hrun, hD', ht⟩ := hD.drop klaw undM (key_is i1 i2) T
  have hI' := hI.del (hD.tidy klaw) h.good.apart h.good.ok hr
  have hg := ht.grown
  have kk : ∀ q, q ≠ m → q < w.heap.size → w'.heap[q]? = w.heap[q]? := fun q hq hl => hg.block q hl fun e => hq (Option.some.inj e)
  refine ⟨w', hrun, ⟨(kk b (fun e => hmb e.symm) h.lt).trans h.obj, Ns.off h.ns hg.size (fun hn q hq hl => kk q (fun e => (h.ovF hn q hq).2.2 (by rw [e])) hl), h.ovF, fun q hq => ⟨(h.fp q hq).1, Nat.lt_of_lt_of_le (h.fp q hq).2 hg.size⟩, h.bF, fun e => (by cases e), fun m' e => ?_, h.good.del _ _⟩, kk, FrF.of_grown hg hm⟩
  have e := Option.some.inj e
  subst e
  exact ⟨hm, hmb, _, tight hD' hI'.size, hI'.keep hg.size (fun q hq hl => kk q hq.2.2 hl) fun q hq => hq⟩
theorem CbAt.setOut {w7 w : World} {B b : Nat} {mv : Option Nat} {ov : Value} {S : CS} {F : Nat → Prop} (h : CbAt w B b mv ov S F) {C : Nat} (hf : ∀ q, F q → B ≤ q ∧ q < C) {u : Value} {K : List Int} (hu : Ns w u K) (hq : ∀ q, u.ownBlock = some q → w7.heap.size ≤ q ∧ q < w.heap.size) (hC : C ≤ w7.heap.size) (hB : B ≤ C) (hG : CGood ⟨S.room, K, S.L⟩) : CbAt (w.setCell ⟨b, 1, none⟩ u) B b mv u ⟨S.room, K, S.L⟩ (grow F w7 w) := by
  refine ⟨?_, Ns.off hu (by simp) (fun _ q hq' _ => World.heap_setCell_off _ _ _ _ _ (fun e => by have := hq q hq'; have := hf b h.bF; omega)), fun hn q hq' => ⟨Or.inr (hq q hq'), fun e => by have := hq q hq'; have := hf b h.bF; omega, fun e => by have := hq q hq'; have := hf q (h.some_ q e).1; omega⟩, ?_, Or.inl h.bF, h.none_, fun m e => ?_, hG⟩
  · have := Joins.block_setCell (i := 1) h.obj u
    rw [this]; rfl
  · rintro q (hq | hq)
    · have := h.fp q hq; simpa using this
    · simp; omega
  · obtain ⟨h1, h2, D, h3, h4⟩ := h.some_ m e
    exact ⟨Or.inl h1, h2, D, owns_kept h3 (World.heap_setCell_off _ _ _ _ _ h2), h4.keep (by simp) (fun q hq _ => World.heap_setCell_off _ _ _ _ _ hq.2.1) fun q hq => ⟨Or.inl hq.1, hq.2⟩⟩
theorem CbAt.buf {w : World} {B b : Nat} {mv : Option Nat} {ov : Value} {S : CS} {F : Nat → Prop} (h : CbAt w B b mv ov S F) : Buf w B b S F := ⟨mv, ov, h⟩
theorem FrF.set9 {w8 w9 wA : World} {b : Nat} {v : Value} {F : Nat → Prop} (h : Below w8.heap.size w8 w9) (e : w9.setCell ⟨b, 1, none⟩ v = wA) (hb : F b) : FrF F w8 wA := by
  subst e
  exact (FrF.of h).next (G := F) ⟨rfl, rfl, rfl, by simp, fun k hk hn => World.heap_setCell_off _ _ _ _ _ fun e => hn (e ▸ hb)⟩ fun _ _ h => h
theorem one_fr (a : World) (g i : Nat) (v : Value) : FrF (fun q => q = g) a (a.setCell ⟨g, i, none⟩ v) := ⟨rfl, rfl, rfl, by simp, fun k _ hn => World.heap_setCell_off _ _ _ _ _ hn⟩
theorem nine_fr (a : World) (g : Nat) (v0 v1 v2 v3 v4 v5 v6 v7 v8 : Value) : FrF (fun q => q = g) a (((((((((a.setCell ⟨g, 0, none⟩ v0).setCell ⟨g, 1, none⟩ v1).setCell ⟨g, 2, none⟩ v2).setCell ⟨g, 3, none⟩ v3).setCell ⟨g, 4, none⟩ v4).setCell ⟨g, 5, none⟩ v5).setCell ⟨g, 6, none⟩ v6).setCell ⟨g, 7, none⟩ v7).setCell ⟨g, 8, none⟩ v8) :=
  ((((((((one_fr a g 0 v0).next (one_fr _ g 1 v1) fun _ _ h => h).next (one_fr _ g 2 v2) fun _ _ h => h).next (one_fr _ g 3 v3) fun _ _ h => h).next (one_fr _ g 4 v4) fun _ _ h => h).next (one_fr _ g 5 v5) fun _ _ h => h).next (one_fr _ g 6 v6) fun _ _ h => h).next (one_fr _ g 7 v7) fun _ _ h => h).next (one_fr _ g 8 v8) fun _ _ h => h
theorem recw_same {w w' : World} {g : Nat} {r : Rec} {dv : Value} (h : RecW w g r dv) (k : w'.heap[g]? = w.heap[g]?) : RecW w' g r dv := by
  obtain ⟨h1, y0, y1, y2, y3, y4, y5, y6, y7, y8⟩ := h
  have kf : ∀ i, w'.frozen? ⟨g, i, none⟩ = w.frozen? ⟨g, i, none⟩ := fun i => World.frozen?_of_block (w := w) k
  exact ⟨rec_same h1 k, (kf _).trans y0, (kf _).trans y1, (kf _).trans y2, (kf _).trans y3, (kf _).trans y4, (kf _).trans y5, (kf _).trans y6, (kf _).trans y7, (kf _).trans y8⟩
theorem rd_same {x y : Rd} (h : recV x.r x.dv = recV y.r y.dv) : x.dv = y.dv ∧ x.r.d.length = y.r.d.length := by
  unfold recV at h
  simp at h
  have h9 := h.2.2.2.2.2.2.2.2
  refine ⟨h9, ?_⟩
  unfold Rd.dv at h9
  injection h9
structure NX (w : World) (g : Nat) (s q : Int) (X : World) : Prop where
  key : N2 X g s q
  le : w.heap.size ≤ X.heap.size
  bel : Below w.heap.size w X
theorem NX.alloc {w X : World} {g : Nat} {s q : Int} (h : NX w g s q X) (o : Obj) : NX w g s q (X.alloc o) := ⟨h.key.later ((Below.refl _ _).alloc (Nat.le_refl _) o), (bel_new h.bel o).size, bel_new h.bel o⟩
theorem NX.drew {w X : World} {g : Nat} {s q : Int} (h : NX w g s q X) : NX w g s q X.drew := ⟨h.key.later (Below.refl _ _).drew, h.le, h.bel.drew⟩
theorem N2.drew9 {w : World} {g : Nat} {s q : Int} (h : N2 w g s q) : N2 w.drew g s q := h.later (Below.refl _ _).drew
structure NeJ (w wr : World) (S : CS) (k : Nat) : Prop where
  bel : Below w.heap.size w wr
  out : RecW wr w.heap.size Rec.zero (.slice none 0 0)
  eq : nextR S = firstC S k (8 - k)
def NextGen (w : World) (p : Option Addr) (B : Nat) (S : CS) (F : Nat → Prop) (e : Ending) (w' : World) : Prop := ∃ x : Rd, e = .returned (.tuple #[recV x.r x.dv, .bool (nextR S).isSome]) ∧ x.r = (nextR S).getD Rec.zero ∧ Ns w' x.dv x.r.d ∧ ((nextR S = none ∧ Below w.heap.size w w') ∨ ∃ b, p = some ⟨b, 0, none⟩ ∧ Buf w' B b (nextS S) (grow F w w') ∧ FrF F w w' ∧ (x.r.d ≠ [] → ∀ q, x.dv.ownBlock = some q → grow F w w' q))
set_option maxHeartbeats 8000000 in
theorem next_gen {w : World} {p : Option Addr} {mv : Option Nat} {ov : Value} {S : CS} {F : Nat → Prop} (B : Nat) (hR : Rb w p mv S) (hC : ∀ b, p = some ⟨b, 0, none⟩ → CbAt w B b mv ov S F ∧ B ≤ w.heap.size) : Calls Try.prog 12 #[.pointer p] w (NextGen w p B S F) := by
  have HR := Lib.hid hR
  have HC := Lib.hid hC
  have HJ0 := Lib.hid (show NeJ w (w.alloc (.cells #[.int .i64 0, .string ⟨#[]⟩, .int .i64 0, .int .i64 0, .int .i64 0, .int .i64 0, .int .i64 0, .int .i64 0, .slice none 0 0] 33)) S 0 from ⟨(Below.refl _ _).alloc (Nat.le_refl _) _, RecW.new w Rec.zero (.slice none 0 0), rfl⟩)
  clear hR hC
  go_enter Try.func12, Try.ntmps12
  go_wp2
  go_loopw [8] (fun i wr => ∃ k : Nat, k ≤ 8 ∧ i = .int .i64 (k : Int) ∧ Hid (NeJ w wr S k)) (fun i _ => 8 - (intOf i).toNat)
  case atStart => exact ⟨0, by omega, rfl, HJ0⟩
  case round =>
    obtain ⟨k, hk, rfl, HJ⟩ := hrel
    clear HJ0
    obtain ⟨w3, hw3⟩ : ∃ x, x = wr := ⟨_, rfl⟩
    subst hw3
    by_cases hk8 : k < 8
    · have hlt2 : (k : Int) < 8 := by omega
      have HI := Lib.hid (show I64 (k : Int) by unfold I64; omega)
      have HEQ := Lib.hid HJ.out.eq
      have kf := follows_is (HR.out.later HJ.out.bel) (k : Int) HI.out
      obtain ⟨x, hlk, hxr, hxn⟩ := HR.out.look HI.out (seq_I64 S.out (k : Int))
      have hxo : ∀ b, p = some ⟨b, 0, none⟩ → x.r.d ≠ [] → ∀ q, x.dv.ownBlock = some q → F q ∧ q ≠ b ∧ mv ≠ some q := fun b e => by
        obtain ⟨x', g1, g2, g3, g4⟩ := (HC.out b e).1.look HI.out (seq_I64 S.out (k : Int))
        have g5 := (g1 w (fun _ _ => rfl)).symm.trans (hlk w (Below.refl _ _))
        have g6 : recV x'.r x'.dv = recV x.r x.dv := by
          injection g5 with g5 _
          injection g5 with g5
          have := congrArg (fun a : Array Value => a[0]?) g5
          simpa using this
        have g7 : x'.dv = x.dv ∧ x'.r.d.length = x.r.d.length := rd_same g6
        intro hd
        have hd' : x'.r.d ≠ [] := fun e => by
          have := g7.2
          rw [e] at this
          exact hd (List.eq_nil_of_length_eq_zero this.symm)
        rw [← g7.1]
        exact g4 hd'
      obtain ⟨sq, hsq⟩ : ∃ z, atL S.out (k : Int) + 1 = z := ⟨_, rfl⟩
      obtain ⟨zz, hzz⟩ : ∃ z, hasB S.L (k : Int) sq = z := ⟨_, rfl⟩
      have HSQ := Lib.hid hsq
      have HZZ := Lib.hid (show hasB S.L (k : Int) (atL S.out (k : Int) + 1) = zz by rw [hsq]; exact hzz)
      have HXR := Lib.hid hxr
      have HXN := Lib.hid hxn
      have HXO := Lib.hid hxo
      have ka := fun (W : World) (hb : Below w.heap.size w W) => all_is (HR.out.later hb)
      rw [hsq] at hlk kf
      rw [hzz] at hlk
      unfold kV at hlk kf
      obtain ⟨⟨rk, rs, rt, rv, rtier, ⟨rc, rst, rq⟩, rd⟩, ra, rcc⟩ := x
      unfold recV Rd.dv at hlk
      dsimp only at hlk HXR HXN HXO
      unfold Rd.dv at HXN HXO
      dsimp only at HXN HXO
      clear hxr hxn hxo hsq hzz
      go_upto_region 5 with (go_at_call 32; (with_reducible refine kf.mono ?_); rintro e w4 ⟨rfl, hb4⟩; (have HB4 := Lib.hid hb4); clear hb4)
      have HNX : NX (w4.alloc (nbox (k : Int) sq)) w4.heap.size (k : Int) sq (w4.alloc (nbox (k : Int) sq)) := ⟨N2.of (new_block (Below.refl _ _)), Nat.le_refl _, Below.refl _ _⟩
      have HN5 := Lib.hid HNX.key
      have HW := Lib.hid (bel_new (bel_next HJ.out.bel HB4.out) (nbox (k : Int) sq))
      have HO5 := Lib.hid ((HJ.out.out.below HB4.out).below ((Below.refl w4.heap.size w4).alloc (Nat.le_refl _) (nbox (k : Int) sq)))
      have HNL5 := Lib.hid (show w.heap.size ≤ w4.heap.size from (bel_next HJ.out.bel HB4.out).size)
      unfold nbox at HNX HN5 HW HO5
      obtain ⟨w5, hw5⟩ : ∃ x, w4.alloc (.cells #[.int .i64 (k : Int), .int .i64 sq] 61) = x := ⟨_, rfl⟩
      rw [hw5] at HNX HN5 HW HO5 ⊢
      obtain ⟨N, hN9⟩ : ∃ z, w4.heap.size = z := ⟨_, rfl⟩
      rw [hN9] at HNX HN5 HNL5 ⊢
      obtain ⟨M, hM⟩ : ∃ z, w5.heap.size = z := ⟨_, rfl⟩
      have HSZ5 := Lib.hid hM
      clear hw5 hN9 hM kf
      refine wp_region_held_drew (S := (NX w5 N (k : Int) sq)) (by kernel_rfl) HNX.drew (fun hHeld => ?_)
      refine wpAnyH_take (i := 0) (oi := ?r1o) (v := ?r1v) ?r1h (by kernel_rfl) (by kernel_rfl) (by kernel_rfl) ?r1q ?r1y hHeld ?r1r
      case r1h => (simp only [List.getElem?_toArray, List.getElem?_cons_zero]; rfl)
      case r1q => exact fun _ _ _ h => h
      case r1y => (refine Or.inl ⟨by first | kernel_rfl | rfl, ?_⟩; intro w hSw; (try dsimp only at hSw); obtain ⟨⟨x0, x1, f0, f1, lt0⟩, -, hb7⟩ := hSw; have hl := hlk _ (bel_next HW.out hb7); go_simp <;> (try with_reducible rfl))
      try simp only [Act.put, List.setIfInBounds_toArray, List.set_cons_zero, List.set_cons_succ]
      refine wpAnyH_take (i := 2) (oi := ?r2o) (v := ?r2v) ?r2h (by kernel_rfl) (by kernel_rfl) (by kernel_rfl) ?r2q ?r2y hHeld ?r2r
      case r2h => (simp only [List.getElem?_toArray, List.getElem?_cons_succ, List.getElem?_cons_zero]; rfl)
      case r2q => exact fun _ _ _ h => h
      case r2y => (refine Or.inl ⟨by first | kernel_rfl | rfl, ?_⟩; intro w hSw; (try dsimp only at hSw); obtain ⟨⟨x0, x1, f0, f1, lt0⟩, -, hb7⟩ := hSw; have hl := hlk _ (bel_next HW.out hb7); go_simp <;> (try with_reducible rfl))
      try simp only [Act.put, List.setIfInBounds_toArray, List.set_cons_zero, List.set_cons_succ]
      refine wpAnyH_ready (rs := [1, 7]) (by kernel_rfl) (by simp) ?_
      refine (AllReadyH.cons rfl (fun K hK => ?_) (AllReadyH.cons rfl (fun K hK => ?_) AllReadyH.nil))
      ·
        go_simp
        (go_at_call 33; (with_reducible refine (ka _ (bel_next HW.out hHeld.bel)).mono ?_); rintro e w9 ⟨rfl, rfl⟩)
        refine hK.out _ _ (hHeld) (fun hHeld => ?_)
        clear hK K
        try simp only [Act.put, List.setIfInBounds_toArray, List.set_cons_zero, List.set_cons_succ]
        refine wpAnyH_take (i := 3) (oi := ?r3o) (v := ?r3v) ?r3h (by kernel_rfl) (by kernel_rfl) (by kernel_rfl) ?r3q ?r3y hHeld ?r3r
        case r3h => (simp only [List.getElem?_toArray, List.getElem?_cons_succ, List.getElem?_cons_zero]; rfl)
        case r3q => exact fun _ _ _ h => h
        case r3y => (refine Or.inl ⟨by first | kernel_rfl | rfl, ?_⟩; intro w hSw; (try dsimp only at hSw); obtain ⟨⟨x0, x1, f0, f1, lt0⟩, -, hb7⟩ := hSw; have hl := hlk _ (bel_next HW.out hb7); go_simp <;> (try with_reducible rfl))
        try simp only [Act.put, List.setIfInBounds_toArray, List.set_cons_zero, List.set_cons_succ]
        refine wpAnyH_take (i := 4) (oi := ?r4o) (v := ?r4v) ?r4h (by kernel_rfl) (by kernel_rfl) (by kernel_rfl) ?r4q ?r4y hHeld ?r4r
        case r4h => (simp only [List.getElem?_toArray, List.getElem?_cons_succ, List.getElem?_cons_zero]; rfl)
        case r4q => exact fun _ _ _ h => h
        case r4y => (refine Or.inl ⟨by first | kernel_rfl | rfl, ?_⟩; intro w hSw; (try dsimp only at hSw); obtain ⟨⟨x0, x1, f0, f1, lt0⟩, -, hb7⟩ := hSw; have hl := hlk _ (bel_next HW.out hb7); go_simp <;> (try with_reducible rfl))
        try simp only [Act.put, List.setIfInBounds_toArray, List.set_cons_zero, List.set_cons_succ]
        refine wpAnyH_take (i := 5) (oi := ?r5o) (v := ?r5v) ?r5h (by kernel_rfl) (by kernel_rfl) (by kernel_rfl) ?r5q ?r5y hHeld ?r5r
        case r5h => (simp only [List.getElem?_toArray, List.getElem?_cons_succ, List.getElem?_cons_zero]; rfl)
        case r5q => exact fun _ _ _ h => h
        case r5y => (refine Or.inl ⟨by first | kernel_rfl | rfl, ?_⟩; intro w hSw; (try dsimp only at hSw); obtain ⟨⟨x0, x1, f0, f1, lt0⟩, -, hb7⟩ := hSw; have hl := hlk _ (bel_next HW.out hb7); go_simp <;> (try with_reducible rfl))
        try simp only [Act.put, List.setIfInBounds_toArray, List.set_cons_zero, List.set_cons_succ]
        refine wpAnyH_take (i := 6) (oi := ?r6o) (v := ?r6v) ?r6h (by kernel_rfl) (by kernel_rfl) (by kernel_rfl) ?r6q ?r6y hHeld ?r6r
        case r6h => (simp only [List.getElem?_toArray, List.getElem?_cons_succ, List.getElem?_cons_zero]; rfl)
        case r6q => exact fun _ _ _ h => h
        case r6y => (refine Or.inl ⟨by first | kernel_rfl | rfl, ?_⟩; intro w hSw; (try dsimp only at hSw); obtain ⟨⟨x0, x1, f0, f1, lt0⟩, -, hb7⟩ := hSw; have hl := hlk _ (bel_next HW.out hb7); go_simp <;> (try with_reducible rfl))
        try simp only [Act.put, List.setIfInBounds_toArray, List.set_cons_zero, List.set_cons_succ]
        refine wpAnyH_ready (rs := [7]) (by kernel_rfl) (by simp) ?_
        refine (AllReadyH.cons rfl (fun K hK => ?_) AllReadyH.nil)
        go_simp
        skip
        refine hK.out _ _ (hHeld.alloc _) (fun hHeld => ?_)
        clear hK K
        try simp only [Act.put, List.setIfInBounds_toArray, List.set_cons_zero, List.set_cons_succ]
        refine wpAnyH_ready (rs := [8]) (by kernel_rfl) (by simp) ?_
        refine (AllReadyH.cons rfl (fun K hK => ?_) AllReadyH.nil)
        go_simp
        skip
        refine hK.out _ _ (((HNX.alloc _).drew)) (fun hHeld => ?_)
        clear hK K
        try simp only [Act.put]
        refine wpAnyH_take (i := 9) (oi := ?r7o) (v := ?r7v) ?r7h (by kernel_rfl) (by kernel_rfl) (by kernel_rfl) ?r7q ?r7y hHeld ?r7r
        case r7h => (simp only [List.getElem?_toArray, List.getElem?_cons_succ, List.getElem?_cons_zero]; rfl)
        case r7q => exact fun _ _ _ h => h
        case r7y => (refine Or.inl ⟨by first | kernel_rfl | rfl, ?_⟩; intro w hSw; (try dsimp only at hSw); obtain ⟨⟨x0, x1, f0, f1, lt0⟩, -, hb7⟩ := hSw; have hl := hlk _ (bel_next HW.out hb7); go_simp <;> (try with_reducible rfl))
        try simp only [Act.put, List.setIfInBounds_toArray, List.set_cons_zero, List.set_cons_succ]
        refine wpAnyH_done (by kernel_rfl) ?_ _
        obtain ⟨w6, hw6⟩ : ∃ x, (w5.alloc (.cells #[.int .i64 rk, .string rs, .int .i64 rt, .int .i64 rv, .int .i64 rtier, .int .i64 rc, .int .i64 rst, .int .i64 rq, .slice ra rd.length rcc] 33)).drew = x := ⟨_, rfl⟩
        have hb56 : Below w5.heap.size w5 w6 := by rw [← hw6]; exact ((Below.refl _ _).alloc (Nat.le_refl _) _).drew
        have hR6 : R9 w6 M 0 ⟨⟨rk, rs, rt, rv, rtier, ⟨rc, rst, rq⟩, rd⟩, ra, rcc⟩ := by rw [← hw6, ← HSZ5.out]; exact R9.later (R9.new w5 ⟨⟨rk, rs, rt, rv, rtier, ⟨rc, rst, rq⟩, rd⟩, ra, rcc⟩) (Below.refl _ _).drew
        have hN6 := HN5.out.later hb56
        have HB6 := Lib.hid (bel_next HW.out hb56)
        have HO6 := Lib.hid (HO5.out.below hb56)
        have HML := Lib.hid (show w.heap.size < M by have := HO5.out.room; have := HSZ5.out; omega)
        rw [hw6, HSZ5.out]
        cases hz : zz with
        | false =>
          have HSTEP := Lib.hid (show nextR S = firstC S (k + 1) (8 - (k + 1)) from by rw [HEQ.out]; exact firstC_miss hk8 (cand_none (HZZ.out.trans hz)))
          have HB8 := HB6
          have HO8 := HO6
          clear hw6 hR6 hN6 hb56 hHeld hz HZZ
          go_wp2
          go_roundw
          case rel => exact ⟨k + 1, by omega, by go_num, Lib.hid ⟨HB8.out, HO8.out, HSTEP.out⟩⟩
          case measure => simp [intOf]; omega
        | true =>
          rcases HR.out with ⟨e1, -, e2⟩ | ⟨B9, b, ov9, F9, e1, -⟩
          · have h1 := HZZ.out.trans hz
            rw [e2] at h1
            cases h1
          · subst e1
            obtain ⟨hC, hB⟩ := HC.out b rfl
            obtain ⟨g1, g2, g3⟩ := cand_has (HZZ.out.trans hz) HXR.out
            dsimp only at g1 g2 g3
            rw [← g2] at g3
            have hXN := HXN.out
            have kd := fun (hh : R9 w6 M 0 ⟨⟨rk, rs, rt, rv, rtier, ⟨rc, rst, rq⟩, rd⟩, ra, rcc⟩) => due_is (hC.later HB6.out) ⟨⟨rk, rs, rt, rv, rtier, ⟨rc, rst, rq⟩, rd⟩, ra, rcc⟩ (Ns.later hXN HB6.out) (by dsimp only; rw [g2]; exact HI.out)
            unfold recV Rd.dv at kd
            dsimp only at kd
            obtain ⟨p0, p1, p2, p3, p4, p5, p6, p7, p8⟩ := id hR6
            dsimp only [Nat.zero_add] at p0 p1 p2 p3 p4 p5 p6 p7 p8
            cases hd : dueB S ⟨rk, rs, rt, rv, rtier, ⟨rc, rst, rq⟩, rd⟩ with
            | false =>
              have HSTEP := Lib.hid (show nextR S = firstC S (k + 1) (8 - (k + 1)) from by rw [HEQ.out]; exact firstC_miss hk8 (by rw [← g2]; exact cand_not g3 hd))
              rw [hd] at kd
              have hR := hR6
              clear hw6 hN6 hb56 hHeld hz HZZ hd g1 g2 g3 hXN
              go_wp2_with (go_at_call 34; (with_reducible refine (kd hR).mono ?_); rintro e w7 ⟨rfl, hb7⟩; (have HB7 := Lib.hid hb7); clear hb7)
              have HB8 := Lib.hid (bel_next HB6.out HB7.out)
              have HO8 := Lib.hid (HO6.out.below HB7.out)
              go_roundw
              case rel => exact ⟨k + 1, by omega, by go_num, Lib.hid ⟨HB8.out, HO8.out, HSTEP.out⟩⟩
              case measure => simp [intOf]; omega
            | true =>
              have HNR := Lib.hid (show nextR S = some ⟨rk, rs, rt, rv, rtier, ⟨rc, rst, rq⟩, rd⟩ from by rw [HEQ.out]; exact firstC_hit hk8 (by rw [← g2]; exact cand_yes g3 hd))
              have hqs : rq = sq := by have h8 := (dueB_iff.1 hd).1; dsimp only at h8; rw [g2, HSQ.out] at h8; exact h8
              have HNS := Lib.hid (show nextS S = ⟨S.room, withL S.out (k : Int) sq, delL S.L (k : Int) sq⟩ from by rw [nextS_some HNR.out]; dsimp only; rw [g2, hqs])
              have HQS := Lib.hid hqs
              have HGN := Lib.hid (show CGood ⟨S.room, withL S.out (k : Int) sq, delL S.L (k : Int) sq⟩ from by have := hC.good.next; rw [HNS.out] at this; exact this)
              rw [hd] at kd
              have hR := hR6
              obtain ⟨m, rfl⟩ : ∃ m, mv = some m := by
                cases mv with
                | none => rw [hC.none_ rfl] at g1; cases g1
                | some m => exact ⟨m, rfl⟩
              have HFP := Lib.hid hC.fp
              have HBB := Lib.hid hB
              have HBL := Lib.hid hC.lt
              have HNL := Lib.hid (show w.heap.size ≤ N from HNL5.out)
              have hown := HXO.out b rfl
              have HOWN := Lib.hid hown
              have kw := fun (W : World) (h : Ns W ov S.out) => withF_is ov S.out (k : Int) sq _ W h
              have G1 := Lib.hid g1
              have G2 := Lib.hid g2
              clear hw6 hb56 hHeld hz HZZ hd hqs g1 g2 g3 hown HXO
              go_upto_region 7 with (go_at_call 34; (with_reducible refine (kd hR).mono ?_); rintro e w7 ⟨rfl, hb7⟩; (have HB7 := Lib.hid hb7); clear hb7)
              have h7 := (hC.later (bel_next HB6.out HB7.out)).later (Below.refl _ _).drew
              obtain ⟨w8, hrun, hc8, hkk, hfr8⟩ := h7.drop (r := ⟨rk, rs, rt, rv, rtier, ⟨rc, rst, rq⟩, rd⟩) G1.out 0
              dsimp only at hrun hc8
              rw [G2.out, HQS.out] at hrun hc8
              have b2 := h7.c2
              rw [show w7.drew.cell? ⟨b, 2, none⟩ = w7.cell? ⟨b, 2, none⟩ from rfl] at b2
              have HL7 := Lib.hid (show w.heap.size < w7.heap.size from (HO6.out.below HB7.out).room)
              have HC8 := Lib.hid hc8
              have HFR8 := Lib.hid ((FrF.of (F := F) (bel_next HB6.out HB7.out).drew).next hfr8 fun _ _ h => h)
              have hmF := (hC.fp m (hC.some_ m rfl).1).2
              have hn7 := (hN6.later HB7.out)
              have HOUT8 := Lib.hid (recw_same (HO6.out.below HB7.out) (hkk w.heap.size (by omega) (HO6.out.below HB7.out).room))
              have HR8 := Lib.hid (R9.other (R9.later hR6 HB7.out) (hkk M (by have := HML.out; omega) (R9.later hR6 HB7.out).room))
              have N8 := hn7.off (hkk N (by have := HNL.out; omega) hn7.lt) hfr8.size
              have HX8 := Lib.hid (Ns.off (Ns.later hXN (bel_next HB6.out HB7.out)) hfr8.size fun hd q hq hl => hkk q (fun e => (HOWN.out hd q hq).2.2 (by rw [e])) hl)
              have HS8 := Lib.hid hfr8.size
              have HGF := Lib.hid (show ∀ q, F q → B ≤ q ∧ q < w.heap.size from hC.fp)
              obtain ⟨m0, m1, mf0, mf1, mlt⟩ := id hn7
              unfold kV at hrun
              clear h7 hc8 hkk hfr8 hn7 hXN hC hB
              refine still_tail 5 (by kernel_rfl) (by kernel_rfl) ?_
              simp only [List.take_succ_cons, List.take_zero, List.drop_succ_cons, List.drop_zero]
              repeat still_step
              refine wpStill_nil ?_
              go_wp2
              have c18 := HC8.out.c1
              have f18 := HC8.out.fz 1
              refine wp_region_held_drew (S := (fun X : World => N2 X N (k : Int) sq)) (by kernel_rfl) N8.drew9 (fun hHeld => ?_)
              refine wpAnyH_take (i := 0) (oi := ?ma1o) (v := ?ma1v) ?ma1h (by kernel_rfl) (by kernel_rfl) (by kernel_rfl) ?ma1q ?ma1y hHeld ?ma1r
              case ma1h => (simp only [List.getElem?_toArray, List.getElem?_cons_zero]; rfl)
              case ma1q => exact fun _ _ _ h => h
              case ma1y => (refine Or.inl ⟨by first | kernel_rfl | rfl, ?_⟩; intro w hSw; (try dsimp only at hSw); obtain ⟨n0, n1, nf0, nf1, nlt⟩ := hSw; go_simp <;> (try with_reducible rfl))
              try simp only [Act.put, List.setIfInBounds_toArray, List.set_cons_zero, List.set_cons_succ]
              refine wpAnyH_take (i := 1) (oi := ?ma2o) (v := ?ma2v) ?ma2h (by kernel_rfl) (by kernel_rfl) (by kernel_rfl) ?ma2q ?ma2y hHeld ?ma2r
              case ma2h => (simp only [List.getElem?_toArray, List.getElem?_cons_succ, List.getElem?_cons_zero]; rfl)
              case ma2q => exact fun _ _ _ h => h
              case ma2y => (refine Or.inl ⟨by first | kernel_rfl | rfl, ?_⟩; intro w hSw; (try dsimp only at hSw); obtain ⟨n0, n1, nf0, nf1, nlt⟩ := hSw; go_simp <;> (try with_reducible rfl))
              try simp only [Act.put, List.setIfInBounds_toArray, List.set_cons_zero, List.set_cons_succ]
              refine wpAnyH_take (i := 2) (oi := ?ma3o) (v := ?ma3v) ?ma3h (by kernel_rfl) (by kernel_rfl) (by kernel_rfl) ?ma3q ?ma3y hHeld ?ma3r
              case ma3h => (simp only [List.getElem?_toArray, List.getElem?_cons_succ, List.getElem?_cons_zero]; rfl)
              case ma3q => exact fun _ _ _ h => h
              case ma3y => (refine Or.inl ⟨by first | kernel_rfl | rfl, ?_⟩; intro w hSw; (try dsimp only at hSw); obtain ⟨n0, n1, nf0, nf1, nlt⟩ := hSw; go_simp <;> (try with_reducible rfl))
              try simp only [Act.put, List.setIfInBounds_toArray, List.set_cons_zero, List.set_cons_succ]
              refine wpAnyH_take (i := 3) (oi := ?ma4o) (v := ?ma4v) ?ma4h (by kernel_rfl) (by kernel_rfl) (by kernel_rfl) ?ma4q ?ma4y hHeld ?ma4r
              case ma4h => (simp only [List.getElem?_toArray, List.getElem?_cons_succ, List.getElem?_cons_zero]; rfl)
              case ma4q => exact fun _ _ _ h => h
              case ma4y => (refine Or.inl ⟨by first | kernel_rfl | rfl, ?_⟩; intro w hSw; (try dsimp only at hSw); obtain ⟨n0, n1, nf0, nf1, nlt⟩ := hSw; go_simp <;> (try with_reducible rfl))
              try simp only [Act.put, List.setIfInBounds_toArray, List.set_cons_zero, List.set_cons_succ]
              refine wpAnyH_take (i := 5) (oi := ?ma5o) (v := ?ma5v) ?ma5h (by kernel_rfl) (by kernel_rfl) (by kernel_rfl) ?ma5q ?ma5y hHeld ?ma5r
              case ma5h => (simp only [List.getElem?_toArray, List.getElem?_cons_succ, List.getElem?_cons_zero]; rfl)
              case ma5q => exact fun _ _ _ h => h
              case ma5y => (refine Or.inl ⟨by first | kernel_rfl | rfl, ?_⟩; intro w hSw; (try dsimp only at hSw); obtain ⟨n0, n1, nf0, nf1, nlt⟩ := hSw; go_simp <;> (try with_reducible rfl))
              try simp only [Act.put, List.setIfInBounds_toArray, List.set_cons_zero, List.set_cons_succ]
              refine wpAnyH_take (i := 6) (oi := ?ma6o) (v := ?ma6v) ?ma6h (by kernel_rfl) (by kernel_rfl) (by kernel_rfl) ?ma6q ?ma6y hHeld ?ma6r
              case ma6h => (simp only [List.getElem?_toArray, List.getElem?_cons_succ, List.getElem?_cons_zero]; rfl)
              case ma6q => exact fun _ _ _ h => h
              case ma6y => (refine Or.inl ⟨by first | kernel_rfl | rfl, ?_⟩; intro w hSw; (try dsimp only at hSw); obtain ⟨n0, n1, nf0, nf1, nlt⟩ := hSw; go_simp <;> (try with_reducible rfl))
              try simp only [Act.put, List.setIfInBounds_toArray, List.set_cons_zero, List.set_cons_succ]
              refine wpAnyH_take (i := 7) (oi := ?ma7o) (v := ?ma7v) ?ma7h (by kernel_rfl) (by kernel_rfl) (by kernel_rfl) ?ma7q ?ma7y hHeld ?ma7r
              case ma7h => (simp only [List.getElem?_toArray, List.getElem?_cons_succ, List.getElem?_cons_zero]; rfl)
              case ma7q => exact fun _ _ _ h => h
              case ma7y => (refine Or.inl ⟨by first | kernel_rfl | rfl, ?_⟩; intro w hSw; (try dsimp only at hSw); obtain ⟨n0, n1, nf0, nf1, nlt⟩ := hSw; go_simp <;> (try with_reducible rfl))
              try simp only [Act.put, List.setIfInBounds_toArray, List.set_cons_zero, List.set_cons_succ]
              refine wpAnyH_ready (rs := [4]) (by kernel_rfl) (by simp) ?_
              refine (AllReadyH.cons rfl (fun K hK => ?_) AllReadyH.nil)
              go_simp
              skip
              refine hK.out _ _ (hHeld) (fun hHeld => ?_)
              clear hK K
              try simp only [Act.put, List.setIfInBounds_toArray, List.set_cons_zero, List.set_cons_succ]
              refine wpAnyH_ready (rs := [8]) (by kernel_rfl) (by simp) ?_
              refine (AllReadyH.cons rfl (fun K hK => ?_) AllReadyH.nil)
              go_simp
              (go_at_call 35; (with_reducible refine (kw _ (Ns.later HC8.out.ns (Below.refl _ _).drew)).mono ?_); rintro e w9 ⟨v9, rfl, hn9, hb9, hf9⟩; (obtain ⟨a9, c9, rfl⟩ := hn9.slice); (have HB9 := Lib.hid (bel_next (Below.refl _ _).drew hb9)); (have HN9 := Lib.hid hn9); (have HF9 := Lib.hid hf9); (have h9 := HC8.out.later HB9.out); (have hc19 := h9.c1); (have hf19 := h9.fz 1); (have N9 := hHeld.later hb9); clear h9 hn9 hb9 hf9)
              refine hK.out _ _ (N9) (fun hHeld => ?_)
              clear hK K
              try simp only [Act.put, List.setIfInBounds_toArray, List.set_cons_zero, List.set_cons_succ]
              refine wpAnyH_take (i := 9) (oi := ?ma8o) (v := ?ma8v) ?ma8h (by kernel_rfl) (by kernel_rfl) (by kernel_rfl) ?ma8q ?ma8y hHeld ?ma8r
              case ma8h => (simp only [List.getElem?_toArray, List.getElem?_cons_succ, List.getElem?_cons_zero]; rfl)
              case ma8q => exact fun _ _ _ h => h
              case ma8y => (refine Or.inl ⟨by first | kernel_rfl | rfl, ?_⟩; intro w hSw; (try dsimp only at hSw); obtain ⟨n0, n1, nf0, nf1, nlt⟩ := hSw; go_simp <;> (try with_reducible rfl))
              try simp only [Act.put, List.setIfInBounds_toArray, List.set_cons_zero, List.set_cons_succ]
              refine wpAnyH_take (i := 10) (oi := ?ma9o) (v := ?ma9v) ?ma9h (by kernel_rfl) (by kernel_rfl) (by kernel_rfl) ?ma9q ?ma9y hHeld ?ma9r
              case ma9h => (simp only [List.getElem?_toArray, List.getElem?_cons_succ, List.getElem?_cons_zero]; rfl)
              case ma9q => exact fun _ _ _ h => h
              case ma9y => (refine Or.inl ⟨by first | kernel_rfl | rfl, ?_⟩; intro w hSw; (try dsimp only at hSw); obtain ⟨n0, n1, nf0, nf1, nlt⟩ := hSw; go_simp <;> (try with_reducible rfl))
              try simp only [Act.put, List.setIfInBounds_toArray, List.set_cons_zero, List.set_cons_succ]
              refine wpAnyH_ready (rs := [11]) (by kernel_rfl) (by simp) ?_
              refine (AllReadyH.cons rfl (fun K hK => ?_) AllReadyH.nil)
              go_simp
              skip
              refine hK.out _ _ ((N9.off (World.heap_setCell_off _ _ _ _ _ (by have := HBL.out; have := HNL.out; omega)) (by simp))) (fun hHeld => ?_)
              clear hK K
              try simp only [Act.put]
              refine wpAnyH_done (by kernel_rfl) ?_ _
              have HC9 := Lib.hid ((HC8.out.later HB9.out).setOut (w7 := w7) (C := w.heap.size) HGF.out HN9.out (fun q hq => ⟨by have h8 := (HF9.out q hq).1; have h7 := HS8.out; simp only [World.size_drew] at h8 h7; omega, (HF9.out q hq).2⟩) (Nat.le_of_lt HL7.out) HBB.out HGN.out)
              have hout9 := HOUT8.out.below HB9.out
              have hrec9 := R9.later HR8.out HB9.out
              have HX9 := Lib.hid (Ns.later HX8.out HB9.out)
              have hlt9 : w.heap.size < w9.heap.size := hout9.room
              obtain ⟨wA, hwA⟩ : ∃ x, w9.setCell ⟨b, 1, none⟩ (.slice a9 (withL S.out (k : Int) sq).length c9) = x := ⟨_, rfl⟩
              have ho2 : wA.heap[w.heap.size]? = w9.heap[w.heap.size]? := by rw [← hwA]; exact World.heap_setCell_off _ _ _ _ _ (by have := HBL.out; omega)
              have hr2 : wA.heap[M]? = w9.heap[M]? := by rw [← hwA]; exact World.heap_setCell_off _ _ _ _ _ (by have := HBL.out; have := HML.out; omega)
              have hsz : wA.heap.size = w9.heap.size := by rw [← hwA]; simp
              have HFRA := Lib.hid (HFR8.out.next (FrF.set9 (F := F) HB9.out hwA HC8.out.bF) fun _ _ h => h)
              have HNXA := Lib.hid (show Ns wA (.slice ra rd.length rcc) rd from Ns.off HX9.out (by omega) fun hd q hq _ => by rw [← hwA]; exact World.heap_setCell_off _ _ _ _ _ (HOWN.out hd q hq).2.1)
              rw [hwA] at HC9 ⊢
              have HCA := Lib.hid HC9.out
              obtain ⟨⟨s0, s1, s2, s3, s4, s5, s6, s7, s8⟩, t0, t1, t2, t3, t4, t5, t6, t7, t8⟩ := recw_same hout9 ho2
              obtain ⟨p0, p1, p2, p3, p4, p5, p6, p7, p8⟩ := R9.other hrec9 hr2
              dsimp only [Nat.zero_add] at p0 p1 p2 p3 p4 p5 p6 p7 p8
              dsimp only [Rec.zero] at s0 s1 s2 s3 s4 s5 s6 s7 s8
              have hMne : ¬ M = w.heap.size := by have := HML.out; omega
              have hMne2 : ¬ w.heap.size = M := by have := HML.out; omega
              have HSZA := Lib.hid hsz
              have HLT := Lib.hid (show w.heap.size < wA.heap.size by omega)
              have HGW := Lib.hid (show ∀ q, grow F w7 w9 q → q ≠ w.heap.size from fun q hq => hq.elim (fun h => by have := (HFP.out q h).2; omega) (fun h => by have := HL7.out; omega))
              clear hwA hout9 hrec9 hsz ho2 hr2 HC9 N9 hc19 hf19
              go_wp2
              refine bodyPost_ret (v := .tuple #[recV ⟨rk, rs, rt, rv, rtier, ⟨rc, rst, rq⟩, rd⟩ (.slice ra rd.length rcc), .bool true]) (by unfold recV; simp [results, Try.results12, go_sem, s0, s1, s2, s3, s4, s5, s6, s7, s8]; try rfl) rfl ⟨⟨⟨rk, rs, rt, rv, rtier, ⟨rc, rst, rq⟩, rd⟩, ra, rcc⟩, ?_, ?_, ?_, Or.inr ⟨b, rfl, ?_, ?_, ?_⟩⟩
              · rw [HNR.out]; rfl
              · rw [HNR.out]; rfl
              · exact Ns.off HNXA.out (by simp) fun hd q hq _ => nine_off wA w.heap.size q (fun e => by have := (HFP.out q (HOWN.out hd q hq).1).2; omega) _ _ _ _ _ _ _ _ _
              · rw [HNS.out]
                exact (HCA.out.buf.off (G := fun q => q = w.heap.size) (nine_fr wA w.heap.size _ _ _ _ _ _ _ _ _) (fun q hq e => HGW.out q hq e)).wide (fun q hq => hq.imp id fun h => ⟨by have := HL7.out; omega, by simp only [World.size_setCell]; have := HSZA.out; omega⟩) (grow_fp HFP.out HBB.out (by simp only [World.size_setCell]; have := HLT.out; omega))
              · refine HFRA.out.next (nine_fr wA w.heap.size _ _ _ _ _ _ _ _ _) fun q hq e => absurd e (by omega)
              · intro hd q hq
                exact Or.inl (HOWN.out hd q hq).1
      ·
        go_simp
        skip
        refine hK.out _ _ (hHeld.alloc _) (fun hHeld => ?_)
        clear hK K
        try simp only [Act.put, List.setIfInBounds_toArray, List.set_cons_zero, List.set_cons_succ]
        refine wpAnyH_ready (rs := [1]) (by kernel_rfl) (by simp) ?_
        refine (AllReadyH.cons rfl (fun K hK => ?_) AllReadyH.nil)
        go_simp
        (go_at_call 33; (with_reducible refine (ka _ (bel_next HW.out hHeld.bel)).mono ?_); rintro e w9 ⟨rfl, rfl⟩)
        refine hK.out _ _ (hHeld) (fun hHeld => ?_)
        clear hK K
        try simp only [Act.put, List.setIfInBounds_toArray, List.set_cons_zero, List.set_cons_succ]
        refine wpAnyH_take (i := 3) (oi := ?r8o) (v := ?r8v) ?r8h (by kernel_rfl) (by kernel_rfl) (by kernel_rfl) ?r8q ?r8y hHeld ?r8r
        case r8h => (simp only [List.getElem?_toArray, List.getElem?_cons_succ, List.getElem?_cons_zero]; rfl)
        case r8q => exact fun _ _ _ h => h
        case r8y => (refine Or.inl ⟨by first | kernel_rfl | rfl, ?_⟩; intro w hSw; (try dsimp only at hSw); obtain ⟨⟨x0, x1, f0, f1, lt0⟩, -, hb7⟩ := hSw; have hl := hlk _ (bel_next HW.out hb7); go_simp <;> (try with_reducible rfl))
        try simp only [Act.put, List.setIfInBounds_toArray, List.set_cons_zero, List.set_cons_succ]
        refine wpAnyH_take (i := 4) (oi := ?r9o) (v := ?r9v) ?r9h (by kernel_rfl) (by kernel_rfl) (by kernel_rfl) ?r9q ?r9y hHeld ?r9r
        case r9h => (simp only [List.getElem?_toArray, List.getElem?_cons_succ, List.getElem?_cons_zero]; rfl)
        case r9q => exact fun _ _ _ h => h
        case r9y => (refine Or.inl ⟨by first | kernel_rfl | rfl, ?_⟩; intro w hSw; (try dsimp only at hSw); obtain ⟨⟨x0, x1, f0, f1, lt0⟩, -, hb7⟩ := hSw; have hl := hlk _ (bel_next HW.out hb7); go_simp <;> (try with_reducible rfl))
        try simp only [Act.put, List.setIfInBounds_toArray, List.set_cons_zero, List.set_cons_succ]
        refine wpAnyH_take (i := 5) (oi := ?r10o) (v := ?r10v) ?r10h (by kernel_rfl) (by kernel_rfl) (by kernel_rfl) ?r10q ?r10y hHeld ?r10r
        case r10h => (simp only [List.getElem?_toArray, List.getElem?_cons_succ, List.getElem?_cons_zero]; rfl)
        case r10q => exact fun _ _ _ h => h
        case r10y => (refine Or.inl ⟨by first | kernel_rfl | rfl, ?_⟩; intro w hSw; (try dsimp only at hSw); obtain ⟨⟨x0, x1, f0, f1, lt0⟩, -, hb7⟩ := hSw; have hl := hlk _ (bel_next HW.out hb7); go_simp <;> (try with_reducible rfl))
        try simp only [Act.put, List.setIfInBounds_toArray, List.set_cons_zero, List.set_cons_succ]
        refine wpAnyH_take (i := 6) (oi := ?r11o) (v := ?r11v) ?r11h (by kernel_rfl) (by kernel_rfl) (by kernel_rfl) ?r11q ?r11y hHeld ?r11r
        case r11h => (simp only [List.getElem?_toArray, List.getElem?_cons_succ, List.getElem?_cons_zero]; rfl)
        case r11q => exact fun _ _ _ h => h
        case r11y => (refine Or.inl ⟨by first | kernel_rfl | rfl, ?_⟩; intro w hSw; (try dsimp only at hSw); obtain ⟨⟨x0, x1, f0, f1, lt0⟩, -, hb7⟩ := hSw; have hl := hlk _ (bel_next HW.out hb7); go_simp <;> (try with_reducible rfl))
        try simp only [Act.put, List.setIfInBounds_toArray, List.set_cons_zero, List.set_cons_succ]
        refine wpAnyH_ready (rs := [8]) (by kernel_rfl) (by simp) ?_
        refine (AllReadyH.cons rfl (fun K hK => ?_) AllReadyH.nil)
        go_simp
        skip
        refine hK.out _ _ (((HNX.alloc _).drew)) (fun hHeld => ?_)
        clear hK K
        try simp only [Act.put]
        refine wpAnyH_take (i := 9) (oi := ?r12o) (v := ?r12v) ?r12h (by kernel_rfl) (by kernel_rfl) (by kernel_rfl) ?r12q ?r12y hHeld ?r12r
        case r12h => (simp only [List.getElem?_toArray, List.getElem?_cons_succ, List.getElem?_cons_zero]; rfl)
        case r12q => exact fun _ _ _ h => h
        case r12y => (refine Or.inl ⟨by first | kernel_rfl | rfl, ?_⟩; intro w hSw; (try dsimp only at hSw); obtain ⟨⟨x0, x1, f0, f1, lt0⟩, -, hb7⟩ := hSw; have hl := hlk _ (bel_next HW.out hb7); go_simp <;> (try with_reducible rfl))
        try simp only [Act.put, List.setIfInBounds_toArray, List.set_cons_zero, List.set_cons_succ]
        refine wpAnyH_done (by kernel_rfl) ?_ _
        obtain ⟨w6, hw6⟩ : ∃ x, (w5.alloc (.cells #[.int .i64 rk, .string rs, .int .i64 rt, .int .i64 rv, .int .i64 rtier, .int .i64 rc, .int .i64 rst, .int .i64 rq, .slice ra rd.length rcc] 33)).drew = x := ⟨_, rfl⟩
        have hb56 : Below w5.heap.size w5 w6 := by rw [← hw6]; exact ((Below.refl _ _).alloc (Nat.le_refl _) _).drew
        have hR6 : R9 w6 M 0 ⟨⟨rk, rs, rt, rv, rtier, ⟨rc, rst, rq⟩, rd⟩, ra, rcc⟩ := by rw [← hw6, ← HSZ5.out]; exact R9.later (R9.new w5 ⟨⟨rk, rs, rt, rv, rtier, ⟨rc, rst, rq⟩, rd⟩, ra, rcc⟩) (Below.refl _ _).drew
        have hN6 := HN5.out.later hb56
        have HB6 := Lib.hid (bel_next HW.out hb56)
        have HO6 := Lib.hid (HO5.out.below hb56)
        have HML := Lib.hid (show w.heap.size < M by have := HO5.out.room; have := HSZ5.out; omega)
        rw [hw6, HSZ5.out]
        cases hz : zz with
        | false =>
          have HSTEP := Lib.hid (show nextR S = firstC S (k + 1) (8 - (k + 1)) from by rw [HEQ.out]; exact firstC_miss hk8 (cand_none (HZZ.out.trans hz)))
          have HB8 := HB6
          have HO8 := HO6
          clear hw6 hR6 hN6 hb56 hHeld hz HZZ
          go_wp2
          go_roundw
          case rel => exact ⟨k + 1, by omega, by go_num, Lib.hid ⟨HB8.out, HO8.out, HSTEP.out⟩⟩
          case measure => simp [intOf]; omega
        | true =>
          rcases HR.out with ⟨e1, -, e2⟩ | ⟨B9, b, ov9, F9, e1, -⟩
          · have h1 := HZZ.out.trans hz
            rw [e2] at h1
            cases h1
          · subst e1
            obtain ⟨hC, hB⟩ := HC.out b rfl
            obtain ⟨g1, g2, g3⟩ := cand_has (HZZ.out.trans hz) HXR.out
            dsimp only at g1 g2 g3
            rw [← g2] at g3
            have hXN := HXN.out
            have kd := fun (hh : R9 w6 M 0 ⟨⟨rk, rs, rt, rv, rtier, ⟨rc, rst, rq⟩, rd⟩, ra, rcc⟩) => due_is (hC.later HB6.out) ⟨⟨rk, rs, rt, rv, rtier, ⟨rc, rst, rq⟩, rd⟩, ra, rcc⟩ (Ns.later hXN HB6.out) (by dsimp only; rw [g2]; exact HI.out)
            unfold recV Rd.dv at kd
            dsimp only at kd
            obtain ⟨p0, p1, p2, p3, p4, p5, p6, p7, p8⟩ := id hR6
            dsimp only [Nat.zero_add] at p0 p1 p2 p3 p4 p5 p6 p7 p8
            cases hd : dueB S ⟨rk, rs, rt, rv, rtier, ⟨rc, rst, rq⟩, rd⟩ with
            | false =>
              have HSTEP := Lib.hid (show nextR S = firstC S (k + 1) (8 - (k + 1)) from by rw [HEQ.out]; exact firstC_miss hk8 (by rw [← g2]; exact cand_not g3 hd))
              rw [hd] at kd
              have hR := hR6
              clear hw6 hN6 hb56 hHeld hz HZZ hd g1 g2 g3 hXN
              go_wp2_with (go_at_call 34; (with_reducible refine (kd hR).mono ?_); rintro e w7 ⟨rfl, hb7⟩; (have HB7 := Lib.hid hb7); clear hb7)
              have HB8 := Lib.hid (bel_next HB6.out HB7.out)
              have HO8 := Lib.hid (HO6.out.below HB7.out)
              go_roundw
              case rel => exact ⟨k + 1, by omega, by go_num, Lib.hid ⟨HB8.out, HO8.out, HSTEP.out⟩⟩
              case measure => simp [intOf]; omega
            | true =>
              have HNR := Lib.hid (show nextR S = some ⟨rk, rs, rt, rv, rtier, ⟨rc, rst, rq⟩, rd⟩ from by rw [HEQ.out]; exact firstC_hit hk8 (by rw [← g2]; exact cand_yes g3 hd))
              have hqs : rq = sq := by have h8 := (dueB_iff.1 hd).1; dsimp only at h8; rw [g2, HSQ.out] at h8; exact h8
              have HNS := Lib.hid (show nextS S = ⟨S.room, withL S.out (k : Int) sq, delL S.L (k : Int) sq⟩ from by rw [nextS_some HNR.out]; dsimp only; rw [g2, hqs])
              have HQS := Lib.hid hqs
              have HGN := Lib.hid (show CGood ⟨S.room, withL S.out (k : Int) sq, delL S.L (k : Int) sq⟩ from by have := hC.good.next; rw [HNS.out] at this; exact this)
              rw [hd] at kd
              have hR := hR6
              obtain ⟨m, rfl⟩ : ∃ m, mv = some m := by
                cases mv with
                | none => rw [hC.none_ rfl] at g1; cases g1
                | some m => exact ⟨m, rfl⟩
              have HFP := Lib.hid hC.fp
              have HBB := Lib.hid hB
              have HBL := Lib.hid hC.lt
              have HNL := Lib.hid (show w.heap.size ≤ N from HNL5.out)
              have hown := HXO.out b rfl
              have HOWN := Lib.hid hown
              have kw := fun (W : World) (h : Ns W ov S.out) => withF_is ov S.out (k : Int) sq _ W h
              have G1 := Lib.hid g1
              have G2 := Lib.hid g2
              clear hw6 hb56 hHeld hz HZZ hd hqs g1 g2 g3 hown HXO
              go_upto_region 7 with (go_at_call 34; (with_reducible refine (kd hR).mono ?_); rintro e w7 ⟨rfl, hb7⟩; (have HB7 := Lib.hid hb7); clear hb7)
              have h7 := (hC.later (bel_next HB6.out HB7.out)).later (Below.refl _ _).drew
              obtain ⟨w8, hrun, hc8, hkk, hfr8⟩ := h7.drop (r := ⟨rk, rs, rt, rv, rtier, ⟨rc, rst, rq⟩, rd⟩) G1.out 0
              dsimp only at hrun hc8
              rw [G2.out, HQS.out] at hrun hc8
              have b2 := h7.c2
              rw [show w7.drew.cell? ⟨b, 2, none⟩ = w7.cell? ⟨b, 2, none⟩ from rfl] at b2
              have HL7 := Lib.hid (show w.heap.size < w7.heap.size from (HO6.out.below HB7.out).room)
              have HC8 := Lib.hid hc8
              have HFR8 := Lib.hid ((FrF.of (F := F) (bel_next HB6.out HB7.out).drew).next hfr8 fun _ _ h => h)
              have hmF := (hC.fp m (hC.some_ m rfl).1).2
              have hn7 := (hN6.later HB7.out)
              have HOUT8 := Lib.hid (recw_same (HO6.out.below HB7.out) (hkk w.heap.size (by omega) (HO6.out.below HB7.out).room))
              have HR8 := Lib.hid (R9.other (R9.later hR6 HB7.out) (hkk M (by have := HML.out; omega) (R9.later hR6 HB7.out).room))
              have N8 := hn7.off (hkk N (by have := HNL.out; omega) hn7.lt) hfr8.size
              have HX8 := Lib.hid (Ns.off (Ns.later hXN (bel_next HB6.out HB7.out)) hfr8.size fun hd q hq hl => hkk q (fun e => (HOWN.out hd q hq).2.2 (by rw [e])) hl)
              have HS8 := Lib.hid hfr8.size
              have HGF := Lib.hid (show ∀ q, F q → B ≤ q ∧ q < w.heap.size from hC.fp)
              obtain ⟨m0, m1, mf0, mf1, mlt⟩ := id hn7
              unfold kV at hrun
              clear h7 hc8 hkk hfr8 hn7 hXN hC hB
              refine still_tail 5 (by kernel_rfl) (by kernel_rfl) ?_
              simp only [List.take_succ_cons, List.take_zero, List.drop_succ_cons, List.drop_zero]
              repeat still_step
              refine wpStill_nil ?_
              go_wp2
              have c18 := HC8.out.c1
              have f18 := HC8.out.fz 1
              refine wp_region_held_drew (S := (fun X : World => N2 X N (k : Int) sq)) (by kernel_rfl) N8.drew9 (fun hHeld => ?_)
              refine wpAnyH_take (i := 0) (oi := ?mb1o) (v := ?mb1v) ?mb1h (by kernel_rfl) (by kernel_rfl) (by kernel_rfl) ?mb1q ?mb1y hHeld ?mb1r
              case mb1h => (simp only [List.getElem?_toArray, List.getElem?_cons_zero]; rfl)
              case mb1q => exact fun _ _ _ h => h
              case mb1y => (refine Or.inl ⟨by first | kernel_rfl | rfl, ?_⟩; intro w hSw; (try dsimp only at hSw); obtain ⟨n0, n1, nf0, nf1, nlt⟩ := hSw; go_simp <;> (try with_reducible rfl))
              try simp only [Act.put, List.setIfInBounds_toArray, List.set_cons_zero, List.set_cons_succ]
              refine wpAnyH_take (i := 1) (oi := ?mb2o) (v := ?mb2v) ?mb2h (by kernel_rfl) (by kernel_rfl) (by kernel_rfl) ?mb2q ?mb2y hHeld ?mb2r
              case mb2h => (simp only [List.getElem?_toArray, List.getElem?_cons_succ, List.getElem?_cons_zero]; rfl)
              case mb2q => exact fun _ _ _ h => h
              case mb2y => (refine Or.inl ⟨by first | kernel_rfl | rfl, ?_⟩; intro w hSw; (try dsimp only at hSw); obtain ⟨n0, n1, nf0, nf1, nlt⟩ := hSw; go_simp <;> (try with_reducible rfl))
              try simp only [Act.put, List.setIfInBounds_toArray, List.set_cons_zero, List.set_cons_succ]
              refine wpAnyH_take (i := 2) (oi := ?mb3o) (v := ?mb3v) ?mb3h (by kernel_rfl) (by kernel_rfl) (by kernel_rfl) ?mb3q ?mb3y hHeld ?mb3r
              case mb3h => (simp only [List.getElem?_toArray, List.getElem?_cons_succ, List.getElem?_cons_zero]; rfl)
              case mb3q => exact fun _ _ _ h => h
              case mb3y => (refine Or.inl ⟨by first | kernel_rfl | rfl, ?_⟩; intro w hSw; (try dsimp only at hSw); obtain ⟨n0, n1, nf0, nf1, nlt⟩ := hSw; go_simp <;> (try with_reducible rfl))
              try simp only [Act.put, List.setIfInBounds_toArray, List.set_cons_zero, List.set_cons_succ]
              refine wpAnyH_take (i := 3) (oi := ?mb4o) (v := ?mb4v) ?mb4h (by kernel_rfl) (by kernel_rfl) (by kernel_rfl) ?mb4q ?mb4y hHeld ?mb4r
              case mb4h => (simp only [List.getElem?_toArray, List.getElem?_cons_succ, List.getElem?_cons_zero]; rfl)
              case mb4q => exact fun _ _ _ h => h
              case mb4y => (refine Or.inl ⟨by first | kernel_rfl | rfl, ?_⟩; intro w hSw; (try dsimp only at hSw); obtain ⟨n0, n1, nf0, nf1, nlt⟩ := hSw; go_simp <;> (try with_reducible rfl))
              try simp only [Act.put, List.setIfInBounds_toArray, List.set_cons_zero, List.set_cons_succ]
              refine wpAnyH_take (i := 5) (oi := ?mb5o) (v := ?mb5v) ?mb5h (by kernel_rfl) (by kernel_rfl) (by kernel_rfl) ?mb5q ?mb5y hHeld ?mb5r
              case mb5h => (simp only [List.getElem?_toArray, List.getElem?_cons_succ, List.getElem?_cons_zero]; rfl)
              case mb5q => exact fun _ _ _ h => h
              case mb5y => (refine Or.inl ⟨by first | kernel_rfl | rfl, ?_⟩; intro w hSw; (try dsimp only at hSw); obtain ⟨n0, n1, nf0, nf1, nlt⟩ := hSw; go_simp <;> (try with_reducible rfl))
              try simp only [Act.put, List.setIfInBounds_toArray, List.set_cons_zero, List.set_cons_succ]
              refine wpAnyH_take (i := 6) (oi := ?mb6o) (v := ?mb6v) ?mb6h (by kernel_rfl) (by kernel_rfl) (by kernel_rfl) ?mb6q ?mb6y hHeld ?mb6r
              case mb6h => (simp only [List.getElem?_toArray, List.getElem?_cons_succ, List.getElem?_cons_zero]; rfl)
              case mb6q => exact fun _ _ _ h => h
              case mb6y => (refine Or.inl ⟨by first | kernel_rfl | rfl, ?_⟩; intro w hSw; (try dsimp only at hSw); obtain ⟨n0, n1, nf0, nf1, nlt⟩ := hSw; go_simp <;> (try with_reducible rfl))
              try simp only [Act.put, List.setIfInBounds_toArray, List.set_cons_zero, List.set_cons_succ]
              refine wpAnyH_take (i := 7) (oi := ?mb7o) (v := ?mb7v) ?mb7h (by kernel_rfl) (by kernel_rfl) (by kernel_rfl) ?mb7q ?mb7y hHeld ?mb7r
              case mb7h => (simp only [List.getElem?_toArray, List.getElem?_cons_succ, List.getElem?_cons_zero]; rfl)
              case mb7q => exact fun _ _ _ h => h
              case mb7y => (refine Or.inl ⟨by first | kernel_rfl | rfl, ?_⟩; intro w hSw; (try dsimp only at hSw); obtain ⟨n0, n1, nf0, nf1, nlt⟩ := hSw; go_simp <;> (try with_reducible rfl))
              try simp only [Act.put, List.setIfInBounds_toArray, List.set_cons_zero, List.set_cons_succ]
              refine wpAnyH_ready (rs := [4]) (by kernel_rfl) (by simp) ?_
              refine (AllReadyH.cons rfl (fun K hK => ?_) AllReadyH.nil)
              go_simp
              skip
              refine hK.out _ _ (hHeld) (fun hHeld => ?_)
              clear hK K
              try simp only [Act.put, List.setIfInBounds_toArray, List.set_cons_zero, List.set_cons_succ]
              refine wpAnyH_ready (rs := [8]) (by kernel_rfl) (by simp) ?_
              refine (AllReadyH.cons rfl (fun K hK => ?_) AllReadyH.nil)
              go_simp
              (go_at_call 35; (with_reducible refine (kw _ (Ns.later HC8.out.ns (Below.refl _ _).drew)).mono ?_); rintro e w9 ⟨v9, rfl, hn9, hb9, hf9⟩; (obtain ⟨a9, c9, rfl⟩ := hn9.slice); (have HB9 := Lib.hid (bel_next (Below.refl _ _).drew hb9)); (have HN9 := Lib.hid hn9); (have HF9 := Lib.hid hf9); (have h9 := HC8.out.later HB9.out); (have hc19 := h9.c1); (have hf19 := h9.fz 1); (have N9 := hHeld.later hb9); clear h9 hn9 hb9 hf9)
              refine hK.out _ _ (N9) (fun hHeld => ?_)
              clear hK K
              try simp only [Act.put, List.setIfInBounds_toArray, List.set_cons_zero, List.set_cons_succ]
              refine wpAnyH_take (i := 9) (oi := ?mb8o) (v := ?mb8v) ?mb8h (by kernel_rfl) (by kernel_rfl) (by kernel_rfl) ?mb8q ?mb8y hHeld ?mb8r
              case mb8h => (simp only [List.getElem?_toArray, List.getElem?_cons_succ, List.getElem?_cons_zero]; rfl)
              case mb8q => exact fun _ _ _ h => h
              case mb8y => (refine Or.inl ⟨by first | kernel_rfl | rfl, ?_⟩; intro w hSw; (try dsimp only at hSw); obtain ⟨n0, n1, nf0, nf1, nlt⟩ := hSw; go_simp <;> (try with_reducible rfl))
              try simp only [Act.put, List.setIfInBounds_toArray, List.set_cons_zero, List.set_cons_succ]
              refine wpAnyH_take (i := 10) (oi := ?mb9o) (v := ?mb9v) ?mb9h (by kernel_rfl) (by kernel_rfl) (by kernel_rfl) ?mb9q ?mb9y hHeld ?mb9r
              case mb9h => (simp only [List.getElem?_toArray, List.getElem?_cons_succ, List.getElem?_cons_zero]; rfl)
              case mb9q => exact fun _ _ _ h => h
              case mb9y => (refine Or.inl ⟨by first | kernel_rfl | rfl, ?_⟩; intro w hSw; (try dsimp only at hSw); obtain ⟨n0, n1, nf0, nf1, nlt⟩ := hSw; go_simp <;> (try with_reducible rfl))
              try simp only [Act.put, List.setIfInBounds_toArray, List.set_cons_zero, List.set_cons_succ]
              refine wpAnyH_ready (rs := [11]) (by kernel_rfl) (by simp) ?_
              refine (AllReadyH.cons rfl (fun K hK => ?_) AllReadyH.nil)
              go_simp
              skip
              refine hK.out _ _ ((N9.off (World.heap_setCell_off _ _ _ _ _ (by have := HBL.out; have := HNL.out; omega)) (by simp))) (fun hHeld => ?_)
              clear hK K
              try simp only [Act.put]
              refine wpAnyH_done (by kernel_rfl) ?_ _
              have HC9 := Lib.hid ((HC8.out.later HB9.out).setOut (w7 := w7) (C := w.heap.size) HGF.out HN9.out (fun q hq => ⟨by have h8 := (HF9.out q hq).1; have h7 := HS8.out; simp only [World.size_drew] at h8 h7; omega, (HF9.out q hq).2⟩) (Nat.le_of_lt HL7.out) HBB.out HGN.out)
              have hout9 := HOUT8.out.below HB9.out
              have hrec9 := R9.later HR8.out HB9.out
              have HX9 := Lib.hid (Ns.later HX8.out HB9.out)
              have hlt9 : w.heap.size < w9.heap.size := hout9.room
              obtain ⟨wA, hwA⟩ : ∃ x, w9.setCell ⟨b, 1, none⟩ (.slice a9 (withL S.out (k : Int) sq).length c9) = x := ⟨_, rfl⟩
              have ho2 : wA.heap[w.heap.size]? = w9.heap[w.heap.size]? := by rw [← hwA]; exact World.heap_setCell_off _ _ _ _ _ (by have := HBL.out; omega)
              have hr2 : wA.heap[M]? = w9.heap[M]? := by rw [← hwA]; exact World.heap_setCell_off _ _ _ _ _ (by have := HBL.out; have := HML.out; omega)
              have hsz : wA.heap.size = w9.heap.size := by rw [← hwA]; simp
              have HFRA := Lib.hid (HFR8.out.next (FrF.set9 (F := F) HB9.out hwA HC8.out.bF) fun _ _ h => h)
              have HNXA := Lib.hid (show Ns wA (.slice ra rd.length rcc) rd from Ns.off HX9.out (by omega) fun hd q hq _ => by rw [← hwA]; exact World.heap_setCell_off _ _ _ _ _ (HOWN.out hd q hq).2.1)
              rw [hwA] at HC9 ⊢
              have HCA := Lib.hid HC9.out
              obtain ⟨⟨s0, s1, s2, s3, s4, s5, s6, s7, s8⟩, t0, t1, t2, t3, t4, t5, t6, t7, t8⟩ := recw_same hout9 ho2
              obtain ⟨p0, p1, p2, p3, p4, p5, p6, p7, p8⟩ := R9.other hrec9 hr2
              dsimp only [Nat.zero_add] at p0 p1 p2 p3 p4 p5 p6 p7 p8
              dsimp only [Rec.zero] at s0 s1 s2 s3 s4 s5 s6 s7 s8
              have hMne : ¬ M = w.heap.size := by have := HML.out; omega
              have hMne2 : ¬ w.heap.size = M := by have := HML.out; omega
              have HSZA := Lib.hid hsz
              have HLT := Lib.hid (show w.heap.size < wA.heap.size by omega)
              have HGW := Lib.hid (show ∀ q, grow F w7 w9 q → q ≠ w.heap.size from fun q hq => hq.elim (fun h => by have := (HFP.out q h).2; omega) (fun h => by have := HL7.out; omega))
              clear hwA hout9 hrec9 hsz ho2 hr2 HC9 N9 hc19 hf19
              go_wp2
              refine bodyPost_ret (v := .tuple #[recV ⟨rk, rs, rt, rv, rtier, ⟨rc, rst, rq⟩, rd⟩ (.slice ra rd.length rcc), .bool true]) (by unfold recV; simp [results, Try.results12, go_sem, s0, s1, s2, s3, s4, s5, s6, s7, s8]; try rfl) rfl ⟨⟨⟨rk, rs, rt, rv, rtier, ⟨rc, rst, rq⟩, rd⟩, ra, rcc⟩, ?_, ?_, ?_, Or.inr ⟨b, rfl, ?_, ?_, ?_⟩⟩
              · rw [HNR.out]; rfl
              · rw [HNR.out]; rfl
              · exact Ns.off HNXA.out (by simp) fun hd q hq _ => nine_off wA w.heap.size q (fun e => by have := (HFP.out q (HOWN.out hd q hq).1).2; omega) _ _ _ _ _ _ _ _ _
              · rw [HNS.out]
                exact (HCA.out.buf.off (G := fun q => q = w.heap.size) (nine_fr wA w.heap.size _ _ _ _ _ _ _ _ _) (fun q hq e => HGW.out q hq e)).wide (fun q hq => hq.imp id fun h => ⟨by have := HL7.out; omega, by simp only [World.size_setCell]; have := HSZA.out; omega⟩) (grow_fp HFP.out HBB.out (by simp only [World.size_setCell]; have := HLT.out; omega))
              · refine HFRA.out.next (nine_fr wA w.heap.size _ _ _ _ _ _ _ _ _) fun q hq e => absurd e (by omega)
              · intro hd q hq
                exact Or.inl (HOWN.out hd q hq).1
    · obtain rfl : k = 8 := by omega
      have HN := Lib.hid (show nextR S = none from HJ.out.eq)
      have HO := Lib.hid HJ.out.out
      have HB := Lib.hid HJ.out.bel
      obtain ⟨⟨s0, s1, s2, s3, s4, s5, s6, s7, s8⟩, t0, t1, t2, t3, t4, t5, t6, t7, t8⟩ := id HO.out
      dsimp only [Rec.zero] at s0 s1 s2 s3 s4 s5 s6 s7 s8
      clear hk hk8
      go_wp2
      refine bodyPost_ret (v := .tuple #[recV Rec.zero (.slice none 0 0), .bool false]) (by unfold recV Rec.zero; simp [results, Try.results12, go_sem, s0, s1, s2, s3, s4, s5, s6, s7, s8]; try rfl) rfl ⟨⟨Rec.zero, none, 0⟩, ?_, ?_, ?_, Or.inl ⟨HN.out, ?_⟩⟩
      · rw [HN.out]; rfl
      · rw [HN.out]; rfl
      · exact (Nums.nil _ none 0).mono (Nat.zero_le _) (Nat.le_refl _)
      · exact nine_set HB.out w.heap.size (Nat.le_refl _) _ _ _ _ _ _ _ _ _
end Go.Proofs.Ythifmfgnblecbaa.Og.Cb
