/- hold: a copy of a record is kept. -/
import Derived.Test.YthifmfgnblecbaaCbHas
import Derived.Test.YthifmfgnblecbaaVintB
import Derived.StillTailTactics
import Derived.Deep.CutRange
set_option maxRecDepth 20000
set_option linter.unusedSimpArgs false
set_option linter.unusedVariables false
namespace Go.Proofs.Ythifmfgnblecbaa.Og.Cb
open Go.RowKit Go.Maps Go.Proofs.Ythifmfgnblecbaa.Vi Go.Proofs.Ythifmfgnblecbaa.Mk

/-- A drawing region all of whose operations but the last ones leave the world. -/
theorem still_tail {P : Program} {id : Nat} {Q : Exit → Act → World → Prop} {a : Act} {w : World} {l : List Oper} (n : Nat) (hm : P.follows .mixedOrders = true) (hB : Region.lexTailB .any l.toArray n = true)
    (h : wpStill P l.toArray w.drew (fun a' => wpList P l.toArray Q (l.drop n) a' w.drew) (l.take n) a) : (Code.region id l.toArray true).wp P Q a w := wp_region_still_tail n hm hB h
theorem map_eq (W : World) : (binOp BinOp.eql TMM (.map none) (.map none)).run Try.prog W = .ok (.bool true) W := by kernel_rfl
theorem map_ne (m : Nat) (W : World) : (binOp BinOp.eql TMM (.map (some m)) (.map none)).run Try.prog W = .ok (.bool false) W := by kernel_rfl
theorem rec_same {w w' : World} {g : Nat} {r : Rec} {dv : Value} (h : RecAt w g r dv) (k : w'.heap[g]? = w.heap[g]?) : RecAt w' g r dv :=
  ⟨(World.cell?_of_block (w := w) k).trans h.c0, (World.cell?_of_block (w := w) k).trans h.c1, (World.cell?_of_block (w := w) k).trans h.c2, (World.cell?_of_block (w := w) k).trans h.c3, (World.cell?_of_block (w := w) k).trans h.c4, (World.cell?_of_block (w := w) k).trans h.c5, (World.cell?_of_block (w := w) k).trans h.c6, (World.cell?_of_block (w := w) k).trans h.c7, (World.cell?_of_block (w := w) k).trans h.c8⟩
structure HoS (w : World) (g e : Nat) (s q : Int) (r : Rec) (u : World) : Prop where
  nm : N2 u g s q
  rw_ : ∃ z, RecW u e r z
  bel : Below w.heap.size w u
  lo : w.heap.size ≤ g ∧ g < e
theorem HoS.lt1 {w u : World} {g e : Nat} {s q : Int} {r : Rec} (h : HoS w g e s q r u) : e < u.heap.size := by obtain ⟨z, hz⟩ := h.rw_; exact hz.room
theorem HoS.keep {w u u' : World} {g e : Nat} {s q : Int} {r : Rec} (h : HoS w g e s q r u) (k : Below u.heap.size u u') : HoS w g e s q r u' := by
  obtain ⟨z, hz⟩ := h.rw_
  exact ⟨h.nm.later k, ⟨z, hz.below k⟩, bel_next h.bel k, h.lo⟩
theorem N2.off {w u : World} {g : Nat} {s q : Int} (h : N2 w g s q) (k : u.heap[g]? = w.heap[g]?) (hs : w.heap.size ≤ u.heap.size) : N2 u g s q :=
  ⟨(World.cell?_of_block (w := w) k).trans h.c0, (World.cell?_of_block (w := w) k).trans h.c1, (World.frozen?_of_block (w := w) k).trans h.f0, (World.frozen?_of_block (w := w) k).trans h.f1, Nat.lt_of_lt_of_le h.lt hs⟩
theorem HoS.set8 {w u : World} {g e : Nat} {s q : Int} {r : Rec} (h : HoS w g e s q r u) (v : Value) : HoS w g e s q r (u.setCell ⟨e, 8, none⟩ v) := by
  obtain ⟨z, hz⟩ := h.rw_
  have := h.lo
  exact ⟨h.nm.off (World.heap_setCell_off u e 8 v g (by omega)) (by simp), ⟨v, hz.set8 r.d v⟩, h.bel.setCell (by dsimp only; omega) _, h.lo⟩
/-- A map is made. -/
theorem CbAt.made {w : World} {B b : Nat} {ov : Value} {S : CS} {F : Nat → Prop} (h : CbAt w B b none ov S F) (hB : B ≤ w.heap.size) : CbAt ((w.alloc (.map #[] 0)).setCell ⟨b, 2, none⟩ (.map (some w.heap.size))) B b (some w.heap.size) ov S (fun q => F q ∨ q = w.heap.size) ∧ FrF F w ((w.alloc (.map #[] 0)).setCell ⟨b, 2, none⟩ (.map (some w.heap.size))) := by
  have hal := (Below.refl w.heap.size w).alloc (Nat.le_refl _) (.map #[] 0)
  have h1 := h.later hal
  have hb := h.lt
  have hfr : FrF F w ((w.alloc (.map #[] 0)).setCell ⟨b, 2, none⟩ (.map (some w.heap.size))) := ⟨hal.os, hal.tape, hal.output, by simp, fun k hk hn => (World.heap_setCell_off _ b 2 _ k (fun e => hn (e ▸ h.bF))).trans (hal.block k hk)⟩
  have h0 := h.none_ rfl
  refine ⟨⟨?_, Ns.off h.ns (by simp) (fun hn q hq hl => (World.heap_setCell_off _ b 2 _ q (h.ovF hn q hq).2.1).trans (hal.block q hl)), fun hn q hq => ⟨Or.inl (h.ovF hn q hq).1, (h.ovF hn q hq).2.1, fun e => ?_⟩, ?_, Or.inl h.bF, fun e => (by cases e), fun m e => ?_, h.good⟩, hfr⟩
  · have := Joins.block_setCell (i := 2) h1.obj (.map (some w.heap.size))
    rw [this]; rfl
  · have := (h.fp q (h.ovF hn q hq).1).2
    have e := Option.some.inj e
    omega
  · rintro q (hq | rfl)
    · have := h.fp q hq
      exact ⟨this.1, by simp; omega⟩
    · exact ⟨hB, by simp⟩
  · have e := Option.some.inj e
    subst e
    refine ⟨Or.inr rfl, by omega, .map [], ?_, ?_⟩
    · rw [h0]
      have hm := World.ownsMap_made (H := Value) w Try.prog TKK slR
      exact owns_kept hm (World.heap_setCell_off _ b 2 _ _ (by omega))
    · rw [h0]; exact DIs.empty _ _
theorem FrF.of_grown {w w' : World} {m : Nat} {F : Nat → Prop} (h : w.grownBy w' (some m)) (hm : F m) : FrF F w w' := ⟨h.os, h.tape, h.output, h.size, fun k hk hn => h.block k hk fun e => hn (Option.some.inj e ▸ hm)⟩
/-- One more entry. -/
theorem CbAt.put {w : World} {B b m : Nat} {ov : Value} {S : CS} {F : Nat → Prop} (h : CbAt w B b (some m) ov S F) (x : Rd) (hx : x.r.ok = true) (hn : hasB S.L x.r.st.s x.r.st.q = false) (hN : Ns w x.dv x.r.d) (hP : x.r.d ≠ [] → ∀ q, x.dv.ownBlock = some q → F q ∧ q ≠ b ∧ q ≠ m) (hG : CGood ⟨S.room, S.out, S.L ++ [x.r]⟩) :
    ∃ w', (Instr.mapUpdate TMM (.map (some m)) (kV x.r.st.s x.r.st.q) (recV x.r x.dv)).run Try.prog w = .ok () w' ∧ CbAt w' B b (some m) ov ⟨S.room, S.out, S.L ++ [x.r]⟩ F ∧ FrF F w w' := by
  obtain ⟨hm, hmb, D, hD, hI⟩ := h.some_ m rfl
  have hlen := h.good.l408
  obtain ⟨i1, i2⟩ := okI hx
  obtain ⟨w', hrun, hD', ht⟩ := hD.store klaw undM (by unfold maxLen; omega) (key_is i1 i2) (val := recV x.r x.dv) (d := .held (recV x.r x.dv)) (ps := []) rfl
  have hI' := hI.put (hD.tidy klaw) h.good.ok x hx hn hN hP
  have hg := ht.grown
  have kk : ∀ q, q ≠ m → q < w.heap.size → w'.heap[q]? = w.heap[q]? := fun q hq hl => hg.block q hl fun e => hq (Option.some.inj e)
  have hl : (S.L ++ [x.r]).length = S.L.length + 1 := by simp
  refine ⟨w', hrun, ⟨(kk b (fun e => hmb e.symm) h.lt).trans h.obj, Ns.off h.ns hg.size (fun hn q hq hl => kk q (fun e => (h.ovF hn q hq).2.2 (by rw [e])) hl), h.ovF, fun q hq => ⟨(h.fp q hq).1, Nat.lt_of_lt_of_le (h.fp q hq).2 hg.size⟩, h.bF, fun e => (by cases e), fun m' e => ?_, hG⟩, FrF.of_grown hg hm⟩
  have e := Option.some.inj e
  subst e
  exact ⟨hm, hmb, _, by dsimp only; rw [hl]; exact hD', hI'.keep hg.size (fun q hq hl => kk q hq.2.2 hl) fun q hq => hq⟩
def HoldDone (w : World) (B b : Nat) (S : CS) (F : Nat → Prop) (r : Rec) (e : Ending) (w' : World) : Prop := e = .returned (.tuple #[]) ∧ Buf w' B b ⟨S.room, S.out, S.L ++ [r]⟩ (grow F w w') ∧ FrF F w w'
theorem grow_fp {w w' : World} {B : Nat} {F : Nat → Prop} (fp : ∀ q, F q → B ≤ q ∧ q < w.heap.size) (hB : B ≤ w.heap.size) (hs : w.heap.size ≤ w'.heap.size) : ∀ q, grow F w w' q → B ≤ q ∧ q < w'.heap.size := by
  rintro q (hq | hq)
  · have := fp q hq; omega
  · omega
set_option maxHeartbeats 8000000 in
theorem hold_is {w : World} {B b : Nat} {mv : Option Nat} {ov : Value} {S : CS} {F : Nat → Prop} (h : CbAt w B b mv ov S F) (hB : B ≤ w.heap.size) (x : Rd) (hN : Ns w x.dv x.r.d) (hx : x.r.ok = true) (hn : hasB S.L x.r.st.s x.r.st.q = false) (hG : CGood ⟨S.room, S.out, S.L ++ [x.r]⟩) (hl : x.r.d.length ≤ 1000000) :
    Calls Try.prog 40 #[.pointer (some ⟨b, 0, none⟩), kV x.r.st.s x.r.st.q, recV x.r x.dv] w (HoldDone w B b S F x.r) := by
  have hname := Rec.ok_name hx
  have kc := fun (W : World) => clone_is x.r.s W (by omega)
  have ks := fun (W : World) (h : Ns W x.dv x.r.d) => sclone_is _ _ W h hl
  have hal := ((Below.refl w.heap.size w).alloc (Nat.le_refl _) (nbox x.r.st.s x.r.st.q)).alloc (by simp) (box9 x)
  have HH := Lib.hid h
  obtain ⟨⟨rk, rs, rt, rv, rtier, ⟨rc, rst, rq⟩, rd⟩, ra, rcc⟩ := x
  unfold recV Rd.dv kV at *
  dsimp only at *
  have h1 := (N2.of (new_block (w := w) (o := nbox rst rq) ((Below.refl _ _).alloc (Nat.le_refl _) (box9 ⟨⟨rk, rs, rt, rv, rtier, ⟨rc, rst, rq⟩, rd⟩, ra, rcc⟩))))
  have h2 := RecW.new (w.alloc (nbox rst rq)) ⟨rk, rs, rt, rv, rtier, ⟨rc, rst, rq⟩, rd⟩ (.slice ra rd.length rcc)
  rw [World.size_alloc] at h2
  have HS0 := Lib.hid (show HoS w w.heap.size (w.heap.size + 1) rst rq ⟨rk, rs, rt, rv, rtier, ⟨rc, rst, rq⟩, rd⟩ ((w.alloc (nbox rst rq)).alloc (box9 ⟨⟨rk, rs, rt, rv, rtier, ⟨rc, rst, rq⟩, rd⟩, ra, rcc⟩)).drew from HoS.keep ⟨h1, ⟨_, h2⟩, hal, by omega⟩ (Below.refl _ _).drew)
  have HN0 := Lib.hid (Ns.later hN hal.drew)
  have k80 := h2.at_.c8
  have HX := Lib.hid hx
  have HNO := Lib.hid hn
  have HGG := Lib.hid hG
  have hm : ∀ (a2 : Option Addr) (c2 : Nat) (w3 : World), Ns w3 (.slice a2 rd.length c2) rd → Below w.heap.size w w3 → (∀ q, (Value.slice a2 rd.length c2).ownBlock = some q → w.heap.size + 2 ≤ q ∧ q < w3.heap.size) → ∀ m, mv = some m → ∃ w', (Instr.mapUpdate TMM (.map (some m)) (kV rst rq) (recV ⟨rk, rs, rt, rv, rtier, ⟨rc, rst, rq⟩, rd⟩ (.slice a2 rd.length c2))).run Try.prog w3.drew = .ok () w' ∧ Buf w' B b ⟨S.room, S.out, S.L ++ [⟨rk, rs, rt, rv, rtier, ⟨rc, rst, rq⟩, rd⟩]⟩ (grow F w w') ∧ FrF F w w' := fun a2 c2 w3 h4 h5 h6 m e => by
    subst e
    have h7 := (h.later h5.drew).wide (G := grow F w w3.drew) (fun q hq => Or.inl hq) (grow_fp h.fp hB h5.size)
    have hml := (h.fp m (h.some_ m rfl).1).2
    have hbl := h.lt
    obtain ⟨w', g1, g2, g3⟩ := h7.put ⟨⟨rk, rs, rt, rv, rtier, ⟨rc, rst, rq⟩, rd⟩, a2, c2⟩ hx hn (Ns.later h4 (Below.refl _ _).drew) (fun _ q hq => ⟨Or.inr ⟨by have := (h6 q hq).1; omega, (h6 q hq).2⟩, by have := (h6 q hq).1; omega, by have := (h6 q hq).1; omega⟩) hG
    have hs := g3.size
    exact ⟨w', g1, ⟨_, _, g2.wide (fun q hq => hq.imp id fun k => ⟨k.1, Nat.lt_of_lt_of_le k.2 hs⟩) (grow_fp h.fp hB (Nat.le_trans h5.size hs))⟩, (FrF.of h5.drew : FrF F w w3.drew).next g3 fun q hl hq => hq.elim id fun k => absurd k.1 (by omega)⟩
  have hmn : ∀ (a2 : Option Addr) (c2 : Nat) (w3 : World), Ns w3 (.slice a2 rd.length c2) rd → Below w.heap.size w w3 → (∀ q, (Value.slice a2 rd.length c2).ownBlock = some q → w.heap.size + 2 ≤ q ∧ q < w3.heap.size) → mv = none → ∃ w', (Instr.mapUpdate TMM (.map (some w3.heap.size)) (kV rst rq) (recV ⟨rk, rs, rt, rv, rtier, ⟨rc, rst, rq⟩, rd⟩ (.slice a2 rd.length c2))).run Try.prog ((w3.alloc (.map #[] 0)).setCell ⟨b, 2, none⟩ (.map (some w3.heap.size))).drew = .ok () w' ∧ Buf w' B b ⟨S.room, S.out, S.L ++ [⟨rk, rs, rt, rv, rtier, ⟨rc, rst, rq⟩, rd⟩]⟩ (grow F w w') ∧ FrF F w w' := fun a2 c2 w3 h4 h5 h6 e => by
    subst e
    have h7 := (h.later h5).wide (G := grow F w w3) (fun q hq => Or.inl hq) (grow_fp h.fp hB h5.size)
    obtain ⟨h8, h9⟩ := h7.made (Nat.le_trans hB h5.size)
    have hbl := h.lt
    have h10 := h8.later (Below.refl _ _).drew
    have hN3 : Ns (((w3.alloc (.map #[] 0)).setCell ⟨b, 2, none⟩ (.map (some w3.heap.size))).drew) (.slice a2 rd.length c2) rd := Ns.off h4 (by simp) fun _ q hq hl => (World.heap_setCell_off (w3.alloc (.map #[] 0)) b 2 _ q (by have := (h6 q hq).1; omega)).trans (((Below.refl w3.heap.size w3).alloc (Nat.le_refl _) (.map #[] 0)).block q hl)
    obtain ⟨w', g1, g2, g3⟩ := h10.put ⟨⟨rk, rs, rt, rv, rtier, ⟨rc, rst, rq⟩, rd⟩, a2, c2⟩ hx hn hN3 (fun _ q hq => ⟨Or.inl (Or.inr ⟨by have := (h6 q hq).1; omega, (h6 q hq).2⟩), by have := (h6 q hq).1; omega, by have := (h6 q hq).2; omega⟩) hG
    have hs := g3.size
    have hs2 : w3.heap.size + 1 ≤ w'.heap.size := by simpa using hs
    have hs3 := h5.size
    refine ⟨w', g1, ⟨_, _, g2.wide (G := grow F w w') (fun q hq => ?_) (grow_fp h.fp hB (by omega))⟩, ?_⟩
    · rcases hq with (hq | hq) | rfl
      · exact Or.inl hq
      · exact Or.inr ⟨hq.1, by omega⟩
      · exact Or.inr ⟨hs3, by omega⟩
    · have h11 : FrF (grow F w w3) w3 ((w3.alloc (.map #[] 0)).setCell ⟨b, 2, none⟩ (.map (some w3.heap.size))).drew := h9.next (FrF.of (F := grow F w w3) (Below.refl _ _).drew) fun _ _ h => h
      refine ((FrF.of h5 : FrF F w w3).next h11 fun q hl hq => hq.elim id fun k => absurd k.1 (by omega)).next g3 fun q hl hq => ?_
      rcases hq with (hq | hq) | rfl
      · exact hq
      · omega
      · omega
  have HM := Lib.hid hm
  have HMN := Lib.hid hmn
  clear hN hal h1 h2 hx hn hG hname h hm hmn
  obtain ⟨W0, hW0⟩ : ∃ x, ((w.alloc (nbox rst rq)).alloc (box9 ⟨⟨rk, rs, rt, rv, rtier, ⟨rc, rst, rq⟩, rd⟩, ra, rcc⟩)) = x := ⟨_, rfl⟩
  have HSZ := Lib.hid (show W0.heap.size = w.heap.size + 2 by rw [← hW0]; simp)
  rw [hW0] at HN0 HS0
  have k80 : W0.cell? ⟨w.heap.size + 1, 8, none⟩ = some (.slice ra rd.length rcc) := by rw [← hW0]; exact k80
  unfold nbox box9 at hW0
  dsimp only at hW0
  go_enter Try.func40, Try.ntmps40
  go_wp2_with fail
  refine wp_region_held_drew (S := (HoS w w.heap.size (w.heap.size + 1) rst rq ⟨rk, rs, rt, rv, rtier, ⟨rc, rst, rq⟩, rd⟩)) (by kernel_rfl) HS0.out (fun hHeld => ?_)
  refine wpAnyH_take (i := 0) (oi := ?o1o) (v := ?o1v) ?o1h (by kernel_rfl) (by kernel_rfl) (by kernel_rfl) ?o1q ?o1y hHeld ?o1r
  case o1h => (simp only [List.getElem?_toArray, List.getElem?_cons_zero]; rfl)
  case o1q => exact fun _ _ _ h => h
  case o1y => (refine Or.inl ⟨by first | kernel_rfl | rfl, ?_⟩; intro w hSw; (try dsimp only at hSw); obtain ⟨⟨n0, n1, nf0, nf1, nlt⟩, ⟨zz, ⟨⟨x0, x1, x2, x3, x4, x5, x6, x7, x8⟩, y0, y1, y2, y3, y4, y5, y6, y7, y8⟩⟩, -, -⟩ := hSw; go_simp <;> (try with_reducible rfl))
  try simp only [Act.put, List.setIfInBounds_toArray, List.set_cons_zero, List.set_cons_succ]
  refine wpAnyH_take (i := 1) (oi := ?o2o) (v := ?o2v) ?o2h (by kernel_rfl) (by kernel_rfl) (by kernel_rfl) ?o2q ?o2y hHeld ?o2r
  case o2h => (simp only [List.getElem?_toArray, List.getElem?_cons_succ, List.getElem?_cons_zero]; rfl)
  case o2q => exact fun _ _ _ h => h
  case o2y => (refine Or.inl ⟨by first | kernel_rfl | rfl, ?_⟩; intro w hSw; (try dsimp only at hSw); obtain ⟨⟨n0, n1, nf0, nf1, nlt⟩, ⟨zz, ⟨⟨x0, x1, x2, x3, x4, x5, x6, x7, x8⟩, y0, y1, y2, y3, y4, y5, y6, y7, y8⟩⟩, -, -⟩ := hSw; go_simp <;> (try with_reducible rfl))
  try simp only [Act.put, List.setIfInBounds_toArray, List.set_cons_zero, List.set_cons_succ]
  refine wpAnyH_take (i := 3) (oi := ?o3o) (v := ?o3v) ?o3h (by kernel_rfl) (by kernel_rfl) (by kernel_rfl) ?o3q ?o3y hHeld ?o3r
  case o3h => (simp only [List.getElem?_toArray, List.getElem?_cons_succ, List.getElem?_cons_zero]; rfl)
  case o3q => exact fun _ _ _ h => h
  case o3y => (refine Or.inl ⟨by first | kernel_rfl | rfl, ?_⟩; intro w hSw; (try dsimp only at hSw); obtain ⟨⟨n0, n1, nf0, nf1, nlt⟩, ⟨zz, ⟨⟨x0, x1, x2, x3, x4, x5, x6, x7, x8⟩, y0, y1, y2, y3, y4, y5, y6, y7, y8⟩⟩, -, -⟩ := hSw; go_simp <;> (try with_reducible rfl))
  try simp only [Act.put, List.setIfInBounds_toArray, List.set_cons_zero, List.set_cons_succ]
  refine wpAnyH_ready (rs := [2, 4]) (by kernel_rfl) (by simp) ?_
  refine (AllReadyH.cons rfl (fun K hK => ?_) (AllReadyH.cons rfl (fun K hK => ?_) AllReadyH.nil))
  ·
    go_simp
    (go_at_call 57; (with_reducible refine (kc _).mono ?_); rintro e w1 ⟨rfl, hb1⟩; (have HB1 := Lib.hid hb1); (have k81 : w1.cell? ⟨w.heap.size + 1, 8, none⟩ = some (.slice ra rd.length rcc) := (hb1.cell (p := ⟨w.heap.size + 1, 8, none⟩) (hHeld.lt1)).trans k80); (have HN1 := Lib.hid (Ns.later HN0.out hb1)); (have hHeld := hHeld.keep hb1); clear hb1)
    refine hK.out _ _ (hHeld) (fun hHeld => ?_)
    clear hK K
    try simp only [Act.put, List.setIfInBounds_toArray, List.set_cons_zero, List.set_cons_succ]
    refine wpAnyH_ready (rs := [4]) (by kernel_rfl) (by simp) ?_
    refine (AllReadyH.cons rfl (fun K hK => ?_) AllReadyH.nil)
    go_simp
    skip
    refine hK.out _ _ (hHeld) (fun hHeld => ?_)
    clear hK K
    try simp only [Act.put, List.setIfInBounds_toArray, List.set_cons_zero, List.set_cons_succ]
    refine wpAnyH_take (i := 6) (oi := ?o4o) (v := ?o4v) ?o4h (by kernel_rfl) (by kernel_rfl) (by kernel_rfl) ?o4q ?o4y hHeld ?o4r
    case o4h => (simp only [List.getElem?_toArray, List.getElem?_cons_succ, List.getElem?_cons_zero]; rfl)
    case o4q => exact fun _ _ _ h => h
    case o4y => (refine Or.inl ⟨by first | kernel_rfl | rfl, ?_⟩; intro w hSw; (try dsimp only at hSw); obtain ⟨⟨n0, n1, nf0, nf1, nlt⟩, ⟨zz, ⟨⟨x0, x1, x2, x3, x4, x5, x6, x7, x8⟩, y0, y1, y2, y3, y4, y5, y6, y7, y8⟩⟩, -, -⟩ := hSw; go_simp <;> (try with_reducible rfl))
    try simp only [Act.put, List.setIfInBounds_toArray, List.set_cons_zero, List.set_cons_succ]
    refine wpAnyH_ready (rs := [5]) (by kernel_rfl) (by simp) ?_
    refine (AllReadyH.cons rfl (fun K hK => ?_) AllReadyH.nil)
    go_simp
    (go_at_call 42; (with_reducible refine (ks _ HN1.out).mono ?_); rintro e w2 ⟨v2, rfl, hn2, hb2, hf2⟩; (have HB2 := Lib.hid hb2); (have HF2 := Lib.hid (own_past hf2 (Nat.le_trans (Nat.le_of_eq HSZ.out.symm) HB1.out.size))); (have HN2 := Lib.hid hn2); (obtain ⟨a2, c2, rfl⟩ := hn2.slice); (have hHeld := hHeld.keep hb2); (obtain ⟨-, ⟨z2, ⟨⟨x0, x1, x2, x3, x4, x5, x6, x7, x8⟩, y0, y1, y2, y3, y4, y5, y6, y7, y8⟩⟩, -, -⟩ := id hHeld); clear hn2 hb2 hf2)
    refine hK.out _ _ (hHeld) (fun hHeld => ?_)
    clear hK K
    try simp only [Act.put, List.setIfInBounds_toArray, List.set_cons_zero, List.set_cons_succ]
    refine wpAnyH_ready (rs := [7]) (by kernel_rfl) (by simp) ?_
    refine (AllReadyH.cons rfl (fun K hK => ?_) AllReadyH.nil)
    go_simp
    (rw [setCell_noop x1])
    refine hK.out _ _ (hHeld) (fun hHeld => ?_)
    clear hK K
    try simp only [Act.put]
    refine wpAnyH_take (i := 8) (oi := ?o5o) (v := ?o5v) ?o5h (by kernel_rfl) (by kernel_rfl) (by kernel_rfl) ?o5q ?o5y hHeld ?o5r
    case o5h => (simp only [List.getElem?_toArray, List.getElem?_cons_succ, List.getElem?_cons_zero]; rfl)
    case o5q => exact fun _ _ _ h => h
    case o5y => (refine Or.inl ⟨by first | kernel_rfl | rfl, ?_⟩; intro w hSw; (try dsimp only at hSw); obtain ⟨⟨n0, n1, nf0, nf1, nlt⟩, ⟨zz, ⟨⟨x0, x1, x2, x3, x4, x5, x6, x7, x8⟩, y0, y1, y2, y3, y4, y5, y6, y7, y8⟩⟩, -, -⟩ := hSw; go_simp <;> (try with_reducible rfl))
    try simp only [Act.put, List.setIfInBounds_toArray, List.set_cons_zero, List.set_cons_succ]
    refine wpAnyH_ready (rs := [9]) (by kernel_rfl) (by simp) ?_
    refine (AllReadyH.cons rfl (fun K hK => ?_) AllReadyH.nil)
    go_simp
    skip
    refine hK.out _ _ (hHeld.set8 _) (fun hHeld => ?_)
    clear hK K
    try simp only [Act.put]
    refine wpAnyH_done (by kernel_rfl) ?_ _
    have hR3 : RecW (w2.setCell ⟨w.heap.size + 1, 8, none⟩ (.slice a2 rd.length c2)) (w.heap.size + 1) ⟨rk, rs, rt, rv, rtier, ⟨rc, rst, rq⟩, rd⟩ (.slice a2 rd.length c2) := RecW.set8 (r := ⟨rk, rs, rt, rv, rtier, ⟨rc, rst, rq⟩, rd⟩) ⟨⟨x0, x1, x2, x3, x4, x5, x6, x7, x8⟩, y0, y1, y2, y3, y4, y5, y6, y7, y8⟩ rd _
    have HN3 := Lib.hid (Ns.other HN2.out (by simp) (fun q hq _ => World.heap_setCell_off w2 (w.heap.size + 1) 8 _ q (fun e => by have := HF2.out q hq; omega)) : Ns (w2.setCell ⟨w.heap.size + 1, 8, none⟩ (.slice a2 rd.length c2)) (.slice a2 rd.length c2) rd)
    have HB3 := Lib.hid hHeld.bel
    have HNM := hHeld.nm
    obtain ⟨w3, hw3⟩ : ∃ x, w2.setCell ⟨w.heap.size + 1, 8, none⟩ (.slice a2 rd.length c2) = x := ⟨_, rfl⟩
    have HLT3 : w.heap.size + 2 ≤ w3.heap.size := by rw [← hw3]; simp only [World.size_setCell]; have e1 := HB1.out.size; have e2 := HB2.out.size; have e3 := HSZ.out; simp only [World.size_drew] at e1 e2; omega
    have HF3 := Lib.hid (show ∀ q, (Value.slice a2 rd.length c2).ownBlock = some q → w.heap.size + 2 ≤ q ∧ q < w3.heap.size from fun q hq => by rw [← hw3]; simpa using HF2.out q hq)
    rw [hw3] at hR3 HN3 HB3 HNM ⊢
    obtain ⟨⟨p0, p1, p2, p3, p4, p5, p6, p7, p8⟩, q0, q1, q2, q3, q4, q5, q6, q7, q8⟩ := hR3
    obtain ⟨m0, m1, mf0, mf1, mlt⟩ := HNM
    clear x0 x1 x2 x3 x4 x5 x6 x7 x8 y0 y1 y2 y3 y4 y5 y6 y7 y8 hHeld hw3
    have hAt := HH.out.later HB3.out
    have b2 := hAt.c2
    have bf2 := hAt.fz 2
    have bf0 := hAt.fz 0
    have hblt := hAt.lt
    have hbw := HH.out.lt
    have HS2 := Lib.hid (show w.heap.size + 2 ≤ w3.heap.size from HLT3)
    cases hmv : mv with
    | none =>
      obtain ⟨w4, hrun, hBuf, hFr⟩ := HMN.out a2 c2 w3 HN3.out HB3.out HF3.out hmv
      unfold kV recV at hrun
      dsimp only at hrun
      have HFIN := Lib.hid (And.intro hBuf hFr)
      rw [hmv] at b2
      clear hBuf hFr hmv
      have hne1 : ¬ b = w3.heap.size := by omega
      have hne2 : ¬ w3.heap.size = b := by omega
      have hne3 : ¬ w.heap.size = b := by omega
      have hne4 : ¬ w.heap.size + 1 = b := by omega
      have heq := map_eq w3
      have hmk := @run_makeMap Try.prog
      go_upto_region 4 with fail
      have eW := (World.setCell_alloc_past (w := w3) (.map #[] 0) b 2 (.map (some w3.heap.size)) hblt).symm
      rw [eW]
      have k2 : ((w3.alloc (.map #[] 0)).setCell ⟨b, 2, none⟩ (.map (some w3.heap.size))).cell? ⟨b, 2, none⟩ = some (.map (some w3.heap.size)) := by
        rw [Joins.cell_of_block (Joins.block_setCell (i := 2) (hAt.later ((Below.refl w3.heap.size w3).alloc (Nat.le_refl _) (.map #[] 0))).obj (.map (some w3.heap.size)))]; rfl
      have koff : ∀ q, q < w3.heap.size → q ≠ b → ((w3.alloc (.map #[] 0)).setCell ⟨b, 2, none⟩ (.map (some w3.heap.size))).heap[q]? = w3.heap[q]? := fun q hq hne => (World.heap_setCell_off (w3.alloc (.map #[] 0)) b 2 _ q hne).trans (((Below.refl w3.heap.size w3).alloc (Nat.le_refl _) (.map #[] 0)).block q hq)
      have hw3 := HB3.out.size
      have hs2 := HS2.out
      have hkn := koff w.heap.size (by omega) (by omega)
      have hke := koff (w.heap.size + 1) (by omega) (by omega)
      obtain ⟨W4, hW4⟩ : ∃ x, ((w3.alloc (.map #[] 0)).setCell ⟨b, 2, none⟩ (.map (some w3.heap.size))) = x := ⟨_, rfl⟩
      rw [hW4] at hrun k2 hkn hke ⊢
      obtain ⟨m0, m1, mf0, mf1, mlt⟩ := (N2.mk m0 m1 mf0 mf1 mlt).off hkn (by rw [← hW4]; simp)
      obtain ⟨p0, p1, p2, p3, p4, p5, p6, p7, p8⟩ := (rec_same (r := ⟨rk, rs, rt, rv, rtier, ⟨rc, rst, rq⟩, rd⟩) ⟨p0, p1, p2, p3, p4, p5, p6, p7, p8⟩ hke)
      clear hW4 eW koff hkn hke q0 q1 q2 q3 q4 q5 q6 q7 q8 b2 hAt
      go_wp2 
      refine still_tail 6 (by kernel_rfl) (by kernel_rfl) ?_
      simp only [List.take_succ_cons, List.take_zero, List.drop_succ_cons, List.drop_zero]
      repeat still_step
      refine wpStill_nil ?_
      go_wp2
      first | go_end0 | go_ret
      exact ⟨rfl, HFIN.out.1, HFIN.out.2⟩
    | some m =>
      obtain ⟨w4, hrun, hBuf, hFr⟩ := HM.out a2 c2 w3 HN3.out HB3.out HF3.out m hmv
      unfold kV recV at hrun
      dsimp only at hrun
      have HFIN := Lib.hid (And.intro hBuf hFr)
      rw [hmv] at b2
      clear hBuf hFr hmv
      have heq := map_ne m w3
      go_wp2 
      refine still_tail 6 (by kernel_rfl) (by kernel_rfl) ?_
      simp only [List.take_succ_cons, List.take_zero, List.drop_succ_cons, List.drop_zero]
      repeat still_step
      refine wpStill_nil ?_
      go_wp2
      first | go_end0 | go_ret
      exact ⟨rfl, HFIN.out.1, HFIN.out.2⟩
  ·
    go_simp
    skip
    refine hK.out _ _ (hHeld) (fun hHeld => ?_)
    clear hK K
    try simp only [Act.put, List.setIfInBounds_toArray, List.set_cons_zero, List.set_cons_succ]
    refine wpAnyH_ready (rs := [2]) (by kernel_rfl) (by simp) ?_
    refine (AllReadyH.cons rfl (fun K hK => ?_) AllReadyH.nil)
    go_simp
    (go_at_call 57; (with_reducible refine (kc _).mono ?_); rintro e w1 ⟨rfl, hb1⟩; (have HB1 := Lib.hid hb1); (have k81 : w1.cell? ⟨w.heap.size + 1, 8, none⟩ = some (.slice ra rd.length rcc) := (hb1.cell (p := ⟨w.heap.size + 1, 8, none⟩) (hHeld.lt1)).trans k80); (have HN1 := Lib.hid (Ns.later HN0.out hb1)); (have hHeld := hHeld.keep hb1); clear hb1)
    refine hK.out _ _ (hHeld) (fun hHeld => ?_)
    clear hK K
    try simp only [Act.put, List.setIfInBounds_toArray, List.set_cons_zero, List.set_cons_succ]
    refine wpAnyH_take (i := 6) (oi := ?o6o) (v := ?o6v) ?o6h (by kernel_rfl) (by kernel_rfl) (by kernel_rfl) ?o6q ?o6y hHeld ?o6r
    case o6h => (simp only [List.getElem?_toArray, List.getElem?_cons_succ, List.getElem?_cons_zero]; rfl)
    case o6q => exact fun _ _ _ h => h
    case o6y => (refine Or.inl ⟨by first | kernel_rfl | rfl, ?_⟩; intro w hSw; (try dsimp only at hSw); obtain ⟨⟨n0, n1, nf0, nf1, nlt⟩, ⟨zz, ⟨⟨x0, x1, x2, x3, x4, x5, x6, x7, x8⟩, y0, y1, y2, y3, y4, y5, y6, y7, y8⟩⟩, -, -⟩ := hSw; go_simp <;> (try with_reducible rfl))
    try simp only [Act.put, List.setIfInBounds_toArray, List.set_cons_zero, List.set_cons_succ]
    refine wpAnyH_ready (rs := [5]) (by kernel_rfl) (by simp) ?_
    refine (AllReadyH.cons rfl (fun K hK => ?_) AllReadyH.nil)
    go_simp
    (go_at_call 42; (with_reducible refine (ks _ HN1.out).mono ?_); rintro e w2 ⟨v2, rfl, hn2, hb2, hf2⟩; (have HB2 := Lib.hid hb2); (have HF2 := Lib.hid (own_past hf2 (Nat.le_trans (Nat.le_of_eq HSZ.out.symm) HB1.out.size))); (have HN2 := Lib.hid hn2); (obtain ⟨a2, c2, rfl⟩ := hn2.slice); (have hHeld := hHeld.keep hb2); (obtain ⟨-, ⟨z2, ⟨⟨x0, x1, x2, x3, x4, x5, x6, x7, x8⟩, y0, y1, y2, y3, y4, y5, y6, y7, y8⟩⟩, -, -⟩ := id hHeld); clear hn2 hb2 hf2)
    refine hK.out _ _ (hHeld) (fun hHeld => ?_)
    clear hK K
    try simp only [Act.put, List.setIfInBounds_toArray, List.set_cons_zero, List.set_cons_succ]
    refine wpAnyH_ready (rs := [7]) (by kernel_rfl) (by simp) ?_
    refine (AllReadyH.cons rfl (fun K hK => ?_) AllReadyH.nil)
    go_simp
    (rw [setCell_noop x1])
    refine hK.out _ _ (hHeld) (fun hHeld => ?_)
    clear hK K
    try simp only [Act.put]
    refine wpAnyH_take (i := 8) (oi := ?o7o) (v := ?o7v) ?o7h (by kernel_rfl) (by kernel_rfl) (by kernel_rfl) ?o7q ?o7y hHeld ?o7r
    case o7h => (simp only [List.getElem?_toArray, List.getElem?_cons_succ, List.getElem?_cons_zero]; rfl)
    case o7q => exact fun _ _ _ h => h
    case o7y => (refine Or.inl ⟨by first | kernel_rfl | rfl, ?_⟩; intro w hSw; (try dsimp only at hSw); obtain ⟨⟨n0, n1, nf0, nf1, nlt⟩, ⟨zz, ⟨⟨x0, x1, x2, x3, x4, x5, x6, x7, x8⟩, y0, y1, y2, y3, y4, y5, y6, y7, y8⟩⟩, -, -⟩ := hSw; go_simp <;> (try with_reducible rfl))
    try simp only [Act.put, List.setIfInBounds_toArray, List.set_cons_zero, List.set_cons_succ]
    refine wpAnyH_ready (rs := [9]) (by kernel_rfl) (by simp) ?_
    refine (AllReadyH.cons rfl (fun K hK => ?_) AllReadyH.nil)
    go_simp
    skip
    refine hK.out _ _ (hHeld.set8 _) (fun hHeld => ?_)
    clear hK K
    try simp only [Act.put]
    refine wpAnyH_done (by kernel_rfl) ?_ _
    have hR3 : RecW (w2.setCell ⟨w.heap.size + 1, 8, none⟩ (.slice a2 rd.length c2)) (w.heap.size + 1) ⟨rk, rs, rt, rv, rtier, ⟨rc, rst, rq⟩, rd⟩ (.slice a2 rd.length c2) := RecW.set8 (r := ⟨rk, rs, rt, rv, rtier, ⟨rc, rst, rq⟩, rd⟩) ⟨⟨x0, x1, x2, x3, x4, x5, x6, x7, x8⟩, y0, y1, y2, y3, y4, y5, y6, y7, y8⟩ rd _
    have HN3 := Lib.hid (Ns.other HN2.out (by simp) (fun q hq _ => World.heap_setCell_off w2 (w.heap.size + 1) 8 _ q (fun e => by have := HF2.out q hq; omega)) : Ns (w2.setCell ⟨w.heap.size + 1, 8, none⟩ (.slice a2 rd.length c2)) (.slice a2 rd.length c2) rd)
    have HB3 := Lib.hid hHeld.bel
    have HNM := hHeld.nm
    obtain ⟨w3, hw3⟩ : ∃ x, w2.setCell ⟨w.heap.size + 1, 8, none⟩ (.slice a2 rd.length c2) = x := ⟨_, rfl⟩
    have HLT3 : w.heap.size + 2 ≤ w3.heap.size := by rw [← hw3]; simp only [World.size_setCell]; have e1 := HB1.out.size; have e2 := HB2.out.size; have e3 := HSZ.out; simp only [World.size_drew] at e1 e2; omega
    have HF3 := Lib.hid (show ∀ q, (Value.slice a2 rd.length c2).ownBlock = some q → w.heap.size + 2 ≤ q ∧ q < w3.heap.size from fun q hq => by rw [← hw3]; simpa using HF2.out q hq)
    rw [hw3] at hR3 HN3 HB3 HNM ⊢
    obtain ⟨⟨p0, p1, p2, p3, p4, p5, p6, p7, p8⟩, q0, q1, q2, q3, q4, q5, q6, q7, q8⟩ := hR3
    obtain ⟨m0, m1, mf0, mf1, mlt⟩ := HNM
    clear x0 x1 x2 x3 x4 x5 x6 x7 x8 y0 y1 y2 y3 y4 y5 y6 y7 y8 hHeld hw3
    have hAt := HH.out.later HB3.out
    have b2 := hAt.c2
    have bf2 := hAt.fz 2
    have bf0 := hAt.fz 0
    have hblt := hAt.lt
    have hbw := HH.out.lt
    have HS2 := Lib.hid (show w.heap.size + 2 ≤ w3.heap.size from HLT3)
    cases hmv : mv with
    | none =>
      obtain ⟨w4, hrun, hBuf, hFr⟩ := HMN.out a2 c2 w3 HN3.out HB3.out HF3.out hmv
      unfold kV recV at hrun
      dsimp only at hrun
      have HFIN := Lib.hid (And.intro hBuf hFr)
      rw [hmv] at b2
      clear hBuf hFr hmv
      have hne1 : ¬ b = w3.heap.size := by omega
      have hne2 : ¬ w3.heap.size = b := by omega
      have hne3 : ¬ w.heap.size = b := by omega
      have hne4 : ¬ w.heap.size + 1 = b := by omega
      have heq := map_eq w3
      have hmk := @run_makeMap Try.prog
      go_upto_region 4 with fail
      have eW := (World.setCell_alloc_past (w := w3) (.map #[] 0) b 2 (.map (some w3.heap.size)) hblt).symm
      rw [eW]
      have k2 : ((w3.alloc (.map #[] 0)).setCell ⟨b, 2, none⟩ (.map (some w3.heap.size))).cell? ⟨b, 2, none⟩ = some (.map (some w3.heap.size)) := by
        rw [Joins.cell_of_block (Joins.block_setCell (i := 2) (hAt.later ((Below.refl w3.heap.size w3).alloc (Nat.le_refl _) (.map #[] 0))).obj (.map (some w3.heap.size)))]; rfl
      have koff : ∀ q, q < w3.heap.size → q ≠ b → ((w3.alloc (.map #[] 0)).setCell ⟨b, 2, none⟩ (.map (some w3.heap.size))).heap[q]? = w3.heap[q]? := fun q hq hne => (World.heap_setCell_off (w3.alloc (.map #[] 0)) b 2 _ q hne).trans (((Below.refl w3.heap.size w3).alloc (Nat.le_refl _) (.map #[] 0)).block q hq)
      have hw3 := HB3.out.size
      have hs2 := HS2.out
      have hkn := koff w.heap.size (by omega) (by omega)
      have hke := koff (w.heap.size + 1) (by omega) (by omega)
      obtain ⟨W4, hW4⟩ : ∃ x, ((w3.alloc (.map #[] 0)).setCell ⟨b, 2, none⟩ (.map (some w3.heap.size))) = x := ⟨_, rfl⟩
      rw [hW4] at hrun k2 hkn hke ⊢
      obtain ⟨m0, m1, mf0, mf1, mlt⟩ := (N2.mk m0 m1 mf0 mf1 mlt).off hkn (by rw [← hW4]; simp)
      obtain ⟨p0, p1, p2, p3, p4, p5, p6, p7, p8⟩ := (rec_same (r := ⟨rk, rs, rt, rv, rtier, ⟨rc, rst, rq⟩, rd⟩) ⟨p0, p1, p2, p3, p4, p5, p6, p7, p8⟩ hke)
      clear hW4 eW koff hkn hke q0 q1 q2 q3 q4 q5 q6 q7 q8 b2 hAt
      go_wp2 
      refine still_tail 6 (by kernel_rfl) (by kernel_rfl) ?_
      simp only [List.take_succ_cons, List.take_zero, List.drop_succ_cons, List.drop_zero]
      repeat still_step
      refine wpStill_nil ?_
      go_wp2
      first | go_end0 | go_ret
      exact ⟨rfl, HFIN.out.1, HFIN.out.2⟩
    | some m =>
      obtain ⟨w4, hrun, hBuf, hFr⟩ := HM.out a2 c2 w3 HN3.out HB3.out HF3.out m hmv
      unfold kV recV at hrun
      dsimp only at hrun
      have HFIN := Lib.hid (And.intro hBuf hFr)
      rw [hmv] at b2
      clear hBuf hFr hmv
      have heq := map_ne m w3
      go_wp2 
      refine still_tail 6 (by kernel_rfl) (by kernel_rfl) ?_
      simp only [List.take_succ_cons, List.take_zero, List.drop_succ_cons, List.drop_zero]
      repeat still_step
      refine wpStill_nil ?_
      go_wp2
      first | go_end0 | go_ret
      exact ⟨rfl, HFIN.out.1, HFIN.out.2⟩
end Go.Proofs.Ythifmfgnblecbaa.Og.Cb
