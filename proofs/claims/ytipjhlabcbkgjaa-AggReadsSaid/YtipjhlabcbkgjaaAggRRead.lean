/- Contract: the document's Read. -/
import Derived.Test.YtipjhlabcbkgjaaAggReadsMath
import Derived.Test.YtipjhlabcbkgjaaAggRCheck
import Derived.Test.YtipjhlabcbkgjaaAggRMerge
set_option maxRecDepth 20000
set_option linter.unusedSimpArgs false
namespace Go.Proofs.Ytipjhlabcbkgjaa.Ag
open Go.RowKit Go.Proofs.Ytipjhlabcbkgjaa Go.Proofs.Ytipjhlabcbkgjaa.Wd Go.Proofs.Ytipjhlabcbkgjaa.Vi Go.Proofs.Ytipjhlabcbkgjaa.Mk

theorem rjoin {P : Prop} {F : Nat → Act} {T : Nat → World → Prop} {K : Act → World → Prop} (hw : (∀ d W, T d W → K (F d) W) → P) (hr : ∀ d W, T d W → K (F d) W) : P := hw hr
theorem agV_n (c : Int) : agV ⟨c, 0, 0, 0, 0, ⟨0, 0, 0⟩, fun _ => 0⟩ = .agg #[.int .i64 c, .int .i64 0, .int .u64 0, .int .i64 0, .int .i64 0, .int .i64 0, .int .i64 0, .int .i64 0, .int .i64 0, .int .i64 0, .int .i64 0, .int .i64 0, .int .i64 0, .int .i64 0, .int .i64 0, .int .i64 0, .int .i64 0, .int .i64 0] := by
  unfold agV
  simp only [wh_zero, wl_zero]
theorem rs_upto {w w' : World} {d B : Nat} {S r : ByteArray} {b : Bool} (h : RS w d S r b) (k : Below B w w') (hd : d < B) : RS w' d S r b := by
  obtain ⟨a, bad, h, s⟩ := h
  exact ⟨a, bad, ⟨(k.cell (p := ⟨d, 0, none⟩) hd).trans h.c0, (k.cell (p := ⟨d, 1, none⟩) hd).trans h.c1, (k.cell (p := ⟨d, 2, none⟩) hd).trans h.c2, (k.frozen (p := ⟨d, 0, none⟩) hd).trans h.f0, (k.frozen (p := ⟨d, 1, none⟩) hd).trans h.f1, (k.frozen (p := ⟨d, 2, none⟩) hd).trans h.f2⟩, s⟩
/-- The result's block, the reader, the aggregate. -/
structure RK (w : World) (d b5 : Nat) (S r : ByteArray) (b : Bool) (g : Ag) (W : World) : Prop where
  res : AgW W w.heap.size Ag.zero
  rs : RS W d S r b
  g : AgW W b5 g
  ld : w.heap.size < d
  l5 : d < b5
  bel : Below w.heap.size w W
theorem RK.keep {w : World} {d b5 : Nat} {S r : ByteArray} {b : Bool} {g : Ag} {W W' : World} (h : RK w d b5 S r b g W) (k : Below W.heap.size W W') : RK w d b5 S r b g W' :=
  ⟨h.res.below k, rs_upto h.rs k (RS.room h.rs), h.g.below k, h.ld, h.l5, bel_next h.bel k⟩
theorem RK.but {w : World} {d b5 : Nat} {S r : ByteArray} {b : Bool} {g : Ag} {W W' : World} (h : RK w d b5 S r b g W) {r' : ByteArray} {b' : Bool} (hr : RS W' d S r' b') (k : But d W W') : RK w d b5 S r' b' g W' :=
  ⟨h.res.but k (by have := h.ld; omega), hr, h.g.but k (by have := h.l5; omega), h.ld, h.l5, h.bel.trans (k.below (by have := h.ld; omega) (by have := h.res.at_.room; omega))⟩
theorem RK.putg {w : World} {d b5 : Nat} {S r : ByteArray} {b : Bool} {g g' : Ag} {W W' : World} (h : RK w d b5 S r b g W) (hg : AgW W' b5 g') (k : Below b5 W W') : RK w d b5 S r b g' W' :=
  ⟨h.res.upto k (by have := h.ld; have := h.l5; omega), rs_upto h.rs k h.l5, hg, h.ld, h.l5, h.bel.trans (k.mono (by have := h.ld; have := h.l5; omega))⟩
theorem below_put {W : World} {b o : Nat} (v : Value) : Below b W (W.setCell ⟨b, o, none⟩ v) := (Below.refl _ _).setCell (p := ⟨b, o, none⟩) (Nat.le_refl _) _
theorem RK.mn {w : World} {d b5 : Nat} {S r : ByteArray} {b : Bool} {g : Ag} {W : World} (h : RK w d b5 S r b g W) (n : Int) : ∃ x, x = W.setCell ⟨b5, 3, none⟩ (.int .i64 n) ∧ RK w d b5 S r b { g with mn := n } x := ⟨_, rfl, h.putg (h.g.put_mn n) (below_put _)⟩
theorem RK.mx {w : World} {d b5 : Nat} {S r : ByteArray} {b : Bool} {g : Ag} {W : World} (h : RK w d b5 S r b g W) (n : Int) : ∃ x, x = W.setCell ⟨b5, 4, none⟩ (.int .i64 n) ∧ RK w d b5 S r b { g with mx := n } x := ⟨_, rfl, h.putg (h.g.put_mx n) (below_put _)⟩
theorem RK.la {w : World} {d b5 : Nat} {S r : ByteArray} {b : Bool} {g : Ag} {W : World} (h : RK w d b5 S r b g W) (n : Int) : ∃ x, x = W.setCell ⟨b5, 5, none⟩ (.int .i64 n) ∧ RK w d b5 S r b { g with la := n } x := ⟨_, rfl, h.putg (h.g.put_la n) (below_put _)⟩
theorem RK.st {w : World} {d b5 : Nat} {S r : ByteArray} {b : Bool} {g : Ag} {W : World} (h : RK w d b5 S r b g W) (s : St) : ∃ x, x = ((W.setCell ⟨b5, 6, none⟩ (.int .i64 s.c)).setCell ⟨b5, 7, none⟩ (.int .i64 s.s)).setCell ⟨b5, 8, none⟩ (.int .i64 s.q) ∧ RK w d b5 S r b { g with st := s } x := ⟨_, rfl, h.putg (h.g.put_st s) (((below_put _).trans (below_put _)).trans (below_put _))⟩
theorem RK.sm {w : World} {d b5 : Nat} {S r : ByteArray} {b : Bool} {g : Ag} {W : World} (h : RK w d b5 S r b g W) (s : Int) : ∃ x, x = (W.setCell ⟨b5, 1, none⟩ (.int .i64 (wh s))).setCell ⟨b5, 2, none⟩ (.int .u64 (wl s)) ∧ RK w d b5 S r b { g with s := s } x := ⟨_, rfl, h.putg (h.g.put_s s) ((below_put _).trans (below_put _))⟩
theorem RK.name {w : World} {d b5 : Nat} {S r : ByteArray} {b : Bool} {g : Ag} {W : World} (h : RK w d b5 S r b g W) : ∃ x, x = W ∧ RK w d b5 S r b g x := ⟨W, rfl, h⟩
theorem RK.ref {w W : World} (h : AgW W w.heap.size Ag.zero) (hb : Below w.heap.size w W) (S : ByteArray) : ∃ x d, x = W.alloc (.cells #[.string S, .int .i64 0, .bool false] 72) ∧ d = W.heap.size ∧ AgW x w.heap.size Ag.zero ∧ RS x d S S false ∧ w.heap.size < d ∧ d < x.heap.size ∧ Below w.heap.size w x :=
  ⟨_, _, rfl, rfl, h.below ((Below.refl _ _).alloc (Nat.le_refl _) _), ⟨0, false, ⟨by simp [go_sem], by simp [go_sem], by simp [go_sem], by simp [go_sem], by simp [go_sem], by simp [go_sem]⟩, rfl, Nat.zero_le _, fun _ => (by unfold restB; simp), fun e => by cases e⟩, h.at_.room, by simp, bel_new hb _⟩
def gS (r : ByteArray) (b : Bool) (k : Nat) : Nat → Int := fun i => if i < k then smS r b i else 0
theorem gS_step (r : ByteArray) (b : Bool) (k : Nat) : setB (gS r b k) k (smS r b k) = gS r b (k + 1) := by
  funext i
  unfold setB gS
  by_cases h : i = k
  · subst h; rw [if_pos rfl, if_pos (by omega)]
  · rw [if_neg h]
    by_cases h2 : i < k
    · rw [if_pos h2, if_pos (by omega)]
    · rw [if_neg h2, if_neg (by omega)]
theorem gS_zero (r : ByteArray) (b : Bool) : gS r b 0 = fun _ => 0 := by
  funext i
  unfold gS
  rw [if_neg (by omega)]
theorem gS_nine (n s z1 z2 z3 : Int) (a : St) (r : ByteArray) (b : Bool) : agV ⟨n, s, z1, z2, z3, a, gS r b 9⟩ = agV ⟨n, s, z1, z2, z3, a, fun i => smS r b i⟩ := rfl
theorem bsmall_range {r r' : ByteArray} {b b' : Bool} {v m : Int} (H : smallQ r b m = (v, r', b')) (hm : 0 ≤ m) : 0 ≤ v ∧ v ≤ m := by
  unfold smallQ at H
  split at H
  · simp at H; obtain ⟨rfl, -⟩ := H; exact ⟨by omega, hm⟩
  · split at H
    · simp at H; obtain ⟨rfl, -⟩ := H; exact ⟨by omega, hm⟩
    · split at H
      · rename_i h; simp at H; obtain ⟨rfl, -⟩ := H; exact ⟨by omega, h.2⟩
      · simp at H; obtain ⟨rfl, -⟩ := H; exact ⟨by omega, hm⟩
theorem part16 (S : ByteArray) (aa : Nat) : S.extract aa (aa + 16) = (restB S aa).extract 0 16 := by
  apply list_inj
  rw [ByteArray.data_extract, Array.toList_extract, ByteArray.data_extract, Array.toList_extract, restB_list]
  simp [List.extract_eq_take_drop, Nat.add_sub_cancel_left]
/-- The answers. -/
theorem rans {S r : ByteArray} {G x : Ag} {b : Bool} {zz er eg : Int} (hRT : rtakenA S = (G, r, b)) (hsh : ¬ rshort S) (hz : endQ r b = zz) (hx : rreadA S = (x, er)) (he : errA G = eg) :
    (zz = 0 ∧ eg = 0 ∧ x = G ∧ er = 0) ∨ ((zz = 10 ∨ zz = 0 ∧ eg = 1) ∧ x = Ag.zero ∧ er = 10) := by
  unfold rreadA rreadOk at hx
  rw [hRT] at hx
  dsimp only at hx
  rw [hz] at hx
  have hzz : zz = 0 ∨ zz = 10 := by
    rw [← hz]; unfold endQ; split
    · exact Or.inr rfl
    · split
      · exact Or.inl rfl
      · exact Or.inr rfl
  unfold errA at he
  rcases hzz with rfl | rfl
  · cases hok : okA G with
    | true =>
      rw [if_pos ⟨hsh, rfl, hok⟩] at hx
      rw [if_pos hok] at he
      injection hx with h1 h2
      exact Or.inl ⟨rfl, he.symm, h1.symm, h2.symm⟩
    | false =>
      rw [if_neg (fun h => by rw [hok] at h; exact absurd h.2.2 (by decide))] at hx
      rw [if_neg (by rw [hok]; decide)] at he
      injection hx with h1 h2
      exact Or.inr ⟨Or.inr ⟨rfl, he.symm⟩, h1.symm, h2.symm⟩
  · rw [if_neg (fun h => absurd h.2.1 (by decide))] at hx
    injection hx with h1 h2
    exact Or.inr ⟨Or.inl rfl, h1.symm, h2.symm⟩
theorem rans_short {S : ByteArray} {x : Ag} {er : Int} (hsh : rshort S) (hx : rreadA S = (x, er)) : x = Ag.zero ∧ er = 10 := by
  unfold rreadA at hx
  rw [if_neg (fun h => h.1 hsh)] at hx
  injection hx with h1 h2
  exact ⟨h1.symm, h2.symm⟩
/-- The reader's place is known. -/
structure RP (w : World) (d b5 : Nat) (S r : ByteArray) (g : Ag) (aa : Nat) (W : World) : Prop where
  k : RK w d b5 S r false g W
  rb : RB W d S aa false
theorem RP.keep {w : World} {d b5 : Nat} {S r : ByteArray} {g : Ag} {aa : Nat} {W W' : World} (h : RP w d b5 S r g aa W) (k : Below W.heap.size W W') : RP w d b5 S r g aa W' := ⟨h.k.keep k, h.rb.below k⟩
/-- The number's block, once it is there. -/
structure NO (b5 : Nat) (o : Option Nat) (W : World) : Prop where
  e : ∀ e, o = some e → RNum W e 0 0 ∧ b5 < e
theorem NO.none (b5 : Nat) (W : World) : NO b5 none W := ⟨fun e he => by cases he⟩
theorem NO.keep {b5 : Nat} {o : Option Nat} {W W' : World} (h : NO b5 o W) (k : Below W.heap.size W W') : NO b5 o W' := ⟨fun e he => ⟨(h.e e he).1.below k, (h.e e he).2⟩⟩
theorem RP.box {w : World} {d b5 : Nat} {S r : ByteArray} {g : Ag} {aa : Nat} {W : World} (h : RP w d b5 S r g aa W) : ∃ x e, x = W.alloc (.cells #[.int .i64 0, .int .u64 0] 24) ∧ e = W.heap.size ∧ RP w d b5 S r g aa x ∧ NO b5 (some e) x :=
  ⟨_, _, rfl, rfl, h.keep ((Below.refl _ _).alloc (Nat.le_refl _) _), ⟨fun e he => by
    obtain rfl : W.heap.size = e := by injection he
    exact ⟨RNum.new W 0 0 _, h.k.g.at_.room⟩⟩⟩
/-- With the number in its block. -/
structure RN (w : World) (d b5 b6 : Nat) (S r : ByteArray) (g : Ag) (aa : Nat) (s : Int) (W : World) : Prop where
  p : RP w d b5 S r g aa W
  n : RNum W b6 (wh s) (wl s)
  l : b5 < b6
theorem RP.num {w : World} {d b5 : Nat} {S r : ByteArray} {g : Ag} {aa : Nat} {W : World} {e : Nat} (h : RP w d b5 S r g aa W) (x : NO b5 (some e) W) (s : Int) : RN w d b5 e S r g aa s ((W.setCell ⟨e, 0, none⟩ (.int .i64 (wh s))).setCell ⟨e, 1, none⟩ (.int .u64 (wl s))) := by
  obtain ⟨x1, x2⟩ := x.e e rfl
  have kb : Below e W ((W.setCell ⟨e, 0, none⟩ (.int .i64 (wh s))).setCell ⟨e, 1, none⟩ (.int .u64 (wl s))) := (below_put _).trans (below_put _)
  have l5 := h.k.l5
  have ld := h.k.ld
  exact ⟨⟨⟨h.k.res.upto kb (by omega), rs_upto h.k.rs kb (by omega), h.k.g.upto kb x2, ld, l5, h.k.bel.trans (kb.mono (by omega))⟩, ⟨(kb.cell (p := ⟨d, 0, none⟩) (by show d < e; omega)).trans h.rb.c0, (kb.cell (p := ⟨d, 1, none⟩) (by show d < e; omega)).trans h.rb.c1, (kb.cell (p := ⟨d, 2, none⟩) (by show d < e; omega)).trans h.rb.c2, (kb.frozen (p := ⟨d, 0, none⟩) (by show d < e; omega)).trans h.rb.f0, (kb.frozen (p := ⟨d, 1, none⟩) (by show d < e; omega)).trans h.rb.f1, (kb.frozen (p := ⟨d, 2, none⟩) (by show d < e; omega)).trans h.rb.f2⟩⟩, x1.set _ _, x2⟩
theorem RN.name {w : World} {d b5 b6 : Nat} {S r : ByteArray} {g : Ag} {aa : Nat} {s : Int} {W : World} (h : RN w d b5 b6 S r g aa s W) : ∃ x, x = W ∧ RN w d b5 b6 S r g aa s x := ⟨W, rfl, h⟩
/-- Sixteen bytes on. -/
theorem RN.on {w : World} {d b5 b6 : Nat} {S r : ByteArray} {g : Ag} {aa : Nat} {s : Int} {W : World} (h : RN w d b5 b6 S r g aa s W) (hr : r = restB S aa) (h16 : 16 ≤ r.size) (hle : aa ≤ S.size) :
    ∃ x, x = W.setCell ⟨d, 1, none⟩ (.int .i64 ((aa : Int) + 16)) ∧ RK w d b5 S (r.extract 16 r.size) false g x ∧ RNum x b6 (wh s) (wl s) := by
  have hb : But d W (W.setCell ⟨d, 1, none⟩ (.int .i64 ((aa : Int) + 16))) := But.self _ _ _ _
  have hm := h.p.rb.moved 16
  have hsz : r.size = S.size - aa := by rw [hr]; unfold restB; simp
  refine ⟨_, rfl, h.p.k.but ⟨aa + 16, false, hm, rfl, by omega, fun _ => ?_, fun e => by cases e⟩ hb, h.n.but hb (by have := h.l; have := h.p.k.l5; omega)⟩
  apply list_inj
  rw [restB_list, ← List.drop_drop, ← restB_list, ← hr]
  rw [ByteArray.data_extract, Array.toList_extract]
  apply List.take_of_length_le
  rw [List.length_drop, Array.length_toList]
  exact Nat.le_refl _
theorem RK.to {w : World} {d b5 : Nat} {S r : ByteArray} {b : Bool} {g g' : Ag} {W : World} (h : RK w d b5 S r b g W) (e : cells18 g = cells18 g') : RK w d b5 S r b g' W := ⟨h.res, h.rs, (AgL.of h.g).to e, h.ld, h.l5, h.bel⟩
set_option maxHeartbeats 4000000 in
theorem rread8_is (S : ByteArray) (w : World) (hs : S.size ≤ 1000) : Calls Try.prog 26 #[.string S] w fun e w' => e = .returned (.tuple #[agV (rreadA S).1, .int .i64 (rreadA S).2]) ∧ Below w.heap.size w w' := by
  obtain ⟨⟨x, er⟩, hx⟩ : ∃ z, rreadA S = z := ⟨_, rfl⟩
  rw [hx]
  obtain ⟨⟨c, r1, b1⟩, hc⟩ : ∃ z, smallQ S false 1099511627776 = z := ⟨_, rfl⟩
  have kc := fun d W h => rsmall_is d S S r1 false b1 c 1099511627776 W (by omega) (by omega) (Lib.hid hc) h
  have HC := Lib.hid hc
  have HX := Lib.hid hx
  have hi1 := smallQ_inv hc (fun e => by cases e)
  have hr0 := AgW.zero w 29
  have hrb := (Below.refl w.heap.size w).alloc (Nat.le_refl _) (.cells #[.int .i64 0, .int .i64 0, .int .u64 0, .int .i64 0, .int .i64 0, .int .i64 0, .int .i64 0, .int .i64 0, .int .i64 0, .int .i64 0, .int .i64 0, .int .i64 0, .int .i64 0, .int .i64 0, .int .i64 0, .int .i64 0, .int .i64 0, .int .i64 0] 29)
  have HR0 := Lib.hid (And.intro hr0 hrb)
  clear hr0 hrb hc hx
  go_enter Try.func26, Try.ntmps26
  go_upto_region 1 with fail
  obtain ⟨w0, hw0, hr, hb⟩ := resW_name HR0.out.1 HR0.out.2
  rw [← hw0]
  have H0 := Lib.hid (And.intro hr hb)
  clear hw0 hr hb HR0
  go_upto_region 2 with fail
  obtain ⟨w1, d, hw1, hd, h1⟩ := RK.ref H0.out.1 H0.out.2 S
  (try rw [← hw1])
  (try rw [← hd])
  have H1 := Lib.hid h1
  clear hw1 hd h1 H0
  refine wp_region_lit ?_
  refine wpList_plain rfl fun K hK => ?_
  go_simp
  refine hK _ _ ?_
  clear hK K
  (try simp only [Act.put, List.setIfInBounds_toArray, List.set_cons_zero, List.set_cons_succ])
  refine wpList_plain rfl fun K hK => ?_
  go_simp
  ((with_reducible refine (kc _ _ H1.out.2.1).mono ?_); rintro e w2 ⟨rfl, hrs, hbt⟩)
  refine hK _ _ ?_
  clear hK K
  (try simp only [Act.put, List.setIfInBounds_toArray, List.set_cons_zero, List.set_cons_succ])
  refine wpList_plain rfl fun K hK => ?_
  go_simp
  refine hK _ _ ?_
  clear hK K
  (try simp only [Act.put, List.setIfInBounds_toArray, List.set_cons_zero, List.set_cons_succ])
  refine wpList_plain rfl fun K hK => ?_
  go_simp
  refine hK _ _ ?_
  clear hK K
  (try simp only [Act.put, List.setIfInBounds_toArray, List.set_cons_zero, List.set_cons_succ])
  refine list_store_ag rfl _ _ rfl w2.heap.size Ag.zero ⟨c, 0, 0, 0, 0, ⟨0, 0, 0⟩, fun _ => 0⟩ rfl (by rw [agV_n]; rfl) (AgW.zero w2 _) ?_
  refine wpList_nil ?_
  obtain ⟨w3, b5, hw3, hb5, h3⟩ : ∃ x q, x = stA (w2.alloc (.cells #[.int .i64 0, .int .i64 0, .int .u64 0, .int .i64 0, .int .i64 0, .int .i64 0, .int .i64 0, .int .i64 0, .int .i64 0, .int .i64 0, .int .i64 0, .int .i64 0, .int .i64 0, .int .i64 0, .int .i64 0, .int .i64 0, .int .i64 0, .int .i64 0] 29)) w2.heap.size ⟨c, 0, 0, 0, 0, ⟨0, 0, 0⟩, fun _ => 0⟩ ∧ q = w2.heap.size ∧ RK w d q S r1 b1 ⟨c, 0, 0, 0, 0, ⟨0, 0, 0⟩, fun _ => 0⟩ x := by
    obtain ⟨y1, y2, y3, y4, y5⟩ := H1.out
    have kk := stA_below ⟨c, 0, 0, 0, 0, ⟨0, 0, 0⟩, fun _ => 0⟩ (bel_new (Below.refl w2.heap.size w2) (.cells #[.int .i64 0, .int .i64 0, .int .u64 0, .int .i64 0, .int .i64 0, .int .i64 0, .int .i64 0, .int .i64 0, .int .i64 0, .int .i64 0, .int .i64 0, .int .i64 0, .int .i64 0, .int .i64 0, .int .i64 0, .int .i64 0, .int .i64 0, .int .i64 0] 29)) (Nat.le_refl _)
    exact ⟨_, _, rfl, rfl, (y1.but hbt (by omega)).below kk, rs_upto hrs kk (RS.room hrs), (AgW.zero w2 29).st _, y3, RS.room hrs, bel_next (y5.trans (hbt.below (by omega) (by have := y1.at_.room; omega))) kk⟩
  rw [← hw3]
  rw [← hb5]
  have H := Lib.hid h3
  clear hw3 hb5 h3 hrs hbt H1 kc
  have x0 := (AgL.of H.out.g).cell 0 (show (cells18 ⟨c, 0, 0, 0, 0, ⟨0, 0, 0⟩, fun _ => 0⟩)[0]? = some (.int .i64 c) from rfl)
  have hcr : 0 ≤ c ∧ c ≤ 1099511627776 := bsmall_range HC.out (by decide)
  by_cases h0 : 0 < c
  · have hb1 : b1 = false := by
      cases b1 with
      | false => rfl
      | true => have := (hi1.1 rfl).2; omega
    subst hb1
    have hd0 : decide (0 < c) = true := decide_eq_true h0
    have kl := fun W h => rleft_is d S r1 false W (by omega) h
    by_cases h16 : r1.size < 16
    · obtain ⟨rfl, rfl⟩ := rans_short (S := S) ⟨by rw [HC.out]; exact h0, by rw [HC.out]; exact h16⟩ HX.out
      have hd16 : decide ((r1.size : Int) < 16) = true := decide_eq_true (by omega)
      have hd16' : decide (r1.size < 16) = true := decide_eq_true h16
      clear hi1 hcr
      go_upto_region 5 with (go_at_call 55; (with_reducible refine (kl _ H.out.rs).mono ?_); rintro e w8 ⟨rfl, nn, hw8⟩; (replace H := Lib.hid (show RK w d b5 S r1 false ⟨c, 0, 0, 0, 0, ⟨0, 0, 0⟩, fun _ => 0⟩ w8 from by rw [hw8]; exact H.out.keep (below_drawn _ _))); clear hw8 x0)
      go_upto_region 5 with fail
      refine wp_region_lit ?_
      refine wpList_plain rfl fun K hK => ?_
      go_simp
      refine hK _ _ ?_
      clear hK K
      (try simp only [Act.put, List.setIfInBounds_toArray, List.set_cons_zero, List.set_cons_succ])
      refine list_store_ag rfl _ _ rfl w.heap.size Ag.zero Ag.zero rfl (by rw [agV_zero]; rfl) H.out.res ?_
      obtain ⟨w9, hw9, hfin, hbel⟩ := finM_name (H.out.res.st Ag.zero).at_ (stA_below Ag.zero H.out.bel (Nat.le_refl _))
      rw [← hw9]
      clear hw9
      refine wpList_plain rfl fun K hK => ?_
      go_simp
      refine hK _ _ ?_
      clear hK K
      (try simp only [Act.put, List.setIfInBounds_toArray, List.set_cons_zero, List.set_cons_succ])
      refine wpList_nil ?_
      go_wp2
      refine bodyPost_ret (v := .tuple #[agV Ag.zero, .int .i64 10]) (results_ag2 Try.results26 _ _ w.heap.size Ag.zero (.int .i64 10) rfl rfl hfin) rfl ⟨rfl, hbel⟩
    · have hd16 : decide ((r1.size : Int) < 16) = false := decide_eq_false (by omega)
      have hd16' : decide (r1.size < 16) = false := decide_eq_false h16
      have h16' : 16 ≤ r1.size := by omega
      have HSH := Lib.hid (show ¬ rshort S from fun h => by unfold rshort at h; rw [HC.out] at h; exact h16 h.2)
      obtain ⟨WS, hWS⟩ : ∃ z, r1.extract 0 16 = z := ⟨_, rfl⟩
      obtain ⟨r, hr⟩ : ∃ z, r1.extract 16 r1.size = z := ⟨_, rfl⟩
      obtain ⟨s, hss⟩ : ∃ z, sm (tailv (sb WS) 16) = z := ⟨_, rfl⟩
      have hws16 : WS.size = 16 := by rw [← hWS]; simp; omega
      have hsw : InW s := by rw [← hss]; exact sm_in _
      have hrs : r.size ≤ 1000 := by rw [← hr]; simp; omega
      have krd := fun W => refRead_is WS (wh s) (wl s) 0 W (by show ReadIs _ _ _ _; unfold ReadIs; rw [if_pos hws16, hss]; exact ⟨wrep hsw, rfl⟩)
      obtain ⟨v1, r1', b1', v2, r2, b2, v3, r3, b3, a, r4, b4, q1, q2, q3, q4, hmid⟩ := midQ_parts r
      have i1 := numQ_inv q1 (fun e => by cases e)
      have i2 := numQ_inv q2 i1.1
      have i3 := numQ_inv q3 i2.1
      have i4 := takeQ_inv q4 i3.1
      have g1 := fun W h => rint_is d S r r1' false b1' v1 (zag v1) W (by omega) (Lib.hid q1) (Lib.hid rfl) h
      have g2 := fun W h => rint_is d S r1' r2 b1' b2 v2 (zag v2) W (by omega) (Lib.hid q2) (Lib.hid rfl) h
      have g3 := fun W h => rint_is d S r2 r3 b2 b3 v3 (zag v3) W (by omega) (Lib.hid q3) (Lib.hid rfl) h
      have g4 := fun W h => rtake_is d S r3 r4 b3 b4 a W (by omega) (Lib.hid q4) i3.1 h
      obtain ⟨z1, hz1⟩ : ∃ x, zag v1 = x := ⟨_, rfl⟩
      obtain ⟨z2, hz2⟩ : ∃ x, zag v2 = x := ⟨_, rfl⟩
      obtain ⟨z3, hz3⟩ : ∃ x, zag v3 = x := ⟨_, rfl⟩
      rw [hz1] at g1
      rw [hz2] at g2
      rw [hz3] at g3
      have HRT := Lib.hid (show rtakenA S = (⟨c, s, z1, z2, z3, a, fun i => smS r4 b4 i⟩, (stS r4 b4 9).1, (stS r4 b4 9).2) by
        unfold rtakenA
        rw [HC.out]
        dsimp only
        rw [if_pos h0, hWS, hss, hr, hmid, hz1, hz2, hz3])
      go_upto_region 6 with (go_at_call 55; (with_reducible refine (kl _ H.out.rs).mono ?_); rintro e w8 ⟨rfl, nn, hw8⟩; (replace H := Lib.hid (show RK w d b5 S r1 false ⟨c, 0, 0, 0, 0, ⟨0, 0, 0⟩, fun _ => 0⟩ w8 from by rw [hw8]; exact H.out.keep (below_drawn _ _))); clear hw8 x0)
      obtain ⟨aa, bad, rb, hbad, hle, hra, -⟩ := H.out.rs
      subst hbad
      have hra' := hra rfl
      have hsz : r1.size = S.size - aa := by rw [hra']; unfold restB; simp
      have hs1 : ∀ W, (Instr.slice 9 (.string S) (some (.int .i64 (aa : Int))) (some (.int .i64 ((aa : Int) + 16))) none).run Try.prog W = .ok (.string WS) W := fun W => by
        rw [run_slice_string (P := Try.prog) W 9 S .i64 .i64 (aa : Int) ((aa : Int) + 16) Try.underlying9 (by omega) (by omega) (by omega), ← hWS]
        rw [hra', ← part16, Int.toNat_natCast, show ((aa : Int) + 16).toNat = aa + 16 by omega]
      have hwa : IntKind.i64.wrap ((aa : Int) + 16) = (aa : Int) + 16 := by rw [IntKind.wrap_i64]; omega
      have HP := Lib.hid (show RP w d b5 S r1 ⟨c, 0, 0, 0, 0, ⟨0, 0, 0⟩, fun _ => 0⟩ aa w8 from ⟨H.out, rb⟩)
      clear hra hsz
      apply rjoin (T := fun e W => RN w d b5 e S r1 ⟨c, 0, 0, 0, 0, ⟨0, 0, 0⟩, fun _ => 0⟩ aa s W)
      · intro hrest
        refine wp_region_held_drew (S := (RP w d b5 S r1 ⟨c, 0, 0, 0, 0, ⟨0, 0, 0⟩, fun _ => 0⟩ aa)) (by kernel_rfl) (HP.out.keep ((Below.refl _ _).drew)) (fun hHeld => ?_)
        generalize hwd : w8.drew = wp at hHeld ⊢
        clear hwd
        have CC := Lib.hid (NO.none b5 wp)
        refine wpAnyH_take (i := 0) (oi := ?s1o) (v := ?s1v) ?s1h (by kernel_rfl) (by kernel_rfl) (by kernel_rfl) ?s1q ?s1y hHeld ?s1r
        case s1h => (simp only [List.getElem?_toArray, List.getElem?_cons_zero]; rfl)
        case s1q => exact fun _ _ _ h => h
        case s1y => (refine Or.inl ⟨by first | kernel_rfl | rfl, ?_⟩; intro w hSw; (try dsimp only at hSw); have yA := hSw.rb.c1; go_simp <;> (try with_reducible rfl))
        try simp only [Act.put, List.setIfInBounds_toArray, List.set_cons_zero, List.set_cons_succ]
        refine wpAnyH_take (i := 1) (oi := ?s2o) (v := ?s2v) ?s2h (by kernel_rfl) (by kernel_rfl) (by kernel_rfl) ?s2q ?s2y hHeld ?s2r
        case s2h => (simp only [List.getElem?_toArray, List.getElem?_cons_succ, List.getElem?_cons_zero]; rfl)
        case s2q => exact fun _ _ _ h => h
        case s2y => (refine Or.inl ⟨by first | kernel_rfl | rfl, ?_⟩; intro w hSw; (try dsimp only at hSw); have yA := hSw.rb.c1; go_simp <;> (try with_reducible rfl))
        try simp only [Act.put, List.setIfInBounds_toArray, List.set_cons_zero, List.set_cons_succ]
        refine wpAnyH_take (i := 2) (oi := ?s3o) (v := ?s3v) ?s3h (by kernel_rfl) (by kernel_rfl) (by kernel_rfl) ?s3q ?s3y hHeld ?s3r
        case s3h => (simp only [List.getElem?_toArray, List.getElem?_cons_succ, List.getElem?_cons_zero]; rfl)
        case s3q => exact fun _ _ _ h => h
        case s3y => (refine Or.inl ⟨by first | kernel_rfl | rfl, ?_⟩; intro w hSw; (try dsimp only at hSw); have yA := hSw.rb.c1; go_simp <;> (try with_reducible rfl))
        try simp only [Act.put, List.setIfInBounds_toArray, List.set_cons_zero, List.set_cons_succ]
        refine wpAnyH_take (i := 3) (oi := ?s4o) (v := ?s4v) ?s4h (by kernel_rfl) (by kernel_rfl) (by kernel_rfl) ?s4q ?s4y hHeld ?s4r
        case s4h => (simp only [List.getElem?_toArray, List.getElem?_cons_succ, List.getElem?_cons_zero]; rfl)
        case s4q => exact fun _ _ _ h => h
        case s4y => (refine Or.inl ⟨by first | kernel_rfl | rfl, ?_⟩; intro w hSw; (try dsimp only at hSw); have yA := hSw.rb.c1; go_simp <;> (try with_reducible rfl))
        try simp only [Act.put, List.setIfInBounds_toArray, List.set_cons_zero, List.set_cons_succ]
        refine wpAnyH_take (i := 4) (oi := ?s5o) (v := ?s5v) ?s5h (by kernel_rfl) (by kernel_rfl) (by kernel_rfl) ?s5q ?s5y hHeld ?s5r
        case s5h => (simp only [List.getElem?_toArray, List.getElem?_cons_succ, List.getElem?_cons_zero]; rfl)
        case s5q => exact fun _ _ _ h => h
        case s5y => (refine Or.inl ⟨by first | kernel_rfl | rfl, ?_⟩; intro w hSw; (try dsimp only at hSw); have yA := hSw.rb.c1; go_simp <;> (try with_reducible rfl))
        try simp only [Act.put, List.setIfInBounds_toArray, List.set_cons_zero, List.set_cons_succ]
        refine wpAnyH_take (i := 5) (oi := ?s6o) (v := ?s6v) ?s6h (by kernel_rfl) (by kernel_rfl) (by kernel_rfl) ?s6q ?s6y hHeld ?s6r
        case s6h => (simp only [List.getElem?_toArray, List.getElem?_cons_succ, List.getElem?_cons_zero]; rfl)
        case s6q => exact fun _ _ _ h => h
        case s6y => (refine Or.inl ⟨by first | kernel_rfl | rfl, ?_⟩; intro w hSw; (try dsimp only at hSw); have yA := hSw.rb.c1; go_simp <;> (try with_reducible rfl))
        try simp only [Act.put, List.setIfInBounds_toArray, List.set_cons_zero, List.set_cons_succ]
        refine wpAnyH_take (i := 6) (oi := ?s7o) (v := ?s7v) ?s7h (by kernel_rfl) (by kernel_rfl) (by kernel_rfl) ?s7q ?s7y hHeld ?s7r
        case s7h => (simp only [List.getElem?_toArray, List.getElem?_cons_succ, List.getElem?_cons_zero]; rfl)
        case s7q => exact fun _ _ _ h => h
        case s7y => (refine Or.inl ⟨by first | kernel_rfl | rfl, ?_⟩; intro w hSw; (try dsimp only at hSw); have yA := hSw.rb.c1; go_simp <;> (try with_reducible rfl))
        try simp only [Act.put, List.setIfInBounds_toArray, List.set_cons_zero, List.set_cons_succ]
        refine wpAnyH_take (i := 7) (oi := ?s8o) (v := ?s8v) ?s8h (by kernel_rfl) (by kernel_rfl) (by kernel_rfl) ?s8q ?s8y hHeld ?s8r
        case s8h => (simp only [List.getElem?_toArray, List.getElem?_cons_succ, List.getElem?_cons_zero]; rfl)
        case s8q => exact fun _ _ _ h => h
        case s8y => (refine Or.inl ⟨by first | kernel_rfl | rfl, ?_⟩; intro w hSw; (try dsimp only at hSw); have yA := hSw.rb.c1; go_simp <;> (try with_reducible rfl))
        try simp only [Act.put, List.setIfInBounds_toArray, List.set_cons_zero, List.set_cons_succ]
        refine wpAnyH_take (i := 8) (oi := ?s9o) (v := ?s9v) ?s9h (by kernel_rfl) (by kernel_rfl) (by kernel_rfl) ?s9q ?s9y hHeld ?s9r
        case s9h => (simp only [List.getElem?_toArray, List.getElem?_cons_succ, List.getElem?_cons_zero]; rfl)
        case s9q => exact fun _ _ _ h => h
        case s9y => (refine Or.inl ⟨by first | kernel_rfl | rfl, ?_⟩; intro w hSw; (try dsimp only at hSw); have yA := hSw.rb.c1; go_simp <;> (try with_reducible rfl))
        try simp only [Act.put, List.setIfInBounds_toArray, List.set_cons_zero, List.set_cons_succ]
        refine wpAnyH_take (i := 9) (oi := ?s10o) (v := ?s10v) ?s10h (by kernel_rfl) (by kernel_rfl) (by kernel_rfl) ?s10q ?s10y hHeld ?s10r
        case s10h => (simp only [List.getElem?_toArray, List.getElem?_cons_succ, List.getElem?_cons_zero]; rfl)
        case s10q => exact fun _ _ _ h => h
        case s10y => (refine Or.inl ⟨by first | kernel_rfl | rfl, ?_⟩; intro w hSw; (try dsimp only at hSw); have yA := hSw.rb.c1; go_simp <;> (try with_reducible rfl))
        try simp only [Act.put, List.setIfInBounds_toArray, List.set_cons_zero, List.set_cons_succ]
        refine wpAnyH_take (i := 10) (oi := ?s11o) (v := ?s11v) ?s11h (by kernel_rfl) (by kernel_rfl) (by kernel_rfl) ?s11q ?s11y hHeld ?s11r
        case s11h => (simp only [List.getElem?_toArray, List.getElem?_cons_succ, List.getElem?_cons_zero]; rfl)
        case s11q => exact fun _ _ _ h => h
        case s11y => (refine Or.inl ⟨by first | kernel_rfl | rfl, ?_⟩; intro w hSw; (try dsimp only at hSw); have yA := hSw.rb.c1; go_simp <;> (try with_reducible rfl))
        try simp only [Act.put, List.setIfInBounds_toArray, List.set_cons_zero, List.set_cons_succ]
        refine wpAnyH_ready (rs := [11, 15]) (by kernel_rfl) (by simp) ?_
        refine (AllReadyH.cons rfl (fun K hK => ?_) (AllReadyH.cons rfl (fun K hK => ?_) AllReadyH.nil))
        ·
          go_simp
          ((with_reducible refine (krd _).mono ?_); rintro e w9 ⟨rfl, hb⟩; (have HH := hHeld.keep hb); (replace CC := Lib.hid (CC.out.keep hb)); clear hb)
          refine hK.out _ _ (HH) (fun hHeld => ?_)
          clear hK K
          try simp only [Act.put, List.setIfInBounds_toArray, List.set_cons_zero, List.set_cons_succ]
          refine wpAnyH_take (i := 12) (oi := ?s12o) (v := ?s12v) ?s12h (by kernel_rfl) (by kernel_rfl) (by kernel_rfl) ?s12q ?s12y hHeld ?s12r
          case s12h => (simp only [List.getElem?_toArray, List.getElem?_cons_succ, List.getElem?_cons_zero]; rfl)
          case s12q => exact fun _ _ _ h => h
          case s12y => (refine Or.inl ⟨by first | kernel_rfl | rfl, ?_⟩; intro w hSw; (try dsimp only at hSw); have yA := hSw.rb.c1; go_simp <;> (try with_reducible rfl))
          try simp only [Act.put, List.setIfInBounds_toArray, List.set_cons_zero, List.set_cons_succ]
          refine wpAnyH_take (i := 13) (oi := ?s13o) (v := ?s13v) ?s13h (by kernel_rfl) (by kernel_rfl) (by kernel_rfl) ?s13q ?s13y hHeld ?s13r
          case s13h => (simp only [List.getElem?_toArray, List.getElem?_cons_succ, List.getElem?_cons_zero]; rfl)
          case s13q => exact fun _ _ _ h => h
          case s13y => (refine Or.inl ⟨by first | kernel_rfl | rfl, ?_⟩; intro w hSw; (try dsimp only at hSw); have yA := hSw.rb.c1; go_simp <;> (try with_reducible rfl))
          try simp only [Act.put, List.setIfInBounds_toArray, List.set_cons_zero, List.set_cons_succ]
          refine wpAnyH_take (i := 14) (oi := ?s14o) (v := ?s14v) ?s14h (by kernel_rfl) (by kernel_rfl) (by kernel_rfl) ?s14q ?s14y hHeld ?s14r
          case s14h => (simp only [List.getElem?_toArray, List.getElem?_cons_succ, List.getElem?_cons_zero]; rfl)
          case s14q => exact fun _ _ _ h => h
          case s14y => (refine Or.inl ⟨by first | kernel_rfl | rfl, ?_⟩; intro w hSw; (try dsimp only at hSw); have yA := hSw.rb.c1; go_simp <;> (try with_reducible rfl))
          try simp only [Act.put, List.setIfInBounds_toArray, List.set_cons_zero, List.set_cons_succ]
          refine wpAnyH_ready (rs := [15]) (by kernel_rfl) (by simp) ?_
          refine (AllReadyH.cons rfl (fun K hK => ?_) AllReadyH.nil)
          go_simp
          (obtain ⟨w9, e4, hw4, he4, HH, C'⟩ := hHeld.box; (try rw [← hw4]); (try rw [← he4]); (replace CC := Lib.hid C'); clear C' hw4 he4)
          refine hK.out _ _ (HH) (fun hHeld => ?_)
          clear hK K
          try simp only [Act.put, List.setIfInBounds_toArray, List.set_cons_zero, List.set_cons_succ]
          refine wpAnyH_ready (rs := [16]) (by kernel_rfl) (by simp) ?_
          refine (AllReadyH.cons rfl (fun K hK => ?_) AllReadyH.nil)
          have y0 := (CC.out.e e4 rfl).1.c0
          have y1 := (CC.out.e e4 rfl).1.c1
          have y2 := (CC.out.e e4 rfl).1.f0
          have y3 := (CC.out.e e4 rfl).1.f1
          have HH := hHeld.num CC.out s
          go_simp
          refine hK.out _ _ (HH.p) (fun hHeld => ?_)
          clear hK K
          try simp only [Act.put]
          refine wpAnyH_take (i := 17) (oi := ?s15o) (v := ?s15v) ?s15h (by kernel_rfl) (by kernel_rfl) (by kernel_rfl) ?s15q ?s15y hHeld ?s15r
          case s15h => (simp only [List.getElem?_toArray, List.getElem?_cons_succ, List.getElem?_cons_zero]; rfl)
          case s15q => exact fun _ _ _ h => h
          case s15y => (refine Or.inl ⟨by first | kernel_rfl | rfl, ?_⟩; intro w hSw; (try dsimp only at hSw); have yA := hSw.rb.c1; go_simp <;> (try with_reducible rfl))
          try simp only [Act.put, List.setIfInBounds_toArray, List.set_cons_zero, List.set_cons_succ]
          refine wpAnyH_done (by kernel_rfl) ?_ _
          exact hrest e4 _ HH
        ·
          go_simp
          (obtain ⟨w9, e4, hw4, he4, HH, C'⟩ := hHeld.box; (try rw [← hw4]); (try rw [← he4]); (replace CC := Lib.hid C'); clear C' hw4 he4)
          refine hK.out _ _ (HH) (fun hHeld => ?_)
          clear hK K
          try simp only [Act.put, List.setIfInBounds_toArray, List.set_cons_zero, List.set_cons_succ]
          refine wpAnyH_ready (rs := [11]) (by kernel_rfl) (by simp) ?_
          refine (AllReadyH.cons rfl (fun K hK => ?_) AllReadyH.nil)
          go_simp
          ((with_reducible refine (krd _).mono ?_); rintro e w9 ⟨rfl, hb⟩; (have HH := hHeld.keep hb); (replace CC := Lib.hid (CC.out.keep hb)); clear hb)
          refine hK.out _ _ (HH) (fun hHeld => ?_)
          clear hK K
          try simp only [Act.put, List.setIfInBounds_toArray, List.set_cons_zero, List.set_cons_succ]
          refine wpAnyH_take (i := 12) (oi := ?s16o) (v := ?s16v) ?s16h (by kernel_rfl) (by kernel_rfl) (by kernel_rfl) ?s16q ?s16y hHeld ?s16r
          case s16h => (simp only [List.getElem?_toArray, List.getElem?_cons_succ, List.getElem?_cons_zero]; rfl)
          case s16q => exact fun _ _ _ h => h
          case s16y => (refine Or.inl ⟨by first | kernel_rfl | rfl, ?_⟩; intro w hSw; (try dsimp only at hSw); have yA := hSw.rb.c1; go_simp <;> (try with_reducible rfl))
          try simp only [Act.put, List.setIfInBounds_toArray, List.set_cons_zero, List.set_cons_succ]
          refine wpAnyH_take (i := 13) (oi := ?s17o) (v := ?s17v) ?s17h (by kernel_rfl) (by kernel_rfl) (by kernel_rfl) ?s17q ?s17y hHeld ?s17r
          case s17h => (simp only [List.getElem?_toArray, List.getElem?_cons_succ, List.getElem?_cons_zero]; rfl)
          case s17q => exact fun _ _ _ h => h
          case s17y => (refine Or.inl ⟨by first | kernel_rfl | rfl, ?_⟩; intro w hSw; (try dsimp only at hSw); have yA := hSw.rb.c1; go_simp <;> (try with_reducible rfl))
          try simp only [Act.put, List.setIfInBounds_toArray, List.set_cons_zero, List.set_cons_succ]
          refine wpAnyH_take (i := 14) (oi := ?s18o) (v := ?s18v) ?s18h (by kernel_rfl) (by kernel_rfl) (by kernel_rfl) ?s18q ?s18y hHeld ?s18r
          case s18h => (simp only [List.getElem?_toArray, List.getElem?_cons_succ, List.getElem?_cons_zero]; rfl)
          case s18q => exact fun _ _ _ h => h
          case s18y => (refine Or.inl ⟨by first | kernel_rfl | rfl, ?_⟩; intro w hSw; (try dsimp only at hSw); have yA := hSw.rb.c1; go_simp <;> (try with_reducible rfl))
          try simp only [Act.put, List.setIfInBounds_toArray, List.set_cons_zero, List.set_cons_succ]
          refine wpAnyH_ready (rs := [16]) (by kernel_rfl) (by simp) ?_
          refine (AllReadyH.cons rfl (fun K hK => ?_) AllReadyH.nil)
          have y0 := (CC.out.e e4 rfl).1.c0
          have y1 := (CC.out.e e4 rfl).1.c1
          have y2 := (CC.out.e e4 rfl).1.f0
          have y3 := (CC.out.e e4 rfl).1.f1
          have HH := hHeld.num CC.out s
          go_simp
          refine hK.out _ _ (HH.p) (fun hHeld => ?_)
          clear hK K
          try simp only [Act.put]
          refine wpAnyH_take (i := 17) (oi := ?s19o) (v := ?s19v) ?s19h (by kernel_rfl) (by kernel_rfl) (by kernel_rfl) ?s19q ?s19y hHeld ?s19r
          case s19h => (simp only [List.getElem?_toArray, List.getElem?_cons_succ, List.getElem?_cons_zero]; rfl)
          case s19q => exact fun _ _ _ h => h
          case s19y => (refine Or.inl ⟨by first | kernel_rfl | rfl, ?_⟩; intro w hSw; (try dsimp only at hSw); have yA := hSw.rb.c1; go_simp <;> (try with_reducible rfl))
          try simp only [Act.put, List.setIfInBounds_toArray, List.set_cons_zero, List.set_cons_succ]
          refine wpAnyH_done (by kernel_rfl) ?_ _
          exact hrest e4 _ HH
      intro b6 w10 hN
      have HN := Lib.hid hN
      clear hN HP H
      have y1 := HN.out.p.rb.c1
      have y2 := HN.out.p.rb.f1
      go_upto_region 8 with fail
      obtain ⟨w11, hw11, h11, hnum⟩ := HN.out.on hra' h16' hle
      rw [← hw11]
      rw [hr] at h11
      have H := Lib.hid h11
      clear hw11 h11 HN y1 y2
      have n0 := hnum.c0
      have n1 := hnum.c1
      have s1 := (AgL.of H.out.g).cell 1 (show (cells18 ⟨c, 0, 0, 0, 0, ⟨0, 0, 0⟩, fun _ => 0⟩)[1]? = some (.int .i64 (wh 0)) from rfl)
      have s2 := (AgL.of H.out.g).free 1 (by decide)
      have s3 := (AgL.of H.out.g).cell 2 (show (cells18 ⟨c, 0, 0, 0, 0, ⟨0, 0, 0⟩, fun _ => 0⟩)[2]? = some (.int .u64 (wl 0)) from rfl)
      have s4 := (AgL.of H.out.g).free 2 (by decide)
      go_upto_region 9 with fail
      obtain ⟨w12, hw12, h12⟩ := H.out.sm s
      rw [← hw12]
      replace H := Lib.hid h12
      clear hw12 h12 hnum n0 n1 s1 s2 s3 s4
      go_upto_region 10 with (go_at_call 57; (with_reducible refine (g1 _ H.out.rs).mono ?_); rintro e w13 ⟨rfl, hrs', hbt⟩; (replace H := Lib.hid (H.out.but hrs' hbt)); clear hrs' hbt; (have s1 := (AgL.of H.out.g).cell 3 (List.getElem?_eq_getElem (by rw [show (cells18 _).length = 18 from rfl]; decide))); (have s2 := (AgL.of H.out.g).free 3 (by decide)))
      obtain ⟨w14, hw14, h14⟩ := H.out.mn z1
      rw [← hw14]
      replace H := Lib.hid h14
      clear hw14 h14 s1 s2
      go_upto_region 11 with (go_at_call 57; (with_reducible refine (g2 _ H.out.rs).mono ?_); rintro e w13 ⟨rfl, hrs', hbt⟩; (replace H := Lib.hid (H.out.but hrs' hbt)); clear hrs' hbt; (have s1 := (AgL.of H.out.g).cell 4 (List.getElem?_eq_getElem (by rw [show (cells18 _).length = 18 from rfl]; decide))); (have s2 := (AgL.of H.out.g).free 4 (by decide)))
      obtain ⟨w14, hw14, h14⟩ := H.out.mx z2
      rw [← hw14]
      replace H := Lib.hid h14
      clear hw14 h14 s1 s2
      go_upto_region 12 with (go_at_call 57; (with_reducible refine (g3 _ H.out.rs).mono ?_); rintro e w13 ⟨rfl, hrs', hbt⟩; (replace H := Lib.hid (H.out.but hrs' hbt)); clear hrs' hbt; (have s1 := (AgL.of H.out.g).cell 5 (List.getElem?_eq_getElem (by rw [show (cells18 _).length = 18 from rfl]; decide))); (have s2 := (AgL.of H.out.g).free 5 (by decide)))
      obtain ⟨w14, hw14, h14⟩ := H.out.la z3
      rw [← hw14]
      replace H := Lib.hid h14
      clear hw14 h14 s1 s2
      go_upto_region 13 with (go_at_call 58; (with_reducible refine (g4 _ H.out.rs).mono ?_); rintro e w15 ⟨rfl, hrs', hbt⟩; (replace H := Lib.hid (H.out.but hrs' hbt)); clear hrs' hbt; (have s1 := (AgL.of H.out.g).cell 6 (List.getElem?_eq_getElem (by rw [show (cells18 _).length = 18 from rfl]; decide))); (have s2 := (AgL.of H.out.g).free 6 (by decide)); (have s3 := (AgL.of H.out.g).cell 7 (List.getElem?_eq_getElem (by rw [show (cells18 _).length = 18 from rfl]; decide))); (have s4 := (AgL.of H.out.g).free 7 (by decide)); (have s5 := (AgL.of H.out.g).cell 8 (List.getElem?_eq_getElem (by rw [show (cells18 _).length = 18 from rfl]; decide))); (have s6 := (AgL.of H.out.g).free 8 (by decide)))
      obtain ⟨w16, hw16, h16s⟩ := H.out.st a
      rw [← hw16]
      replace H := Lib.hid h16s
      clear hw16 h16s s1 s2 s3 s4 s5 s6
      have H9 := Lib.hid (show RK w d b5 S (stS r4 b4 0).1 (stS r4 b4 0).2 ⟨c, s, z1, z2, z3, a, gS r4 b4 0⟩ w16 from by rw [gS_zero]; exact H.out)
      clear H g1 g2 g3 g4 krd i1 i2 i3 i4 q1 q2 q3 q4 hmid
      go_wp2_with fail
      go_loopw [8] (fun i wr => ∃ k : Nat, i = .int .i64 (k : Int) ∧ k ≤ 9 ∧ RK w d b5 S (stS r4 b4 k).1 (stS r4 b4 k).2 ⟨c, s, z1, z2, z3, a, gS r4 b4 k⟩ wr) (fun i _ => 9 - (intOf i).toNat)
      case atStart => exact ⟨0, rfl, by omega, H9.out⟩
      case round =>
        obtain ⟨k, rfl, hk, hQ⟩ := hrel
        have HQ := Lib.hid hQ
        clear hQ H9
        by_cases hk9 : k < 9
        · have hk9i : (k : Int) < 9 := by omega
          have hk0i : 0 ≤ (k : Int) := by omega
          have hwk : IntKind.i64.wrap ((k : Int) + 1) = (k : Int) + 1 := by rw [IntKind.wrap_i64]; omega
          obtain ⟨vk, hvk⟩ : ∃ x, smS r4 b4 k = x := ⟨_, rfl⟩
          have hstep := stS_step r4 b4 k
          rw [hvk] at hstep
          have kn := fun W h => rsmall_is d S (stS r4 b4 k).1 (stS r4 b4 (k + 1)).1 (stS r4 b4 k).2 (stS r4 b4 (k + 1)).2 vk 1099511627776 W (by omega) (by omega) (Lib.hid hstep) h
          clear hstep
          have HS := Lib.hid (show setB (gS r4 b4 k) k vk = gS r4 b4 (k + 1) by rw [← hvk]; exact gS_step r4 b4 k)
          clear hvk
          go_wp2_with (go_at_call 54; (with_reducible refine (kn _ HQ.out.rs).mono ?_); rintro e w5 ⟨rfl, hrs', hbt⟩; (have H5 := Lib.hid (HQ.out.but hrs' hbt)); (have s1 := (AgL.of H5.out.g).cell (9 + k) (List.getElem?_eq_getElem (by rw [show (cells18 _).length = 18 from rfl]; omega))); (have s2 := (AgL.of H5.out.g).free (9 + k) (by omega)); clear hrs' hbt)
          have h := H5.out.putg (H5.out.g.put_b k hk9 vk) (below_put _)
          dsimp only at h
          rw [HS.out] at h
          exact ⟨⟨k + 1, rfl, by omega, h⟩, by simp [intOf]; omega⟩
        · have hk' : k = 9 := by omega
          subst hk'
          have H := Lib.hid (HQ.out.to (show cells18 ⟨c, s, z1, z2, z3, a, gS r4 b4 9⟩ = cells18 ⟨c, s, z1, z2, z3, a, fun i => smS r4 b4 i⟩ from rfl))
          clear HQ HC
          obtain ⟨G, hG⟩ : ∃ g : Ag, g = ⟨c, s, z1, z2, z3, a, fun i => smS r4 b4 i⟩ := ⟨_, rfl⟩
          rw [← hG] at H HRT
          clear hG
          obtain ⟨r, hr⟩ : ∃ z, (stS r4 b4 9).1 = z := ⟨_, rfl⟩
          obtain ⟨b, hb⟩ : ∃ z, (stS r4 b4 9).2 = z := ⟨_, rfl⟩
          rw [hr, hb] at H HRT
          clear hr hb
          obtain ⟨zz, hzz⟩ : ∃ z, endQ r b = z := ⟨_, rfl⟩
          have ke := fun W h => rend_is d S r b zz W (Lib.hid hzz) h
          have hfit : G.fits := by have := rtaken_fits S; rw [HRT.out] at this; exact this
          obtain ⟨eg, heg⟩ : ∃ z, errA G = z := ⟨_, rfl⟩
          have kck := fun W => rcheck8_is G hfit eg (Lib.hid heg) W
          have HW := Lib.hid (rans HRT.out HSH.out hzz HX.out heg)
          clear hzz hfit heg HRT HSH HX
          rcases HW.out with ⟨rfl, rfl, hxG, rfl⟩ | ⟨rfl | ⟨rfl, rfl⟩, rfl, rfl⟩
          · have hxG := hxG.symm
            subst hxG
            clear HW
            go_upto_region 17 with fail
            refine wp_region_lit ?_
            refine wpList_plain rfl fun K hK => ?_
            go_simp
            refine hK _ _ ?_
            clear hK K
            (try simp only [Act.put, List.setIfInBounds_toArray, List.set_cons_zero, List.set_cons_succ])
            refine wpList_plain rfl fun K hK => ?_
            go_simp
            ((with_reducible refine (ke _ H.out.rs).mono ?_); rintro e w8 ⟨rfl, nn, hw8⟩; (replace H := Lib.hid (show RK w d b5 S r b G w8 from by rw [hw8]; exact H.out.keep (below_drawn _ _))); clear hw8)
            refine hK _ _ ?_
            clear hK K
            (try simp only [Act.put, List.setIfInBounds_toArray, List.set_cons_zero, List.set_cons_succ])
            refine wpList_plain rfl fun K hK => ?_
            go_simp
            refine hK _ _ ?_
            clear hK K
            (try simp only [Act.put, List.setIfInBounds_toArray, List.set_cons_zero, List.set_cons_succ])
            refine wpList_plain rfl fun K hK => ?_
            go_simp
            refine hK _ _ ?_
            clear hK K
            (try simp only [Act.put, List.setIfInBounds_toArray, List.set_cons_zero, List.set_cons_succ])
            refine wpList_step fun K hK => ?_
            refine (if_pos (by kernel_rfl)).mpr ?_
            refine load_ag _ rfl b5 G rfl H.out.g.at_ ?_
            refine hK _ _ ?_
            clear hK K
            (try simp only [Act.put, List.setIfInBounds_toArray, List.set_cons_zero, List.set_cons_succ])
            refine wpList_step fun K hK => ?_
            refine (if_pos (by kernel_rfl)).mpr ?_
            go_simp
            ((with_reducible refine (kck _).mono ?_); rintro e w9 ⟨rfl, hb9⟩; (replace H := Lib.hid (H.out.keep hb9)); clear hb9)
            refine hK _ _ ?_
            clear hK K
            (try simp only [Act.put, List.setIfInBounds_toArray, List.set_cons_zero, List.set_cons_succ])
            refine wpList_step fun K hK => ?_
            refine (if_pos (by kernel_rfl)).mpr ?_
            go_simp
            refine hK _ _ ?_
            clear hK K
            (try simp only [Act.put, List.setIfInBounds_toArray, List.set_cons_zero, List.set_cons_succ])
            refine wpList_plain rfl fun K hK => ?_
            go_simp
            refine hK _ _ ?_
            clear hK K
            (try simp only [Act.put, List.setIfInBounds_toArray, List.set_cons_zero, List.set_cons_succ])
            refine wpList_nil ?_
            go_upto_region 19 with fail
            refine wp_region_lit ?_
            refine list_load_ag rfl _ rfl b5 G rfl H.out.g.at_ ?_
            refine list_store_ag rfl _ _ rfl w.heap.size Ag.zero G rfl rfl H.out.res ?_
            obtain ⟨w9, hw9, hfin, hbel⟩ := finM_name (H.out.res.st G).at_ (stA_below G H.out.bel (Nat.le_refl _))
            rw [← hw9]
            clear hw9
            refine wpList_plain rfl fun K hK => ?_
            go_simp
            refine hK _ _ ?_
            clear hK K
            (try simp only [Act.put, List.setIfInBounds_toArray, List.set_cons_zero, List.set_cons_succ])
            refine wpList_nil ?_
            go_wp2
            refine bodyPost_ret (v := .tuple #[agV G, .int .i64 0]) (results_ag2 Try.results26 _ _ w.heap.size G (.int .i64 0) rfl rfl hfin) rfl ⟨rfl, hbel⟩
          · clear HW
            go_upto_region 18 with (go_at_call 59; (with_reducible refine (ke _ H.out.rs).mono ?_); rintro e w8 ⟨rfl, nn, hw8⟩; (replace H := Lib.hid (show RK w d b5 S r b G w8 from by rw [hw8]; exact H.out.keep (below_drawn _ _))); clear hw8)
            go_upto_region 18 with fail
            refine wp_region_lit ?_
            refine wpList_plain rfl fun K hK => ?_
            go_simp
            refine hK _ _ ?_
            clear hK K
            (try simp only [Act.put, List.setIfInBounds_toArray, List.set_cons_zero, List.set_cons_succ])
            refine list_store_ag rfl _ _ rfl w.heap.size Ag.zero Ag.zero rfl (by rw [agV_zero]; rfl) H.out.res ?_
            obtain ⟨w9, hw9, hfin, hbel⟩ := finM_name (H.out.res.st Ag.zero).at_ (stA_below Ag.zero H.out.bel (Nat.le_refl _))
            rw [← hw9]
            clear hw9
            refine wpList_plain rfl fun K hK => ?_
            go_simp
            refine hK _ _ ?_
            clear hK K
            (try simp only [Act.put, List.setIfInBounds_toArray, List.set_cons_zero, List.set_cons_succ])
            refine wpList_nil ?_
            go_wp2
            refine bodyPost_ret (v := .tuple #[agV Ag.zero, .int .i64 10]) (results_ag2 Try.results26 _ _ w.heap.size Ag.zero (.int .i64 10) rfl rfl hfin) rfl ⟨rfl, hbel⟩
          · clear HW
            go_upto_region 17 with fail
            refine wp_region_lit ?_
            refine wpList_plain rfl fun K hK => ?_
            go_simp
            refine hK _ _ ?_
            clear hK K
            (try simp only [Act.put, List.setIfInBounds_toArray, List.set_cons_zero, List.set_cons_succ])
            refine wpList_plain rfl fun K hK => ?_
            go_simp
            ((with_reducible refine (ke _ H.out.rs).mono ?_); rintro e w8 ⟨rfl, nn, hw8⟩; (replace H := Lib.hid (show RK w d b5 S r b G w8 from by rw [hw8]; exact H.out.keep (below_drawn _ _))); clear hw8)
            refine hK _ _ ?_
            clear hK K
            (try simp only [Act.put, List.setIfInBounds_toArray, List.set_cons_zero, List.set_cons_succ])
            refine wpList_plain rfl fun K hK => ?_
            go_simp
            refine hK _ _ ?_
            clear hK K
            (try simp only [Act.put, List.setIfInBounds_toArray, List.set_cons_zero, List.set_cons_succ])
            refine wpList_plain rfl fun K hK => ?_
            go_simp
            refine hK _ _ ?_
            clear hK K
            (try simp only [Act.put, List.setIfInBounds_toArray, List.set_cons_zero, List.set_cons_succ])
            refine wpList_step fun K hK => ?_
            refine (if_pos (by kernel_rfl)).mpr ?_
            refine load_ag _ rfl b5 G rfl H.out.g.at_ ?_
            refine hK _ _ ?_
            clear hK K
            (try simp only [Act.put, List.setIfInBounds_toArray, List.set_cons_zero, List.set_cons_succ])
            refine wpList_step fun K hK => ?_
            refine (if_pos (by kernel_rfl)).mpr ?_
            go_simp
            ((with_reducible refine (kck _).mono ?_); rintro e w9 ⟨rfl, hb9⟩; (replace H := Lib.hid (H.out.keep hb9)); clear hb9)
            refine hK _ _ ?_
            clear hK K
            (try simp only [Act.put, List.setIfInBounds_toArray, List.set_cons_zero, List.set_cons_succ])
            refine wpList_step fun K hK => ?_
            refine (if_pos (by kernel_rfl)).mpr ?_
            go_simp
            refine hK _ _ ?_
            clear hK K
            (try simp only [Act.put, List.setIfInBounds_toArray, List.set_cons_zero, List.set_cons_succ])
            refine wpList_plain rfl fun K hK => ?_
            go_simp
            refine hK _ _ ?_
            clear hK K
            (try simp only [Act.put, List.setIfInBounds_toArray, List.set_cons_zero, List.set_cons_succ])
            refine wpList_nil ?_
            go_upto_region 18 with fail
            refine wp_region_lit ?_
            refine wpList_plain rfl fun K hK => ?_
            go_simp
            refine hK _ _ ?_
            clear hK K
            (try simp only [Act.put, List.setIfInBounds_toArray, List.set_cons_zero, List.set_cons_succ])
            refine list_store_ag rfl _ _ rfl w.heap.size Ag.zero Ag.zero rfl (by rw [agV_zero]; rfl) H.out.res ?_
            obtain ⟨w9, hw9, hfin, hbel⟩ := finM_name (H.out.res.st Ag.zero).at_ (stA_below Ag.zero H.out.bel (Nat.le_refl _))
            rw [← hw9]
            clear hw9
            refine wpList_plain rfl fun K hK => ?_
            go_simp
            refine hK _ _ ?_
            clear hK K
            (try simp only [Act.put, List.setIfInBounds_toArray, List.set_cons_zero, List.set_cons_succ])
            refine wpList_nil ?_
            go_wp2
            refine bodyPost_ret (v := .tuple #[agV Ag.zero, .int .i64 10]) (results_ag2 Try.results26 _ _ w.heap.size Ag.zero (.int .i64 10) rfl rfl hfin) rfl ⟨rfl, hbel⟩
  · obtain rfl : c = 0 := by omega
    have hd0 : decide ((0 : Int) < 0) = false := by decide
    have HSH := Lib.hid (show ¬ rshort S from fun h => by unfold rshort at h; rw [HC.out] at h; exact absurd h.1 (Int.lt_irrefl 0))
    have HRT := Lib.hid (show rtakenA S = (⟨0, 0, 0, 0, 0, ⟨0, 0, 0⟩, fun _ => 0⟩, r1, b1) by
      unfold rtakenA
      rw [HC.out]
      dsimp only
      rw [if_neg (Int.lt_irrefl 0)])
    clear hi1 hcr h0
    obtain ⟨G, hG⟩ : ∃ g : Ag, g = ⟨0, 0, 0, 0, 0, ⟨0, 0, 0⟩, fun _ => 0⟩ := ⟨_, rfl⟩
    rw [← hG] at H HRT
    clear hG
    obtain ⟨r, hr⟩ : ∃ z, r1 = z := ⟨_, rfl⟩
    obtain ⟨b, hb⟩ : ∃ z, b1 = z := ⟨_, rfl⟩
    rw [hr, hb] at H HRT
    clear hr hb HC
    obtain ⟨zz, hzz⟩ : ∃ z, endQ r b = z := ⟨_, rfl⟩
    have ke := fun W h => rend_is d S r b zz W (Lib.hid hzz) h
    have hfit : G.fits := by have := rtaken_fits S; rw [HRT.out] at this; exact this
    obtain ⟨eg, heg⟩ : ∃ z, errA G = z := ⟨_, rfl⟩
    have kck := fun W => rcheck8_is G hfit eg (Lib.hid heg) W
    have HW := Lib.hid (rans HRT.out HSH.out hzz HX.out heg)
    clear hzz hfit heg HRT HSH HX
    rcases HW.out with ⟨rfl, rfl, hxG, rfl⟩ | ⟨rfl | ⟨rfl, rfl⟩, rfl, rfl⟩
    · have hxG := hxG.symm
      subst hxG
      clear HW
      go_upto_region 17 with fail
      refine wp_region_lit ?_
      refine wpList_plain rfl fun K hK => ?_
      go_simp
      refine hK _ _ ?_
      clear hK K
      (try simp only [Act.put, List.setIfInBounds_toArray, List.set_cons_zero, List.set_cons_succ])
      refine wpList_plain rfl fun K hK => ?_
      go_simp
      ((with_reducible refine (ke _ H.out.rs).mono ?_); rintro e w8 ⟨rfl, nn, hw8⟩; (replace H := Lib.hid (show RK w d b5 S r b G w8 from by rw [hw8]; exact H.out.keep (below_drawn _ _))); clear hw8)
      refine hK _ _ ?_
      clear hK K
      (try simp only [Act.put, List.setIfInBounds_toArray, List.set_cons_zero, List.set_cons_succ])
      refine wpList_plain rfl fun K hK => ?_
      go_simp
      refine hK _ _ ?_
      clear hK K
      (try simp only [Act.put, List.setIfInBounds_toArray, List.set_cons_zero, List.set_cons_succ])
      refine wpList_plain rfl fun K hK => ?_
      go_simp
      refine hK _ _ ?_
      clear hK K
      (try simp only [Act.put, List.setIfInBounds_toArray, List.set_cons_zero, List.set_cons_succ])
      refine wpList_step fun K hK => ?_
      refine (if_pos (by kernel_rfl)).mpr ?_
      refine load_ag _ rfl b5 G rfl H.out.g.at_ ?_
      refine hK _ _ ?_
      clear hK K
      (try simp only [Act.put, List.setIfInBounds_toArray, List.set_cons_zero, List.set_cons_succ])
      refine wpList_step fun K hK => ?_
      refine (if_pos (by kernel_rfl)).mpr ?_
      go_simp
      ((with_reducible refine (kck _).mono ?_); rintro e w9 ⟨rfl, hb9⟩; (replace H := Lib.hid (H.out.keep hb9)); clear hb9)
      refine hK _ _ ?_
      clear hK K
      (try simp only [Act.put, List.setIfInBounds_toArray, List.set_cons_zero, List.set_cons_succ])
      refine wpList_step fun K hK => ?_
      refine (if_pos (by kernel_rfl)).mpr ?_
      go_simp
      refine hK _ _ ?_
      clear hK K
      (try simp only [Act.put, List.setIfInBounds_toArray, List.set_cons_zero, List.set_cons_succ])
      refine wpList_plain rfl fun K hK => ?_
      go_simp
      refine hK _ _ ?_
      clear hK K
      (try simp only [Act.put, List.setIfInBounds_toArray, List.set_cons_zero, List.set_cons_succ])
      refine wpList_nil ?_
      go_upto_region 19 with fail
      refine wp_region_lit ?_
      refine list_load_ag rfl _ rfl b5 G rfl H.out.g.at_ ?_
      refine list_store_ag rfl _ _ rfl w.heap.size Ag.zero G rfl rfl H.out.res ?_
      obtain ⟨w9, hw9, hfin, hbel⟩ := finM_name (H.out.res.st G).at_ (stA_below G H.out.bel (Nat.le_refl _))
      rw [← hw9]
      clear hw9
      refine wpList_plain rfl fun K hK => ?_
      go_simp
      refine hK _ _ ?_
      clear hK K
      (try simp only [Act.put, List.setIfInBounds_toArray, List.set_cons_zero, List.set_cons_succ])
      refine wpList_nil ?_
      go_wp2
      refine bodyPost_ret (v := .tuple #[agV G, .int .i64 0]) (results_ag2 Try.results26 _ _ w.heap.size G (.int .i64 0) rfl rfl hfin) rfl ⟨rfl, hbel⟩
    · clear HW
      go_upto_region 18 with (go_at_call 59; (with_reducible refine (ke _ H.out.rs).mono ?_); rintro e w8 ⟨rfl, nn, hw8⟩; (replace H := Lib.hid (show RK w d b5 S r b G w8 from by rw [hw8]; exact H.out.keep (below_drawn _ _))); clear hw8)
      go_upto_region 18 with fail
      refine wp_region_lit ?_
      refine wpList_plain rfl fun K hK => ?_
      go_simp
      refine hK _ _ ?_
      clear hK K
      (try simp only [Act.put, List.setIfInBounds_toArray, List.set_cons_zero, List.set_cons_succ])
      refine list_store_ag rfl _ _ rfl w.heap.size Ag.zero Ag.zero rfl (by rw [agV_zero]; rfl) H.out.res ?_
      obtain ⟨w9, hw9, hfin, hbel⟩ := finM_name (H.out.res.st Ag.zero).at_ (stA_below Ag.zero H.out.bel (Nat.le_refl _))
      rw [← hw9]
      clear hw9
      refine wpList_plain rfl fun K hK => ?_
      go_simp
      refine hK _ _ ?_
      clear hK K
      (try simp only [Act.put, List.setIfInBounds_toArray, List.set_cons_zero, List.set_cons_succ])
      refine wpList_nil ?_
      go_wp2
      refine bodyPost_ret (v := .tuple #[agV Ag.zero, .int .i64 10]) (results_ag2 Try.results26 _ _ w.heap.size Ag.zero (.int .i64 10) rfl rfl hfin) rfl ⟨rfl, hbel⟩
    · clear HW
      go_upto_region 17 with fail
      refine wp_region_lit ?_
      refine wpList_plain rfl fun K hK => ?_
      go_simp
      refine hK _ _ ?_
      clear hK K
      (try simp only [Act.put, List.setIfInBounds_toArray, List.set_cons_zero, List.set_cons_succ])
      refine wpList_plain rfl fun K hK => ?_
      go_simp
      ((with_reducible refine (ke _ H.out.rs).mono ?_); rintro e w8 ⟨rfl, nn, hw8⟩; (replace H := Lib.hid (show RK w d b5 S r b G w8 from by rw [hw8]; exact H.out.keep (below_drawn _ _))); clear hw8)
      refine hK _ _ ?_
      clear hK K
      (try simp only [Act.put, List.setIfInBounds_toArray, List.set_cons_zero, List.set_cons_succ])
      refine wpList_plain rfl fun K hK => ?_
      go_simp
      refine hK _ _ ?_
      clear hK K
      (try simp only [Act.put, List.setIfInBounds_toArray, List.set_cons_zero, List.set_cons_succ])
      refine wpList_plain rfl fun K hK => ?_
      go_simp
      refine hK _ _ ?_
      clear hK K
      (try simp only [Act.put, List.setIfInBounds_toArray, List.set_cons_zero, List.set_cons_succ])
      refine wpList_step fun K hK => ?_
      refine (if_pos (by kernel_rfl)).mpr ?_
      refine load_ag _ rfl b5 G rfl H.out.g.at_ ?_
      refine hK _ _ ?_
      clear hK K
      (try simp only [Act.put, List.setIfInBounds_toArray, List.set_cons_zero, List.set_cons_succ])
      refine wpList_step fun K hK => ?_
      refine (if_pos (by kernel_rfl)).mpr ?_
      go_simp
      ((with_reducible refine (kck _).mono ?_); rintro e w9 ⟨rfl, hb9⟩; (replace H := Lib.hid (H.out.keep hb9)); clear hb9)
      refine hK _ _ ?_
      clear hK K
      (try simp only [Act.put, List.setIfInBounds_toArray, List.set_cons_zero, List.set_cons_succ])
      refine wpList_step fun K hK => ?_
      refine (if_pos (by kernel_rfl)).mpr ?_
      go_simp
      refine hK _ _ ?_
      clear hK K
      (try simp only [Act.put, List.setIfInBounds_toArray, List.set_cons_zero, List.set_cons_succ])
      refine wpList_plain rfl fun K hK => ?_
      go_simp
      refine hK _ _ ?_
      clear hK K
      (try simp only [Act.put, List.setIfInBounds_toArray, List.set_cons_zero, List.set_cons_succ])
      refine wpList_nil ?_
      go_upto_region 18 with fail
      refine wp_region_lit ?_
      refine wpList_plain rfl fun K hK => ?_
      go_simp
      refine hK _ _ ?_
      clear hK K
      (try simp only [Act.put, List.setIfInBounds_toArray, List.set_cons_zero, List.set_cons_succ])
      refine list_store_ag rfl _ _ rfl w.heap.size Ag.zero Ag.zero rfl (by rw [agV_zero]; rfl) H.out.res ?_
      obtain ⟨w9, hw9, hfin, hbel⟩ := finM_name (H.out.res.st Ag.zero).at_ (stA_below Ag.zero H.out.bel (Nat.le_refl _))
      rw [← hw9]
      clear hw9
      refine wpList_plain rfl fun K hK => ?_
      go_simp
      refine hK _ _ ?_
      clear hK K
      (try simp only [Act.put, List.setIfInBounds_toArray, List.set_cons_zero, List.set_cons_succ])
      refine wpList_nil ?_
      go_wp2
      refine bodyPost_ret (v := .tuple #[agV Ag.zero, .int .i64 10]) (results_ag2 Try.results26 _ _ w.heap.size Ag.zero (.int .i64 10) rfl rfl hfin) rfl ⟨rfl, hbel⟩
end Go.Proofs.Ytipjhlabcbkgjaa.Ag
