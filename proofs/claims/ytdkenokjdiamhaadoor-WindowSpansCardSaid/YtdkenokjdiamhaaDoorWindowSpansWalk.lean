/- WindowSpans' walk. -/
import Derived.RangeFuncNested
import Derived.RangeFuncBox
import Derived.RangeFuncLeaves
import Derived.RangeFuncCalls
import Derived.Shelf.Abstract
import Derived.WalkKit
import Derived.OwnWalkIn
import Derived.TacticsInMore
import Derived.LoopNIn
import Derived.LoopIn
import Derived.Maps.AppendAt
import Derived.Test.YtdkenokjdiamhaaDoorWindowEachP
import Derived.Test.YtdkenokjdiamhaaDoorWindowAwake
import Derived.Test.YtdkenokjdiamhaaDoorWindowArgs
import Derived.Test.YtdkenokjdiamhaaDoorWindowGets
import Derived.Deep.RegionHeld
set_option maxRecDepth 20000
namespace Go.Proofs.YtdkenokjdiamhaaDoor.windowSpans
open Go.RowKit Go.Shelf

attribute [local go_sem] Oper.semAt_some

theorem rows_lower {W : World} {n m k : Nat} {v : Value} {xs : List Value} (h : W.ownsRow n 26 2 v k xs) (hm : m ≤ n) : W.ownsRow m 26 2 v k xs := by
  obtain ⟨h1, h2⟩ := h
  refine ⟨h1, ?_⟩
  rcases h2 with h2 | ⟨g, cap, cur, e1, e2, e3, rest⟩
  · exact Or.inl h2
  · exact Or.inr ⟨g, cap, cur, e1, by omega, e3, rest⟩
/-- What the loop holds: the windows so far, in a row above n3, told by a box bl. -/
def LB (bl n3 : Nat) (pre : List Sp) (W : World) : Prop := ∃ v, Boxed W bl 29 v ∧ W.ownsRow n3 26 2 v pre.length (pre.flatMap cells2) ∧ (v = .slice none 0 0 ↔ pre = [])
theorem lb_own (bl n3 : Nat) : Own (LB bl n3) := holdsRow_own n3 bl 29 26 2 (fun pre : List Sp => pre.length) (fun pre : List Sp => pre.flatMap cells2) (fun pre v => v = .slice none 0 0 ↔ pre = [])
theorem const_own (B : Nat) (p : List Sp → Prop) : OwnFrom B (fun (s : List Sp) (_ : World) => p s) := fun _ _ _ _ h _ _ => h
/-- Held behind the loop. -/
structure MA (w : World) (D : Nat) (a b : Sp) (W : World) : Prop where
  xs : SpAt W w.heap.size a
  ys : SpAt W (w.heap.size + 1) b
  tab : Tab W
  df : W.heap[D]? = some (.deferred (some []))
  bel : Below w.heap.size w W
theorem MA.keep {w : World} {D : Nat} {a b : Sp} {W W' : World} (h : MA w D a b W) (k : Below W.heap.size W W') : MA w D a b W' :=
  ⟨h.xs.below k, h.ys.below k, h.tab.next k, (k.block D (Array.getElem?_eq_some_iff.1 h.df).1).trans h.df, bel_next h.bel k⟩
structure M9 (w : World) (D bl : Nat) (a b : Sp) (x : Option Addr) (cx : Nat) (L : List Sp) (W : World) : Prop where
  ma : MA w D a b W
  box : W.cell? ⟨bl, 0, none⟩ = some (.slice x L.length cx)
  sps : Sps W W.heap.size x L
theorem M9.keep {w : World} {D bl : Nat} {a b : Sp} {x : Option Addr} {cx : Nat} {L : List Sp} {W W' : World} (h : M9 w D bl a b x cx L W) (k : Below W.heap.size W W') : M9 w D bl a b x cx L W' :=
  ⟨h.ma.keep k, (k.cell (p := ⟨bl, 0, none⟩) (World.block_lt_of_cell? W _ h.box)).trans h.box, (h.sps.below k).mono k.size⟩
theorem M9.drew {w : World} {D bl : Nat} {a b : Sp} {x : Option Addr} {cx : Nat} {L : List Sp} {W : World} (h : M9 w D bl a b x cx L W) : M9 w D bl a b x cx L W.drew := h.keep ((Below.refl _ _).drew)
structure M4 (w : World) (D r : Nat) (a b c : Sp) (W : World) : Prop where
  ma : MA w D a b W
  cs : SpAt W r c
theorem M4.keep {w : World} {D r : Nat} {a b c : Sp} {W W' : World} (h : M4 w D r a b c W) (k : Below W.heap.size W W') : M4 w D r a b c W' := ⟨h.ma.keep k, h.cs.below k⟩
theorem M4.drew {w : World} {D r : Nat} {a b c : Sp} {W : World} (h : M4 w D r a b c W) : M4 w D r a b c W.drew := h.keep ((Below.refl _ _).drew)
theorem sp_self (f t : Int) (w : World) : (binOp .eql 26 (.agg #[.int .i64 f, .int .i64 t]) (.agg #[.int .i64 f, .int .i64 t])).run Tryd.prog w = .ok (.bool true) w := by
  rw [show Value.bool true = .bool (Sp.same ⟨f, t⟩ ⟨f, t⟩) by simp [Sp.same]]
  exact sp_eql ⟨f, t⟩ ⟨f, t⟩ w
theorem under {w w' : World} {n p : Nat} {s : Sp} (h : SpAt w p s) (k : Below n w w') (hp : p < n) : SpAt w' p s :=
  ⟨(k.cell (p := ⟨p, 0, none⟩) hp).trans h.c0, (k.cell (p := ⟨p, 1, none⟩) hp).trans h.c1⟩
/-- The same, and no panic. -/
def noPanic (Q : Exit → Act → World → Prop) : Exit → Act → World → Prop
  | .panic _, _, _ => False
  | e, a, w => Q e a w
theorem noPanic_to {Q : Exit → Act → World → Prop} : ∀ e a w, noPanic Q e a w → Q e a w := by
  intro e a w h
  cases e <;> first | exact h | exact h.elim
set_option maxHeartbeats 8000000 in
theorem inside (a b : Sp) (tier : Int) (w : World) (hT : Tab w) :
    CallsIn Fence.wide 9 Tryd.prog 4 #[a.v, b.v, .int .i64 tier] w fun e w' => e = .returned (.bool true) ∧ Below w.heap.size w w' := by
  obtain ⟨i0, hi, hz0, hz1, hz2⟩ := info_parts infoSp
  have hA := (SpAt.new w a 26).below ((Below.refl _ _).alloc (Nat.le_refl _) (.cells #[.int .i64 b.f, .int .i64 b.t] 26))
  have hBb : SpAt ((w.alloc (.cells #[.int .i64 a.f, .int .i64 a.t] 26)).alloc (.cells #[.int .i64 b.f, .int .i64 b.t] 26)) (w.heap.size + 1) b := by
    have := SpAt.new (w.alloc (.cells #[.int .i64 a.f, .int .i64 a.t] 26)) b 26
    simpa using this
  have hBel := ((Below.refl w.heap.size w).alloc (Nat.le_refl _) (.cells #[.int .i64 a.f, .int .i64 a.t] 26)).alloc (by simp) (.cells #[.int .i64 b.f, .int .i64 b.t] 26)
  have k0 := awake_is _ ((hT.alloc (.cells #[.int .i64 a.f, .int .i64 a.t] 26)).alloc (.cells #[.int .i64 b.f, .int .i64 b.t] 26))
  have HT0 := Lib.hid ((hT.alloc (.cells #[.int .i64 a.f, .int .i64 a.t] 26)).alloc (.cells #[.int .i64 b.f, .int .i64 b.t] 26))
  have ke := fun w h => each_is a tier w h
  have HA := Lib.hid hA
  have HB := Lib.hid hBb
  have HBEL := Lib.hid hBel
  unfold Sp.v at ke ⊢
  have hRl : Fence.wide.round = none := rfl
  have hF1 : Fence.wide.fn 10 := trivial
  have hF2 : Fence.wide.fn 17 := trivial
  clear hA hBb hBel hT
  refine callsIn_of_wp_marks Tryd.func4 rfl trivial ?_ hRl
  simp only [Tryd.ntmps4, List.size_toArray, List.length_cons, List.length_nil, Nat.reduceAdd, Nat.reduceSub, Array.replicate_succ, Array.replicate_zero, List.push_toArray, List.append_toArray, List.nil_append, List.cons_append]
  gi_wp2_with (first
    | (gi_at_call 10; (refine callsIn_wide.2 (k0.mono ?_)); rintro e w1 ⟨rfl, hb⟩; (have H1 := Lib.hid hb); (have hA1 := HA.out.below hb); (obtain ⟨a0, a1⟩ := hA1.below ((Below.refl _ w1).alloc (Nat.le_refl _) (.cells #[.slice none 0 0] 29))); (have hs1 := hb.size); (simp at hs1); (have n1 : (¬ w.heap.size = w1.heap.size) ∧ (¬ w1.heap.size = w.heap.size) ∧ (¬ w.heap.size + 1 = w1.heap.size) ∧ (¬ w1.heap.size = w.heap.size + 1) := ⟨by omega, by omega, by omega, by omega⟩); (obtain ⟨n1, n2, n3, n4⟩ := n1); clear hb)
    | (gi_at_call 17; (refine callsIn_wide.2 ((ke _ ((HT0.out.next H1.out).alloc _)).mono ?_)); rintro e w3 ⟨Bc, Bw, Bt, rfl, hge, hE, hb⟩; (have HE := Lib.hid hE); (have HGE := Lib.hid hge); (have H3 := Lib.hid hb); clear hge hE hb))
  obtain ⟨g1, g2, g3⟩ := HGE.out
  have h3s := H3.out.size
  simp at g1 g2 g3 h3s
  have hs1' : w1.heap.size < w3.heap.size := by omega
  have bO : Boxed w3 w1.heap.size 29 (.slice none 0 0) := (H3.out.block w1.heap.size (by simp)).trans (Boxed.new w1 29 (.slice none 0 0))
  have hEB : ∀ q, EB Bc Bw Bt q → q ≠ w1.heap.size := by
    have := ((HT0.out.next H1.out)).room
    rintro q (rfl | rfl | rfl | rfl) <;> omega
  have hEL := HE.out.room
  clear a0 a1 k0 ke
  rename_i Qf Kf hKf
  obtain ⟨L, hL⟩ : ∃ L, a.each tier 100 = L := ⟨_, rfl⟩
  have hrest : ∀ (D : Nat) (x : Option Addr) (cx : Nat) (W : World), w.heap.size ≤ D → M9 w D w1.heap.size a b x cx L W → Kf { tmps := #[.agg #[.int .i64 a.f, .int .i64 a.t], .agg #[.int .i64 b.f, .int .i64 b.t], .int .i64 tier, .pointer (some ⟨w.heap.size, 0, none⟩), .pointer (some ⟨w.heap.size + 1, 0, none⟩), undef, .bool false, .bool true, .pointer (some ⟨w1.heap.size, 0, none⟩), undef, undef, undef, undef, .bool true, .bool true, .bool false, .agg #[.int .i64 a.f, .int .i64 a.t], .int .i64 tier, ECL Bc Bw Bt, undef, undef, undef, undef, undef, undef, undef, undef, undef, undef, undef, undef, undef, undef, undef, undef, undef, undef, undef, undef, undef, undef, undef, undef, undef, undef, undef, undef, undef, undef, undef, undef, undef, undef, undef, undef, undef, undef, undef, undef, undef, undef, undef, undef, undef, undef, undef, undef, undef, undef, undef, undef, undef, undef, undef, undef, undef, undef, undef, undef, undef, undef, undef, undef, undef, undef, undef, undef, undef, undef, undef, undef, undef, undef, undef, undef, undef, undef, undef, undef], defers := [{ target := .collected D, args := #[] }] } W := by
    intro D x cx W hD hM
    have HM := Lib.hid hM
    have kr : ∀ w, Calls Tryd.prog 19 #[a.v, .int .i64 tier, .int .i64 100] w (EaDone L w) := fun w => by rw [← hL]; exact reach_is a tier 100 w (by omega)
    have hLl : L.length ≤ 100 := by rw [← hL]; unfold Sp.each; rw [List.length_map, List.length_range]; omega
    have hsame := fun (x y : Option Addr) (cx cy : Nat) (wr : World) (h1 : Sps wr wr.heap.size x L) (h2 : Sps wr wr.heap.size y L) => same_is x y cx cy L L true wr h1 h2 (by omega) (by omega) (Lib.hid (by simp))
    obtain ⟨c, hc⟩ : ∃ c, bothI a b = c := ⟨_, rfl⟩
    obtain ⟨z, hz⟩ : ∃ z, a.is = z := ⟨_, rfl⟩
    have hez : (errI z == 0) = z := by cases z <;> rfl
    have ki := fun w => ris_is a z w (Lib.hid hz)
    have krb := fun w => rboth_is a b c w (Lib.hid hc)
    have kck := fun w => check_is a _ w (Lib.hid rfl)
    rw [hz] at kck
    have kal := fun w h => aligned_is a tier _ w h (Lib.hid rfl)
    have kral := fun w => raligned_is a tier _ w (Lib.hid rfl)
    have kco := fun w h => cover_is a _ tier w h (Lib.hid rfl)
    have krco := fun w => rcover_is a _ tier w (Lib.hid rfl)
    have kin := fun w h => inner_is a _ tier w h (Lib.hid rfl)
    have krin := fun w => rinner_is a _ tier w (Lib.hid rfl)
    have kcn := fun w h => count_is a tier _ w h (Lib.hid rfl)
    have krcn := fun w => rcount_is a tier _ w (Lib.hid rfl)
    have kbo := fun w => both_is a b c w (Lib.hid hc)
    have kme := fun w => meets_is a b _ w (Lib.hid (meets_both a b))
    rw [hc] at kme
    obtain ⟨za, hza⟩ : ∃ z, a.aligned tier = z := ⟨_, rfl⟩
    obtain ⟨m1, hm1⟩ : ∃ z, a.cover tier = z := ⟨_, rfl⟩
    obtain ⟨m2, hm2⟩ : ∃ z, a.inner tier = z := ⟨_, rfl⟩
    obtain ⟨m3, hm3⟩ : ∃ z, a.count tier = z := ⟨_, rfl⟩
    rw [hza] at kal kral
    rw [hm1] at kco krco
    rw [hm2] at kin krin
    rw [hm3] at kcn krcn
    have hs := sp_self
    unfold Sp.v at kr ki krb kck kal kral kco krco kin krin kcn krcn kbo kme
    clear hM hLl hL hc hz hza hm1 hm2 hm3
    refine hKf _ _ (wpIn_mono (Q := noPanic Qf) (wpIn_wide.2 ?_) (fun e a w h => noPanic_to e a w h))
    go_wp2_with fail
    refine wp_region_held_drew (S := (M9 w D w1.heap.size a b x cx L)) (by kernel_rfl) HM.out.drew (fun hHeld => ?_)
    refine wpAnyH_take (i := 0) (oi := ?oa1o) (v := ?oa1v) ?oa1h (by kernel_rfl) (by kernel_rfl) (by kernel_rfl) ?oa1q ?oa1y hHeld ?oa1r
    case oa1h => (simp only [List.getElem?_toArray, List.getElem?_cons_zero]; rfl)
    case oa1q => exact fun _ _ _ h => h
    case oa1y => (refine Or.inl ⟨by first | kernel_rfl | rfl, ?_⟩; intro w hSw; (try dsimp only at hSw); obtain ⟨⟨⟨x0, x1⟩, -, -, -, -⟩, y0, -⟩ := hSw; go_simp <;> (try with_reducible rfl))
    try simp only [Act.put, List.setIfInBounds_toArray, List.set_cons_zero, List.set_cons_succ]
    refine wpAnyH_take (i := 1) (oi := ?oa2o) (v := ?oa2v) ?oa2h (by kernel_rfl) (by kernel_rfl) (by kernel_rfl) ?oa2q ?oa2y hHeld ?oa2r
    case oa2h => (simp only [List.getElem?_toArray, List.getElem?_cons_succ, List.getElem?_cons_zero]; rfl)
    case oa2q => exact fun _ _ _ h => h
    case oa2y => (refine Or.inl ⟨by first | kernel_rfl | rfl, ?_⟩; intro w hSw; (try dsimp only at hSw); obtain ⟨⟨⟨x0, x1⟩, -, -, -, -⟩, y0, -⟩ := hSw; go_simp <;> (try with_reducible rfl))
    try simp only [Act.put, List.setIfInBounds_toArray, List.set_cons_zero, List.set_cons_succ]
    refine wpAnyH_take (i := 2) (oi := ?oa3o) (v := ?oa3v) ?oa3h (by kernel_rfl) (by kernel_rfl) (by kernel_rfl) ?oa3q ?oa3y hHeld ?oa3r
    case oa3h => (simp only [List.getElem?_toArray, List.getElem?_cons_succ, List.getElem?_cons_zero]; rfl)
    case oa3q => exact fun _ _ _ h => h
    case oa3y => (refine Or.inl ⟨by first | kernel_rfl | rfl, ?_⟩; intro w hSw; (try dsimp only at hSw); obtain ⟨⟨⟨x0, x1⟩, -, -, -, -⟩, y0, -⟩ := hSw; go_simp <;> (try with_reducible rfl))
    try simp only [Act.put, List.setIfInBounds_toArray, List.set_cons_zero, List.set_cons_succ]
    refine wpAnyH_ready (rs := [3]) (by kernel_rfl) (by simp) ?_
    refine (AllReadyH.cons rfl (fun K hK => ?_) AllReadyH.nil)
    go_simp
    ((with_reducible refine (kr _).mono ?_); rintro e w5 ⟨v5, rfl, hR5, hb5⟩; (obtain ⟨a5, c5, rfl⟩ := hR5.slice); have hS5 := hR5.sps)
    refine hK.out _ _ (hHeld.keep hb5) (fun hHeld => ?_)
    clear hK K
    try simp only [Act.put, List.setIfInBounds_toArray, List.set_cons_zero, List.set_cons_succ]
    refine wpAnyH_ready (rs := [4]) (by kernel_rfl) (by simp) ?_
    refine (AllReadyH.cons rfl (fun K hK => ?_) AllReadyH.nil)
    go_simp
    ((with_reducible refine (hsame _ _ _ _ _ hHeld.sps hS5).mono ?_); rintro e w6 ⟨rfl, hb6⟩)
    refine hK.out _ _ (hHeld.keep hb6) (fun hHeld => ?_)
    clear hK K
    try simp only [Act.put, List.setIfInBounds_toArray, List.set_cons_zero, List.set_cons_succ]
    refine wpAnyH_take (i := 5) (oi := ?oa4o) (v := ?oa4v) ?oa4h (by kernel_rfl) (by kernel_rfl) (by kernel_rfl) ?oa4q ?oa4y hHeld ?oa4r
    case oa4h => (simp only [List.getElem?_toArray, List.getElem?_cons_succ, List.getElem?_cons_zero]; rfl)
    case oa4q => exact fun _ _ _ h => h
    case oa4y => (refine Or.inl ⟨by first | kernel_rfl | rfl, ?_⟩; intro w hSw; (try dsimp only at hSw); obtain ⟨⟨⟨x0, x1⟩, -, -, -, -⟩, y0, -⟩ := hSw; go_simp <;> (try with_reducible rfl))
    try simp only [Act.put, List.setIfInBounds_toArray, List.set_cons_zero, List.set_cons_succ]
    refine wpAnyH_done (by kernel_rfl) ?_ _
    have H6 := Lib.hid hHeld.ma
    have h6 := H6.out.xs
    obtain ⟨x0, x1⟩ := h6
    clear hHeld
    go_wp2_with (first
      | (go_at_call 20; (with_reducible refine (ki _).mono ?_); rintro e w7 ⟨rfl, hb⟩; (have H7 := Lib.hid (H6.out.keep hb)); (have h7 := H7.out.xs); (obtain ⟨x0, x1⟩ := h7); (have h7 := H7.out.ys); (obtain ⟨y0, y1⟩ := h7); clear hb)
      | (go_at_call 21; (with_reducible refine (krb _).mono ?_); rintro e w8 ⟨rfl, hb⟩; (have H8 := Lib.hid (H7.out.keep hb)); (have H9 := Lib.hid (M4.mk (H8.out.keep ((Below.refl _ _).alloc (Nat.le_refl _) (.cells #[.int .i64 c.f, .int .i64 c.t] 26))) (SpAt.new w8 c 26))); clear hb))
    refine wp_region_held_drew (S := (M4 w D w8.heap.size a b c)) (by kernel_rfl) H9.out.drew (fun hHeld => ?_)
    refine wpAnyH_take (i := 0) (oi := ?ob1o) (v := ?ob1v) ?ob1h (by kernel_rfl) (by kernel_rfl) (by kernel_rfl) ?ob1q ?ob1y hHeld ?ob1r
    case ob1h => (simp only [List.getElem?_toArray, List.getElem?_cons_zero]; rfl)
    case ob1q => exact fun _ _ _ h => h
    case ob1y => (refine Or.inl ⟨by first | kernel_rfl | rfl, ?_⟩; intro w hSw; (try dsimp only at hSw); obtain ⟨⟨⟨x0, x1⟩, ⟨y0, y1⟩, -, -, -⟩, ⟨c0, c1⟩⟩ := hSw; go_simp <;> (try with_reducible rfl))
    try simp only [Act.put, List.setIfInBounds_toArray, List.set_cons_zero, List.set_cons_succ]
    refine wpAnyH_take (i := 1) (oi := ?ob2o) (v := ?ob2v) ?ob2h (by kernel_rfl) (by kernel_rfl) (by kernel_rfl) ?ob2q ?ob2y hHeld ?ob2r
    case ob2h => (simp only [List.getElem?_toArray, List.getElem?_cons_succ, List.getElem?_cons_zero]; rfl)
    case ob2q => exact fun _ _ _ h => h
    case ob2y => (refine Or.inl ⟨by first | kernel_rfl | rfl, ?_⟩; intro w hSw; (try dsimp only at hSw); obtain ⟨⟨⟨x0, x1⟩, ⟨y0, y1⟩, -, -, -⟩, ⟨c0, c1⟩⟩ := hSw; go_simp <;> (try with_reducible rfl))
    try simp only [Act.put, List.setIfInBounds_toArray, List.set_cons_zero, List.set_cons_succ]
    refine wpAnyH_take (i := 2) (oi := ?ob3o) (v := ?ob3v) ?ob3h (by kernel_rfl) (by kernel_rfl) (by kernel_rfl) ?ob3q ?ob3y hHeld ?ob3r
    case ob3h => (simp only [List.getElem?_toArray, List.getElem?_cons_succ, List.getElem?_cons_zero]; rfl)
    case ob3q => exact fun _ _ _ h => h
    case ob3y => (refine Or.inl ⟨by first | kernel_rfl | rfl, ?_⟩; intro w hSw; (try dsimp only at hSw); obtain ⟨⟨⟨x0, x1⟩, ⟨y0, y1⟩, -, -, -⟩, ⟨c0, c1⟩⟩ := hSw; go_simp <;> (try with_reducible rfl))
    try simp only [Act.put, List.setIfInBounds_toArray, List.set_cons_zero, List.set_cons_succ]
    refine wpAnyH_take (i := 5) (oi := ?ob4o) (v := ?ob4v) ?ob4h (by kernel_rfl) (by kernel_rfl) (by kernel_rfl) ?ob4q ?ob4y hHeld ?ob4r
    case ob4h => (simp only [List.getElem?_toArray, List.getElem?_cons_succ, List.getElem?_cons_zero]; rfl)
    case ob4q => exact fun _ _ _ h => h
    case ob4y => (refine Or.inl ⟨by first | kernel_rfl | rfl, ?_⟩; intro w hSw; (try dsimp only at hSw); obtain ⟨⟨⟨x0, x1⟩, ⟨y0, y1⟩, -, -, -⟩, ⟨c0, c1⟩⟩ := hSw; go_simp <;> (try with_reducible rfl))
    try simp only [Act.put, List.setIfInBounds_toArray, List.set_cons_zero, List.set_cons_succ]
    refine wpAnyH_ready (rs := [3]) (by kernel_rfl) (by simp) ?_
    refine (AllReadyH.cons rfl (fun K hK => ?_) AllReadyH.nil)
    go_simp
    ((with_reducible refine (kck _).mono ?_); rintro e w' ⟨rfl, hb'⟩)
    refine hK.out _ _ (hHeld.keep hb') (fun hHeld => ?_)
    clear hK K
    try simp only [Act.put, List.setIfInBounds_toArray, List.set_cons_zero, List.set_cons_succ]
    refine wpAnyH_take (i := 4) (oi := ?ob5o) (v := ?ob5v) ?ob5h (by kernel_rfl) (by kernel_rfl) (by kernel_rfl) ?ob5q ?ob5y hHeld ?ob5r
    case ob5h => (simp only [List.getElem?_toArray, List.getElem?_cons_succ, List.getElem?_cons_zero]; rfl)
    case ob5q => exact fun _ _ _ h => h
    case ob5y => (refine Or.inl ⟨by first | kernel_rfl | rfl, ?_⟩; intro w hSw; (try dsimp only at hSw); obtain ⟨⟨⟨x0, x1⟩, ⟨y0, y1⟩, -, -, -⟩, ⟨c0, c1⟩⟩ := hSw; go_simp <;> (try with_reducible rfl))
    try simp only [Act.put, List.setIfInBounds_toArray, List.set_cons_zero, List.set_cons_succ]
    refine wpAnyH_take (i := 6) (oi := ?ob6o) (v := ?ob6v) ?ob6h (by kernel_rfl) (by kernel_rfl) (by kernel_rfl) ?ob6q ?ob6y hHeld ?ob6r
    case ob6h => (simp only [List.getElem?_toArray, List.getElem?_cons_succ, List.getElem?_cons_zero]; rfl)
    case ob6q => exact fun _ _ _ h => h
    case ob6y => (refine Or.inl ⟨by first | kernel_rfl | rfl, ?_⟩; intro w hSw; (try dsimp only at hSw); obtain ⟨⟨⟨x0, x1⟩, ⟨y0, y1⟩, -, -, -⟩, ⟨c0, c1⟩⟩ := hSw; go_simp <;> (try with_reducible rfl))
    try simp only [Act.put, List.setIfInBounds_toArray, List.set_cons_zero, List.set_cons_succ]
    refine wpAnyH_take (i := 7) (oi := ?ob7o) (v := ?ob7v) ?ob7h (by kernel_rfl) (by kernel_rfl) (by kernel_rfl) ?ob7q ?ob7y hHeld ?ob7r
    case ob7h => (simp only [List.getElem?_toArray, List.getElem?_cons_succ, List.getElem?_cons_zero]; rfl)
    case ob7q => exact fun _ _ _ h => h
    case ob7y => (refine Or.inl ⟨by first | kernel_rfl | rfl, ?_⟩; intro w hSw; (try dsimp only at hSw); obtain ⟨⟨⟨x0, x1⟩, ⟨y0, y1⟩, -, -, -⟩, ⟨c0, c1⟩⟩ := hSw; go_simp <;> (try with_reducible rfl))
    try simp only [Act.put, List.setIfInBounds_toArray, List.set_cons_zero, List.set_cons_succ]
    refine wpAnyH_take (i := 8) (oi := ?ob8o) (v := ?ob8v) ?ob8h (by kernel_rfl) (by kernel_rfl) (by kernel_rfl) ?ob8q ?ob8y hHeld ?ob8r
    case ob8h => (simp only [List.getElem?_toArray, List.getElem?_cons_succ, List.getElem?_cons_zero]; rfl)
    case ob8q => exact fun _ _ _ h => h
    case ob8y => (refine Or.inl ⟨by first | kernel_rfl | rfl, ?_⟩; intro w hSw; (try dsimp only at hSw); obtain ⟨⟨⟨x0, x1⟩, ⟨y0, y1⟩, -, -, -⟩, ⟨c0, c1⟩⟩ := hSw; go_simp <;> (try with_reducible rfl))
    try simp only [Act.put, List.setIfInBounds_toArray, List.set_cons_zero, List.set_cons_succ]
    refine wpAnyH_take (i := 9) (oi := ?ob9o) (v := ?ob9v) ?ob9h (by kernel_rfl) (by kernel_rfl) (by kernel_rfl) ?ob9q ?ob9y hHeld ?ob9r
    case ob9h => (simp only [List.getElem?_toArray, List.getElem?_cons_succ, List.getElem?_cons_zero]; rfl)
    case ob9q => exact fun _ _ _ h => h
    case ob9y => (refine Or.inl ⟨by first | kernel_rfl | rfl, ?_⟩; intro w hSw; (try dsimp only at hSw); obtain ⟨⟨⟨x0, x1⟩, ⟨y0, y1⟩, -, -, -⟩, ⟨c0, c1⟩⟩ := hSw; go_simp <;> (try with_reducible rfl))
    try simp only [Act.put, List.setIfInBounds_toArray, List.set_cons_zero, List.set_cons_succ]
    refine wpAnyH_take (i := 10) (oi := ?ob10o) (v := ?ob10v) ?ob10h (by kernel_rfl) (by kernel_rfl) (by kernel_rfl) ?ob10q ?ob10y hHeld ?ob10r
    case ob10h => (simp only [List.getElem?_toArray, List.getElem?_cons_succ, List.getElem?_cons_zero]; rfl)
    case ob10q => exact fun _ _ _ h => h
    case ob10y => (refine Or.inl ⟨by first | kernel_rfl | rfl, ?_⟩; intro w hSw; (try dsimp only at hSw); obtain ⟨⟨⟨x0, x1⟩, ⟨y0, y1⟩, -, -, -⟩, ⟨c0, c1⟩⟩ := hSw; go_simp <;> (try with_reducible rfl))
    try simp only [Act.put, List.setIfInBounds_toArray, List.set_cons_zero, List.set_cons_succ]
    refine wpAnyH_take (i := 12) (oi := ?ob11o) (v := ?ob11v) ?ob11h (by kernel_rfl) (by kernel_rfl) (by kernel_rfl) ?ob11q ?ob11y hHeld ?ob11r
    case ob11h => (simp only [List.getElem?_toArray, List.getElem?_cons_succ, List.getElem?_cons_zero]; rfl)
    case ob11q => exact fun _ _ _ h => h
    case ob11y => (refine Or.inl ⟨by first | kernel_rfl | rfl, ?_⟩; intro w hSw; (try dsimp only at hSw); obtain ⟨⟨⟨x0, x1⟩, ⟨y0, y1⟩, -, -, -⟩, ⟨c0, c1⟩⟩ := hSw; go_simp <;> (try with_reducible rfl))
    try simp only [Act.put, List.setIfInBounds_toArray, List.set_cons_zero, List.set_cons_succ]
    refine wpAnyH_take (i := 13) (oi := ?ob12o) (v := ?ob12v) ?ob12h (by kernel_rfl) (by kernel_rfl) (by kernel_rfl) ?ob12q ?ob12y hHeld ?ob12r
    case ob12h => (simp only [List.getElem?_toArray, List.getElem?_cons_succ, List.getElem?_cons_zero]; rfl)
    case ob12q => exact fun _ _ _ h => h
    case ob12y => (refine Or.inl ⟨by first | kernel_rfl | rfl, ?_⟩; intro w hSw; (try dsimp only at hSw); obtain ⟨⟨⟨x0, x1⟩, ⟨y0, y1⟩, -, -, -⟩, ⟨c0, c1⟩⟩ := hSw; go_simp <;> (try with_reducible rfl))
    try simp only [Act.put, List.setIfInBounds_toArray, List.set_cons_zero, List.set_cons_succ]
    refine wpAnyH_ready (rs := [11]) (by kernel_rfl) (by simp) ?_
    refine (AllReadyH.cons rfl (fun K hK => ?_) AllReadyH.nil)
    go_simp
    ((with_reducible refine (kal _ hHeld.ma.tab).mono ?_); rintro e w' ⟨rfl, hb'⟩)
    refine hK.out _ _ (hHeld.keep hb') (fun hHeld => ?_)
    clear hK K
    try simp only [Act.put, List.setIfInBounds_toArray, List.set_cons_zero, List.set_cons_succ]
    refine wpAnyH_ready (rs := [14]) (by kernel_rfl) (by simp) ?_
    refine (AllReadyH.cons rfl (fun K hK => ?_) AllReadyH.nil)
    go_simp
    ((with_reducible refine (kral _).mono ?_); rintro e w' ⟨rfl, hb'⟩)
    refine hK.out _ _ (hHeld.keep hb') (fun hHeld => ?_)
    clear hK K
    try simp only [Act.put, List.setIfInBounds_toArray, List.set_cons_zero, List.set_cons_succ]
    refine wpAnyH_take (i := 15) (oi := ?ob13o) (v := ?ob13v) ?ob13h (by kernel_rfl) (by kernel_rfl) (by kernel_rfl) ?ob13q ?ob13y hHeld ?ob13r
    case ob13h => (simp only [List.getElem?_toArray, List.getElem?_cons_succ, List.getElem?_cons_zero]; rfl)
    case ob13q => exact fun _ _ _ h => h
    case ob13y => (refine Or.inl ⟨by first | kernel_rfl | rfl, ?_⟩; intro w hSw; (try dsimp only at hSw); obtain ⟨⟨⟨x0, x1⟩, ⟨y0, y1⟩, -, -, -⟩, ⟨c0, c1⟩⟩ := hSw; go_simp <;> (try with_reducible rfl))
    try simp only [Act.put, List.setIfInBounds_toArray, List.set_cons_zero, List.set_cons_succ]
    refine wpAnyH_take (i := 16) (oi := ?ob14o) (v := ?ob14v) ?ob14h (by kernel_rfl) (by kernel_rfl) (by kernel_rfl) ?ob14q ?ob14y hHeld ?ob14r
    case ob14h => (simp only [List.getElem?_toArray, List.getElem?_cons_succ, List.getElem?_cons_zero]; rfl)
    case ob14q => exact fun _ _ _ h => h
    case ob14y => (refine Or.inl ⟨by first | kernel_rfl | rfl, ?_⟩; intro w hSw; (try dsimp only at hSw); obtain ⟨⟨⟨x0, x1⟩, ⟨y0, y1⟩, -, -, -⟩, ⟨c0, c1⟩⟩ := hSw; go_simp <;> (try with_reducible rfl))
    try simp only [Act.put, List.setIfInBounds_toArray, List.set_cons_zero, List.set_cons_succ]
    refine wpAnyH_take (i := 17) (oi := ?ob15o) (v := ?ob15v) ?ob15h (by kernel_rfl) (by kernel_rfl) (by kernel_rfl) ?ob15q ?ob15y hHeld ?ob15r
    case ob15h => (simp only [List.getElem?_toArray, List.getElem?_cons_succ, List.getElem?_cons_zero]; rfl)
    case ob15q => exact fun _ _ _ h => h
    case ob15y => (refine Or.inl ⟨by first | kernel_rfl | rfl, ?_⟩; intro w hSw; (try dsimp only at hSw); obtain ⟨⟨⟨x0, x1⟩, ⟨y0, y1⟩, -, -, -⟩, ⟨c0, c1⟩⟩ := hSw; go_simp <;> (try with_reducible rfl))
    try simp only [Act.put, List.setIfInBounds_toArray, List.set_cons_zero, List.set_cons_succ]
    refine wpAnyH_take (i := 18) (oi := ?ob16o) (v := ?ob16v) ?ob16h (by kernel_rfl) (by kernel_rfl) (by kernel_rfl) ?ob16q ?ob16y hHeld ?ob16r
    case ob16h => (simp only [List.getElem?_toArray, List.getElem?_cons_succ, List.getElem?_cons_zero]; rfl)
    case ob16q => exact fun _ _ _ h => h
    case ob16y => (refine Or.inl ⟨by first | kernel_rfl | rfl, ?_⟩; intro w hSw; (try dsimp only at hSw); obtain ⟨⟨⟨x0, x1⟩, ⟨y0, y1⟩, -, -, -⟩, ⟨c0, c1⟩⟩ := hSw; go_simp <;> (try with_reducible rfl))
    try simp only [Act.put, List.setIfInBounds_toArray, List.set_cons_zero, List.set_cons_succ]
    refine wpAnyH_take (i := 19) (oi := ?ob17o) (v := ?ob17v) ?ob17h (by kernel_rfl) (by kernel_rfl) (by kernel_rfl) ?ob17q ?ob17y hHeld ?ob17r
    case ob17h => (simp only [List.getElem?_toArray, List.getElem?_cons_succ, List.getElem?_cons_zero]; rfl)
    case ob17q => exact fun _ _ _ h => h
    case ob17y => (refine Or.inl ⟨by first | kernel_rfl | rfl, ?_⟩; intro w hSw; (try dsimp only at hSw); obtain ⟨⟨⟨x0, x1⟩, ⟨y0, y1⟩, -, -, -⟩, ⟨c0, c1⟩⟩ := hSw; go_simp <;> (try with_reducible rfl))
    try simp only [Act.put, List.setIfInBounds_toArray, List.set_cons_zero, List.set_cons_succ]
    refine wpAnyH_take (i := 21) (oi := ?ob18o) (v := ?ob18v) ?ob18h (by kernel_rfl) (by kernel_rfl) (by kernel_rfl) ?ob18q ?ob18y hHeld ?ob18r
    case ob18h => (simp only [List.getElem?_toArray, List.getElem?_cons_succ, List.getElem?_cons_zero]; rfl)
    case ob18q => exact fun _ _ _ h => h
    case ob18y => (refine Or.inl ⟨by first | kernel_rfl | rfl, ?_⟩; intro w hSw; (try dsimp only at hSw); obtain ⟨⟨⟨x0, x1⟩, ⟨y0, y1⟩, -, -, -⟩, ⟨c0, c1⟩⟩ := hSw; go_simp <;> (try with_reducible rfl))
    try simp only [Act.put, List.setIfInBounds_toArray, List.set_cons_zero, List.set_cons_succ]
    refine wpAnyH_take (i := 22) (oi := ?ob19o) (v := ?ob19v) ?ob19h (by kernel_rfl) (by kernel_rfl) (by kernel_rfl) ?ob19q ?ob19y hHeld ?ob19r
    case ob19h => (simp only [List.getElem?_toArray, List.getElem?_cons_succ, List.getElem?_cons_zero]; rfl)
    case ob19q => exact fun _ _ _ h => h
    case ob19y => (refine Or.inl ⟨by first | kernel_rfl | rfl, ?_⟩; intro w hSw; (try dsimp only at hSw); obtain ⟨⟨⟨x0, x1⟩, ⟨y0, y1⟩, -, -, -⟩, ⟨c0, c1⟩⟩ := hSw; go_simp <;> (try with_reducible rfl))
    try simp only [Act.put, List.setIfInBounds_toArray, List.set_cons_zero, List.set_cons_succ]
    refine wpAnyH_ready (rs := [20]) (by kernel_rfl) (by simp) ?_
    refine (AllReadyH.cons rfl (fun K hK => ?_) AllReadyH.nil)
    go_simp
    ((with_reducible refine (kco _ hHeld.ma.tab).mono ?_); rintro e w' ⟨rfl, hb'⟩)
    refine hK.out _ _ (hHeld.keep hb') (fun hHeld => ?_)
    clear hK K
    try simp only [Act.put, List.setIfInBounds_toArray, List.set_cons_zero, List.set_cons_succ]
    refine wpAnyH_ready (rs := [23]) (by kernel_rfl) (by simp) ?_
    refine (AllReadyH.cons rfl (fun K hK => ?_) AllReadyH.nil)
    go_simp
    ((with_reducible refine (krco _).mono ?_); rintro e w' ⟨rfl, hb'⟩)
    refine hK.out _ _ (hHeld.keep hb') (fun hHeld => ?_)
    clear hK K
    try simp only [Act.put, List.setIfInBounds_toArray, List.set_cons_zero, List.set_cons_succ]
    refine wpAnyH_take (i := 24) (oi := ?ob20o) (v := ?ob20v) ?ob20h (by kernel_rfl) (by kernel_rfl) (by kernel_rfl) ?ob20q ?ob20y hHeld ?ob20r
    case ob20h => (simp only [List.getElem?_toArray, List.getElem?_cons_succ, List.getElem?_cons_zero]; rfl)
    case ob20q => exact fun _ _ _ h => h
    case ob20y => (refine Or.inl ⟨by first | kernel_rfl | rfl, ?_⟩; intro w hSw; (try dsimp only at hSw); obtain ⟨⟨⟨x0, x1⟩, ⟨y0, y1⟩, -, -, -⟩, ⟨c0, c1⟩⟩ := hSw; go_simp <;> (try with_reducible rfl))
    try simp only [Act.put, List.setIfInBounds_toArray, List.set_cons_zero, List.set_cons_succ]
    refine wpAnyH_take (i := 25) (oi := ?ob21o) (v := ?ob21v) ?ob21h (by kernel_rfl) (by kernel_rfl) (by kernel_rfl) ?ob21q ?ob21y hHeld ?ob21r
    case ob21h => (simp only [List.getElem?_toArray, List.getElem?_cons_succ, List.getElem?_cons_zero]; rfl)
    case ob21q => exact fun _ _ _ h => h
    case ob21y => (refine Or.inl ⟨by first | kernel_rfl | rfl, ?_⟩; intro w hSw; (try dsimp only at hSw); obtain ⟨⟨⟨x0, x1⟩, ⟨y0, y1⟩, -, -, -⟩, ⟨c0, c1⟩⟩ := hSw; go_simp <;> (try with_reducible rfl))
    try simp only [Act.put, List.setIfInBounds_toArray, List.set_cons_zero, List.set_cons_succ]
    refine wpAnyH_take (i := 26) (oi := ?ob22o) (v := ?ob22v) ?ob22h (by kernel_rfl) (by kernel_rfl) (by kernel_rfl) ?ob22q ?ob22y hHeld ?ob22r
    case ob22h => (simp only [List.getElem?_toArray, List.getElem?_cons_succ, List.getElem?_cons_zero]; rfl)
    case ob22q => exact fun _ _ _ h => h
    case ob22y => (refine Or.inl ⟨by first | kernel_rfl | rfl, ?_⟩; intro w hSw; (try dsimp only at hSw); obtain ⟨⟨⟨x0, x1⟩, ⟨y0, y1⟩, -, -, -⟩, ⟨c0, c1⟩⟩ := hSw; go_simp <;> (try with_reducible rfl))
    try simp only [Act.put, List.setIfInBounds_toArray, List.set_cons_zero, List.set_cons_succ]
    refine wpAnyH_take (i := 27) (oi := ?ob23o) (v := ?ob23v) ?ob23h (by kernel_rfl) (by kernel_rfl) (by kernel_rfl) ?ob23q ?ob23y hHeld ?ob23r
    case ob23h => (simp only [List.getElem?_toArray, List.getElem?_cons_succ, List.getElem?_cons_zero]; rfl)
    case ob23q => exact fun _ _ _ h => h
    case ob23y => (refine Or.inl ⟨by first | kernel_rfl | rfl, ?_⟩; intro w hSw; (try dsimp only at hSw); obtain ⟨⟨⟨x0, x1⟩, ⟨y0, y1⟩, -, -, -⟩, ⟨c0, c1⟩⟩ := hSw; go_simp <;> (try with_reducible rfl))
    try simp only [Act.put, List.setIfInBounds_toArray, List.set_cons_zero, List.set_cons_succ]
    refine wpAnyH_take (i := 28) (oi := ?ob24o) (v := ?ob24v) ?ob24h (by kernel_rfl) (by kernel_rfl) (by kernel_rfl) ?ob24q ?ob24y hHeld ?ob24r
    case ob24h => (simp only [List.getElem?_toArray, List.getElem?_cons_succ, List.getElem?_cons_zero]; rfl)
    case ob24q => exact fun _ _ _ h => h
    case ob24y => (refine Or.inl ⟨by first | kernel_rfl | rfl, ?_⟩; intro w hSw; (try dsimp only at hSw); obtain ⟨⟨⟨x0, x1⟩, ⟨y0, y1⟩, -, -, -⟩, ⟨c0, c1⟩⟩ := hSw; go_simp <;> (try with_reducible rfl))
    try simp only [Act.put, List.setIfInBounds_toArray, List.set_cons_zero, List.set_cons_succ]
    refine wpAnyH_take (i := 30) (oi := ?ob25o) (v := ?ob25v) ?ob25h (by kernel_rfl) (by kernel_rfl) (by kernel_rfl) ?ob25q ?ob25y hHeld ?ob25r
    case ob25h => (simp only [List.getElem?_toArray, List.getElem?_cons_succ, List.getElem?_cons_zero]; rfl)
    case ob25q => exact fun _ _ _ h => h
    case ob25y => (refine Or.inl ⟨by first | kernel_rfl | rfl, ?_⟩; intro w hSw; (try dsimp only at hSw); obtain ⟨⟨⟨x0, x1⟩, ⟨y0, y1⟩, -, -, -⟩, ⟨c0, c1⟩⟩ := hSw; go_simp <;> (try with_reducible rfl))
    try simp only [Act.put, List.setIfInBounds_toArray, List.set_cons_zero, List.set_cons_succ]
    refine wpAnyH_take (i := 31) (oi := ?ob26o) (v := ?ob26v) ?ob26h (by kernel_rfl) (by kernel_rfl) (by kernel_rfl) ?ob26q ?ob26y hHeld ?ob26r
    case ob26h => (simp only [List.getElem?_toArray, List.getElem?_cons_succ, List.getElem?_cons_zero]; rfl)
    case ob26q => exact fun _ _ _ h => h
    case ob26y => (refine Or.inl ⟨by first | kernel_rfl | rfl, ?_⟩; intro w hSw; (try dsimp only at hSw); obtain ⟨⟨⟨x0, x1⟩, ⟨y0, y1⟩, -, -, -⟩, ⟨c0, c1⟩⟩ := hSw; go_simp <;> (try with_reducible rfl))
    try simp only [Act.put, List.setIfInBounds_toArray, List.set_cons_zero, List.set_cons_succ]
    refine wpAnyH_ready (rs := [29]) (by kernel_rfl) (by simp) ?_
    refine (AllReadyH.cons rfl (fun K hK => ?_) AllReadyH.nil)
    go_simp
    ((with_reducible refine (kin _ hHeld.ma.tab).mono ?_); rintro e w' ⟨rfl, hb'⟩)
    refine hK.out _ _ (hHeld.keep hb') (fun hHeld => ?_)
    clear hK K
    try simp only [Act.put, List.setIfInBounds_toArray, List.set_cons_zero, List.set_cons_succ]
    refine wpAnyH_ready (rs := [32]) (by kernel_rfl) (by simp) ?_
    refine (AllReadyH.cons rfl (fun K hK => ?_) AllReadyH.nil)
    go_simp
    ((with_reducible refine (krin _).mono ?_); rintro e w' ⟨rfl, hb'⟩)
    refine hK.out _ _ (hHeld.keep hb') (fun hHeld => ?_)
    clear hK K
    try simp only [Act.put, List.setIfInBounds_toArray, List.set_cons_zero, List.set_cons_succ]
    refine wpAnyH_take (i := 33) (oi := ?ob27o) (v := ?ob27v) ?ob27h (by kernel_rfl) (by kernel_rfl) (by kernel_rfl) ?ob27q ?ob27y hHeld ?ob27r
    case ob27h => (simp only [List.getElem?_toArray, List.getElem?_cons_succ, List.getElem?_cons_zero]; rfl)
    case ob27q => exact fun _ _ _ h => h
    case ob27y => (refine Or.inl ⟨by first | kernel_rfl | rfl, ?_⟩; intro w hSw; (try dsimp only at hSw); obtain ⟨⟨⟨x0, x1⟩, ⟨y0, y1⟩, -, -, -⟩, ⟨c0, c1⟩⟩ := hSw; go_simp <;> (try with_reducible rfl))
    try simp only [Act.put, List.setIfInBounds_toArray, List.set_cons_zero, List.set_cons_succ]
    refine wpAnyH_take (i := 34) (oi := ?ob28o) (v := ?ob28v) ?ob28h (by kernel_rfl) (by kernel_rfl) (by kernel_rfl) ?ob28q ?ob28y hHeld ?ob28r
    case ob28h => (simp only [List.getElem?_toArray, List.getElem?_cons_succ, List.getElem?_cons_zero]; rfl)
    case ob28q => exact fun _ _ _ h => h
    case ob28y => (refine Or.inl ⟨by first | kernel_rfl | rfl, ?_⟩; intro w hSw; (try dsimp only at hSw); obtain ⟨⟨⟨x0, x1⟩, ⟨y0, y1⟩, -, -, -⟩, ⟨c0, c1⟩⟩ := hSw; go_simp <;> (try with_reducible rfl))
    try simp only [Act.put, List.setIfInBounds_toArray, List.set_cons_zero, List.set_cons_succ]
    refine wpAnyH_take (i := 35) (oi := ?ob29o) (v := ?ob29v) ?ob29h (by kernel_rfl) (by kernel_rfl) (by kernel_rfl) ?ob29q ?ob29y hHeld ?ob29r
    case ob29h => (simp only [List.getElem?_toArray, List.getElem?_cons_succ, List.getElem?_cons_zero]; rfl)
    case ob29q => exact fun _ _ _ h => h
    case ob29y => (refine Or.inl ⟨by first | kernel_rfl | rfl, ?_⟩; intro w hSw; (try dsimp only at hSw); obtain ⟨⟨⟨x0, x1⟩, ⟨y0, y1⟩, -, -, -⟩, ⟨c0, c1⟩⟩ := hSw; go_simp <;> (try with_reducible rfl))
    try simp only [Act.put, List.setIfInBounds_toArray, List.set_cons_zero, List.set_cons_succ]
    refine wpAnyH_take (i := 36) (oi := ?ob30o) (v := ?ob30v) ?ob30h (by kernel_rfl) (by kernel_rfl) (by kernel_rfl) ?ob30q ?ob30y hHeld ?ob30r
    case ob30h => (simp only [List.getElem?_toArray, List.getElem?_cons_succ, List.getElem?_cons_zero]; rfl)
    case ob30q => exact fun _ _ _ h => h
    case ob30y => (refine Or.inl ⟨by first | kernel_rfl | rfl, ?_⟩; intro w hSw; (try dsimp only at hSw); obtain ⟨⟨⟨x0, x1⟩, ⟨y0, y1⟩, -, -, -⟩, ⟨c0, c1⟩⟩ := hSw; go_simp <;> (try with_reducible rfl))
    try simp only [Act.put, List.setIfInBounds_toArray, List.set_cons_zero, List.set_cons_succ]
    refine wpAnyH_take (i := 37) (oi := ?ob31o) (v := ?ob31v) ?ob31h (by kernel_rfl) (by kernel_rfl) (by kernel_rfl) ?ob31q ?ob31y hHeld ?ob31r
    case ob31h => (simp only [List.getElem?_toArray, List.getElem?_cons_succ, List.getElem?_cons_zero]; rfl)
    case ob31q => exact fun _ _ _ h => h
    case ob31y => (refine Or.inl ⟨by first | kernel_rfl | rfl, ?_⟩; intro w hSw; (try dsimp only at hSw); obtain ⟨⟨⟨x0, x1⟩, ⟨y0, y1⟩, -, -, -⟩, ⟨c0, c1⟩⟩ := hSw; go_simp <;> (try with_reducible rfl))
    try simp only [Act.put, List.setIfInBounds_toArray, List.set_cons_zero, List.set_cons_succ]
    refine wpAnyH_take (i := 39) (oi := ?ob32o) (v := ?ob32v) ?ob32h (by kernel_rfl) (by kernel_rfl) (by kernel_rfl) ?ob32q ?ob32y hHeld ?ob32r
    case ob32h => (simp only [List.getElem?_toArray, List.getElem?_cons_succ, List.getElem?_cons_zero]; rfl)
    case ob32q => exact fun _ _ _ h => h
    case ob32y => (refine Or.inl ⟨by first | kernel_rfl | rfl, ?_⟩; intro w hSw; (try dsimp only at hSw); obtain ⟨⟨⟨x0, x1⟩, ⟨y0, y1⟩, -, -, -⟩, ⟨c0, c1⟩⟩ := hSw; go_simp <;> (try with_reducible rfl))
    try simp only [Act.put, List.setIfInBounds_toArray, List.set_cons_zero, List.set_cons_succ]
    refine wpAnyH_take (i := 40) (oi := ?ob33o) (v := ?ob33v) ?ob33h (by kernel_rfl) (by kernel_rfl) (by kernel_rfl) ?ob33q ?ob33y hHeld ?ob33r
    case ob33h => (simp only [List.getElem?_toArray, List.getElem?_cons_succ, List.getElem?_cons_zero]; rfl)
    case ob33q => exact fun _ _ _ h => h
    case ob33y => (refine Or.inl ⟨by first | kernel_rfl | rfl, ?_⟩; intro w hSw; (try dsimp only at hSw); obtain ⟨⟨⟨x0, x1⟩, ⟨y0, y1⟩, -, -, -⟩, ⟨c0, c1⟩⟩ := hSw; go_simp <;> (try with_reducible rfl))
    try simp only [Act.put, List.setIfInBounds_toArray, List.set_cons_zero, List.set_cons_succ]
    refine wpAnyH_ready (rs := [38]) (by kernel_rfl) (by simp) ?_
    refine (AllReadyH.cons rfl (fun K hK => ?_) AllReadyH.nil)
    go_simp
    ((with_reducible refine (kcn _ hHeld.ma.tab).mono ?_); rintro e w' ⟨rfl, hb'⟩)
    refine hK.out _ _ (hHeld.keep hb') (fun hHeld => ?_)
    clear hK K
    try simp only [Act.put, List.setIfInBounds_toArray, List.set_cons_zero, List.set_cons_succ]
    refine wpAnyH_ready (rs := [41]) (by kernel_rfl) (by simp) ?_
    refine (AllReadyH.cons rfl (fun K hK => ?_) AllReadyH.nil)
    go_simp
    ((with_reducible refine (krcn _).mono ?_); rintro e w' ⟨rfl, hb'⟩)
    refine hK.out _ _ (hHeld.keep hb') (fun hHeld => ?_)
    clear hK K
    try simp only [Act.put, List.setIfInBounds_toArray, List.set_cons_zero, List.set_cons_succ]
    refine wpAnyH_take (i := 42) (oi := ?ob34o) (v := ?ob34v) ?ob34h (by kernel_rfl) (by kernel_rfl) (by kernel_rfl) ?ob34q ?ob34y hHeld ?ob34r
    case ob34h => (simp only [List.getElem?_toArray, List.getElem?_cons_succ, List.getElem?_cons_zero]; rfl)
    case ob34q => exact fun _ _ _ h => h
    case ob34y => (refine Or.inl ⟨by first | kernel_rfl | rfl, ?_⟩; intro w hSw; (try dsimp only at hSw); obtain ⟨⟨⟨x0, x1⟩, ⟨y0, y1⟩, -, -, -⟩, ⟨c0, c1⟩⟩ := hSw; go_simp <;> (try with_reducible rfl))
    try simp only [Act.put, List.setIfInBounds_toArray, List.set_cons_zero, List.set_cons_succ]
    refine wpAnyH_take (i := 43) (oi := ?ob35o) (v := ?ob35v) ?ob35h (by kernel_rfl) (by kernel_rfl) (by kernel_rfl) ?ob35q ?ob35y hHeld ?ob35r
    case ob35h => (simp only [List.getElem?_toArray, List.getElem?_cons_succ, List.getElem?_cons_zero]; rfl)
    case ob35q => exact fun _ _ _ h => h
    case ob35y => (refine Or.inl ⟨by first | kernel_rfl | rfl, ?_⟩; intro w hSw; (try dsimp only at hSw); obtain ⟨⟨⟨x0, x1⟩, ⟨y0, y1⟩, -, -, -⟩, ⟨c0, c1⟩⟩ := hSw; go_simp <;> (try with_reducible rfl))
    try simp only [Act.put, List.setIfInBounds_toArray, List.set_cons_zero, List.set_cons_succ]
    refine wpAnyH_take (i := 44) (oi := ?ob36o) (v := ?ob36v) ?ob36h (by kernel_rfl) (by kernel_rfl) (by kernel_rfl) ?ob36q ?ob36y hHeld ?ob36r
    case ob36h => (simp only [List.getElem?_toArray, List.getElem?_cons_succ, List.getElem?_cons_zero]; rfl)
    case ob36q => exact fun _ _ _ h => h
    case ob36y => (refine Or.inl ⟨by first | kernel_rfl | rfl, ?_⟩; intro w hSw; (try dsimp only at hSw); obtain ⟨⟨⟨x0, x1⟩, ⟨y0, y1⟩, -, -, -⟩, ⟨c0, c1⟩⟩ := hSw; go_simp <;> (try with_reducible rfl))
    try simp only [Act.put, List.setIfInBounds_toArray, List.set_cons_zero, List.set_cons_succ]
    refine wpAnyH_take (i := 45) (oi := ?ob37o) (v := ?ob37v) ?ob37h (by kernel_rfl) (by kernel_rfl) (by kernel_rfl) ?ob37q ?ob37y hHeld ?ob37r
    case ob37h => (simp only [List.getElem?_toArray, List.getElem?_cons_succ, List.getElem?_cons_zero]; rfl)
    case ob37q => exact fun _ _ _ h => h
    case ob37y => (refine Or.inl ⟨by first | kernel_rfl | rfl, ?_⟩; intro w hSw; (try dsimp only at hSw); obtain ⟨⟨⟨x0, x1⟩, ⟨y0, y1⟩, -, -, -⟩, ⟨c0, c1⟩⟩ := hSw; go_simp <;> (try with_reducible rfl))
    try simp only [Act.put, List.setIfInBounds_toArray, List.set_cons_zero, List.set_cons_succ]
    refine wpAnyH_take (i := 46) (oi := ?ob38o) (v := ?ob38v) ?ob38h (by kernel_rfl) (by kernel_rfl) (by kernel_rfl) ?ob38q ?ob38y hHeld ?ob38r
    case ob38h => (simp only [List.getElem?_toArray, List.getElem?_cons_succ, List.getElem?_cons_zero]; rfl)
    case ob38q => exact fun _ _ _ h => h
    case ob38y => (refine Or.inl ⟨by first | kernel_rfl | rfl, ?_⟩; intro w hSw; (try dsimp only at hSw); obtain ⟨⟨⟨x0, x1⟩, ⟨y0, y1⟩, -, -, -⟩, ⟨c0, c1⟩⟩ := hSw; go_simp <;> (try with_reducible rfl))
    try simp only [Act.put, List.setIfInBounds_toArray, List.set_cons_zero, List.set_cons_succ]
    refine wpAnyH_take (i := 48) (oi := ?ob39o) (v := ?ob39v) ?ob39h (by kernel_rfl) (by kernel_rfl) (by kernel_rfl) ?ob39q ?ob39y hHeld ?ob39r
    case ob39h => (simp only [List.getElem?_toArray, List.getElem?_cons_succ, List.getElem?_cons_zero]; rfl)
    case ob39q => exact fun _ _ _ h => h
    case ob39y => (refine Or.inl ⟨by first | kernel_rfl | rfl, ?_⟩; intro w hSw; (try dsimp only at hSw); obtain ⟨⟨⟨x0, x1⟩, ⟨y0, y1⟩, -, -, -⟩, ⟨c0, c1⟩⟩ := hSw; go_simp <;> (try with_reducible rfl))
    try simp only [Act.put, List.setIfInBounds_toArray, List.set_cons_zero, List.set_cons_succ]
    refine wpAnyH_ready (rs := [47]) (by kernel_rfl) (by simp) ?_
    refine (AllReadyH.cons rfl (fun K hK => ?_) AllReadyH.nil)
    go_simp
    ((with_reducible refine (kbo _).mono ?_); rintro e w' ⟨rfl, hb'⟩)
    refine hK.out _ _ (hHeld.keep hb') (fun hHeld => ?_)
    clear hK K
    try simp only [Act.put, List.setIfInBounds_toArray, List.set_cons_zero, List.set_cons_succ]
    refine wpAnyH_take (i := 49) (oi := ?ob40o) (v := ?ob40v) ?ob40h (by kernel_rfl) (by kernel_rfl) (by kernel_rfl) ?ob40q ?ob40y hHeld ?ob40r
    case ob40h => (simp only [List.getElem?_toArray, List.getElem?_cons_succ, List.getElem?_cons_zero]; rfl)
    case ob40q => exact fun _ _ _ h => h
    case ob40y => (refine Or.inl ⟨by first | kernel_rfl | rfl, ?_⟩; intro w hSw; (try dsimp only at hSw); obtain ⟨⟨⟨x0, x1⟩, ⟨y0, y1⟩, -, -, -⟩, ⟨c0, c1⟩⟩ := hSw; go_simp <;> (try with_reducible rfl))
    try simp only [Act.put, List.setIfInBounds_toArray, List.set_cons_zero, List.set_cons_succ]
    refine wpAnyH_take (i := 50) (oi := ?ob41o) (v := ?ob41v) ?ob41h (by kernel_rfl) (by kernel_rfl) (by kernel_rfl) ?ob41q ?ob41y hHeld ?ob41r
    case ob41h => (simp only [List.getElem?_toArray, List.getElem?_cons_succ, List.getElem?_cons_zero]; rfl)
    case ob41q => exact fun _ _ _ h => h
    case ob41y => (refine Or.inl ⟨by first | kernel_rfl | rfl, ?_⟩; intro w hSw; (try dsimp only at hSw); obtain ⟨⟨⟨x0, x1⟩, ⟨y0, y1⟩, -, -, -⟩, ⟨c0, c1⟩⟩ := hSw; go_simp <;> (try with_reducible rfl))
    try simp only [Act.put, List.setIfInBounds_toArray, List.set_cons_zero, List.set_cons_succ]
    refine wpAnyH_take (i := 51) (oi := ?ob42o) (v := ?ob42v) ?ob42h (by kernel_rfl) (by kernel_rfl) (by kernel_rfl) ?ob42q ?ob42y hHeld ?ob42r
    case ob42h => (simp only [List.getElem?_toArray, List.getElem?_cons_succ, List.getElem?_cons_zero]; rfl)
    case ob42q => exact fun _ _ _ h => h
    case ob42y => (refine Or.inl ⟨by first | kernel_rfl | rfl, ?_⟩; intro w hSw; (try dsimp only at hSw); obtain ⟨⟨⟨x0, x1⟩, ⟨y0, y1⟩, -, -, -⟩, ⟨c0, c1⟩⟩ := hSw; go_simp <;> (try with_reducible rfl))
    try simp only [Act.put, List.setIfInBounds_toArray, List.set_cons_zero, List.set_cons_succ]
    refine wpAnyH_take (i := 52) (oi := ?ob43o) (v := ?ob43v) ?ob43h (by kernel_rfl) (by kernel_rfl) (by kernel_rfl) ?ob43q ?ob43y hHeld ?ob43r
    case ob43h => (simp only [List.getElem?_toArray, List.getElem?_cons_succ, List.getElem?_cons_zero]; rfl)
    case ob43q => exact fun _ _ _ h => h
    case ob43y => (refine Or.inl ⟨by first | kernel_rfl | rfl, ?_⟩; intro w hSw; (try dsimp only at hSw); obtain ⟨⟨⟨x0, x1⟩, ⟨y0, y1⟩, -, -, -⟩, ⟨c0, c1⟩⟩ := hSw; go_simp <;> (try with_reducible rfl))
    try simp only [Act.put, List.setIfInBounds_toArray, List.set_cons_zero, List.set_cons_succ]
    refine wpAnyH_take (i := 53) (oi := ?ob44o) (v := ?ob44v) ?ob44h (by kernel_rfl) (by kernel_rfl) (by kernel_rfl) ?ob44q ?ob44y hHeld ?ob44r
    case ob44h => (simp only [List.getElem?_toArray, List.getElem?_cons_succ, List.getElem?_cons_zero]; rfl)
    case ob44q => exact fun _ _ _ h => h
    case ob44y => (refine Or.inl ⟨by first | kernel_rfl | rfl, ?_⟩; intro w hSw; (try dsimp only at hSw); obtain ⟨⟨⟨x0, x1⟩, ⟨y0, y1⟩, -, -, -⟩, ⟨c0, c1⟩⟩ := hSw; go_simp <;> (try with_reducible rfl))
    try simp only [Act.put, List.setIfInBounds_toArray, List.set_cons_zero, List.set_cons_succ]
    refine wpAnyH_take (i := 55) (oi := ?ob45o) (v := ?ob45v) ?ob45h (by kernel_rfl) (by kernel_rfl) (by kernel_rfl) ?ob45q ?ob45y hHeld ?ob45r
    case ob45h => (simp only [List.getElem?_toArray, List.getElem?_cons_succ, List.getElem?_cons_zero]; rfl)
    case ob45q => exact fun _ _ _ h => h
    case ob45y => (refine Or.inl ⟨by first | kernel_rfl | rfl, ?_⟩; intro w hSw; (try dsimp only at hSw); obtain ⟨⟨⟨x0, x1⟩, ⟨y0, y1⟩, -, -, -⟩, ⟨c0, c1⟩⟩ := hSw; go_simp <;> (try with_reducible rfl))
    try simp only [Act.put, List.setIfInBounds_toArray, List.set_cons_zero, List.set_cons_succ]
    refine wpAnyH_take (i := 56) (oi := ?ob46o) (v := ?ob46v) ?ob46h (by kernel_rfl) (by kernel_rfl) (by kernel_rfl) ?ob46q ?ob46y hHeld ?ob46r
    case ob46h => (simp only [List.getElem?_toArray, List.getElem?_cons_succ, List.getElem?_cons_zero]; rfl)
    case ob46q => exact fun _ _ _ h => h
    case ob46y => (refine Or.inl ⟨by first | kernel_rfl | rfl, ?_⟩; intro w hSw; (try dsimp only at hSw); obtain ⟨⟨⟨x0, x1⟩, ⟨y0, y1⟩, -, -, -⟩, ⟨c0, c1⟩⟩ := hSw; go_simp <;> (try with_reducible rfl))
    try simp only [Act.put, List.setIfInBounds_toArray, List.set_cons_zero, List.set_cons_succ]
    refine wpAnyH_take (i := 57) (oi := ?ob47o) (v := ?ob47v) ?ob47h (by kernel_rfl) (by kernel_rfl) (by kernel_rfl) ?ob47q ?ob47y hHeld ?ob47r
    case ob47h => (simp only [List.getElem?_toArray, List.getElem?_cons_succ, List.getElem?_cons_zero]; rfl)
    case ob47q => exact fun _ _ _ h => h
    case ob47y => (refine Or.inl ⟨by first | kernel_rfl | rfl, ?_⟩; intro w hSw; (try dsimp only at hSw); obtain ⟨⟨⟨x0, x1⟩, ⟨y0, y1⟩, -, -, -⟩, ⟨c0, c1⟩⟩ := hSw; go_simp <;> (try with_reducible rfl))
    try simp only [Act.put, List.setIfInBounds_toArray, List.set_cons_zero, List.set_cons_succ]
    refine wpAnyH_take (i := 58) (oi := ?ob48o) (v := ?ob48v) ?ob48h (by kernel_rfl) (by kernel_rfl) (by kernel_rfl) ?ob48q ?ob48y hHeld ?ob48r
    case ob48h => (simp only [List.getElem?_toArray, List.getElem?_cons_succ, List.getElem?_cons_zero]; rfl)
    case ob48q => exact fun _ _ _ h => h
    case ob48y => (refine Or.inl ⟨by first | kernel_rfl | rfl, ?_⟩; intro w hSw; (try dsimp only at hSw); obtain ⟨⟨⟨x0, x1⟩, ⟨y0, y1⟩, -, -, -⟩, ⟨c0, c1⟩⟩ := hSw; go_simp <;> (try with_reducible rfl))
    try simp only [Act.put, List.setIfInBounds_toArray, List.set_cons_zero, List.set_cons_succ]
    refine wpAnyH_take (i := 59) (oi := ?ob49o) (v := ?ob49v) ?ob49h (by kernel_rfl) (by kernel_rfl) (by kernel_rfl) ?ob49q ?ob49y hHeld ?ob49r
    case ob49h => (simp only [List.getElem?_toArray, List.getElem?_cons_succ, List.getElem?_cons_zero]; rfl)
    case ob49q => exact fun _ _ _ h => h
    case ob49y => (refine Or.inl ⟨by first | kernel_rfl | rfl, ?_⟩; intro w hSw; (try dsimp only at hSw); obtain ⟨⟨⟨x0, x1⟩, ⟨y0, y1⟩, -, -, -⟩, ⟨c0, c1⟩⟩ := hSw; go_simp <;> (try with_reducible rfl))
    try simp only [Act.put, List.setIfInBounds_toArray, List.set_cons_zero, List.set_cons_succ]
    refine wpAnyH_ready (rs := [54]) (by kernel_rfl) (by simp) ?_
    refine (AllReadyH.cons rfl (fun K hK => ?_) AllReadyH.nil)
    go_simp
    ((with_reducible refine (kme _).mono ?_); rintro e w' ⟨rfl, hb'⟩)
    refine hK.out _ _ (hHeld.keep hb') (fun hHeld => ?_)
    clear hK K
    try simp only [Act.put, List.setIfInBounds_toArray, List.set_cons_zero, List.set_cons_succ]
    refine wpAnyH_take (i := 60) (oi := ?ob50o) (v := ?ob50v) ?ob50h (by kernel_rfl) (by kernel_rfl) (by kernel_rfl) ?ob50q ?ob50y hHeld ?ob50r
    case ob50h => (simp only [List.getElem?_toArray, List.getElem?_cons_succ, List.getElem?_cons_zero]; rfl)
    case ob50q => exact fun _ _ _ h => h
    case ob50y => (refine Or.inl ⟨by first | kernel_rfl | rfl, ?_⟩; intro w hSw; (try dsimp only at hSw); obtain ⟨⟨⟨x0, x1⟩, ⟨y0, y1⟩, -, -, -⟩, ⟨c0, c1⟩⟩ := hSw; go_simp <;> (try with_reducible rfl))
    try simp only [Act.put, List.setIfInBounds_toArray, List.set_cons_zero, List.set_cons_succ]
    refine wpAnyH_take (i := 61) (oi := ?ob51o) (v := ?ob51v) ?ob51h (by kernel_rfl) (by kernel_rfl) (by kernel_rfl) ?ob51q ?ob51y hHeld ?ob51r
    case ob51h => (simp only [List.getElem?_toArray, List.getElem?_cons_succ, List.getElem?_cons_zero]; rfl)
    case ob51q => exact fun _ _ _ h => h
    case ob51y => (refine Or.inl ⟨by first | kernel_rfl | rfl, ?_⟩; intro w hSw; (try dsimp only at hSw); obtain ⟨⟨⟨x0, x1⟩, ⟨y0, y1⟩, -, -, -⟩, ⟨c0, c1⟩⟩ := hSw; go_simp <;> (try with_reducible rfl))
    try simp only [Act.put, List.setIfInBounds_toArray, List.set_cons_zero, List.set_cons_succ]
    refine wpAnyH_take (i := 62) (oi := ?ob52o) (v := ?ob52v) ?ob52h (by kernel_rfl) (by kernel_rfl) (by kernel_rfl) ?ob52q ?ob52y hHeld ?ob52r
    case ob52h => (simp only [List.getElem?_toArray, List.getElem?_cons_succ, List.getElem?_cons_zero]; rfl)
    case ob52q => exact fun _ _ _ h => h
    case ob52y => (refine Or.inl ⟨by first | kernel_rfl | rfl, ?_⟩; intro w hSw; (try dsimp only at hSw); obtain ⟨⟨⟨x0, x1⟩, ⟨y0, y1⟩, -, -, -⟩, ⟨c0, c1⟩⟩ := hSw; go_simp <;> (try with_reducible rfl))
    try simp only [Act.put, List.setIfInBounds_toArray, List.set_cons_zero, List.set_cons_succ]
    refine wpAnyH_done (by kernel_rfl) ?_ _
    have hbel := hHeld.ma.bel
    have hdf := hHeld.ma.df
    go_wp2
    refine ⟨by simp, .inl ⟨_, _, rfl, run_takeDeferred hdf, ?_⟩⟩
    exact ⟨_, results_tmp rfl _ _ _, rfl, hbel.trans (belowK_b (w := w) (Nat.le_refl _) _ D _ _ hD hdf rfl rfl)⟩
  have hA3 := ((HA.out.below H1.out).below ((Below.refl _ _).alloc (Nat.le_refl _) (.cells #[.slice none 0 0] 29))).below H3.out
  have hB3 := ((HB.out.below H1.out).below ((Below.refl _ _).alloc (Nat.le_refl _) (.cells #[.slice none 0 0] 29))).below H3.out
  have hbel3 := bel_next (bel_new (bel_next HBEL.out H1.out) (.cells #[.slice none 0 0] 29)) H3.out
  have hroom := (HT0.out.next H1.out).room
  have HFIN := Lib.hid (show ∀ (D : Nat) (ys : List Sp) (W : World) (v : Value), w.heap.size ≤ D → Boxed W w1.heap.size 29 v → W.ownsRow w3.heap.size 26 2 v ys.length (ys.flatMap cells2) → Below w1.heap.size w3 W → W.heap[D]? = some (.deferred (some [])) → ys = L → Kf { tmps := #[.agg #[.int .i64 a.f, .int .i64 a.t], .agg #[.int .i64 b.f, .int .i64 b.t], .int .i64 tier, .pointer (some ⟨w.heap.size, 0, none⟩), .pointer (some ⟨w.heap.size + 1, 0, none⟩), undef, .bool false, .bool true, .pointer (some ⟨w1.heap.size, 0, none⟩), undef, undef, undef, undef, .bool true, .bool true, .bool false, .agg #[.int .i64 a.f, .int .i64 a.t], .int .i64 tier, ECL Bc Bw Bt, undef, undef, undef, undef, undef, undef, undef, undef, undef, undef, undef, undef, undef, undef, undef, undef, undef, undef, undef, undef, undef, undef, undef, undef, undef, undef, undef, undef, undef, undef, undef, undef, undef, undef, undef, undef, undef, undef, undef, undef, undef, undef, undef, undef, undef, undef, undef, undef, undef, undef, undef, undef, undef, undef, undef, undef, undef, undef, undef, undef, undef, undef, undef, undef, undef, undef, undef, undef, undef, undef, undef, undef, undef, undef, undef, undef, undef, undef, undef, undef], defers := [{ target := .collected D, args := #[] }] } W from fun D ys W v hD hv hrow hB hK e => by
    subst e
    have hR : SpRow W w3.heap.size v ys := hrow
    obtain ⟨a', c', rfl⟩ := hR.slice
    exact hrest D a' c' W hD ⟨⟨under hA3 hB (by omega), under hB3 hB (by omega), HE.out.tab.below hB hroom, hK, hbel3.trans (hB.mono (by omega))⟩, hv.cell, hR.sps⟩)
  clear hrest hA3 hB3 hbel3
  refine wpIn_rangeFunc_ownH hRl (by omega) (gf := 43) (lb := #[.pointer (some ⟨Bc, 0, none⟩), .pointer (some ⟨Bw, 0, none⟩), .pointer (some ⟨Bt, 0, none⟩)]) rfl trivial (enters_of Tryd.func43 (by kernel_rfl) rfl)
    (each_stops 8 (by omega) Bc Bw Bt a tier w3 HE.out) keepB_t (keepB_b hEL) (Below.refl _ _) (fun _ => rfl)
    (fun pre W => LB w1.heap.size w3.heap.size pre W ∧ Below w1.heap.size w3 W ∧ pre.length < 100)
    (fun c pre W => LB w1.heap.size w3.heap.size pre W ∧ Below w1.heap.size w3 W ∧ (pre.length = 100 ∧ c = .exit 0))
    (OwnFrom.and (Own.from (lb_own _ _) _) (OwnFrom.and (ownFrom_below (by omega) (by omega)) (const_own _ (fun pre => pre.length < 100))))
    (fun c => OwnFrom.and (Own.from (lb_own _ _) _) (OwnFrom.and (ownFrom_below (by omega) (by omega)) (const_own _ (fun pre => pre.length = 100 ∧ c = .exit 0))))
    ⟨⟨_, bO, World.ownsRow_nil _ _ _ _, by simp⟩, Below.refl _ _, by simp⟩
    (fun x a' W => ∃ Bx, w3.heap.size ≤ Bx ∧ Box2 W Bx x ∧ a' = { tmps := #[.agg #[.int .i64 a.f, .int .i64 a.t], .agg #[.int .i64 b.f, .int .i64 b.t], .int .i64 tier, .pointer (some ⟨w.heap.size, 0, none⟩), .pointer (some ⟨w.heap.size + 1, 0, none⟩), undef, .bool false, .bool true, .pointer (some ⟨w1.heap.size, 0, none⟩), .pointer (some ⟨Bx, 0, none⟩), undef, undef, undef, .bool true, .bool true, .bool false, .agg #[.int .i64 a.f, .int .i64 a.t], .int .i64 tier, ECL Bc Bw Bt, .agg #[.int .i64 x.f, .int .i64 x.t], undef, undef, undef, undef, undef, undef, undef, undef, undef, undef, undef, undef, undef, undef, undef, undef, undef, undef, undef, undef, undef, undef, undef, undef, undef, undef, undef, undef, undef, undef, undef, undef, undef, undef, undef, undef, undef, undef, undef, undef, undef, undef, undef, undef, undef, undef, undef, undef, undef, undef, undef, undef, undef, undef, undef, undef, undef, undef, undef, undef, undef, undef, undef, undef, undef, undef, undef, undef, undef, undef, undef, undef, undef, undef, undef, undef, undef, undef, undef], defers := [] })
    (fun x a' _ X Y row hs hg hr => by obtain ⟨Bx, k1, k2, k3⟩ := hs; exact ⟨Bx, k1, k2.own hg (fun r e => (hr r e).2), k3⟩)
    ?assign ?body ?done ?stop
  case assign =>
    rintro l pre x W K ⟨⟨v, hv, hrow, hnil⟩, hB, h100⟩ hK
    unfold encSp
    gi_wp2
    exact hK _ _ ((KeepsOthers.alloc _ _).from _) (.of_below ((Below.refl _ W).alloc (Nat.le_refl _) _) (fun q hq => Nat.lt_of_lt_of_le (hEL q hq) hB.size)) ⟨⟨v, hv.alloc _, hrow.alloc _, hnil⟩, hB.alloc (by have := hB.size; omega) _, h100⟩ ⟨W.heap.size, hB.size, Box2.new W x, rfl⟩
  case body =>
    rintro l pre x a' W hl - ⟨⟨v, hv, hrow, hnil⟩, hB, h100⟩ ⟨Bx, hBx, bX, rfl⟩ hlt
    have hcv := hv.cell
    have hfv := hv.frozen
    obtain ⟨x0, x1⟩ := bX.at_
    have hszW := hB.size
    have hrl := rows_lower hrow (show w1.heap.size ≤ w3.heap.size by omega)
    have hw64 : (pre.length : Int) + 1 ≤ 1000001 := by omega
    have hown0 := fun q e => (World.ownsRow.lt hrow q e).1
    have h99c : pre.length + 1 = 100 ∨ pre.length + 1 < 100 := by omega
    have HROW := Lib.hid hrow
    have H100 := Lib.hid h100
    rcases h99c with h99 | h99
    · have h99i : (pre.length : Int) + 1 = 100 := by omega
      have H99 := Lib.hid h99
      clear h99 h100 hw64
      gi_wp2_with (gi_at_builtin; refine wpListIn_append_own _ rfl _ _ 29 rfl w3.heap.size 26 i0 (.agg #[.int .i64 0, .int .i64 0]) 2 16 Tryd.underlying29 hi hz0 hz1 hz2 rfl (by decide) _ _ _ rfl (hrow.alloc _) ⟨W.heap.size, 0, none⟩ 1 1 [.int .i64 x.f, .int .i64 x.t] rfl rfl (cells_two_new W x) (by simp [Value.oneCell']) (by have := H100.out; unfold maxLen; omega) (by have := H100.out; omega) (by have := hB.size; simp; omega) ?_; intro v' w4 hown' hgrow _; obtain ⟨g', cap', rfl⟩ := ownsRow_succ hown'; obtain ⟨hv1, hv2, hr2, hk2, hb2⟩ := hv.appended (by decide) hrl (by omega) (Nat.le_refl _) (rows_lower hown' (by omega)) hgrow; have hr3 := hown'.kept (grownBy_setCell' w4 w1.heap.size (.slice (some ⟨g', 0, none⟩) (pre.length + 1) cap')) (.inr (hv1.not_row (by decide) hown').symm); have hc1 := hv1.cell; have hf1 := hv1.frozen; have hc2 := hv2.cell; have hkb : KeepB (EB Bc Bw Bt) W (w4.setCell ⟨w1.heap.size, 0, none⟩ (.slice (some ⟨g', 0, none⟩) (pre.length + 1) cap')) := ⟨hb2.size, fun q hq => by
        have q1 := hEL q hq
        have q2 := hEB q hq
        refine (Below.heap_setCell _ _ _ _ (by exact q2)).trans ((hgrow.block q (by simp; omega) (fun e => ?_)).trans (Below.heap_alloc _ _ _ (by omega)))
        have := hown0 q e.symm
        omega⟩)
      exact ⟨hk2.from _, ⟨⟨_, hv2, by rw [List.length_append, List.flatMap_append]; simpa [cells2] using hr3, by simp⟩, hB.trans hb2, by rw [List.length_append]; exact H99.out, rfl⟩⟩
    · have h99i : ¬ (pre.length : Int) + 1 = 100 := by omega
      have H99 := Lib.hid h99
      clear h99 h100 hw64
      gi_wp2_with (gi_at_builtin; refine wpListIn_append_own _ rfl _ _ 29 rfl w3.heap.size 26 i0 (.agg #[.int .i64 0, .int .i64 0]) 2 16 Tryd.underlying29 hi hz0 hz1 hz2 rfl (by decide) _ _ _ rfl (hrow.alloc _) ⟨W.heap.size, 0, none⟩ 1 1 [.int .i64 x.f, .int .i64 x.t] rfl rfl (cells_two_new W x) (by simp [Value.oneCell']) (by have := H100.out; unfold maxLen; omega) (by have := H100.out; omega) (by have := hB.size; simp; omega) ?_; intro v' w4 hown' hgrow _; obtain ⟨g', cap', rfl⟩ := ownsRow_succ hown'; obtain ⟨hv1, hv2, hr2, hk2, hb2⟩ := hv.appended (by decide) hrl (by omega) (Nat.le_refl _) (rows_lower hown' (by omega)) hgrow; have hr3 := hown'.kept (grownBy_setCell' w4 w1.heap.size (.slice (some ⟨g', 0, none⟩) (pre.length + 1) cap')) (.inr (hv1.not_row (by decide) hown').symm); have hc1 := hv1.cell; have hf1 := hv1.frozen; have hc2 := hv2.cell; have hkb : KeepB (EB Bc Bw Bt) W (w4.setCell ⟨w1.heap.size, 0, none⟩ (.slice (some ⟨g', 0, none⟩) (pre.length + 1) cap')) := ⟨hb2.size, fun q hq => by
        have q1 := hEL q hq
        have q2 := hEB q hq
        refine (Below.heap_setCell _ _ _ _ (by exact q2)).trans ((hgrow.block q (by simp; omega) (fun e => ?_)).trans (Below.heap_alloc _ _ _ (by omega)))
        have := hown0 q e.symm
        omega⟩)
      exact ⟨hk2.from _, hkb, ⟨⟨_, hv2, by rw [List.length_append, List.flatMap_append]; simpa [cells2] using hr3, by simp⟩, hB.trans hb2, by rw [List.length_append]; exact H99.out⟩⟩
  case done =>
    rintro D ys W hD hys ⟨⟨v, hv, hrow, -⟩, hB, h100⟩ hK
    have e : ys = L := by rw [← hL, ← allW_take, List.take_of_length_le (by rw [← hys]; omega)]; exact hys
    exact HFIN.out D ys W v (by omega) hv hrow hB hK e
  case stop =>
    rintro D c pre W hD hpre ⟨⟨v, hv, hrow, -⟩, hB, h100, rfl⟩ hK
    have e : pre = L := by rw [← hL, ← allW_take, ← h100]; exact List.prefix_iff_eq_take.1 hpre
    exact wpIn_exit (HFIN.out D pre W v (by omega) hv hrow hB hK e)
theorem walk (a b : Sp) (tier : Int) (w : World) (_ha : a.fits) (_hb : b.fits) (_ht : -9223372036854775808 ≤ tier ∧ tier ≤ 9223372036854775807) (hT : Tab w) :
    Calls Tryd.prog 4 #[a.v, b.v, .int .i64 tier] w fun e w' => e = .returned (.bool true) ∧ Below w.heap.size w w' := callsIn_wide.1 (inside a b tier w hT)
end Go.Proofs.YtdkenokjdiamhaaDoor.windowSpans
