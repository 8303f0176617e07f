/- window.Each: its windows, and the function that it hands back. -/
import Derived.RangeFuncNested
import Derived.RangeFuncBox
import Derived.RangeFuncLeaves
import Derived.RangeFuncCalls
import Derived.Shelf.Abstract
import Derived.WalkKit
import Derived.OwnWalkIn
import Derived.TacticsInMore
import Derived.LoopNIn
import Derived.LoopIn
import Derived.Maps.AppendAt
import Derived.Test.YtdkenokjdiamhaaDoorWindowSeq
import Derived.Test.YtdkenokjdiamhaaDoorWindowEach
import Derived.Test.YtdkenokjdiamhaaDoorWindowFacts
import Derived.Test.YtdkenokjdiamhaaDoorWindowFns2
set_option maxRecDepth 20000
namespace Go.Proofs.YtdkenokjdiamhaaDoor
open Go.RowKit Go.Shelf

attribute [local go_sem] Oper.semAt_some

/-- All windows of a span. -/
def allW (s : Sp) (tier : Int) : List Sp := (List.range (s.count tier).toNat).map (nthW (s.cover tier) (wid tier))
theorem cover_mod (s : Sp) (tier : Int) : (s.cover tier).f % wid tier = 0 := by
  have key : ∀ f : Int, (f - f % wid tier) % wid tier = 0 := fun f => by rw [Int.sub_emod, Int.emod_emod_of_dvd _ (Int.dvd_refl _), Int.sub_self, Int.zero_emod]
  have key2 : (Sp.zero.f) % wid tier = 0 := by unfold Sp.zero; exact Int.zero_emod _
  unfold Sp.cover
  split
  · exact key2
  · split
    · split
      · exact key2
      · exact key _
    · exact key _
theorem count_iff (s : Sp) (tier : Int) (k : Nat) : k < (s.count tier).toNat ↔ (s.cover tier).f + (k : Int) * wid tier < (s.cover tier).t := by
  obtain ⟨b1, b2, b3, b4⟩ := cover_bounds s tier
  have hw := wid_bounds tier
  have hk : 0 ≤ (k : Int) * wid tier := Int.mul_nonneg (by omega) hw.1
  unfold Sp.count
  split
  · rename_i h
    simp; omega
  · rename_i h
    have hp := b4 h
    obtain ⟨W, hW⟩ : ∃ W, wid tier = W := ⟨_, rfl⟩
    obtain ⟨d, hd⟩ : ∃ d, (s.cover tier).t - (s.cover tier).f + W - 1 = d := ⟨_, rfl⟩
    rw [hW] at hk hp ⊢
    rw [hd]
    have h0 : 0 ≤ d / W := Int.ediv_nonneg (by omega) (by omega)
    have h1 : ((k : Int) + 1 ≤ d / W) ↔ ((k : Int) + 1) * W ≤ d := Int.le_ediv_iff_mul_le hp
    rw [Int.add_mul, Int.one_mul] at h1
    constructor
    · intro h2
      have h3 := h1.1 (by omega)
      omega
    · intro h2
      have h3 := h1.2 (by omega)
      omega
theorem nth_of (s : Sp) (tier : Int) (k : Nat) (h : (s.cover tier).f + (k : Int) * wid tier < (s.cover tier).t) : ofI ((s.cover tier).f + (k : Int) * wid tier) tier = nthW (s.cover tier) (wid tier) k := by
  obtain ⟨b1, b2, b3, b4⟩ := cover_bounds s tier
  have hw := wid_bounds tier
  have hk : 0 ≤ (k : Int) * wid tier := Int.mul_nonneg (by omega) hw.1
  have hp := b4 (by omega)
  have hm : ((s.cover tier).f + (k : Int) * wid tier) % wid tier = 0 := by rw [Int.add_mul_emod_self_right]; exact cover_mod s tier
  rw [of_of (by omega) hp, hm, Int.sub_zero]
  rfl
theorem allW_length (s : Sp) (tier : Int) : (allW s tier).length = (s.count tier).toNat := by unfold allW; rw [List.length_map, List.length_range]
theorem allW_get (s : Sp) (tier : Int) (k : Nat) (h : k < (allW s tier).length) : (allW s tier)[k] = nthW (s.cover tier) (wid tier) k := by
  rw [List.getElem_of_eq (show allW s tier = (List.range (s.count tier).toNat).map (nthW (s.cover tier) (wid tier)) from rfl)]
  simp
theorem allW_take (s : Sp) (tier : Int) (m : Nat) : (allW s tier).take m = s.each tier m := by
  unfold allW Sp.each
  rw [← List.map_take, List.take_range, Nat.min_comm]

/-- Some blocks stand as they stood. -/
def KeepB (S : Nat → Prop) (X Y : World) : Prop := X.heap.size ≤ Y.heap.size ∧ ∀ b, S b → Y.heap[b]? = X.heap[b]?
theorem KeepB.refl (S : Nat → Prop) (X : World) : KeepB S X X := ⟨Nat.le_refl _, fun _ _ => rfl⟩
theorem KeepB.trans {S : Nat → Prop} {X Y Z : World} (h : KeepB S X Y) (k : KeepB S Y Z) : KeepB S X Z := ⟨Nat.le_trans h.1 k.1, fun b hb => (k.2 b hb).trans (h.2 b hb)⟩
theorem KeepB.of_below {S : Nat → Prop} {X Y : World} (h : Below X.heap.size X Y) (hS : ∀ b, S b → b < X.heap.size) : KeepB S X Y := ⟨h.size, fun b hb => h.block b (hS b hb)⟩
theorem KeepB.next {S : Nat → Prop} {X Y Z : World} (h : KeepB S X Y) (k : Below Y.heap.size Y Z) (hS : ∀ b, S b → b < X.heap.size) : KeepB S X Z := h.trans (.of_below k fun b hb => Nat.lt_of_lt_of_le (hS b hb) h.1)
theorem KeepB.cell {S : Nat → Prop} {X Y : World} (h : KeepB S X Y) {b : Nat} (hb : S b) (j : Nat) : Y.cell? ⟨b, j, none⟩ = X.cell? ⟨b, j, none⟩ := by
  unfold World.cell?
  rw [h.2 b hb]
/-- The blocks that Each's function reads. -/
def EB (Bc Bw Bt : Nat) (b : Nat) : Prop := b = 0 ∨ b = Bc ∨ b = Bw ∨ b = Bt
structure EachAt (W : World) (Bc Bw Bt : Nat) (c : Sp) (Wd tier : Int) : Prop where
  tab : Tab W
  c_ : SpAt W Bc c
  w_ : W.cell? ⟨Bw, 0, none⟩ = some (.int .i64 Wd)
  t_ : W.cell? ⟨Bt, 0, none⟩ = some (.int .i64 tier)
theorem EachAt.room {W : World} {Bc Bw Bt : Nat} {c : Sp} {Wd tier : Int} (h : EachAt W Bc Bw Bt c Wd tier) : ∀ b, EB Bc Bw Bt b → b < W.heap.size := by
  rintro b (rfl | rfl | rfl | rfl)
  · exact h.tab.room
  · exact h.c_.room
  · exact World.block_lt_of_cell? W _ h.w_
  · exact World.block_lt_of_cell? W _ h.t_
theorem EachAt.keep {W W' : World} {Bc Bw Bt : Nat} {c : Sp} {Wd tier : Int} (h : EachAt W Bc Bw Bt c Wd tier) (k : KeepB (EB Bc Bw Bt) W W') : EachAt W' Bc Bw Bt c Wd tier := by
  obtain ⟨h1, ⟨h2, h3⟩, h4, h5⟩ := h
  exact ⟨fun j hj => (k.cell (Or.inl rfl) j).trans (h1 j hj), ⟨(k.cell (Or.inr (Or.inl rfl)) 0).trans h2, (k.cell (Or.inr (Or.inl rfl)) 1).trans h3⟩, (k.cell (Or.inr (Or.inr (Or.inl rfl))) 0).trans h4, (k.cell (Or.inr (Or.inr (Or.inr rfl))) 0).trans h5⟩
theorem keepB_t {S : Nat → Prop} {A B C : World} (h : KeepB S A B) (k : KeepB S B C) : KeepB S A C := h.trans k
theorem keepB_b {S : Nat → Prop} {w : World} (hS : ∀ b, S b → b < w.heap.size) (W : World) (l : Nat) (o o' : Obj) (hl : w.heap.size ≤ l) (_ : W.heap[l]? = some o) (_ : o.isCells = false) (_ : o.isWalk = false) : KeepB S W (W.putObj l o') :=
  ⟨by simp, fun b hb => World.putObj_heap_other (by have := hS b hb; omega)⟩
abbrev ECL (Bc Bw Bt : Nat) : Value := .func (.func 43) #[] #[.pointer (some ⟨Bc, 0, none⟩), .pointer (some ⟨Bw, 0, none⟩), .pointer (some ⟨Bt, 0, none⟩)]

set_option maxHeartbeats 4000000 in
theorem each_stops (n : Nat) (hn : 2 ≤ n) (Bc Bw Bt : Nat) (s : Sp) (tier : Int) (w : World) (hE : EachAt w Bc Bw Bt (s.cover tier) (wid tier) tier) :
    SeqStopsK Fence.wide n Tryd.prog 43 #[.pointer (some ⟨Bc, 0, none⟩), .pointer (some ⟨Bw, 0, none⟩), .pointer (some ⟨Bt, 0, none⟩)] encSp (KeepB (EB Bc Bw Bt)) (fun ys => ys = allW s tier) (fun pre => pre <+: allW s tier) (allW s tier).length w := fun l J Jx W hW hJ _ hY h0 => by
  have hE := hE.keep (.of_below hW hE.room)
  have HR := Lib.hid hE.room
  have HE := Lib.hid hE
  clear hE
  obtain ⟨N, hN⟩ : ∃ N, (allW s tier).length = N := ⟨_, rfl⟩
  have hci := count_iff s tier
  have hno := nth_of s tier
  have hag := allW_get s tier
  have hN2 := allW_length s tier
  obtain ⟨b1, b2, b3, b4⟩ := cover_bounds s tier
  have hwb := wid_bounds tier
  obtain ⟨c, hc⟩ : ∃ c, s.cover tier = c := ⟨_, rfl⟩
  obtain ⟨Wd, hWd⟩ : ∃ Wd, wid tier = Wd := ⟨_, rfl⟩
  obtain ⟨L, hL⟩ : ∃ L, allW s tier = L := ⟨_, rfl⟩
  rw [hN] at hN2
  rw [hN] at hY
  rw [← hN2, hc, hWd] at hci
  rw [hc, hWd] at hno hag HE b4
  rw [hc] at b1 b2 b3
  rw [hWd] at hwb
  rw [hL] at hag hN ⊢
  have HCI := Lib.hid hci
  have HNO := Lib.hid hno
  have HAG := Lib.hid hag
  have HN := Lib.hid hN
  have hRl : Fence.wide.round = none := rfl
  have hF15 : Fence.wide.fn 15 := trivial
  have h1n : 1 ≤ n := by omega
  clear hci hno hag hN hN2 hc hWd hL
  refine callsIn_of_wp Tryd.func43 rfl trivial ?_ hRl
  simp only [Tryd.ntmps43, List.size_toArray, List.length_cons, List.length_nil, Nat.reduceAdd, Nat.reduceSub, Array.replicate_succ, Array.replicate_zero, List.push_toArray, List.append_toArray, List.nil_append, List.cons_append]
  obtain ⟨e0, e1⟩ := HE.out.c_
  have hnf : ∀ w, Sem.run Tryd.prog (binOp .eql 34 (.func (.yield l) #[] #[]) .nilFunc) w = .ok (.bool false) w := fun _ => rfl
  gi_wp2
  gi_loopw [5] (fun i wr => ∃ k : Nat, k ≤ N ∧ i = .int .i64 (c.f + (k : Int) * Wd) ∧ J (L.take k) wr ∧ KeepB (EB Bc Bw Bt) W wr)
    (fun i _ => (c.t - intOf i).toNat)
  case atStart => exact ⟨0, Nat.zero_le _, by simp, h0, KeepB.refl _ _⟩
  case round =>
    obtain ⟨k, hk, rfl, hJs, hnx⟩ := hrel
    have HX := Lib.hid (HE.out.keep hnx)
    have HNX := Lib.hid hnx
    have hx := HX.out
    obtain ⟨xt, ⟨x0, x1⟩, x2, x3⟩ := hx
    clear hnx xt
    obtain ⟨x, hx⟩ : ∃ x, c.f + (k : Int) * Wd = x := ⟨_, rfl⟩
    have hkw : 0 ≤ (k : Int) * Wd := Int.mul_nonneg (by omega) hwb.1
    have hci := HCI.out k
    have hof := HNO.out k
    have HNXT := Lib.hid (show x + Wd = c.f + ((k + 1 : Nat) : Int) * Wd by rw [← hx, Int.natCast_add, Int.add_mul]; simp; omega)
    have hcx : c.f ≤ x := by omega
    rw [hx] at hci hof ⊢
    clear hx hkw
    by_cases hlt : x < c.t
    · have hkN : k < N := hci.2 hlt
      have hkL : k < L.length := by rw [HN.out]; exact hkN
      have hp : 0 < Wd := b4 (by omega)
      have hof := hof hlt
      have hget := HAG.out k hkL
      obtain ⟨q, hq⟩ : ∃ q, nthW c Wd k = q := ⟨_, rfl⟩
      rw [hq] at hof hget
      have kof := fun wr (h : Tab wr) => of_is x tier q wr h (by omega) (Lib.hid hof)
      have HQ := Lib.hid (show L.take k ++ [q] = L.take (k + 1) by rw [List.take_succ_eq_append_getElem hkL, hget])
      have hwk : IntKind.i64.wrap (x + Wd) = x + Wd := by rw [IntKind.wrap_i64]; omega
      have hpl : (L.take k).length < N := by rw [List.length_take]; omega
      have HPL := Lib.hid hpl
      have HJS := Lib.hid hJs
      unfold Sp.v at kof
      clear hci hof hget hq hpl hJs hkL
      gi_wp2_with (gi_at_call 15; (refine callsIn_wide.2 ((kof _ HX.out.tab).mono ?_)); rintro e w1 ⟨rfl, hb⟩; (have H1 := Lib.hid (HNX.out.next hb HR.out)); (have hJ1 : J (L.take k) w1 := hJ _ wr _ none HJS.out ⟨hb.os, hb.tape, hb.output, hb.size, fun i hi _ => hb.block i hi⟩ (fun r e => by cases e)); (obtain ⟨fn, tmps, assign, body, hy, hR⟩ := hY (L.take k) q _ hJ1 HPL.out); unfold encSp at hy; clear hb hJ1)
      refine hR.mono ?_
      rintro e W3 (⟨rfl, hJ3, hk3⟩ | ⟨rfl, hJx3⟩)
      · have H3 := Lib.hid (H1.out.trans hk3)
        have h3 := HE.out.keep H3.out
        obtain ⟨yt, ⟨y0, y1⟩, y2, y3⟩ := h3
        clear yt
        gi_wp2
        go_roundw
        case rel => exact ⟨k + 1, by omega, by rw [← HNXT.out], by rw [← HQ.out]; exact hJ3, H3.out⟩
        case measure => simp [intOf]; omega
      · gi_wp2
        refine bodyPost_ret (results_none rfl _ _ _) rfl ?_
        exact ⟨⟨_, rfl⟩, .inr ⟨_, by rw [HQ.out]; exact List.take_prefix _ _, hJx3⟩⟩
    · have hkN : ¬ k < N := fun h => hlt (hci.1 h)
      have HJ := Lib.hid (show J L wr by rw [List.take_of_length_le (by rw [HN.out]; omega)] at hJs; exact hJs)
      clear hJs hci hof
      gi_wp2
      go_end0
      first | exact ⟨⟨_, rfl⟩, .inl ⟨_, rfl, HJ.out⟩⟩ | exact ⟨⟨_, rfl⟩, .inl HJ.out⟩
end Go.Proofs.YtdkenokjdiamhaaDoor
