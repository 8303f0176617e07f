/- WindowParts' walk. -/
import Derived.RangeFuncNested
import Derived.RangeFuncBox
import Derived.RangeFuncLeaves
import Derived.RangeFuncCalls
import Derived.Shelf.Abstract
import Derived.WalkKit
import Derived.OwnWalkIn
import Derived.TacticsInMore
import Derived.LoopNIn
import Derived.LoopIn
import Derived.Maps.AppendAt
import Derived.Test.YtdkenokjdiamhaaDoorWindowEachP
import Derived.Test.YtdkenokjdiamhaaDoorWindowAwake
import Derived.Test.YtdkenokjdiamhaaDoorWindowArgs
import Derived.Test.YtdkenokjdiamhaaDoorWindowRound
import Derived.Test.YtdkenokjdiamhaaDoorWindowPartsMath
import Derived.Test.YtdkenokjdiamhaaDoorWindowOfAny
import Derived.Deep.RegionHeld
import Derived.Deep.CutRange
set_option maxRecDepth 20000
namespace Go.Proofs.YtdkenokjdiamhaaDoor.windowParts
open Go.RowKit Go.Shelf

attribute [local go_sem] Oper.semAt_some

theorem const_own (B : Nat) (p : List Sp → Prop) : OwnFrom B (fun (s : List Sp) (_ : World) => p s) := fun _ _ _ _ h _ _ => h
theorem under {w w' : World} {n p : Nat} {s : Sp} (h : SpAt w p s) (k : Below n w w') (hp : p < n) : SpAt w' p s :=
  ⟨(k.cell (p := ⟨p, 0, none⟩) hp).trans h.c0, (k.cell (p := ⟨p, 1, none⟩) hp).trans h.c1⟩
/-- The same, and no panic. -/
def noPanic (Q : Exit → Act → World → Prop) : Exit → Act → World → Prop
  | .panic _, _, _ => False
  | e, a, w => Q e a w
theorem noPanic_to {Q : Exit → Act → World → Prop} : ∀ e a w, noPanic Q e a w → Q e a w := by
  intro e a w h
  cases e <;> first | exact h | exact h.elim
theorem wide_of {n : Nat} {P : Program} {c : Code} {Q : Exit → Act → World → Prop} {a : Act} {w : World} (h : c.wp P (noPanic Q) a w) : c.wpIn Fence.wide n P Q a w := wpIn_mono (wpIn_wide.2 h) noPanic_to
theorem npq {Q : Exit → Act → World → Prop} {d : Option Tmp} {v : Value} : ∀ c (a : Act) w, noPanic Q (.panic c) (a.put d v) w → noPanic Q (.panic c) a w := fun _ _ _ h => False.elim h
theorem cpq {Q : Exit → Act → World → Prop} {d : Option Tmp} {v : Value} : ∀ c (a : Act) w, calmPost Q (.panic c) (a.put d v) w → calmPost Q (.panic c) a w := fun _ _ _ h => False.elim h
theorem noPanic_n {Q : Exit → Act → World → Prop} {a : Act} {w : World} (h : Q .normal a w) : noPanic Q .normal a w := h
theorem calm_n {Q : Exit → Act → World → Prop} {a : Act} {w : World} (h : Q .normal a w) : calmPost Q .normal a w := h
theorem and3 (n : Int) : bits .and .i64 n 3 = n % 4 := by
  have h3 : (BitVec.ofInt 64 3).toNat = 2 ^ 2 - 1 := by decide
  have key : (BitVec.ofInt 64 n &&& BitVec.ofInt 64 3).toNat = (n % ((2 ^ 64 : Nat) : Int)).toNat % 2 ^ 2 := by
    rw [BitVec.toNat_and, BitVec.toNat_ofInt, h3, Nat.and_two_pow_sub_one_eq_mod]
  show IntKind.i64.wrap ((BitVec.ofInt 64 n &&& BitVec.ofInt 64 3).toNat : Nat) = n % 4
  rw [key, IntKind.wrap_i64]
  omega
/-- Held in the region of the four tiers. -/
structure P9 (w : World) (b1 b2 : Nat) (p v : Sp) (W : World) : Prop where
  ps : SpAt W b1 p
  vs : SpAt W b2 v
  tab : Tab W
  bel : Below w.heap.size w W
theorem P9.drew {w : World} {b1 b2 : Nat} {p v : Sp} {W : World} (h : P9 w b1 b2 p v W) : P9 w b1 b2 p v W.drew :=
  ⟨h.ps.below ((Below.refl _ _).drew), h.vs.below ((Below.refl _ _).drew), h.tab.next ((Below.refl _ _).drew), bel_next h.bel ((Below.refl _ _).drew)⟩
theorem res6 {tmps : Array Value} {w : World} {b : Nat} (ha : tmps[6]? = some (.pointer (some ⟨b, 0, none⟩))) (hc : w.cell? ⟨b, 0, none⟩ = some (.bool true)) :
    (results Tryd.f6 tmps).run Tryd.prog w = .ok (.bool true) w := by
  simp [results, Tryd.results6, go_sem, ha, hc]
/-- Held in the region of one window. -/
structure PH (b : Nat) (s x : Sp) (kk M T : Int) (Bx : Nat) (W0 W : World) : Prop where
  sb : SpAt W b s
  kb : W.cell? ⟨b + 1, 0, none⟩ = some (.int .i64 kk)
  mb : W.cell? ⟨b + 1 + 1, 0, none⟩ = some (.int .i64 M)
  lb : W.cell? ⟨b + 1 + 1 + 1, 0, none⟩ = some (.int .i64 T)
  xb : SpAt W Bx x
  tab : Tab W
  bel : Below W0.heap.size W0 W
theorem PH.keep {b : Nat} {s x : Sp} {kk M T : Int} {Bx : Nat} {W0 W W' : World} (h : PH b s x kk M T Bx W0 W) (k : Below W.heap.size W W') : PH b s x kk M T Bx W0 W' :=
  ⟨h.sb.below k, (k.cell (World.block_lt_of_cell? W _ h.kb)).trans h.kb, (k.cell (World.block_lt_of_cell? W _ h.mb)).trans h.mb, (k.cell (World.block_lt_of_cell? W _ h.lb)).trans h.lb, h.xb.below k, h.tab.next k, bel_next h.bel k⟩
theorem PH.drew {b : Nat} {s x : Sp} {kk M T : Int} {Bx : Nat} {W0 W : World} (h : PH b s x kk M T Bx W0 W) : PH b s x kk M T Bx W0 W.drew := h.keep ((Below.refl _ _).drew)
theorem fin_early {w w1 : World} {b : Nat} (a : Act) (hb : Below w.heap.size w w1) (hB : w.heap.size ≤ b) (hc : (w1.setCell ⟨b, 0, none⟩ (.bool true)).cell? ⟨b, 0, none⟩ = some (.bool true)) (ha : a.tmps[6]? = some (.pointer (some ⟨b, 0, none⟩))) (hd : a.defers = []) :
    bodyPostM Fence.wide 9 Tryd.prog Tryd.f6 (fun e w' => e = .returned (.bool true) ∧ Below w.heap.size w w') .ret a (w1.setCell ⟨b, 0, none⟩ (.bool true)) := by
  have hp : Below w.heap.size w (w1.setCell ⟨b, 0, none⟩ (.bool true)) := hb.setCell (p := ⟨b, 0, none⟩) hB _
  obtain ⟨tmps, defers⟩ := a
  simp only at ha hd
  subst hd
  exact ⟨_, res6 ha hc, rfl, hp⟩
theorem fin_late {w w1 : World} {b D : Nat} (a : Act) (hb : Below w.heap.size w w1) (hB : w.heap.size ≤ b) (hD : w.heap.size ≤ D) (hbD : b ≠ D) (hc : (w1.setCell ⟨b, 0, none⟩ (.bool true)).cell? ⟨b, 0, none⟩ = some (.bool true)) (ha : a.tmps[6]? = some (.pointer (some ⟨b, 0, none⟩)))
    (hd : a.defers = [{ target := .collected D, args := #[] }]) (hdf : w1.heap[D]? = some (.deferred (some []))) :
    bodyPostM Fence.wide 9 Tryd.prog Tryd.f6 (fun e w' => e = .returned (.bool true) ∧ Below w.heap.size w w') .ret a (w1.setCell ⟨b, 0, none⟩ (.bool true)) := by
  have hp : Below w.heap.size w (w1.setCell ⟨b, 0, none⟩ (.bool true)) := hb.setCell (p := ⟨b, 0, none⟩) hB _
  have hdf2 : (w1.setCell ⟨b, 0, none⟩ (.bool true)).heap[D]? = some (.deferred (some [])) := (Below.heap_setCell _ _ _ _ (by exact Ne.symm hbD)).trans hdf
  obtain ⟨tmps, defers⟩ := a
  simp only at ha hd
  subst hd
  refine ⟨by simp, .inl ⟨_, _, rfl, run_takeDeferred hdf2, ?_⟩⟩
  refine ⟨_, res6 ha ?_, rfl, hp.trans (belowK_b (w := w) (Nat.le_refl _) _ D _ _ hD hdf2 rfl rfl)⟩
  rw [← hc]
  exact World.cell?_of_block (World.putObj_heap_other hbD)
/-- The law's own boxes: the two numbers, the result. -/
structure G1 (w : World) (q0 q1 : Int) (W : World) : Prop where
  c0 : W.cell? ⟨w.heap.size, 0, none⟩ = some (.int .i64 q0)
  c1 : W.cell? ⟨w.heap.size, 1, none⟩ = some (.int .i64 q1)
  r : W.cell? ⟨w.heap.size + 1, 0, none⟩ = some (.bool false)
  z : W.frozen? ⟨w.heap.size + 1, 0, none⟩ = false
  tab : Tab W
  bel : Below w.heap.size w W
  size : w.heap.size + 2 ≤ W.heap.size
theorem G1.keep {w W W' : World} {q0 q1 : Int} (h : G1 w q0 q1 W) (k : Below W.heap.size W W') : G1 w q0 q1 W' := by
  have hs := h.size
  exact ⟨(k.cell (p := ⟨w.heap.size, 0, none⟩) (by show w.heap.size < _; omega)).trans h.c0, (k.cell (p := ⟨w.heap.size, 1, none⟩) (by show w.heap.size < _; omega)).trans h.c1, (k.cell (p := ⟨w.heap.size + 1, 0, none⟩) (by show w.heap.size + 1 < _; omega)).trans h.r,
    (k.frozen (p := ⟨w.heap.size + 1, 0, none⟩) (by show w.heap.size + 1 < _; omega)).trans h.z, h.tab.next k, bel_next h.bel k, Nat.le_trans hs k.size⟩
theorem G1.upto {w W W' : World} {q0 q1 : Int} {n : Nat} (h : G1 w q0 q1 W) (k : Below n W W') (hn : w.heap.size + 2 ≤ n) (hT : Tab W') : G1 w q0 q1 W' :=
  ⟨(k.cell (p := ⟨w.heap.size, 0, none⟩) (by show w.heap.size < _; omega)).trans h.c0, (k.cell (p := ⟨w.heap.size, 1, none⟩) (by show w.heap.size < _; omega)).trans h.c1, (k.cell (p := ⟨w.heap.size + 1, 0, none⟩) (by show w.heap.size + 1 < _; omega)).trans h.r,
    (k.frozen (p := ⟨w.heap.size + 1, 0, none⟩) (by show w.heap.size + 1 < _; omega)).trans h.z, hT, h.bel.trans (k.mono (by omega)), Nat.le_trans h.size k.size⟩
theorem G1.new (w : World) (q0 q1 : Int) (hT : Tab w) : G1 w q0 q1 ((w.alloc (.cells #[.int .i64 q0, .int .i64 q1] 58)).alloc (.cells #[.bool false] 4)) := by
  have h := ((Below.refl w.heap.size w).alloc (Nat.le_refl _) (.cells #[.int .i64 q0, .int .i64 q1] 58)).alloc (by simp) (.cells #[.bool false] 4)
  have hs : ((w.alloc (.cells #[.int .i64 q0, .int .i64 q1] 58)).heap.size = w.heap.size + 1) := by simp
  refine ⟨?_, ?_, ?_, ?_, (hT.alloc _).alloc _, h, by simp⟩
  · simp [go_sem]
  · simp [go_sem]
  · simp [go_sem]
  · simp [go_sem]
theorem below_keeps {X Y : World} (h : Below X.heap.size X Y) : KeepsOthers X Y := ⟨h.size, fun k _ hk _ => (h.block k (Array.getElem?_eq_some_iff.1 hk).1).trans hk⟩
theorem boxed_below {W W' : World} {B : Nat} {t : TypeId} {v : Value} (h : Boxed W B t v) (k : Below W.heap.size W W') : Boxed W' B t v := (k.block B h.lt).trans h
theorem cont_ok {w5 W W2 : World} {b : Nat} {S : Nat → Prop} {M T : Int} {pre : List Sp} {x : Sp} (hbw : Below W.heap.size W W2) (hm : Boxed W (b + 1 + 1) 3 (.int .i64 M)) (hl : Boxed W (b + 1 + 1 + 1) 3 (.int .i64 T)) (hB : Below (b + 1 + 1) w5 W)
    (hM : (pre.length : Int) = M) (hS : ∀ q, S q → q < W.heap.size ∧ q ≠ b + 1 + 1 ∧ q ≠ b + 1 + 1 + 1) :
    KeepsFrom w5.heap.size W ((W2.setCell ⟨b + 1 + 1 + 1, 0, none⟩ (.int .i64 x.t)).setCell ⟨b + 1 + 1, 0, none⟩ (.int .i64 (M + 1))) ∧ KeepB S W ((W2.setCell ⟨b + 1 + 1 + 1, 0, none⟩ (.int .i64 x.t)).setCell ⟨b + 1 + 1, 0, none⟩ (.int .i64 (M + 1))) ∧
      (Boxed ((W2.setCell ⟨b + 1 + 1 + 1, 0, none⟩ (.int .i64 x.t)).setCell ⟨b + 1 + 1, 0, none⟩ (.int .i64 (M + 1))) (b + 1 + 1) 3 (.int .i64 ((pre ++ [x]).length : Int)) ∧ Boxed ((W2.setCell ⟨b + 1 + 1 + 1, 0, none⟩ (.int .i64 x.t)).setCell ⟨b + 1 + 1, 0, none⟩ (.int .i64 (M + 1))) (b + 1 + 1 + 1) 3 (.int .i64 (lastT (pre ++ [x]))) ∧
        Below (b + 1 + 1) w5 ((W2.setCell ⟨b + 1 + 1 + 1, 0, none⟩ (.int .i64 x.t)).setCell ⟨b + 1 + 1, 0, none⟩ (.int .i64 (M + 1)))) := by
  have hm2 := boxed_below hm hbw
  have hl2 := boxed_below hl hbw
  have hlt := hm.lt
  have hlen : ((pre ++ [x]).length : Int) = M + 1 := by rw [List.length_append, List.length_singleton]; omega
  refine ⟨(((below_keeps hbw).trans (KeepsOthers.setCell _ _ _)).trans (KeepsOthers.setCell _ _ _)).from _, ⟨by simpa using hbw.size, fun q hq => ?_⟩, ?_, ?_, ?_⟩
  · obtain ⟨q1, q2, q3⟩ := hS q hq
    exact (Below.heap_setCell _ _ _ _ (by exact q2)).trans ((Below.heap_setCell _ _ _ _ (by exact q3)).trans (hbw.block q q1))
  · rw [hlen]
    exact (hm2.other (by omega) _).set _
  · rw [lastT_snoc]
    exact (hl2.set _).other (by omega) _
  · exact ((hB.trans (hbw.mono (by omega))).setCell (p := ⟨b + 1 + 1 + 1, 0, none⟩) (by show b + 1 + 1 ≤ b + 1 + 1 + 1; omega) _).setCell (p := ⟨b + 1 + 1, 0, none⟩) (Nat.le_refl _) _
/-- Held in the last region. -/
structure PS (b : Nat) (s : Sp) (kk M T : Int) (bc : Nat) (c : Sp) (W : World) : Prop where
  sb : SpAt W b s
  kb : W.cell? ⟨b + 1, 0, none⟩ = some (.int .i64 kk)
  mb : W.cell? ⟨b + 1 + 1, 0, none⟩ = some (.int .i64 M)
  lb : W.cell? ⟨b + 1 + 1 + 1, 0, none⟩ = some (.int .i64 T)
  cs : SpAt W bc c
theorem PS.keep {b : Nat} {s : Sp} {kk M T : Int} {bc : Nat} {c : Sp} {W W' : World} (h : PS b s kk M T bc c W) (k : Below W.heap.size W W') : PS b s kk M T bc c W' :=
  ⟨h.sb.below k, (k.cell (World.block_lt_of_cell? W _ h.kb)).trans h.kb, (k.cell (World.block_lt_of_cell? W _ h.mb)).trans h.mb, (k.cell (World.block_lt_of_cell? W _ h.lb)).trans h.lb, h.cs.below k⟩
theorem PS.set {b : Nat} {s : Sp} {kk M T : Int} {bc : Nat} {c : Sp} {W : World} (h : PS b s kk M T bc c W) (r : Nat) (v : Value) (hb : r < b) (hc : r ≠ bc) : PS b s kk M T bc c (W.setCell ⟨r, 0, none⟩ v) := by
  have key : ∀ (q j : Nat) (hq : q ≠ r), (W.setCell ⟨r, 0, none⟩ v).cell? ⟨q, j, none⟩ = W.cell? ⟨q, j, none⟩ := fun q j hq => World.cell?_setCell_other _ _ _ _ (fun e => hq (by injection e with e; first | exact e | exact e.symm))
  exact ⟨⟨(key _ _ (by omega)).trans h.sb.c0, (key _ _ (by omega)).trans h.sb.c1⟩, (key _ _ (by omega)).trans h.kb, (key _ _ (by omega)).trans h.mb, (key _ _ (by omega)).trans h.lb, ⟨(key _ _ (Ne.symm hc)).trans h.cs.c0, (key _ _ (Ne.symm hc)).trans h.cs.c1⟩⟩
/-- Held behind the loop. -/
structure PE (w : World) (q0 q1 : Int) (b : Nat) (s : Sp) (kk M T : Int) (D : Nat) (W : World) : Prop where
  g : G1 w q0 q1 W
  sb : SpAt W b s
  kb : W.cell? ⟨b + 1, 0, none⟩ = some (.int .i64 kk)
  mb : W.cell? ⟨b + 1 + 1, 0, none⟩ = some (.int .i64 M)
  lb : W.cell? ⟨b + 1 + 1 + 1, 0, none⟩ = some (.int .i64 T)
  df : W.heap[D]? = some (.deferred (some []))
  dd : w.heap.size + 1 < D
theorem PE.keep {w : World} {q0 q1 : Int} {b : Nat} {s : Sp} {kk M T : Int} {D : Nat} {W W' : World} (h : PE w q0 q1 b s kk M T D W) (k : Below W.heap.size W W') : PE w q0 q1 b s kk M T D W' :=
  ⟨h.g.keep k, h.sb.below k, (k.cell (World.block_lt_of_cell? W _ h.kb)).trans h.kb, (k.cell (World.block_lt_of_cell? W _ h.mb)).trans h.mb, (k.cell (World.block_lt_of_cell? W _ h.lb)).trans h.lb, (k.block D (Array.getElem?_eq_some_iff.1 h.df).1).trans h.df, h.dd⟩
end Go.Proofs.YtdkenokjdiamhaaDoor.windowParts
