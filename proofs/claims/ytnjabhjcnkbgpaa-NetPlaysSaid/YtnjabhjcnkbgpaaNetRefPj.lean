/- The document's network: Part, Join. -/
import Derived.Test.YtnjabhjcnkbgpaaNetRefDr
import Derived.Deep.RegionHeld
set_option maxRecDepth 20000
set_option linter.unusedSimpArgs false
set_option linter.unusedVariables false
namespace Go.Proofs.Ytnjabhjcnkbgpaa
open Go.RowKit

theorem infoA2 : (Try.prog.info? 47).map (fun i => (i.zero, i.size, i.bytes)) = some (some (.agg #[.int .i64 0, .int .i64 0]), 2, 16) := by kernel_rfl
theorem pair_src (w : World) (p : Int × Int) : ∀ j u, (acells p)[j]? = some u → (w.alloc (.cells #[.int .i64 p.1, .int .i64 p.2] 47)).cell? ((⟨w.heap.size, 0, none⟩ : Addr).add j) = some u := by
  intro j u hj
  have hlt : j < 2 := (List.getElem?_eq_some_iff.1 hj).1
  rw [mat_add]
  match j, hlt with
  | 0, _ => simp [acells] at hj; rw [← hj]; simp [go_sem]
  | 1, _ => simp [acells] at hj; rw [← hj]; simp [go_sem]
theorem run_pair (w : World) (ty : TypeId) (B : Nat) (v : Value) (l : List (Int × Int)) (p : Int × Int) (hown : ARow w B v l) (hB : B ≤ w.heap.size) (hl : l.length ≤ 1000) :
    ∃ v' w', (Builtin.append_ #[28, 28] ty #[v, .slice (some ⟨w.heap.size, 0, none⟩) 1 1]).run Try.prog (w.alloc (.cells #[.int .i64 p.1, .int .i64 p.2] 47)) = .ok v' w' ∧ ARow w' B v' (l ++ [p]) ∧ w.grownBy w' v.ownBlock ∧ (∀ k, v'.ownBlock = some k → v.ownBlock = some k ∨ w.heap.size ≤ k) := by
  obtain ⟨i0, hi, hz0, hz1, hz2⟩ := info_parts infoA2
  obtain ⟨v', w', hr, h2, h3, h4, h5⟩ := run_append_own_at (P := Try.prog) (w := w.alloc (.cells #[.int .i64 p.1, .int .i64 p.2] 47)) B 28 ty 47 i0 _ 2 16 Try.underlying28 hi hz0 hz1 hz2 rfl (by decide) v l.length (l.flatMap acells) (hown.later (bel_al w _)) ⟨w.heap.size, 0, none⟩ 1 1 (acells p) rfl (pair_src w p)
    (fun u hu => acells_one (l := [p]) (by simpa using hu)) (by unfold maxLen; omega) (by omega) (Nat.le_trans hB (by simp))
  refine ⟨v', w', hr, by unfold ARow; rw [List.length_append, List.flatMap_append, List.flatMap_cons, List.flatMap_nil, List.append_nil]; exact h2, World.grownBy.trans (World.grownBy_alloc w _ _) h3, fun k hk => ?_⟩
  rcases h5 with h5 | h5
  · rw [h5] at hk; exact Or.inl hk
  · rw [h5] at hk; injection hk with hk; right; simp at hk; omega
theorem step_pair {ops : Array Oper} {o : Oper} {a : Act} {w : World} {K : Act → World → Prop} {Q : Exit → Act → World → Prop} {E : Prop} (hgd : o.guard = none) (sl x : Operand)
    (ho : o.op = .call { callee := .builtin .append, args := #[sl, x], argTypes := #[28, 28] })
    (B : Nat) (v : Value) (l : List (Int × Int)) (p : Int × Int) (hs : a.eval sl = v) (hx : a.eval x = .slice (some ⟨w.heap.size, 0, none⟩) 1 1) (hown : ARow w B v l) (hl : l.length ≤ 1000) (hB : B ≤ w.heap.size)
    (h : ∀ v' w', ARow w' B v' (l ++ [p]) → w.grownBy w' v.ownBlock → (∀ k, v'.ownBlock = some k → v.ownBlock = some k ∨ w.heap.size ≤ k) → K (a.put o.dst v') w') :
    if Region.wanted o (yielded ops a.tmps) = true then Oper.wp Try.prog o a (w.alloc (.cells #[.int .i64 p.1, .int .i64 p.2] 47)) K Q else E := by
  have hw : Region.wanted o (yielded ops a.tmps) = true := by simp [Region.wanted, hgd]
  rw [if_pos hw]
  obtain ⟨v', w', hr, h2, h3, h4⟩ := run_pair w o.type B v l p hown hB hl
  have hf := h v' w' h2 h3 h4
  unfold Oper.wp execOp
  simp only [ho, resolve, invoke, builtin, Sem.run_bind, Sem.run_pure, Result.andThen_ok, List.map_toArray, List.map_cons, List.map_nil, hs, hx, hr]
  exact hf
theorem wpList_pair {w : World} {ops : Array Oper} {rest : List Oper} {o : Oper} {a : Act} {Q : Exit → Act → World → Prop} (hgd : o.guard = none) (sl x : Operand)
    (ho : o.op = .call { callee := .builtin .append, args := #[sl, x], argTypes := #[28, 28] })
    (B : Nat) (v : Value) (l : List (Int × Int)) (p : Int × Int) (hs : a.eval sl = v) (hx : a.eval x = .slice (some ⟨w.heap.size, 0, none⟩) 1 1) (hown : ARow w B v l) (hl : l.length ≤ 1000) (hB : B ≤ w.heap.size)
    (h : ∀ v' w', ARow w' B v' (l ++ [p]) → w.grownBy w' v.ownBlock → (∀ k, v'.ownBlock = some k → v.ownBlock = some k ∨ w.heap.size ≤ k) → wpList Try.prog ops Q rest (a.put o.dst v') w') :
    wpList Try.prog ops Q (o :: rest) a (w.alloc (.cells #[.int .i64 p.1, .int .i64 p.2] 47)) := by
  refine wpList_plain hgd fun K hK => ?_
  obtain ⟨v', w', hr, h2, h3, h4⟩ := run_pair w o.type B v l p hown hB hl
  have hf := h v' w' h2 h3 h4
  unfold Oper.wp execOp
  simp only [ho, resolve, invoke, builtin, Sem.run_bind, Sem.run_pure, Result.andThen_ok, List.map_toArray, List.map_cons, List.map_nil, hs, hx, hr]
  exact hK _ _ hf
section
variable {w : World} {B r : Nat} {VL VP : Value} {R : RN}
theorem RAt.joined {w1 w2 : World} {v2 : Value} {l2 : List (Int × Int)} (h : RAt w B r VL VP R) (hB1 : Below w.heap.size w w1) (hR2 : ARow w2 B v2 l2) (hl2 : l2.length ≤ 1000) (hg : w1.grownBy w2 VP.ownBlock) (hs : ∀ k, v2.ownBlock = some k → VP.ownBlock = some k ∨ w1.heap.size ≤ k) :
    w2.cell? ⟨r, 2, none⟩ = some VP ∧ w2.frozen? ⟨r, 2, none⟩ = false ∧ RW w (w2.setCell ⟨r, 2, none⟩ v2) B r VL VP VL v2 { R with ps := l2 } := by
  have h1 := h.later hB1
  have hne : VP.ownBlock ≠ some r := fun e => by obtain ⟨c, h2⟩ := row_heap h.rowP e; exact kinds_ne h.hb h2 (by decide) rfl
  have hb2 : w2.heap[r]? = w1.heap[r]? := hg.block r h1.lt (fun e => hne e.symm)
  have hb3 := hb2.trans h1.hb
  refine ⟨cell_of hb3, frozen_of hb3, ?_⟩
  have hp : ∀ k, VL.ownBlock = some k → w2.heap[k]? = w1.heap[k]? := fun k hk => hg.block k (World.ownsRow.lt h1.rowL k hk).2 (fun e => by
    obtain ⟨c, h2⟩ := row_heap h1.rowP e.symm
    obtain ⟨c', h3⟩ := row_heap h1.rowL hk
    exact kinds_ne h2 h3 (by decide) rfl)
  exact RW.ahead hB1 (h1.pairs (Frm.of_grown hg fun k e => Or.inr (Or.inr e)) hb2 hp hR2 hl2 hs)
def rpartB (R : RN) (a b : Int) : Bool := twoB a b && !isP R.ps a b
set_option maxHeartbeats 4000000 in
theorem rpart_no (a b : Int) (h : RAt w B r VL VP R) (hno : rpartB R a b = false) : Calls Try.prog 18 #[.pointer (some ⟨r, 0, none⟩), .int .i64 a, .int .i64 b] w (RDone B r VL VP R (.bool false) w) := by
  have ka := rend_is a w
  have kb := rend_is b w
  have ki := is_is a b h
  obtain ⟨x, hx⟩ : ∃ x, endB a = x := ⟨_, rfl⟩
  obtain ⟨y, hy⟩ : ∃ y, endB b = y := ⟨_, rfl⟩
  obtain ⟨q, hq⟩ : ∃ q, isP R.ps a b = q := ⟨_, rfl⟩
  rw [hx] at ka
  rw [hy] at kb
  rw [hq] at ki
  have hc : x = false ∨ (x = true ∧ y = false) ∨ (x = true ∧ y = true ∧ (a == b) = true) ∨ (x = true ∧ y = true ∧ (a == b) = false ∧ q = true) := by
    unfold rpartB twoB at hno
    rw [hx, hy, hq] at hno
    cases x <;> cases y <;> cases hab : (a == b) <;> cases q <;> simp_all
  have HW := Lib.hid (fun w1 hB => RW.of_below (w' := w1) h hB)
  clear h hx hy hq hno
  rcases hc with rfl | ⟨rfl, rfl⟩ | ⟨rfl, rfl, h1⟩ | ⟨rfl, rfl, h1, rfl⟩
  all_goals
    go_enter Try.func18, Try.ntmps18
    go_wp2_with (first
      | (go_at_call 44; (with_reducible refine ka.mono ?_); rintro e w1 ⟨rfl, rfl⟩; clear ka)
      | (go_at_call 44; (with_reducible refine kb.mono ?_); rintro e w1 ⟨rfl, rfl⟩)
      | (go_at_call 35; (with_reducible refine ki.mono ?_); rintro e w1 ⟨rfl, hB⟩; (have HB := Lib.hid hB); clear hB))
    go_ret
    exact ⟨_, _, rfl, HW.out _ HB.out⟩
set_option maxHeartbeats 4000000 in
theorem rpart_yes (a b : Int) (h : RAt w B r VL VP R) (hyes : rpartB R a b = true) (hl : R.ps.length < 1000) : Calls Try.prog 18 #[.pointer (some ⟨r, 0, none⟩), .int .i64 a, .int .i64 b] w (RDone B r VL VP { R with ps := R.ps ++ [pairI a b] } (.bool true) w) := by
  have ka := rend_is a w
  have kb := rend_is b w
  have ki := is_is a b h
  have hc : endB a = true ∧ endB b = true ∧ (a == b) = false ∧ isP R.ps a b = false := by
    unfold rpartB twoB at hyes
    cases h1 : endB a <;> cases h2 : endB b <;> cases h3 : (a == b) <;> cases h4 : isP R.ps a b <;> simp_all
  obtain ⟨h1, h2, h3, h4⟩ := hc
  rw [h1] at ka
  rw [h2] at kb
  rw [h4] at ki
  obtain ⟨pa, pc, rfl⟩ := h.rowP.slice
  obtain ⟨x, hx⟩ : ∃ x, (pairI a b).1 = x := ⟨_, rfl⟩
  obtain ⟨y, hy⟩ : ∃ y, (pairI a b).2 = y := ⟨_, rfl⟩
  have kp := fun W => rpair_is a b W
  rw [hx, hy] at kp
  have HXY := Lib.hid (show pairI a b = (x, y) by rw [← hx, ← hy])
  obtain ⟨n2, hn2⟩ : ∃ n2, (R.ps ++ [(x, y)]).length = n2 := ⟨_, rfl⟩
  have HN2 := Lib.hid hn2
  have hl2 : (R.ps ++ [(x, y)]).length ≤ 1000 := by rw [List.length_append]; simp; omega
  have HLP := Lib.hid (show R.ps.length ≤ 1000 by omega)
  have H := Lib.hid h
  have HBS := Lib.hid (show B ≤ w.heap.size by have := h.lt; have := h.base; omega)
  have HAP := Lib.hid (fun (w1 w2 : World) (a2 : Option Addr) (c2 : Nat) (hB1 : Below w.heap.size w w1) (hR2 : ARow w2 B (.slice a2 n2 c2) (R.ps ++ [(x, y)])) hg2 hs2 => h.joined (w1 := w1) (w2 := w2) (v2 := .slice a2 n2 c2) hB1 hR2 hl2 hg2 hs2)
  clear h hx hy h1 h2 h4 hyes hl hl2 hn2
  go_enter Try.func18, Try.ntmps18
  go_upto_region 6 with (first
    | (go_at_call 44; (with_reducible refine ka.mono ?_); rintro e w1 ⟨rfl, rfl⟩; clear ka)
    | (go_at_call 44; (with_reducible refine kb.mono ?_); rintro e w1 ⟨rfl, rfl⟩)
    | (go_at_call 35; (with_reducible refine ki.mono ?_); rintro e w1 ⟨rfl, hB⟩; (have HB := Lib.hid hB); clear hB))
  have HD := Lib.hid (bel_next HB.out (Below.refl _ w1).drew)
  have hat := H.out.later HD.out
  obtain ⟨-, -, c2, -⟩ := hat.c0
  have HAT := Lib.hid hat
  have hrl := hat.lt
  clear hat
  -- PART6
  refine wp_region_held_drew (S := (fun _ => True)) (by kernel_rfl) trivial (fun hHeld => ?_)
  refine wpAnyH_take (i := 0) (oi := ?op1o) (v := ?op1v) ?op1h (by kernel_rfl) (by kernel_rfl) (by kernel_rfl) ?op1q ?op1y hHeld ?op1r
  case op1h => (simp only [List.getElem?_toArray, List.getElem?_cons_zero]; rfl)
  case op1q => exact fun _ _ _ h => h
  case op1y => (refine Or.inl ⟨by first | kernel_rfl | rfl, ?_⟩; intro w hSw; (try dsimp only at hSw); go_simp <;> (try with_reducible rfl))
  try simp only [Act.put, List.setIfInBounds_toArray, List.set_cons_zero, List.set_cons_succ]
  refine wpAnyH_take (i := 1) (oi := ?op2o) (v := ?op2v) ?op2h (by kernel_rfl) (by kernel_rfl) (by kernel_rfl) ?op2q ?op2y hHeld ?op2r
  case op2h => (simp only [List.getElem?_toArray, List.getElem?_cons_succ, List.getElem?_cons_zero]; rfl)
  case op2q => exact fun _ _ _ h => h
  case op2y => (refine Or.inl ⟨by first | kernel_rfl | rfl, ?_⟩; intro w hSw; (try dsimp only at hSw); go_simp <;> (try with_reducible rfl))
  try simp only [Act.put, List.setIfInBounds_toArray, List.set_cons_zero, List.set_cons_succ]
  refine wpAnyH_take (i := 2) (oi := ?op3o) (v := ?op3v) ?op3h (by kernel_rfl) (by kernel_rfl) (by kernel_rfl) ?op3q ?op3y hHeld ?op3r
  case op3h => (simp only [List.getElem?_toArray, List.getElem?_cons_succ, List.getElem?_cons_zero]; rfl)
  case op3q => exact fun _ _ _ h => h
  case op3y => (refine Or.inl ⟨by first | kernel_rfl | rfl, ?_⟩; intro w hSw; (try dsimp only at hSw); go_simp <;> (try with_reducible rfl))
  try simp only [Act.put, List.setIfInBounds_toArray, List.set_cons_zero, List.set_cons_succ]
  refine wpAnyH_take (i := 3) (oi := ?op4o) (v := ?op4v) ?op4h (by kernel_rfl) (by kernel_rfl) (by kernel_rfl) ?op4q ?op4y hHeld ?op4r
  case op4h => (simp only [List.getElem?_toArray, List.getElem?_cons_succ, List.getElem?_cons_zero]; rfl)
  case op4q => exact fun _ _ _ h => h
  case op4y => (refine Or.inl ⟨by first | kernel_rfl | rfl, ?_⟩; intro w hSw; (try dsimp only at hSw); go_simp <;> (try with_reducible rfl))
  try simp only [Act.put, List.setIfInBounds_toArray, List.set_cons_zero, List.set_cons_succ]
  refine wpAnyH_take (i := 5) (oi := ?op5o) (v := ?op5v) ?op5h (by kernel_rfl) (by kernel_rfl) (by kernel_rfl) ?op5q ?op5y hHeld ?op5r
  case op5h => (simp only [List.getElem?_toArray, List.getElem?_cons_succ, List.getElem?_cons_zero]; rfl)
  case op5q => exact fun _ _ _ h => h
  case op5y => (refine Or.inl ⟨by first | kernel_rfl | rfl, ?_⟩; intro w hSw; (try dsimp only at hSw); go_simp <;> (try with_reducible rfl))
  try simp only [Act.put, List.setIfInBounds_toArray, List.set_cons_zero, List.set_cons_succ]
  refine wpAnyH_take (i := 6) (oi := ?op6o) (v := ?op6v) ?op6h (by kernel_rfl) (by kernel_rfl) (by kernel_rfl) ?op6q ?op6y hHeld ?op6r
  case op6h => (simp only [List.getElem?_toArray, List.getElem?_cons_succ, List.getElem?_cons_zero]; rfl)
  case op6q => exact fun _ _ _ h => h
  case op6y => (refine Or.inl ⟨by first | kernel_rfl | rfl, ?_⟩; intro w hSw; (try dsimp only at hSw); go_simp <;> (try with_reducible rfl))
  try simp only [Act.put, List.setIfInBounds_toArray, List.set_cons_zero, List.set_cons_succ]
  refine wpAnyH_ready (rs := [4, 7]) (by kernel_rfl) (by simp) ?_
  refine (AllReadyH.cons rfl (fun K hK => ?_) (AllReadyH.cons rfl (fun K hK => ?_) AllReadyH.nil))
  ·
    go_simp
    skip
    refine hK.out _ _ (trivial) (fun hHeld => ?_)
    clear hK K
    try simp only [Act.put, List.setIfInBounds_toArray, List.set_cons_zero, List.set_cons_succ]
    refine wpAnyH_ready (rs := [7]) (by kernel_rfl) (by simp) ?_
    refine (AllReadyH.cons rfl (fun K hK => ?_) AllReadyH.nil)
    go_simp
    (go_at_call 45; (refine (kp _).mono ?_); rintro e w3 ⟨rfl, hB3⟩; (have h3 := HAT.out.later hB3); (have d2 := h3.c0.2.2.1); (have hr3 := h3.lt); (have hr4 : ¬ r = w3.heap.size := by omega); (have hr5 : ¬ w3.heap.size = r := by omega); (have H3 := Lib.hid h3); (have HB3 := Lib.hid (bel_next HD.out hB3)); clear hB3 h3)
    refine hK.out _ _ (trivial) (fun hHeld => ?_)
    clear hK K
    try simp only [Act.put, List.setIfInBounds_toArray, List.set_cons_zero, List.set_cons_succ]
    refine wpAnyH_ready (rs := [8]) (by kernel_rfl) (by simp) ?_
    refine (AllReadyH.cons rfl (fun K hK => ?_) AllReadyH.nil)
    go_simp
    skip
    refine hK.out _ _ (trivial) (fun hHeld => ?_)
    clear hK K
    try simp only [Act.put, List.setIfInBounds_toArray, List.set_cons_zero, List.set_cons_succ]
    refine wpAnyH_ready (rs := [9]) (by kernel_rfl) (by simp) ?_
    refine (AllReadyH.cons rfl (fun K hK => ?_) AllReadyH.nil)
    refine step_pair rfl _ _ rfl B (.slice pa R.ps.length pc) R.ps (x, y) rfl rfl H3.out.rowP HLP.out (Nat.le_trans HBS.out HB3.out.size) ?_
    intro v4 w4 hR4 hg4 hs4
    obtain ⟨a4, c4, rfl⟩ := hR4.slice
    rw [HN2.out] at hR4 hs4 ⊢
    obtain ⟨t0, t1, t2⟩ := HAP.out w3 w4 a4 c4 HB3.out hR4 hg4 hs4
    have HQ := Lib.hid t2
    clear t2 hR4 hg4 hs4
    refine hK.out _ _ (trivial) (fun hHeld => ?_)
    clear hK K
    try simp only [Act.put, List.setIfInBounds_toArray, List.set_cons_zero, List.set_cons_succ]
    refine wpAnyH_take (i := 10) (oi := ?op7o) (v := ?op7v) ?op7h (by kernel_rfl) (by kernel_rfl) (by kernel_rfl) ?op7q ?op7y hHeld ?op7r
    case op7h => (simp only [List.getElem?_toArray, List.getElem?_cons_succ, List.getElem?_cons_zero]; rfl)
    case op7q => exact fun _ _ _ h => h
    case op7y => (refine Or.inl ⟨by first | kernel_rfl | rfl, ?_⟩; intro w hSw; (try dsimp only at hSw); go_simp <;> (try with_reducible rfl))
    try simp only [Act.put, List.setIfInBounds_toArray, List.set_cons_zero, List.set_cons_succ]
    refine wpAnyH_take (i := 11) (oi := ?op8o) (v := ?op8v) ?op8h (by kernel_rfl) (by kernel_rfl) (by kernel_rfl) ?op8q ?op8y hHeld ?op8r
    case op8h => (simp only [List.getElem?_toArray, List.getElem?_cons_succ, List.getElem?_cons_zero]; rfl)
    case op8q => exact fun _ _ _ h => h
    case op8y => (refine Or.inl ⟨by first | kernel_rfl | rfl, ?_⟩; intro w hSw; (try dsimp only at hSw); go_simp <;> (try with_reducible rfl))
    try simp only [Act.put, List.setIfInBounds_toArray, List.set_cons_zero, List.set_cons_succ]
    refine wpAnyH_ready (rs := [12]) (by kernel_rfl) (by simp) ?_
    refine (AllReadyH.cons rfl (fun K hK => ?_) AllReadyH.nil)
    go_simp
    skip
    refine hK.out _ _ (trivial) (fun hHeld => ?_)
    clear hK K
    try simp only [Act.put]
    refine wpAnyH_done (by kernel_rfl) ?_ _
    go_wp2
    go_ret
    exact ⟨_, _, rfl, by rw [HXY.out]; exact HQ.out⟩
  ·
    go_simp
    (go_at_call 45; (refine (kp _).mono ?_); rintro e w3 ⟨rfl, hB3⟩; (have h3 := HAT.out.later hB3); (have d2 := h3.c0.2.2.1); (have hr3 := h3.lt); (have hr4 : ¬ r = w3.heap.size := by omega); (have hr5 : ¬ w3.heap.size = r := by omega); (have H3 := Lib.hid h3); (have HB3 := Lib.hid (bel_next HD.out hB3)); clear hB3 h3)
    refine hK.out _ _ (trivial) (fun hHeld => ?_)
    clear hK K
    try simp only [Act.put, List.setIfInBounds_toArray, List.set_cons_zero, List.set_cons_succ]
    refine wpAnyH_ready (rs := [4, 8]) (by kernel_rfl) (by simp) ?_
    refine (AllReadyH.cons rfl (fun K hK => ?_) (AllReadyH.cons rfl (fun K hK => ?_) AllReadyH.nil))
    ·
      go_simp
      skip
      refine hK.out _ _ (trivial) (fun hHeld => ?_)
      clear hK K
      try simp only [Act.put, List.setIfInBounds_toArray, List.set_cons_zero, List.set_cons_succ]
      refine wpAnyH_ready (rs := [8]) (by kernel_rfl) (by simp) ?_
      refine (AllReadyH.cons rfl (fun K hK => ?_) AllReadyH.nil)
      go_simp
      skip
      refine hK.out _ _ (trivial) (fun hHeld => ?_)
      clear hK K
      try simp only [Act.put, List.setIfInBounds_toArray, List.set_cons_zero, List.set_cons_succ]
      refine wpAnyH_ready (rs := [9]) (by kernel_rfl) (by simp) ?_
      refine (AllReadyH.cons rfl (fun K hK => ?_) AllReadyH.nil)
      refine step_pair rfl _ _ rfl B (.slice pa R.ps.length pc) R.ps (x, y) rfl rfl H3.out.rowP HLP.out (Nat.le_trans HBS.out HB3.out.size) ?_
      intro v4 w4 hR4 hg4 hs4
      obtain ⟨a4, c4, rfl⟩ := hR4.slice
      rw [HN2.out] at hR4 hs4 ⊢
      obtain ⟨t0, t1, t2⟩ := HAP.out w3 w4 a4 c4 HB3.out hR4 hg4 hs4
      have HQ := Lib.hid t2
      clear t2 hR4 hg4 hs4
      refine hK.out _ _ (trivial) (fun hHeld => ?_)
      clear hK K
      try simp only [Act.put, List.setIfInBounds_toArray, List.set_cons_zero, List.set_cons_succ]
      refine wpAnyH_take (i := 10) (oi := ?op9o) (v := ?op9v) ?op9h (by kernel_rfl) (by kernel_rfl) (by kernel_rfl) ?op9q ?op9y hHeld ?op9r
      case op9h => (simp only [List.getElem?_toArray, List.getElem?_cons_succ, List.getElem?_cons_zero]; rfl)
      case op9q => exact fun _ _ _ h => h
      case op9y => (refine Or.inl ⟨by first | kernel_rfl | rfl, ?_⟩; intro w hSw; (try dsimp only at hSw); go_simp <;> (try with_reducible rfl))
      try simp only [Act.put, List.setIfInBounds_toArray, List.set_cons_zero, List.set_cons_succ]
      refine wpAnyH_take (i := 11) (oi := ?op10o) (v := ?op10v) ?op10h (by kernel_rfl) (by kernel_rfl) (by kernel_rfl) ?op10q ?op10y hHeld ?op10r
      case op10h => (simp only [List.getElem?_toArray, List.getElem?_cons_succ, List.getElem?_cons_zero]; rfl)
      case op10q => exact fun _ _ _ h => h
      case op10y => (refine Or.inl ⟨by first | kernel_rfl | rfl, ?_⟩; intro w hSw; (try dsimp only at hSw); go_simp <;> (try with_reducible rfl))
      try simp only [Act.put, List.setIfInBounds_toArray, List.set_cons_zero, List.set_cons_succ]
      refine wpAnyH_ready (rs := [12]) (by kernel_rfl) (by simp) ?_
      refine (AllReadyH.cons rfl (fun K hK => ?_) AllReadyH.nil)
      go_simp
      skip
      refine hK.out _ _ (trivial) (fun hHeld => ?_)
      clear hK K
      try simp only [Act.put]
      refine wpAnyH_done (by kernel_rfl) ?_ _
      go_wp2
      go_ret
      exact ⟨_, _, rfl, by rw [HXY.out]; exact HQ.out⟩
    ·
      go_simp
      skip
      refine hK.out _ _ (trivial) (fun hHeld => ?_)
      clear hK K
      try simp only [Act.put, List.setIfInBounds_toArray, List.set_cons_zero, List.set_cons_succ]
      refine wpAnyH_ready (rs := [4]) (by kernel_rfl) (by simp) ?_
      refine (AllReadyH.cons rfl (fun K hK => ?_) AllReadyH.nil)
      go_simp
      skip
      refine hK.out _ _ (trivial) (fun hHeld => ?_)
      clear hK K
      try simp only [Act.put, List.setIfInBounds_toArray, List.set_cons_zero, List.set_cons_succ]
      refine wpAnyH_ready (rs := [9]) (by kernel_rfl) (by simp) ?_
      refine (AllReadyH.cons rfl (fun K hK => ?_) AllReadyH.nil)
      refine step_pair rfl _ _ rfl B (.slice pa R.ps.length pc) R.ps (x, y) rfl rfl H3.out.rowP HLP.out (Nat.le_trans HBS.out HB3.out.size) ?_
      intro v4 w4 hR4 hg4 hs4
      obtain ⟨a4, c4, rfl⟩ := hR4.slice
      rw [HN2.out] at hR4 hs4 ⊢
      obtain ⟨t0, t1, t2⟩ := HAP.out w3 w4 a4 c4 HB3.out hR4 hg4 hs4
      have HQ := Lib.hid t2
      clear t2 hR4 hg4 hs4
      refine hK.out _ _ (trivial) (fun hHeld => ?_)
      clear hK K
      try simp only [Act.put, List.setIfInBounds_toArray, List.set_cons_zero, List.set_cons_succ]
      refine wpAnyH_take (i := 10) (oi := ?op11o) (v := ?op11v) ?op11h (by kernel_rfl) (by kernel_rfl) (by kernel_rfl) ?op11q ?op11y hHeld ?op11r
      case op11h => (simp only [List.getElem?_toArray, List.getElem?_cons_succ, List.getElem?_cons_zero]; rfl)
      case op11q => exact fun _ _ _ h => h
      case op11y => (refine Or.inl ⟨by first | kernel_rfl | rfl, ?_⟩; intro w hSw; (try dsimp only at hSw); go_simp <;> (try with_reducible rfl))
      try simp only [Act.put, List.setIfInBounds_toArray, List.set_cons_zero, List.set_cons_succ]
      refine wpAnyH_take (i := 11) (oi := ?op12o) (v := ?op12v) ?op12h (by kernel_rfl) (by kernel_rfl) (by kernel_rfl) ?op12q ?op12y hHeld ?op12r
      case op12h => (simp only [List.getElem?_toArray, List.getElem?_cons_succ, List.getElem?_cons_zero]; rfl)
      case op12q => exact fun _ _ _ h => h
      case op12y => (refine Or.inl ⟨by first | kernel_rfl | rfl, ?_⟩; intro w hSw; (try dsimp only at hSw); go_simp <;> (try with_reducible rfl))
      try simp only [Act.put, List.setIfInBounds_toArray, List.set_cons_zero, List.set_cons_succ]
      refine wpAnyH_ready (rs := [12]) (by kernel_rfl) (by simp) ?_
      refine (AllReadyH.cons rfl (fun K hK => ?_) AllReadyH.nil)
      go_simp
      skip
      refine hK.out _ _ (trivial) (fun hHeld => ?_)
      clear hK K
      try simp only [Act.put]
      refine wpAnyH_done (by kernel_rfl) ?_ _
      go_wp2
      go_ret
      exact ⟨_, _, rfl, by rw [HXY.out]; exact HQ.out⟩
  -- END6
end
end Go.Proofs.Ytnjabhjcnkbgpaa
