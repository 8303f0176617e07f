/- Contract: added. -/
import Derived.Test.YtipjhlabcbkgjaaAggAt
import Derived.Deep.CutRange
set_option maxRecDepth 20000
namespace Go.Proofs.Ytipjhlabcbkgjaa.Ag
open Go.RowKit Go.Proofs.Ytipjhlabcbkgjaa Go.Proofs.Ytipjhlabcbkgjaa.Wd Go.Proofs.Ytipjhlabcbkgjaa.Vi Go.Proofs.Ytipjhlabcbkgjaa.Mk

def cells9 (f : Nat → Int) : List Value := [.int .i64 (f 0), .int .i64 (f 1), .int .i64 (f 2), .int .i64 (f 3), .int .i64 (f 4), .int .i64 (f 5), .int .i64 (f 6), .int .i64 (f 7), .int .i64 (f 8)]
theorem b9V_is (f : Nat → Int) : b9V f = .agg (cells9 f).toArray := rfl
theorem cells9_at (f : Nat → Int) (j : Nat) (hj : j < 9) : (cells9 f)[j]? = some (.int .i64 (f j)) := by
  match j, hj with
  | 0, _ | 1, _ | 2, _ | 3, _ | 4, _ | 5, _ | 6, _ | 7, _ | 8, _ => rfl
theorem cells9_one (f : Nat → Int) : ∀ v ∈ cells9 f, v.oneCell' = true := by
  intro v hv
  simp only [cells9, List.mem_cons, List.not_mem_nil, or_false] at hv
  rcases hv with rfl | rfl | rfl | rfl | rfl | rfl | rfl | rfl | rfl <;> rfl
/-- Nine numbers in block b from o on, that may be written. -/
structure A9W (w : World) (b o : Nat) (f : Nat → Int) : Prop where
  r : ∀ j, j < 9 → w.cell? ⟨b, o + j, none⟩ = some (.int .i64 (f j))
  z : ∀ j, j < 9 → w.frozen? ⟨b, o + j, none⟩ = false
theorem A9W.range {w : World} {b o : Nat} {f : Nat → Int} (h : A9W w b o f) : w.rangeAt b o (cells9 f) := fun j v hv => by
  have hj : j < 9 := (List.getElem?_eq_some_iff.1 hv).1
  rw [cells9_at f j hj] at hv
  cases hv
  exact h.r j hj
theorem A9W.there {w : World} {b o : Nat} {f : Nat → Int} (h : A9W w b o f) : w.there b o 9 := fun j hj => ⟨by rw [h.r j hj]; rfl, h.z j hj⟩
theorem A9W.room {w : World} {b o : Nat} {f : Nat → Int} (h : A9W w b o f) : b < w.heap.size := World.block_lt_of_cell? w _ (h.r 0 (by omega))
theorem A9W.below {w w' : World} {b o : Nat} {f : Nat → Int} (h : A9W w b o f) (k : Below w.heap.size w w') : A9W w' b o f :=
  ⟨fun j hj => (k.cell (p := ⟨b, o + j, none⟩) h.room).trans (h.r j hj), fun j hj => (k.frozen (p := ⟨b, o + j, none⟩) h.room).trans (h.z j hj)⟩
theorem A9W.new (w : World) (f : Nat → Int) (T : TypeId) : A9W (w.alloc (.cells (cells9 f).toArray T)) w.heap.size 0 f := by
  have hb := heap_new w (.cells (cells9 f).toArray T)
  refine ⟨fun j hj => ?_, fun j hj => ?_⟩
  · rw [Nat.zero_add]
    unfold World.cell?
    rw [hb]
    show (cells9 f).toArray[j]? = _
    rw [List.getElem?_toArray]
    exact cells9_at f j hj
  · unfold World.frozen?
    rw [hb]
    rfl
theorem A9W.other {w : World} {b o q i : Nat} {f : Nat → Int} (h : A9W w b o f) (v : Value) (hq : q ≠ b) : A9W (w.setCell ⟨q, i, none⟩ v) b o f :=
  ⟨fun j hj => (World.cell?_setCell_other _ _ _ _ (fun e => hq (by injection e))).trans (h.r j hj), fun j hj => by have := h.z j hj; simp [go_sem, this]⟩
theorem A9W.put {w : World} {b k : Nat} {f : Nat → Int} (h : A9W w b 0 f) (hk : k < 9) (x : Int) (g : Nat → Int) (h1 : g k = x) (h2 : ∀ i, i ≠ k → g i = f i) : A9W (w.setCell ⟨b, k, none⟩ (.int .i64 x)) b 0 g := by
  refine ⟨fun j hj => ?_, fun j hj => by have := h.z j hj; simp [go_sem] at this ⊢; exact this⟩
  have hr := h.r j hj
  rw [Nat.zero_add] at hr ⊢
  by_cases e : j = k
  · subst e
    rw [World.cell?_setCell_same _ _ _ hr, h1]
  · rw [World.cell?_setCell_other _ _ _ _ (fun e2 => e (by injection e2 with _ e3; exact e3.symm)), hr, h2 j e]
theorem infoA9 : (Try.prog.info? 27).map (·.size) = some 9 := by kernel_rfl
theorem list_load_a9 {ops : Array Oper} {rest : List Oper} {op : Oper} {a : Act} {w : World} {Q : Exit → Act → World → Prop} (hgd : op.guard = none) (x : Operand) (ho : op.op = .load 27 x) (b o : Nat) (f : Nat → Int) (hx : a.eval x = .pointer (some ⟨b, o, none⟩))
    (hA : A9W w b o f) (h : wpList Try.prog ops Q rest (a.put op.dst (b9V f)) w) : wpList Try.prog ops Q (op :: rest) a w :=
  wpList_load_mid hgd 27 x ho b o hx (cells9 f) _ hA.range Try.underlying27 rfl infoA9 h
theorem list_store_a9 {ops : Array Oper} {rest : List Oper} {op : Oper} {a : Act} {w : World} {Q : Exit → Act → World → Prop} (hgd : op.guard = none) (x y : Operand) (ho : op.op = .store 27 x y) (b : Nat) (c f : Nat → Int) (hx : a.eval x = .pointer (some ⟨b, 0, none⟩)) (hy : a.eval y = b9V f)
    (hW : A9W w b 0 c) (h : wpList Try.prog ops Q rest (a.put op.dst undef) (w.setCells b 0 (cells9 f))) : wpList Try.prog ops Q (op :: rest) a w :=
  wpList_store_mid hgd 27 x y ho b 0 (cells9 f).toArray hx hy hW.there infoA9 (all_oneCell_toArray (cells9_one f)) h
theorem results_a9 {fn : Func} {p : Tmp} (h : fn.results = #[.cell p 27]) (tmps : Array Value) (w : World) (b : Nat) (f : Nat → Int) (hp : tmps.getD p undef = .pointer (some ⟨b, 0, none⟩)) (hA : w.rangeAt b 0 (cells9 f)) :
    (results fn tmps).run Try.prog w = .ok (b9V f) w := by
  have hp2 : tmps[p]?.getD undef = .pointer (some ⟨b, 0, none⟩) := by simpa using hp
  have hl := run_loadVar_mid (P := Try.prog) w b 0 27 (cells9 f) _ hA Try.underlying27 rfl infoA9
  rw [b9V_is]
  generalize cells9 f = l at *
  simp [results, h, hp2, asAddr, hl]
theorem index9 (g : Nat → Int) (k : Nat) (hk : k < 9) (w : World) : Sem.run Try.prog (Instr.index 27 (.agg #[.int .i64 (g 0), .int .i64 (g 1), .int .i64 (g 2), .int .i64 (g 3), .int .i64 (g 4), .int .i64 (g 5), .int .i64 (g 6), .int .i64 (g 7), .int .i64 (g 8)]) (.int .i64 (k : Int))) w = .ok (.int .i64 (g k)) w := by
  have hkc : k = 0 ∨ k = 1 ∨ k = 2 ∨ k = 3 ∨ k = 4 ∨ k = 5 ∨ k = 6 ∨ k = 7 ∨ k = 8 := by omega
  rcases hkc with rfl | rfl | rfl | rfl | rfl | rfl | rfl | rfl | rfl <;> rfl
/-- The first k are added. -/
def mixF (f g : Nat → Int) (k : Nat) : Nat → Int := fun i => if i < k then w64 (f i + g i) else f i
theorem mixF_at {f g : Nat → Int} {k : Nat} {x : Int} (h : IntKind.i64.wrap (f k + g k) = x) : mixF f g (k + 1) k = x := by unfold mixF; rw [if_pos (by omega)]; exact h
theorem mixF_else {f g : Nat → Int} {k i : Nat} (h : i ≠ k) : mixF f g (k + 1) i = mixF f g k i := by
  unfold mixF
  by_cases h1 : i < k
  · rw [if_pos h1, if_pos (by omega)]
  · rw [if_neg h1, if_neg (by omega)]
theorem fin9_name {w W : World} {b : Nat} {f : Nat → Int} (h : W.rangeAt b 0 (cells9 f)) (hb : Below w.heap.size w W) : ∃ x, x = W ∧ x.rangeAt b 0 (cells9 f) ∧ Below w.heap.size w x := ⟨W, rfl, h, hb⟩
set_option maxHeartbeats 4000000 in
theorem added_is (f g : Nat → Int) (w : World) : Calls Try.prog 36 #[b9V f, b9V g] w fun e w' => e = .returned (b9V (fun i => w64 (f i + g i))) ∧ Below w.heap.size w w' := by
  have h0 := A9W.new w f 27
  have h1 := A9W.new (w.alloc (.cells (cells9 f).toArray 27)) g 27
  have h2 := A9W.new ((w.alloc (.cells (cells9 f).toArray 27)).alloc (.cells (cells9 g).toArray 27)) (fun _ => 0) 27
  rw [World.size_alloc] at h1
  rw [World.size_alloc, World.size_alloc] at h2
  have hA := ((h0.below ((Below.refl _ _).alloc (Nat.le_refl _) (.cells (cells9 g).toArray 27))).below ((Below.refl _ _).alloc (Nat.le_refl _) (.cells (cells9 (fun _ => 0)).toArray 27)))
  have hB := bel_new (bel_new (bel_new (Below.refl w.heap.size w) (.cells (cells9 f).toArray 27)) (.cells (cells9 g).toArray 27)) (.cells (cells9 (fun _ => 0)).toArray 27)
  simp only [cells9] at h2 hA hB
  have H2 := Lib.hid h2
  have HA := Lib.hid hA
  have HB := Lib.hid hB
  unfold b9V
  clear h0 h1 h2 hA hB
  go_enter Try.func36, Try.ntmps36
  go_wp2
  go_loopw [8] (fun x wr => ∃ k : Nat, x = .int .i64 (k : Int) ∧ k ≤ 9 ∧ A9W wr w.heap.size 0 (mixF f g k) ∧ A9W wr (w.heap.size + 1 + 1) 0 (fun _ => 0) ∧ Below w.heap.size w wr) (fun x _ => 9 - (intOf x).toNat)
  case atStart => exact ⟨0, rfl, by omega, HA.out, H2.out, HB.out⟩
  case round =>
    obtain ⟨k, rfl, hk, hM, hR, hBr⟩ := hrel
    by_cases hk9 : k < 9
    · have hfk : mixF f g k k = f k := by unfold mixF; rw [if_neg (by omega)]
      have hc := hM.r k hk9
      have hz := hM.z k hk9
      rw [Nat.zero_add, hfk] at hc
      rw [Nat.zero_add] at hz
      obtain ⟨x, hx⟩ : ∃ x, IntKind.i64.wrap (f k + g k) = x := ⟨_, rfl⟩
      have HP := Lib.hid (hM.put hk9 x (mixF f g (k + 1)) (mixF_at hx) (fun i hi => mixF_else hi))
      have HR := Lib.hid (hR.other (i := k) (.int .i64 x) (show w.heap.size ≠ w.heap.size + 1 + 1 by omega))
      have HB2 := Lib.hid (hBr.setCell (p := ⟨w.heap.size, k, none⟩) (Nat.le_refl _) (.int .i64 x))
      have hix := fun w => index9 g k hk9 w
      have hki : (k : Int) < 9 := by omega
      have hwk : IntKind.i64.wrap ((k : Int) + 1) = (k : Int) + 1 := by rw [IntKind.wrap_i64]; omega
      clear hfk hM hR hBr hk
      go_wp2
      go_roundw
      case rel => exact ⟨k + 1, by go_num, by omega, HP.out, HR.out, HB2.out⟩
      case measure => simp [intOf]; omega
    · obtain rfl : k = 9 := by omega
      have hAA := A9W.mk (b := w.heap.size) (o := 0) (f := fun i => w64 (f i + g i)) (fun j hj => by rw [hM.r j hj]; unfold mixF; rw [if_pos hj]) hM.z
      have HAA := Lib.hid hAA
      have HR := Lib.hid hR
      have HBR := Lib.hid hBr
      clear hM hR hBr hAA hk
      go_upto_region 6 with fail
      refine wp_region_lit ?_
      refine list_load_a9 rfl _ rfl w.heap.size 0 _ rfl HAA.out ?_
      refine list_store_a9 rfl _ _ rfl (w.heap.size + 1 + 1) _ (fun i => w64 (f i + g i)) rfl rfl HR.out ?_
      obtain ⟨w9, hw9, hfin, hbel⟩ := fin9_name (World.rangeAt_setCells_same _ _ _ (cells9 (fun i => w64 (f i + g i))) HR.out.there) (below_cells (w.heap.size + 1 + 1) (by omega) _ 0 _ HBR.out)
      rw [← hw9]
      refine wpList_nil ?_
      go_wp2
      refine bodyPost_ret (v := b9V (fun i => w64 (f i + g i))) (results_a9 Try.results36 _ _ (w.heap.size + 1 + 1) _ rfl hfin) rfl ⟨rfl, hbel⟩
end Go.Proofs.Ytipjhlabcbkgjaa.Ag
