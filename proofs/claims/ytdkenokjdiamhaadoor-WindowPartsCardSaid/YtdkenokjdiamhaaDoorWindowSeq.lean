/- slices.Values, slices.AppendSeq, slices.Collect at spans. -/
import Derived.RangeFuncNested
import Derived.RangeFuncBox
import Derived.RangeFuncLeaves
import Derived.RangeFuncCalls
import Derived.Shelf.Abstract
import Derived.WalkKit
import Derived.OwnWalkIn
import Derived.TacticsInMore
import Derived.LoopNIn
import Derived.LoopIn
import Derived.Maps.AppendAt
import Derived.Test.YtdkenokjdiamhaaDoorWindowTouched
set_option maxRecDepth 20000
namespace Go.Proofs.YtdkenokjdiamhaaDoor
open Go.RowKit Go.Shelf

attribute [local go_sem] Oper.semAt_some

/-- What Collect and its kin leave: the spans in a row of the call's own. -/
def SpansRow (L : List Sp) (w : World) (e : Ending) (w' : World) : Prop := ∃ v, e = .returned v ∧ SpRow w' w.heap.size v L ∧ Below w.heap.size w w'
def encSp (x : Sp) : Array Value := #[.agg #[.int .i64 x.f, .int .i64 x.t]]
abbrev VCL (Bs : Nat) : Value := .func (.func 58) #[] #[.pointer (some ⟨Bs, 0, none⟩)]

set_option maxHeartbeats 4000000 in
/-- The closure of slices.Values, for every loop body that keeps what lay below n₀. -/
theorem values1_some (F : Fence) (n : Nat) (hf : F.fn 58) (hro : F.round = none) (hn : 1 ≤ n) (l Bs n₀ g off m c : Nat) (L : List Sp) (hm : Hid (L.length = m)) (hreach : m ≤ 1000000) (hg : g < n₀) (J Jx : List Sp → World → Prop)
    (W : World) (hJ : AbidesFrom W.heap.size J)
    (hY : ∀ pre x W, J pre W → pre.length < m → YieldAt F (n - 1) Tryd.prog l (encSp x) W fun e W' =>
      (e = .returned (.bool true) ∧ J (pre ++ [x]) W' ∧ Below n₀ W W') ∨ (e = .returned (.bool false) ∧ Jx (pre ++ [x]) W'))
    (hn₀ : n₀ ≤ W.heap.size)
    (hBs : W.cell? ⟨Bs, 0, none⟩ = some (.slice (some ⟨g, off, none⟩) m c)) (hc : ∀ j (h : j < L.length), SpO W g (off + j * 2) L[j]) (h0 : J [] W) :
    CallsIn F n Tryd.prog 58 #[.func (.yield l) #[] #[], .pointer (some ⟨Bs, 0, none⟩)] W fun e W' => (∃ v, e = .returned v) ∧
      ((∃ ys, ys = L ∧ J ys W') ∨ (∃ pre, pre <+: L ∧ Jx pre W')) := by
  refine callsIn_of_wp Tryd.func58 rfl hf ?_ hro
  simp only [Tryd.ntmps58, List.size_toArray, List.length_cons, List.length_nil, Nat.reduceAdd, Nat.reduceSub, Array.replicate_succ, Array.replicate_zero, List.push_toArray, List.append_toArray, List.nil_append, List.cons_append]
  have HC := Lib.hid hc
  clear hc
  gi_wp2
  gi_loopw [7] (fun i wr => ∃ k : Nat, k ≤ m ∧ i = .int .i64 (k : Int) ∧ J (L.take k) wr ∧ Below n₀ W wr)
    (fun i _ => m - (intOf i).toNat)
  case atStart => exact ⟨0, Nat.zero_le _, rfl, h0, Below.refl _ _⟩
  case round =>
    obtain ⟨k, hk, rfl, hJs, hnx⟩ := hrel
    by_cases hlt : k < m
    · have hkL : k < L.length := by rw [hm.out]; exact hlt
      have hlti : (k : Int) < (m : Int) := by omega
      obtain ⟨q, hq⟩ : ∃ q, L[k] = q := ⟨_, rfl⟩
      have cq := (HC.out k hkL).below hnx hg
      rw [hq] at cq
      obtain ⟨q0, q1⟩ := cq
      have hJ1 : J (L.take k) (wr.alloc (.cells #[.int .i64 q.f, .int .i64 q.t] 26)) := hJ _ wr _ none hJs (World.grownBy_alloc wr _ none) (fun r e => by cases e)
      obtain ⟨fn, tmps, assign, body, hy, hR⟩ := hY (L.take k) q _ hJ1 (by rw [List.length_take]; omega)
      unfold encSp at hy
      have HQ := Lib.hid (show L.take k ++ [q] = L.take (k + 1) by rw [List.take_succ_eq_append_getElem hkL, hq])
      have hwk : IntKind.i64.wrap ((k : Int) + 1) = (k : Int) + 1 := by rw [IntKind.wrap_i64]; omega
      have hsz := hnx.size
      have hnx4 := Lib.hid ((hnx.trans ((Below.refl n₀ wr).alloc (by omega) (.cells #[.int .i64 q.f, .int .i64 q.t] 26))))
      clear hq hJs hnx hJ1
      gi_wp2
      refine hR.mono ?_
      rintro e W3 (⟨rfl, hJ3, hk3⟩ | ⟨rfl, hJx3⟩)
      · gi_wp2
        go_roundw
        case rel => exact ⟨k + 1, by omega, by go_num, by rw [← HQ.out]; exact hJ3, hnx4.out.trans hk3⟩
        case measure => simp [intOf]; omega
      · gi_wp2
        refine bodyPost_ret (results_none rfl _ _ _) rfl ?_
        exact ⟨⟨_, rfl⟩, .inr ⟨_, by rw [HQ.out]; exact List.take_prefix _ _, hJx3⟩⟩
    · have hlti : ¬ (k : Int) < (m : Int) := by omega
      have HJ := Lib.hid (show J L wr by rw [List.take_of_length_le (by rw [hm.out]; omega)] at hJs; exact hJs)
      clear hJs
      gi_wp2
      go_end0
      first | exact ⟨⟨_, rfl⟩, .inl ⟨_, rfl, HJ.out⟩⟩ | exact ⟨⟨_, rfl⟩, .inl HJ.out⟩
set_option maxHeartbeats 1000000 in
theorem values1_none (F : Fence) (n : Nat) (hf : F.fn 58) (hro : F.round = none) (l Bs : Nat) (a : Option Addr) (c : Nat) (J : List Sp → World → Prop) (W : World) (hBs : W.cell? ⟨Bs, 0, none⟩ = some (.slice a 0 c)) (h0 : J [] W) :
    CallsIn F n Tryd.prog 58 #[.func (.yield l) #[] #[], .pointer (some ⟨Bs, 0, none⟩)] W fun e W' => (∃ v, e = .returned v) ∧ J [] W' := by
  refine callsIn_of_wp Tryd.func58 rfl hf ?_ hro
  simp only [Tryd.ntmps58, List.size_toArray, List.length_cons, List.length_nil, Nat.reduceAdd, Nat.reduceSub, Array.replicate_succ, Array.replicate_zero, List.push_toArray, List.append_toArray, List.nil_append, List.cons_append]
  gi_wp2
  gi_loopw [7] (fun i wr => i = .int .i64 0 ∧ J [] wr) (fun _ _ => 0)
  case atStart => exact ⟨rfl, h0⟩
  case round =>
    obtain ⟨rfl, hJs⟩ := hrel
    gi_wp2
    go_end0
    exact ⟨⟨_, rfl⟩, hJs⟩
/-- slices.Values(s) hands back a value that gives the spans of s, in order. -/
theorem values_stops (F : Fence) (n : Nat) (hf : F.fn 58) (hro : F.round = none) (hn : 1 ≤ n) (Bs n₀ : Nat) (a : Option Addr) (c : Nat) (L : List Sp) (hreach : L.length ≤ 1000000) (w : World) (hBs : Bs < w.heap.size) (hn₀ : n₀ ≤ w.heap.size)
    (hc : w.cell? ⟨Bs, 0, none⟩ = some (.slice a L.length c)) (hI : Sps w n₀ a L) :
    SeqStopsK F n Tryd.prog 58 #[.pointer (some ⟨Bs, 0, none⟩)] encSp (Below n₀) (fun ys => ys = L) (fun pre => pre <+: L) L.length w := fun l J Jx W hW hJ _ hY h0 => by
  have hc' := (hW.cell (p := ⟨Bs, 0, none⟩) hBs).trans hc
  rcases (hI.below (hW.mono hn₀)).at_ with rfl | ⟨g, off, rfl, hb, hcs⟩
  · exact (values1_none F n hf hro l Bs a c J W hc' h0).mono fun e W' ⟨he, hj⟩ => ⟨he, .inl ⟨_, rfl, hj⟩⟩
  · exact values1_some F n hf hro hn l Bs n₀ g off L.length c L (Lib.hid rfl) hreach hb J Jx W hJ hY (by have := hW.size; omega) hc' hcs h0

/-- A loop variable of the type Span, in a block of its own. -/
def Box2 (W : World) (B : Nat) (x : Sp) : Prop := W.heap[B]? = some (.cells #[.int .i64 x.f, .int .i64 x.t] 26 (0, 0))
theorem Box2.at_ {W : World} {B : Nat} {x : Sp} (h : Box2 W B x) : SpAt W B x := by
  have h' : W.heap[B]? = some (.cells #[.int .i64 x.f, .int .i64 x.t] 26 (0, 0)) := h
  constructor <;> simp [World.cell?, h']
theorem Box2.own {B : Nat} {x : Sp} {X Y : World} {row : Option Nat} (h : Box2 X B x) (hg : X.grownBy Y row) (hr : ∀ r, row = some r → ∃ o : Obj, X.heap[r]? = some o ∧ o.isCells = false) : Box2 Y B x := by
  refine (hg.block B (Array.getElem?_eq_some_iff.1 (show X.heap[B]? = _ from h)).1 (fun e => ?_)).trans h
  obtain ⟨o, ho, hc⟩ := hr B e.symm
  rw [show X.heap[B]? = _ from h] at ho; cases ho; cases hc
theorem Box2.new (W : World) (x : Sp) : Box2 (W.alloc (.cells #[.int .i64 x.f, .int .i64 x.t] 26)) W.heap.size x := World.alloc_heap_new W _

theorem cells_two_new (W : World) (x : Sp) : ∀ j u, [Value.int .i64 x.f, .int .i64 x.t][j]? = some u → (W.alloc (.cells #[.int .i64 x.f, .int .i64 x.t] 26)).cell? ((⟨W.heap.size, 0, none⟩ : Addr).add j) = some u := by
  intro j u hj
  rw [Addr.add_lit]
  match j, hj with
  | 0, hj => simp at hj; subst hj; simp [go_sem]
  | 1, hj => simp at hj; subst hj; simp [go_sem]
  | _ + 2, hj => simp at hj
set_option maxHeartbeats 8000000 in
/-- slices.AppendSeq(nil, slices.Values(s)): the spans of s, in a row of its own. -/
theorem append_seq_in (F : Fence) (n : Nat) (h1f : F.fn 58) (h2f : F.fn 63) (hro : F.round = none) (hn : 3 ≤ n) (Bs : Nat) (a : Option Addr) (c : Nat) (L : List Sp) (hreach : L.length ≤ 1000000) (w : World) (hBs : Bs < w.heap.size)
    (hc : w.cell? ⟨Bs, 0, none⟩ = some (.slice a L.length c)) (hI : Sps w w.heap.size a L) :
    CallsIn F n Tryd.prog 63 #[.slice none 0 0, VCL Bs] w (SpansRow L w) := by
  have h1 : 1 ≤ n := by omega
  obtain ⟨i0, hi, hz0, hz1, hz2⟩ := info_parts infoSp
  refine callsIn_of_wp_marks Tryd.func63 rfl h2f ?_ hro
  simp only [Tryd.ntmps63, List.size_toArray, List.length_cons, List.length_nil, Nat.reduceAdd, Nat.reduceSub, Array.replicate_succ, Array.replicate_zero, List.push_toArray, List.append_toArray, List.nil_append, List.cons_append]
  gi_wp2
  have bO := Boxed.new w 29 (.slice none 0 0)
  have hB0 : Below w.heap.size w (w.alloc (.cells #[.slice none 0 0] 29)) := (Below.refl _ w).alloc (Nat.le_refl _) _
  refine wpIn_rangeFunc_ownH hro h1 (gf := 58) (lb := #[.pointer (some ⟨Bs, 0, none⟩)]) rfl h1f (enters_of Tryd.func58 (by kernel_rfl) rfl)
    (values_stops F (n - 1) h1f hro (by omega) Bs w.heap.size a c L hreach _ (by simp; omega) (by simp) ((hB0.cell (p := ⟨Bs, 0, none⟩) hBs).trans hc) (hI.below hB0)) belowK_t (belowK_b (by simp)) (Below.refl _ _) (fun _ => rfl)
    (fun pre W => (∃ v, Boxed W w.heap.size 29 v ∧ W.ownsRow w.heap.size 26 2 v pre.length (pre.flatMap cells2) ∧ (v = .slice none 0 0 ↔ pre = [])) ∧ Below w.heap.size w W)
    (fun _ _ _ => False)
    (OwnFrom.and (Own.from (holdsRow_own w.heap.size w.heap.size 29 26 2 (fun pre => pre.length) (fun pre : List Sp => pre.flatMap cells2) (fun pre v => v = .slice none 0 0 ↔ pre = [])) _) (ownFrom_below (Nat.le_refl _) (by simp)))
    (fun _ _ _ _ _ hs _ _ => hs)
    ⟨⟨_, bO, World.ownsRow_nil _ _ _ _, by simp⟩, hB0⟩
    (fun x a' W => ∃ Bx, w.heap.size < Bx ∧ Box2 W Bx x ∧ a' = { tmps := #[.slice none 0 0, VCL Bs, .pointer (some ⟨w.heap.size, 0, none⟩), undef, .slice none 0 0, .pointer (some ⟨Bx, 0, none⟩), VCL Bs, .agg #[.int .i64 x.f, .int .i64 x.t], undef, undef, undef, undef, undef], defers := [] })
    (fun x a' _ X Y row hs hg hr => by obtain ⟨Bx, k1, k2, k3⟩ := hs; exact ⟨Bx, k1, k2.own hg (fun r e => (hr r e).2), k3⟩)
    ?assign ?body ?done ?stop
  case assign =>
    rintro l pre x W K ⟨⟨v, hv, hrow, hnil⟩, hB⟩ hK
    have hlt := hv.lt
    unfold encSp
    gi_wp2
    exact hK _ _ ((KeepsOthers.alloc _ _).from _) ((Below.refl _ W).alloc hB.size _) ⟨⟨v, hv.alloc _, hrow.alloc _, hnil⟩, hB.alloc hB.size _⟩ ⟨W.heap.size, hlt, Box2.new W x, rfl⟩
  case body =>
    rintro l pre x a' W hl - ⟨⟨v, hv, hrow, hnil⟩, hB⟩ ⟨Bx, hBx, bX, rfl⟩ hlt
    have hcv := hv.cell
    have hfv := hv.frozen
    obtain ⟨x0, x1⟩ := bX.at_
    have hszW := hB.size
    have hw64 : (pre.length : Int) + 1 ≤ 1000001 := by omega
    gi_wp2_with (gi_at_builtin; refine wpListIn_append_own _ rfl _ _ 29 rfl w.heap.size 26 i0 (.agg #[.int .i64 0, .int .i64 0]) 2 16 Tryd.underlying29 hi hz0 hz1 hz2 rfl (by decide) _ _ _ rfl (hrow.alloc _) ⟨W.heap.size, 0, none⟩ 1 1 [.int .i64 x.f, .int .i64 x.t] rfl rfl (cells_two_new W x) (by simp [Value.oneCell']) (by unfold maxLen; omega) (by omega) (by have := hB.size; simp; omega) ?_; intro v' w1 hown' hgrow _; obtain ⟨g', cap', rfl⟩ := ownsRow_succ hown'; obtain ⟨hv1, hv2, hr2, hk2, hb2⟩ := hv.appended (by decide) hrow hB.size (Nat.le_refl _) hown' hgrow; have hc1 := hv1.cell; have hf1 := hv1.frozen)
    exact ⟨hk2.from _, hb2, ⟨_, hv2, by rw [List.length_append, List.flatMap_append]; simpa [cells2] using hr2, by simp⟩, hB.trans hb2⟩
  case done =>
    rintro D ys W hD rfl ⟨⟨v, hv, hrow, hnil⟩, hB⟩ hK
    have hcv := hv.cell
    obtain ⟨a1, c1, rfl⟩ : ∃ a1 c1, v = .slice a1 ys.length c1 := by
      rcases hrow.2 with ⟨h, h0⟩ | ⟨g', cap', cur', h, _⟩
      · exact ⟨_, _, by rw [h, h0]⟩
      · exact ⟨_, _, h⟩
    obtain ⟨m, hm⟩ : ∃ m, ys.length = m := ⟨_, rfl⟩
    have HROW := Lib.hid hrow
    rw [hm] at hcv HROW
    have HM := Lib.hid hm
    clear hrow hv hm
    gi_wp2
    refine ⟨by simp, .inl ⟨_, _, rfl, run_takeDeferred hK, ?_⟩⟩
    exact ⟨_, results_tmp rfl _ _ _, _, rfl, by unfold SpRow; rw [HM.out]; exact ownsRow_putObj HROW.out _ hK rfl, hB.trans (belowK_b (w := w) (Nat.le_refl _) W D _ _ (by simp at hD; omega) hK rfl rfl)⟩
  case stop =>
    rintro D c pre W _ _ h _
    exact h.elim
end Go.Proofs.YtdkenokjdiamhaaDoor
