/- slices.Delete at one message; clear; healing; what removes a message. -/
import Derived.Test.YtnjabhjcnkbgpaaNetSend
import Derived.Laws.CopyOwn
set_option maxRecDepth 20000
set_option linter.unusedSimpArgs false
set_option linter.unusedVariables false
namespace Go.Proofs.Ytnjabhjcnkbgpaa
open Go.RowKit

theorem grown_setRow (w : World) (g : Nat) (cs : Array Value) : w.grownBy (w.setRow g cs) (some g) :=
  ⟨rfl, rfl, rfl, by simp [World.setRow], fun k _ h => setRow_other w g k cs (fun e => h (by rw [e]))⟩
theorem run_clear_rows {P : Program} (w : World) (t e ty : TypeId) (z : Value) (ht : P.underlying t = some (.slice e)) (hv : ∀ w, (zeroValue e).run P w = .ok z w) (g o n c : Nat) (cur : Array Value) (T : TypeId)
    (hg : w.heap[g]? = some (.cells cur T (0, 0))) (hn : 0 < n) (hfit : o + n * z.cells.size ≤ cur.size) (h1 : ∀ v ∈ (Builtin.zeroCells z.cells n).toList, v.oneCell' = true) :
    (Builtin.clear_ #[t] ty #[.slice (some ⟨g, o, none⟩) n c]).run P w =
      .ok (.tuple #[]) (w.setRow g (cur.toList.take o ++ (Builtin.zeroCells z.cells n).toList ++ cur.toList.drop (o + (Builtin.zeroCells z.cells n).toList.length)).toArray) := by
  have hst := run_storeCells_at P g o T (Builtin.zeroCells z.cells n).toList 0 cur w hg (by simpa [Builtin.zeroCells] using hfit) h1
  simp only [Nat.add_zero] at hst
  obtain ⟨m, rfl⟩ : ∃ m, n = m + 1 := ⟨n - 1, by omega⟩
  simp [Builtin.clear_, run_underlying ht, hv, hst]


abbrev MTT : TypeId := 27
theorem undM : Try.prog.underlying MTT = some (.slice 34) := Try.underlying27
theorem zeroM (w : World) : (zeroValue 34).run Try.prog w = .ok (.agg #[.int .i64 0, .int .i64 0, .int .i64 0, .string ⟨#[]⟩, .int .i64 0]) w := by kernel_rfl
/-- append(s[:i], more...) where there is room, as a step of a region. -/
theorem step_append_mails {ops : Array Oper} {o : Oper} {a : Act} {w : World} {K : Act → World → Prop} {Q : Exit → Act → World → Prop} {E : Prop} (hgd : o.guard = none) (d s : Operand)
    (ho : o.op = .call { callee := .builtin .append, args := #[d, s], argTypes := #[MTT, MTT] })
    (g i c m r sc : Nat) (ad : Addr) (hd : a.eval d = .slice (some ⟨g, 0, none⟩) i c) (hs : a.eval s = .slice (some ad) m sc) (hr : i + m = r)
    (cur : Array Value) (hg : w.heap[g]? = some (.cells cur 34)) (cs : List Value) (hn : cs.length = m * 5)
    (hsrc : ∀ j v, cs[j]? = some v → w.cell? (ad.add j) = some v) (hroom : i + m ≤ c) (hfit : i * 5 + cs.length ≤ cur.size) (h1 : ∀ v ∈ cs, v.oneCell' = true)
    (h : ∀ w', Hid (w'.heap[g]? = some (.cells (cur.toList.take (i * 5) ++ cs ++ cur.toList.drop (i * 5 + cs.length)).toArray 34)) → w.grownBy w' (some g) → K (a.put o.dst (.slice (some ⟨g, 0, none⟩) r c)) w') :
    if Region.wanted o (yielded ops a.tmps) = true then Oper.wp Try.prog o a w K Q else E := by
  have hw : Region.wanted o (yielded ops a.tmps) = true := by simp [Region.wanted, hgd]
  rw [if_pos hw]
  subst hr
  obtain ⟨i0, hi, hz0, hz1, hz2⟩ := info_parts infoM
  have hrun := run_append_room (P := Try.prog) w MTT o.type 34 i0 undM hi g i c cur hg ad m sc cs (by rw [hz1]; exact hn) hsrc h1 hroom (by rw [hz1]; exact hfit)
  rw [hz1] at hrun
  have hf := h _ (show _ = _ from setRow_heap w g _ _ _ _ hg) (grown_setRow _ _ _)
  unfold Oper.wp
  simp only [execOp, ho, resolve, invoke, builtin, Sem.run_bind, Sem.run_pure, Result.andThen_ok, List.map_toArray, List.map_cons, List.map_nil, hd, hs, hrun]
  exact hf
/-- One message is cleared. -/
theorem wpList_clear_mail {ops : Array Oper} {rest : List Oper} {o : Oper} {a : Act} {w : World} {Q : Exit → Act → World → Prop} (hgd : o.guard = none) (s : Operand)
    (ho : o.op = .call { callee := .builtin .clear, args := #[s], argTypes := #[MTT] })
    (g off c : Nat) (hs : a.eval s = .slice (some ⟨g, off, none⟩) 1 c) (cur : Array Value) (hg : w.heap[g]? = some (.cells cur 34)) (hfit : off + 5 ≤ cur.size)
    (h : ∀ w' cur' : _, Hid (w'.heap[g]? = some (.cells (List.toArray cur') 34)) → Hid (cur'.length = cur.size) → Hid (cur'.take off = cur.toList.take off) → w.grownBy w' (some g) → wpList Try.prog ops Q rest (a.put o.dst (.tuple #[])) w') :
    wpList Try.prog ops Q (o :: rest) a w := by
  refine wpList_plain hgd fun K hK => ?_
  have hrun := run_clear_rows (P := Try.prog) w MTT 34 o.type (.agg #[.int .i64 0, .int .i64 0, .int .i64 0, .string ⟨#[]⟩, .int .i64 0]) undM zeroM g off 1 c cur 34 hg (by decide) (by simpa [Value.cells] using hfit) (by
    intro v hv
    have : (Builtin.zeroCells (Value.agg #[.int .i64 0, .int .i64 0, .int .i64 0, .string ⟨#[]⟩, .int .i64 0]).cells 1).toList = [.int .i64 0, .int .i64 0, .int .i64 0, .string ⟨#[]⟩, .int .i64 0] := by kernel_rfl
    rw [this] at hv
    simp at hv
    rcases hv with rfl | rfl | rfl <;> rfl)
  have hzl : (Builtin.zeroCells (Value.agg #[.int .i64 0, .int .i64 0, .int .i64 0, .string ⟨#[]⟩, .int .i64 0]).cells 1).toList.length = 5 := by simp [Builtin.zeroCells, Value.cells]
  generalize (Builtin.zeroCells (Value.agg #[.int .i64 0, .int .i64 0, .int .i64 0, .string ⟨#[]⟩, .int .i64 0]).cells 1).toList = zs at hzl hrun
  have hf := h _ (cur.toList.take off ++ zs ++ cur.toList.drop (off + zs.length)) (show _ = _ from setRow_heap w g _ _ 34 _ hg) (show _ = _ by simp [hzl]; omega)
    (show _ = _ by rw [List.append_assoc, List.take_append_of_le_length (by simp; omega), List.take_take, Nat.min_self]) (grown_setRow _ _ _)
  unfold Oper.wp
  simp only [execOp, ho, resolve, invoke, builtin, Sem.run_bind, Sem.run_pure, Result.andThen_ok, List.map_toArray, List.map_cons, List.map_nil, hs, hrun]
  exact hK _ _ hf
theorem sizeM (w : World) : (sizeOf (Try.prog.elem MTT)).run Try.prog w = .ok 5 w := by kernel_rfl
theorem mcut_to (g n c i : Nat) (hc : i ≤ c) : (∀ w, (Instr.slice MTT (.slice (some ⟨g, 0, none⟩) n c) none (some (.int .i64 (i : Int))) none).run Try.prog w = .ok (.slice (some ⟨g, 0, none⟩) i c) w) ∧
    ∀ w, (Instr.sliceAt MTT (.slice (some ⟨g, 0, none⟩) n c) none (some (.int .i64 (i : Int))) none).run Try.prog w = .ok (.slice (some ⟨g, 0, none⟩) i c) w := by
  have e : ∀ w, (Instr.slice MTT (.slice (some ⟨g, 0, none⟩) n c) none (some (.int .i64 (i : Int))) none).run Try.prog w = .ok (.slice (some ⟨g, 0, none⟩) i c) w := fun w => by
    rw [run_slice_h (P := Try.prog) w MTT _ n c undM .i64 (i : Int) (by omega) (by omega), sizeM, Int.toNat_natCast]
    unfold sliced
    show Result.ok _ _ = _
    have hp : (⟨g, 0, none⟩ : Addr).add (0 * 5) = ⟨g, 0, none⟩ := by rw [mat_add]
    split <;> simp [hp]
  exact ⟨e, fun w => by rw [run_sliceAt_slice (P := Try.prog) w MTT _ _ _ _ undM, e w]⟩
theorem mcut_from (g n c i : Nat) (hi : i ≤ n) (z : Int) (hz : z = (i : Int)) : ∃ ad : Addr, (i < c → ad = ⟨g, i * 5, none⟩) ∧ (∀ w, (Instr.slice MTT (.slice (some ⟨g, 0, none⟩) n c) (some (.int .i64 z)) none none).run Try.prog w = .ok (.slice (some ad) (n - i) (c - i)) w) ∧
    ∀ w, (Instr.sliceAt MTT (.slice (some ⟨g, 0, none⟩) n c) (some (.int .i64 z)) none none).run Try.prog w = .ok (.slice (some ad) (n - i) (c - i)) w := by
  have e : ∀ w, (Instr.slice MTT (.slice (some ⟨g, 0, none⟩) n c) (some (.int .i64 z)) none none).run Try.prog w = .ok (sliced (some ⟨g, 0, none⟩) i n c 5) w := fun w => by
    rw [run_slice_l (P := Try.prog) w MTT _ n c undM .i64 z (by omega) (by omega), sizeM, hz, Int.toNat_natCast]; rfl
  have e2 : ∀ ad : Addr, sliced (some ⟨g, 0, none⟩) i n c 5 = .slice (some ad) (n - i) (c - i) → (∀ w, (Instr.slice MTT (.slice (some ⟨g, 0, none⟩) n c) (some (.int .i64 z)) none none).run Try.prog w = .ok (.slice (some ad) (n - i) (c - i)) w) ∧
    ∀ w, (Instr.sliceAt MTT (.slice (some ⟨g, 0, none⟩) n c) (some (.int .i64 z)) none none).run Try.prog w = .ok (.slice (some ad) (n - i) (c - i)) w := fun ad h => ⟨fun w => by rw [e w, h], fun w => by rw [run_sliceAt_slice (P := Try.prog) w MTT _ _ _ _ undM, e w, h]⟩
  by_cases hc : c = i
  · exact ⟨⟨g, 0, none⟩, fun h => absurd hc (by omega), e2 _ (by unfold sliced; rw [if_pos hc])⟩
  · exact ⟨⟨g, i * 5, none⟩, fun _ => rfl, e2 _ (by unfold sliced; rw [if_neg hc, Option.map_some, mat_add, Nat.zero_add])⟩
theorem mcut_mid (g n c i j : Nat) (hij : i ≤ j) (hj : j ≤ c) (hi : i < c) : (∀ w, (Instr.slice MTT (.slice (some ⟨g, 0, none⟩) n c) (some (.int .i64 (i : Int))) (some (.int .i64 (j : Int))) none).run Try.prog w = .ok (.slice (some ⟨g, i * 5, none⟩) (j - i) (c - i)) w) ∧
    ∀ w, (Instr.sliceAt MTT (.slice (some ⟨g, 0, none⟩) n c) (some (.int .i64 (i : Int))) (some (.int .i64 (j : Int))) none).run Try.prog w = .ok (.slice (some ⟨g, i * 5, none⟩) (j - i) (c - i)) w := by
  have e : ∀ w, (Instr.slice MTT (.slice (some ⟨g, 0, none⟩) n c) (some (.int .i64 (i : Int))) (some (.int .i64 (j : Int))) none).run Try.prog w = .ok (.slice (some ⟨g, i * 5, none⟩) (j - i) (c - i)) w := fun w => by
    rw [run_slice_lh (P := Try.prog) w MTT _ n c undM .i64 .i64 (i : Int) (j : Int) (by omega) (by omega) (by omega), sizeM, Int.toNat_natCast, Int.toNat_natCast]
    show Result.ok (sliced _ _ _ _ _) _ = _
    unfold sliced
    rw [if_neg (by omega), Option.map_some, mat_add, Nat.zero_add]
  exact ⟨e, fun w => by rw [run_sliceAt_slice (P := Try.prog) w MTT _ _ _ _ undM, e w]⟩
theorem mcut_all (g n c i : Nat) (z : Int) (hz : z = (i : Int) + 1) (hi : i < n) (hn : n ≤ c) : ∃ v : Value, (∀ w, (Instr.slice MTT (.slice (some ⟨g, 0, none⟩) n c) (some (.int .i64 (i : Int))) (some (.int .i64 z)) (some (.int .i64 (n : Int)))).run Try.prog w = .ok v w) ∧
    ∀ w, (Instr.sliceAt MTT (.slice (some ⟨g, 0, none⟩) n c) (some (.int .i64 (i : Int))) (some (.int .i64 z)) (some (.int .i64 (n : Int)))).run Try.prog w = .ok v w := by
  have e : ∀ w, (Instr.slice MTT (.slice (some ⟨g, 0, none⟩) n c) (some (.int .i64 (i : Int))) (some (.int .i64 z)) (some (.int .i64 (n : Int)))).run Try.prog w = .ok (sliced (some ⟨g, 0, none⟩) i (i + 1) n 5) w := fun w => by
    rw [run_slice_lhm (P := Try.prog) w MTT _ n c undM .i64 .i64 .i64 (i : Int) z (n : Int) (by omega) (by omega) (by omega) (by omega), sizeM, hz, Int.toNat_natCast, Int.toNat_natCast, show ((i : Int) + 1).toNat = i + 1 by omega]
    rfl
  exact ⟨_, e, fun w => by rw [run_sliceAt_slice (P := Try.prog) w MTT _ _ _ _ undM, e w]⟩
set_option maxHeartbeats 4000000 in
theorem delete_is (B g n c i : Nat) (l : List Ml) (w : World) (hl : l.length = n) (hR : MRow w B (.slice (some ⟨g, 0, none⟩) n c) l) (hi : i < n) (hn : n ≤ 2000) :
    Calls Try.prog 53 #[.slice (some ⟨g, 0, none⟩) n c, .int .i64 (i : Int), .int .i64 ((i : Int) + 1)] w fun e w' => ∃ r, r + 1 = n ∧ e = .returned (.slice (some ⟨g, 0, none⟩) r c) ∧ MRow w' B (.slice (some ⟨g, 0, none⟩) r c) (l.take i ++ l.drop (i + 1)) ∧ w.grownBy w' (some g) := by
  rcases hR.2 with ⟨hv, h2⟩ | ⟨g', cap, cur, hv, hg, hh, hnc, hmx, hsz, ht⟩
  · cases hv
  injection hv with e1 e2 e3
  injection e1 with e1
  injection e1 with e1
  subst e1 e3
  clear e2
  rw [hl] at ht hnc
  have hic : i ≤ c := by omega
  obtain ⟨v0, hs0, hs0'⟩ := mcut_all g n c i ((i : Int) + 1) rfl hi hnc
  obtain ⟨ht1, ht1'⟩ := mcut_to g n c i (by omega)
  obtain ⟨ad, had, hf1, hf1'⟩ := mcut_from g n c (i + 1) (by omega) ((i : Int) + 1) (by omega)
  obtain ⟨m, hm⟩ : ∃ m, n - (i + 1) = m := ⟨_, rfl⟩
  obtain ⟨sc, hsc⟩ : ∃ sc, c - (i + 1) = sc := ⟨_, rfl⟩
  rw [hm, hsc] at hf1 hf1'
  obtain ⟨r, hr⟩ : ∃ r, i + m = r := ⟨_, rfl⟩
  have hrn : r + 1 = n := by omega
  obtain ⟨hk1, hk1'⟩ := mcut_mid g r c r n (by omega) hnc (by omega)
  rw [show n - r = 1 by omega] at hk1 hk1'
  obtain ⟨cs, hcs⟩ : ∃ cs, (l.drop (i + 1)).flatMap mcells = cs := ⟨_, rfl⟩
  have hcl : cs.length = m * 5 := by rw [← hcs, flat_len, List.length_drop, hl, hm]
  have hone : ∀ v ∈ cs, v.oneCell' = true := fun v hv => mcells_one (l := l.drop (i + 1)) (by rw [hcs]; exact hv)
  have hfit : i * 5 + cs.length ≤ cur.size := by rw [hcl, hsz]; omega
  have hsrc : ∀ W : World, W.heap[g]? = some (.cells cur 34) → ∀ j v, cs[j]? = some v → W.cell? (ad.add j) = some v := fun W hW j v hj => by
    have hj' := (List.getElem?_eq_some_iff.1 hj).1
    rw [hcl] at hj'
    have := had (by omega)
    subst this
    rw [mat_add, cell_of hW, ← Array.getElem?_toList]
    rw [← hcs, flat_drop, List.getElem?_drop, ← ht, List.getElem?_take_of_lt (by omega)] at hj
    exact hj
  have hne : ((i : Int) == (i : Int) + 1) = false := by rw [beq_eq_false_iff_ne]; omega
  have HC := Lib.hid hcl
  have hT1 : (cur.toList.take (i * 5) ++ cs ++ cur.toList.drop (i * 5 + cs.length)).take (r * 5) = (l.take i ++ l.drop (i + 1)).flatMap mcells := by
    have hl1 : (cur.toList.take (i * 5)).length = i * 5 := by rw [List.length_take, Array.length_toList]; omega
    rw [List.flatMap_append, hcs, flat_take, ← ht, List.take_append_of_le_length (by rw [List.length_append, hl1, hcl]; omega), List.take_of_length_le (by rw [List.length_append, hl1, hcl]; omega), List.take_take, Nat.min_eq_left (by omega)]
  have HT := Lib.hid hT1
  have hsrc1 := hsrc w.drew hh
  have hsz1 : (cur.toList.take (i * 5) ++ cs ++ cur.toList.drop (i * 5 + cs.length)).toArray.size = c * 5 := by
    simp; rw [← Array.length_toList] at hsz; simp at hsz; omega
  have HS1 := Lib.hid hsz1
  have hlr : (l.take i ++ l.drop (i + 1)).length = r := by rw [List.length_append, List.length_take, List.length_drop]; omega
  have HLR := Lib.hid hlr
  have hfit2 : r * 5 + 5 ≤ (cur.toList.take (i * 5) ++ cs ++ cur.toList.drop (i * 5 + cs.length)).toArray.size := by rw [hsz1]; omega
  have HF2 := Lib.hid hfit2
  have hhd : w.drew.heap[g]? = some (.cells cur 34) := hh
  have hicm : i + m ≤ c := by omega
  have HRN := Lib.hid hrn
  have HRC := Lib.hid (show r ≤ c by omega)
  have hrn2 : (r : Int) < (n : Int) := by omega
  have HR := Lib.hid hr
  have HSR := Lib.hid hsrc1
  have HFT := Lib.hid hfit
  have HON := Lib.hid hone
  have HIC := Lib.hid hicm
  have HHD := Lib.hid hhd
  have HBG := Lib.hid hg
  have HMX := Lib.hid hmx
  clear hR ht hcs hT1 hsz1 hlr hfit2 hrn had hsrc hr hsrc1 hfit hone hicm hhd hh hcl hm hsc hsz hl hg hmx
  go_enter Try.func53, Try.ntmps53
  go_upto_region 5 with fail
  go_region_law (refine step_append_mails rfl _ _ rfl g i c m r sc ad rfl rfl HR.out cur HHD.out cs HC.out HSR.out HIC.out HFT.out HON.out ?_; intro w2 hw2 hg2)
  all_goals (first | done | skip)
  all_goals go_wp2_with (refine wpList_clear_mail rfl _ rfl g (r * 5) (c - r) rfl _ hw2.out HF2.out ?_; intro w3 cur3 hw3 hl3 ht3 hg3)
  all_goals (go_ret; exact ⟨r, HRN.out, rfl, ⟨by rw [flat_len], Or.inr ⟨g, c, _, by rw [HLR.out], HBG.out, hw3.out, by rw [HLR.out]; exact HRC.out, HMX.out, by rw [List.size_toArray, hl3.out, HS1.out], by rw [HLR.out]; exact ht3.out.trans HT.out⟩⟩, World.grownBy.trans ⟨hg2.os, hg2.tape, hg2.output, hg2.size, hg2.block⟩ hg3⟩)
end Go.Proofs.Ytnjabhjcnkbgpaa
