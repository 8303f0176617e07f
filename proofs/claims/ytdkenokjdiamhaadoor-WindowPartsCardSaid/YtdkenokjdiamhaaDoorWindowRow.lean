/- Laws of rows of spans: copy, clear, cuts, overlaps. -/
import Derived.Test.YtdkenokjdiamhaaDoorWindowSet
import Derived.Laws.CopyOwn
import Derived.Deep.RegionLaw
import Derived.Lib.Overlaps
import Derived.Lib.AppendZerosOnto
import Derived.Laws.AppendOwnNone
set_option maxRecDepth 20000
namespace Go.Proofs.YtdkenokjdiamhaaDoor
open Go.RowKit

theorem grown_setRow (w : World) (g : Nat) (cs : Array Value) : w.grownBy (w.setRow g cs) (some g) :=
  ⟨rfl, rfl, rfl, by simp [World.setRow], fun k _ h => setRow_other w g k cs (fun e => h (by rw [e]))⟩
theorem run_copy_rows {P : Program} (w : World) (dT sT ty elem : TypeId) (size g o dLen dCap : Nat) (a : Addr) (sLen sCap : Nat) (cur : Array Value) (t : TypeId) (cs : List Value)
    (hu : P.underlying dT = some (.slice elem)) (hs : (P.info? elem).map (·.size) = some size)
    (hg : w.heap[g]? = some (.cells cur t (0, 0))) (hn : cs.length = Nat.min sLen dLen * size)
    (hsrc : ∀ j v, cs[j]? = some v → w.cell? (a.add j) = some v) (hfit : o + cs.length ≤ cur.size) (h1 : ∀ v ∈ cs, v.oneCell' = true) :
    (Builtin.copy_ #[dT, sT] ty #[.slice (some ⟨g, o, none⟩) dLen dCap, .slice (some a) sLen sCap]).run P w =
      .ok (goInt (Nat.min sLen dLen)) (w.setRow g (cur.toList.take o ++ cs ++ cur.toList.drop (o + cs.length)).toArray) := by
  have hl := run_loadCells_list (P := P) w a cs hsrc
  have hst := run_storeCells_at P g o t cs 0 cur w hg (by simpa using hfit) h1
  rw [hn] at hl
  cases hq : P.info? elem with
  | none => simp [hq] at hs
  | some i =>
    have hi : i.size = size := by simpa [hq] using hs
    simp [Builtin.copy_, run_underlying hu, Builtin.lenOf, Builtin.firstCells, sizeOf, typeInfo, hq, hi, hl, hst]
theorem run_copy_none2 {P : Program} (w : World) (dT sT ty elem : TypeId) (size : Nat) (d a : Option Addr) (dLen dCap sLen sCap : Nat) (hu : P.underlying dT = some (.slice elem)) (hs : (P.info? elem).map (·.size) = some size) (hn : Nat.min sLen dLen = 0) :
    (Builtin.copy_ #[dT, sT] ty #[.slice d dLen dCap, .slice a sLen sCap]).run P w = .ok (goInt 0) w := by
  cases hq : P.info? elem with
  | none => simp [hq] at hs
  | some i =>
    have hl : ∀ x : Addr, (loadCells x 0).run P w = .ok #[] w := fun x => run_loadCells_list (P := P) w x [] (by simp)
    cases d <;> cases a <;> simp [Builtin.copy_, run_underlying hu, Builtin.lenOf, Builtin.firstCells, sizeOf, typeInfo, hq, hn, hl, storeCells]
theorem run_clear_rows {P : Program} (w : World) (t e ty : TypeId) (z : Value) (ht : P.underlying t = some (.slice e)) (hv : ∀ w, (zeroValue e).run P w = .ok z w) (g o n c : Nat) (cur : Array Value) (T : TypeId)
    (hg : w.heap[g]? = some (.cells cur T (0, 0))) (hn : 0 < n) (hfit : o + n * z.cells.size ≤ cur.size) (h1 : ∀ v ∈ (Builtin.zeroCells z.cells n).toList, v.oneCell' = true) :
    (Builtin.clear_ #[t] ty #[.slice (some ⟨g, o, none⟩) n c]).run P w =
      .ok (.tuple #[]) (w.setRow g (cur.toList.take o ++ (Builtin.zeroCells z.cells n).toList ++ cur.toList.drop (o + (Builtin.zeroCells z.cells n).toList.length)).toArray) := by
  have hst := run_storeCells_at P g o T (Builtin.zeroCells z.cells n).toList 0 cur w hg (by simpa [Builtin.zeroCells] using hfit) h1
  simp only [Nat.add_zero] at hst
  obtain ⟨m, rfl⟩ : ∃ m, n = m + 1 := ⟨n - 1, by omega⟩
  simp [Builtin.clear_, run_underlying ht, hv, hst]

section
variable {ops : Array Oper} {rest : List Oper} {o : Oper} {a : Act} {w : World}
theorem sizeSp : (Tryd.prog.info? 26).map (·.size) = some 2 := by kernel_rfl
abbrev SPT : TypeId := 29
theorem undSpT : Tryd.prog.underlying SPT = some (.slice 26) := Tryd.underlying29
/-- A copy of spans into a row. -/
theorem wpList_copy_rows {Q : Exit → Act → World → Prop} (hgd : o.guard = none) (d s : Operand)
    (ho : o.op = .call { callee := .builtin .copy, args := #[d, s], argTypes := #[SPT, SPT] })
    (dp sp : Option Addr) (dLen dCap sLen sCap : Nat) (hd : a.eval d = .slice dp dLen dCap) (hs : a.eval s = .slice sp sLen sCap)
    (g off : Nat) (cur : List Value) (t : TypeId) (hg : w.heap[g]? = some (.cells cur.toArray t (0, 0))) (cs : List Value) (hn : cs.length = Nat.min sLen dLen * 2)
    (hpos : 0 < cs.length → dp = some ⟨g, off, none⟩ ∧ ∃ ad, sp = some ad ∧ ∀ j v, cs[j]? = some v → w.cell? (ad.add j) = some v)
    (hfit : off + cs.length ≤ cur.length) (h1 : ∀ v ∈ cs, v.oneCell' = true)
    (h : ∀ w', Hid (w'.heap[g]? = some (.cells (splice cur off cs).toArray t (0, 0))) → w.grownBy w' (some g) → wpList Tryd.prog ops Q rest (a.put o.dst (goInt (Nat.min sLen dLen))) w') :
    wpList Tryd.prog ops Q (o :: rest) a w := by
  refine wpList_plain hgd fun K hK => ?_
  by_cases h0 : cs.length = 0
  · obtain rfl : cs = [] := List.eq_nil_of_length_eq_zero h0
    have hm : Nat.min sLen dLen = 0 := by simp only [List.length_nil] at hn; omega
    have hrun := run_copy_none2 (P := Tryd.prog) w SPT SPT o.type 26 2 dp sp dLen dCap sLen sCap undSpT sizeSp hm
    have hf := h w (show _ = _ by simpa [splice] using hg) (World.grownBy.refl _ _)
    rw [hm] at hf
    unfold Oper.wp
    simp [execOp, ho, resolve, invoke, builtin, hd, hs, hrun, Result.andThen]
    exact hK _ _ hf
  · obtain ⟨rfl, ad, rfl, hsrc⟩ := hpos (by omega)
    have hrun := run_copy_rows (P := Tryd.prog) w SPT SPT o.type 26 2 g off dLen dCap ad sLen sCap cur.toArray t cs undSpT sizeSp hg hn hsrc (by simpa using hfit) h1
    rw [List.append_assoc] at hrun
    have hf := h _ (show _ = _ by simpa [splice] using setRow_heap w g _ _ t _ hg) (grown_setRow _ _ _)
    unfold Oper.wp
    simp only [execOp, ho, resolve, invoke, builtin, Sem.run_bind, Sem.run_pure, Result.andThen_ok, List.map_toArray, List.map_cons, List.map_nil, hd, hs, hrun]
    exact hK _ _ hf
theorem step_copy_rows {K : Act → World → Prop} {Q : Exit → Act → World → Prop} {E : Prop} (hgd : o.guard = none) (d s : Operand)
    (ho : o.op = .call { callee := .builtin .copy, args := #[d, s], argTypes := #[SPT, SPT] })
    (dp sp : Option Addr) (dLen dCap sLen sCap : Nat) (hd : a.eval d = .slice dp dLen dCap) (hs : a.eval s = .slice sp sLen sCap)
    (g off : Nat) (cur : List Value) (t : TypeId) (hg : w.heap[g]? = some (.cells cur.toArray t (0, 0))) (cs : List Value) (hn : cs.length = Nat.min sLen dLen * 2)
    (hpos : 0 < cs.length → dp = some ⟨g, off, none⟩ ∧ ∃ ad, sp = some ad ∧ ∀ j v, cs[j]? = some v → w.cell? (ad.add j) = some v)
    (hfit : off + cs.length ≤ cur.length) (h1 : ∀ v ∈ cs, v.oneCell' = true)
    (h : ∀ w', Hid (w'.heap[g]? = some (.cells (splice cur off cs).toArray t (0, 0))) → w.grownBy w' (some g) → K (a.put o.dst (goInt (Nat.min sLen dLen))) w') :
    if Region.wanted o (yielded ops a.tmps) = true then Oper.wp Tryd.prog o a w K Q else E := by
  have hw : Region.wanted o (yielded ops a.tmps) = true := by simp [Region.wanted, hgd]
  rw [if_pos hw]
  by_cases h0 : cs.length = 0
  · obtain rfl : cs = [] := List.eq_nil_of_length_eq_zero h0
    have hm : Nat.min sLen dLen = 0 := by simp only [List.length_nil] at hn; omega
    have hrun := run_copy_none2 (P := Tryd.prog) w SPT SPT o.type 26 2 dp sp dLen dCap sLen sCap undSpT sizeSp hm
    have hf := h w (show _ = _ by simpa [splice] using hg) (World.grownBy.refl _ _)
    rw [hm] at hf
    unfold Oper.wp
    simp [execOp, ho, resolve, invoke, builtin, hd, hs, hrun, Result.andThen]
    exact hf
  · obtain ⟨rfl, ad, rfl, hsrc⟩ := hpos (by omega)
    have hrun := run_copy_rows (P := Tryd.prog) w SPT SPT o.type 26 2 g off dLen dCap ad sLen sCap cur.toArray t cs undSpT sizeSp hg hn hsrc (by simpa using hfit) h1
    rw [List.append_assoc] at hrun
    have hf := h _ (show _ = _ by simpa [splice] using setRow_heap w g _ _ t _ hg) (grown_setRow _ _ _)
    unfold Oper.wp
    simp [execOp, ho, resolve, invoke, builtin, hd, hs, hrun, Result.andThen]
    exact hf
theorem zeroSp (w : World) : (zeroValue 26).run Tryd.prog w = .ok (.agg #[.int .i64 0, .int .i64 0]) w := by kernel_rfl
/-- A tail of a row is cleared: what stands ahead of it stays. -/
theorem wpList_clear_rows {Q : Exit → Act → World → Prop} (hgd : o.guard = none) (s : Operand)
    (ho : o.op = .call { callee := .builtin .clear, args := #[s], argTypes := #[SPT] })
    (sp : Option Addr) (n c : Nat) (hs : a.eval s = .slice sp n c)
    (g off : Nat) (cur : List Value) (t : TypeId) (hg : w.heap[g]? = some (.cells cur.toArray t (0, 0)))
    (hpos : 0 < n → sp = some ⟨g, off, none⟩) (hfit : off + n * 2 ≤ cur.length)
    (h : ∀ w' cur', Hid (w'.heap[g]? = some (.cells (List.toArray cur') t (0, 0))) → Hid (cur'.length = cur.length) → Hid (∀ k, k ≤ off → cur'.take k = cur.take k) → w.grownBy w' (some g) → wpList Tryd.prog ops Q rest (a.put o.dst (.tuple #[])) w') :
    wpList Tryd.prog ops Q (o :: rest) a w := by
  refine wpList_plain hgd fun K hK => ?_
  by_cases h0 : n = 0
  · subst h0
    have hrun : (Builtin.clear_ #[SPT] o.type #[.slice sp 0 c]).run Tryd.prog w = .ok (.tuple #[]) w := by cases sp <;> simp [Builtin.clear_, run_underlying undSpT]
    have hf := h w cur hg rfl (fun _ _ => rfl) (World.grownBy.refl _ _)
    unfold Oper.wp
    simp only [execOp, ho, resolve, invoke, builtin, Sem.run_bind, Sem.run_pure, Result.andThen_ok, List.map_toArray, List.map_cons, List.map_nil, hs, hrun]
    exact hK _ _ hf
  · obtain rfl := hpos (by omega)
    have hzl : (Builtin.zeroCells (Value.agg #[.int .i64 0, .int .i64 0]).cells n).toList.length = n * 2 := by simp [Builtin.zeroCells, Value.cells]
    have hrun := run_clear_rows (P := Tryd.prog) w SPT 26 o.type (.agg #[.int .i64 0, .int .i64 0]) undSpT zeroSp g off n c cur.toArray t hg (by omega) (by simpa [Value.cells] using hfit) (by
      intro v hv
      simp only [Builtin.zeroCells, Array.toList_map, List.mem_map] at hv
      obtain ⟨i, _, rfl⟩ := hv
      have : ∀ r, r < 2 → (#[Value.int .i64 0, Value.int .i64 0][r]!).oneCell' = true := by intro r hr; match r, hr with | 0, _ => rfl | 1, _ => rfl
      exact this _ (Nat.mod_lt _ (by decide)))
    generalize (Builtin.zeroCells (Value.agg #[.int .i64 0, .int .i64 0]).cells n).toList = zs at hzl hrun
    rw [List.append_assoc] at hrun
    have hf := h _ (cur.take off ++ (zs ++ cur.drop (off + zs.length))) (show _ = _ by simpa using setRow_heap w g _ _ t _ hg) (show _ = _ by simp; omega)
      (fun k hk => by rw [List.take_append_of_le_length (by simp; omega), List.take_take, Nat.min_eq_left hk]) (grown_setRow _ _ _)
    unfold Oper.wp
    simp only [execOp, ho, resolve, invoke, builtin, Sem.run_bind, Sem.run_pure, Result.andThen_ok, List.map_toArray, List.map_cons, List.map_nil, hs, hrun]
    exact hK _ _ hf
end

/-- What cuts of a row make. -/
theorem cut_from (x : Option Addr) (n c lo : Nat) (z : Int) (hz : z = (lo : Int)) (h : lo ≤ n) : ∃ p : Option Addr, (lo < c → p = x.map (·.add (lo * 2))) ∧ (∀ w, (Instr.slice SPT (.slice x n c) (some (.int .i64 z)) none none).run Tryd.prog w = .ok (.slice p (n - lo) (c - lo)) w) ∧
    ∀ w, (Instr.sliceAt SPT (.slice x n c) (some (.int .i64 z)) none none).run Tryd.prog w = .ok (.slice p (n - lo) (c - lo)) w := by
  have e : ∀ w, (Instr.slice SPT (.slice x n c) (some (.int .i64 z)) none none).run Tryd.prog w = .ok (sliced x lo n c 2) w := fun w => by
    rw [run_slice_l (P := Tryd.prog) w SPT _ n c undSpT .i64 z (by omega) (by omega)]
    have : (sizeOf (Tryd.prog.elem SPT)).run Tryd.prog w = .ok 2 w := by kernel_rfl
    rw [this, hz, Int.toNat_natCast]; rfl
  refine ⟨if c = lo then x else x.map (·.add (lo * 2)), fun h => if_neg (by omega), fun w => by rw [e w]; rfl, fun w => ?_⟩
  rw [run_sliceAt_slice (P := Tryd.prog) w SPT _ _ _ _ undSpT, e w]; rfl
theorem add_row (g lo : Nat) : ((some ⟨g, 0, none⟩ : Option Addr).map (·.add (lo * 2))) = some ⟨g, lo * 2, none⟩ := by
  have hp : (⟨g, 0, none⟩ : Addr).add (lo * 2) = ⟨g, lo * 2, none⟩ := by unfold Addr.add; split <;> simp_all
  simp [hp]
theorem cut_to (g n c hi : Nat) (z : Int) (hz : z = (hi : Int)) (hc : hi ≤ c) : (∀ w, (Instr.slice SPT (.slice (some ⟨g, 0, none⟩) n c) none (some (.int .i64 z)) none).run Tryd.prog w = .ok (.slice (some ⟨g, 0, none⟩) hi c) w) ∧
    ∀ w, (Instr.sliceAt SPT (.slice (some ⟨g, 0, none⟩) n c) none (some (.int .i64 z)) none).run Tryd.prog w = .ok (.slice (some ⟨g, 0, none⟩) hi c) w := by
  have e : ∀ w, (Instr.slice SPT (.slice (some ⟨g, 0, none⟩) n c) none (some (.int .i64 z)) none).run Tryd.prog w = .ok (.slice (some ⟨g, 0, none⟩) hi c) w := fun w => by
    rw [run_slice_h (P := Tryd.prog) w SPT _ n c undSpT .i64 z (by omega) (by omega)]
    have : (sizeOf (Tryd.prog.elem SPT)).run Tryd.prog w = .ok 2 w := by kernel_rfl
    rw [this, hz, Int.toNat_natCast]
    unfold sliced
    show Result.ok _ _ = _
    have hp : (⟨g, 0, none⟩ : Addr).add (0 * 2) = ⟨g, 0, none⟩ := by unfold Addr.add; split <;> simp_all
    split <;> simp [hp]
  exact ⟨e, fun w => by rw [run_sliceAt_slice (P := Tryd.prog) w SPT _ _ _ _ undSpT, e w]⟩
/-- s[i:j]: the place of what it has. -/
theorem cut_mid (x : Option Addr) (n c i j : Nat) (zi zj : Int) (hzi : zi = (i : Int)) (hzj : zj = (j : Int)) (h : i ≤ j) (hc : j ≤ c) : ∃ p : Option Addr, (i < c → p = x.map (·.add (i * 2))) ∧ (∀ w, (Instr.slice SPT (.slice x n c) (some (.int .i64 zi)) (some (.int .i64 zj)) none).run Tryd.prog w = .ok (.slice p (j - i) (c - i)) w) ∧
    ∀ w, (Instr.sliceAt SPT (.slice x n c) (some (.int .i64 zi)) (some (.int .i64 zj)) none).run Tryd.prog w = .ok (.slice p (j - i) (c - i)) w := by
  have e : ∀ w, (Instr.slice SPT (.slice x n c) (some (.int .i64 zi)) (some (.int .i64 zj)) none).run Tryd.prog w = .ok (sliced x i j c 2) w := fun w => by
    rw [run_slice_lh (P := Tryd.prog) w SPT _ n c undSpT .i64 .i64 zi zj (by omega) (by omega) (by omega)]
    have : (sizeOf (Tryd.prog.elem SPT)).run Tryd.prog w = .ok 2 w := by kernel_rfl
    rw [this, hzi, hzj, Int.toNat_natCast, Int.toNat_natCast]; rfl
  refine ⟨if c = i then x else x.map (·.add (i * 2)), fun h => if_neg (by omega), fun w => ?_, fun w => ?_⟩
  · rw [e w]; rfl
  · rw [run_sliceAt_slice (P := Tryd.prog) w SPT _ _ _ _ undSpT, e w]; rfl

theorem flat_cells (b off : Nat) (w : World) : ∀ l : List Sp, (∀ j (h : j < l.length), SpO w b (off + j * 2) l[j]) → ∀ j v, (l.flatMap cells2)[j]? = some v → w.cell? ⟨b, off + j, none⟩ = some v := by
  intro l h j v hv
  have hj : j < (l.flatMap cells2).length := (List.getElem?_eq_some_iff.1 hv).1
  rw [flat2_len] at hj
  have e : j = (j / 2) * 2 + j % 2 := by omega
  have hlt : j / 2 < l.length := by omega
  obtain ⟨c0, c1⟩ := h (j / 2) hlt
  have hq := flat2_at l (j / 2) hlt (j % 2) (by omega)
  rw [← e, hv] at hq
  have h2 : j % 2 = 0 ∨ j % 2 = 1 := by omega
  rcases h2 with h2 | h2
  · rw [h2] at hq
    have : off + j = off + j / 2 * 2 := by omega
    rw [this, c0, hq]; rfl
  · rw [h2] at hq
    have : off + j = off + j / 2 * 2 + 1 := by omega
    rw [this, c1, hq]; rfl
theorem flat_one (l : List Sp) : ∀ v ∈ l.flatMap cells2, v.oneCell' = true := by
  intro v hv
  obtain ⟨s, _, h⟩ := List.mem_flatMap.1 hv
  unfold cells2 at h
  rcases List.mem_cons.1 h with rfl | h
  · rfl
  · rw [List.mem_singleton] at h; subst h; rfl
theorem sp_ab {α : Type} (cur A B C : List α) (hA : cur.take A.length = A) : (splice (splice cur A.length B) (A.length + B.length) C).take (A.length + B.length + C.length) = A ++ B ++ C := by
  have e : splice cur A.length B = (A ++ B) ++ cur.drop (A.length + B.length) := by unfold splice; rw [hA, List.append_assoc]
  have e2 : (splice cur A.length B).take (A.length + B.length) = A ++ B := by rw [e, List.take_left' (by simp)]
  rw [splice, e2, ← List.append_assoc, List.take_left' (by simp; omega)]
theorem sp_ba {α : Type} (cur A B C : List α) (hA : cur.take A.length = A) (hl : A.length + B.length + C.length ≤ cur.length) : (splice (splice cur (A.length + B.length) C) A.length B).take (A.length + B.length + C.length) = A ++ B ++ C := by
  have e : splice cur (A.length + B.length) C = cur.take (A.length + B.length) ++ (C ++ cur.drop (A.length + B.length + C.length)) := rfl
  have hlen : (cur.take (A.length + B.length)).length = A.length + B.length := by rw [List.length_take]; omega
  have e2 : (splice cur (A.length + B.length) C).take A.length = A := by
    rw [e, List.take_append_of_le_length (by omega), List.take_take, Nat.min_eq_left (by omega), hA]
  have e3 : (splice cur (A.length + B.length) C).drop (A.length + B.length) = C ++ cur.drop (A.length + B.length + C.length) := by
    rw [e, List.drop_left' hlen]
  rw [splice, e2, e3]
  have e4 : A ++ (B ++ (C ++ cur.drop (A.length + B.length + C.length))) = (A ++ B ++ C) ++ cur.drop (A.length + B.length + C.length) := by simp
  rw [e4, List.take_left' (by simp; omega)]

/-- What the library's Insert and Replace leave: the row as it should be, of what was there only the old row may have turned. -/
def RepDone (B : Nat) (v : Value) (M : List Sp) (w : World) (e : Ending) (w' : World) : Prop :=
  ∃ v', e = .returned v' ∧ SpRow w' B v' M ∧ w.grownBy w' v.ownBlock ∧ (v'.ownBlock = v.ownBlock ∨ ∃ k, v'.ownBlock = some k ∧ w.heap.size ≤ k)
theorem grown_any {w w' : World} {r : Option Nat} (h : w.grownBy w' none) : w.grownBy w' r := ⟨h.os, h.tape, h.output, h.size, fun k hk _ => h.block k hk (by simp)⟩
/-- The spans l that are put in: in a block that is not the row's, and that is no text's. -/
def SrcOk (w : World) (r : Option Nat) (a : Option Addr) (l : List Sp) : Prop := l = [] ∨ ∃ b off, a = some ⟨b, off, none⟩ ∧ some b ≠ r ∧ (∀ j (h : j < l.length), SpO w b (off + j * 2) l[j]) ∧ ∀ j, w.frozen? ⟨b, j, none⟩ = false
/-- A row as it stands. -/
structure RowIs (w : World) (g c : Nat) (L : List Sp) (cur : List Value) : Prop where
  heap : w.heap[g]? = some (.cells cur.toArray 26 (0, 0))
  len : cur.length = c * 2
  fits : L.length ≤ c
  top : c ≤ maxLen
  has : cur.take (L.length * 2) = L.flatMap cells2
theorem RowIs.of {w : World} {B : Nat} {a : Option Addr} {c : Nat} {L : List Sp} (h : SpRow w B (.slice a L.length c) L) (hL : 0 < L.length) : ∃ g cur, a = some ⟨g, 0, none⟩ ∧ B ≤ g ∧ RowIs w g c L cur := by
  rcases h.2 with ⟨e, h0⟩ | ⟨g, cap, cur, e, hB, hg, hf, ht, hs, hx⟩
  · omega
  · injection e with e1 e2 e3
    subst e1 e3
    exact ⟨g, cur.toList, rfl, hB, ⟨by simpa using hg, by simpa using hs, hf, ht, hx⟩⟩
theorem RowIs.row {w : World} {B g c : Nat} {L : List Sp} {cur : List Value} (h : RowIs w g c L cur) (hB : B ≤ g) : SpRow w B (.slice (some ⟨g, 0, none⟩) L.length c) L :=
  ⟨by rw [flat2_len], Or.inr ⟨g, c, cur.toArray, rfl, hB, h.heap, h.fits, h.top, by simpa using h.len, by simpa using h.has⟩⟩
theorem RowIs.head {w : World} {g c : Nat} {L : List Sp} {cur : List Value} (h : RowIs w g c L cur) (i : Nat) (hi : i ≤ L.length) : cur.take (i * 2) = (L.take i).flatMap cells2 := by
  have : cur.take (i * 2) = (cur.take (L.length * 2)).take (i * 2) := by rw [List.take_take, Nat.min_eq_left (by omega)]
  rw [this, h.has]
  have hl : ((L.take i).flatMap cells2).length = i * 2 := by rw [flat2_len, List.length_take]; omega
  conv => lhs; rw [← List.take_append_drop i L, List.flatMap_append]
  exact List.take_left' hl
theorem RowIs.cells {w : World} {g c : Nat} {L : List Sp} {cur : List Value} (h : RowIs w g c L cur) (i : Nat) (hi : i ≤ L.length) : ∀ j v, ((L.drop i).flatMap cells2)[j]? = some v → w.cell? ⟨g, i * 2 + j, none⟩ = some v := by
  intro j v hv
  have hj := (List.getElem?_eq_some_iff.1 hv).1
  rw [flat2_len, List.length_drop] at hj
  have e : (L.flatMap cells2)[i * 2 + j]? = some v := by
    have hl : ((L.take i).flatMap cells2).length = i * 2 := by rw [flat2_len, List.length_take]; omega
    rw [← List.take_append_drop i L, List.flatMap_append, List.getElem?_append_right (by omega), hl]
    have : i * 2 + j - i * 2 = j := by omega
    rw [this]; exact hv
  rw [← h.has, List.getElem?_take] at e
  split at e
  · rw [cell_of_row w g _ cur.toArray _ (0, 0) h.heap]; simpa using e
  · cases e
end Go.Proofs.YtdkenokjdiamhaaDoor
