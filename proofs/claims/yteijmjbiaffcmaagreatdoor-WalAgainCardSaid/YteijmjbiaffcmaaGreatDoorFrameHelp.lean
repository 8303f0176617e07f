/- Contracts of the laws' own short, few and same. -/
import Derived.Test.YteijmjbiaffcmaaGreatDoorFrameRows
import Derived.BigQuiet
import Derived.WalkSmall
import Derived.Maps.AppendAt
set_option maxRecDepth 20000
namespace Go.Proofs.YteijmjbiaffcmaaGreatDoor
open Go.RowKit Go.Proofs.YteijmjbiaffcmaaGreatDoor.Vi

/-- At most twenty texts, of three hundred bytes at most. -/
def fewL (l : List ByteArray) : List ByteArray := (l.take 20).map fun s => cutB s 300
theorem fewL_len (l : List ByteArray) : (fewL l).length = min 20 l.length := by unfold fewL; simp
theorem fewL_size (l : List ByteArray) : ∀ s ∈ fewL l, s.size ≤ 300 := by
  intro s hs
  obtain ⟨x, _, rfl⟩ := List.mem_map.1 hs
  exact (cutB_size x 300).1
theorem few_snoc (l : List ByteArray) (k : Nat) (h : k < l.length) : (l.take (k + 1)).map (fun s => cutB s 300) = (l.take k).map (fun s => cutB s 300) ++ [cutB l[k] 300] := by
  rw [List.take_succ_eq_append_getElem h, List.map_append]; rfl
/-- What few leaves. -/
def FewDone (l : List ByteArray) (w : World) (e : Ending) (w' : World) : Prop := ∃ v, e = .returned v ∧ SRow w' w.heap.size v l ∧ (l = [] → v = .slice none 0 0) ∧ Below w.heap.size w w'

theorem head_run (a : Option Addr) (n c k : Nat) (hk : k ≤ c) (w : World) : (Instr.slice 34 (.slice a n c) none (some (.int .i64 (k : Int))) none).run Tryz.prog w = .ok (sliced a 0 k c 1) w := by
  rw [run_slice_h (P := Tryz.prog) w 34 a n c Tryz.underlying34 .i64 (k : Int) (by omega) (by omega)]
  have : (sizeOf (Tryz.prog.elem 34)).run Tryz.prog w = .ok 1 w := by kernel_rfl
  rw [this, Int.toNat_natCast]; rfl
theorem tail_run (a : Option Addr) (n c k : Nat) (hk : k ≤ n) (w : World) : (Instr.slice 34 (.slice a n c) (some (.int .i64 (k : Int))) none none).run Tryz.prog w = .ok (sliced a k n c 1) w := by
  rw [run_slice_l (P := Tryz.prog) w 34 a n c Tryz.underlying34 .i64 (k : Int) (by omega) (by omega)]
  have : (sizeOf (Tryz.prog.elem 34)).run Tryz.prog w = .ok 1 w := by kernel_rfl
  rw [this, Int.toNat_natCast]; rfl
/-- What a cut at the head, or at the tail, makes of a slice of texts. -/
def HeadRun (a : Option Addr) (n c k : Nat) (v : Value) : Prop := (∀ w, (Instr.slice 34 (.slice a n c) none (some (.int .i64 (k : Int))) none).run Tryz.prog w = .ok v w) ∧ ∀ w, (Instr.sliceAt 34 (.slice a n c) none (some (.int .i64 (k : Int))) none).run Tryz.prog w = .ok v w
def TailRun (a : Option Addr) (n c k : Nat) (v : Value) : Prop := (∀ w, (Instr.slice 34 (.slice a n c) (some (.int .i64 (k : Int))) none none).run Tryz.prog w = .ok v w) ∧ ∀ w, (Instr.sliceAt 34 (.slice a n c) (some (.int .i64 (k : Int))) none none).run Tryz.prog w = .ok v w
theorem SRow.cutHead {w : World} {B : Nat} {a : Option Addr} {n c : Nat} {xs : List ByteArray} (h : SRow w B (.slice a n c) xs) (k : Nat) (hk : k ≤ xs.length) : ∃ v, HeadRun a n c k v ∧ Ss w v (xs.take k) := by
  obtain ⟨h1, h2⟩ := h.head k hk
  exact ⟨_, ⟨head_run a n c k h1, fun w => (run_sliceAt_slice (P := Tryz.prog) w 34 _ _ _ _ Tryz.underlying34).trans (head_run a n c k h1 w)⟩, h2⟩
theorem SRow.cutTail {w : World} {B : Nat} {a : Option Addr} {n c : Nat} {xs : List ByteArray} (h : SRow w B (.slice a n c) xs) (k : Nat) (hk : k ≤ xs.length) : ∃ v, TailRun a n c k v ∧ Ss w v (xs.drop k) := by
  obtain ⟨h1, h2⟩ := h.tail k hk
  exact ⟨_, ⟨tail_run a n c k (by omega), fun w => (run_sliceAt_slice (P := Tryz.prog) w 34 _ _ _ _ Tryz.underlying34).trans (tail_run a n c k (by omega) w)⟩, h2⟩

/-- Slices of the call's own that lie in no one block. -/
def Apart (u v : Value) : Prop := u.ownBlock = none ∨ u.ownBlock ≠ v.ownBlock
theorem Apart.symm {u v : Value} (h : Apart u v) : Apart v u := by
  rcases h with h | h
  · cases e : v.ownBlock with
    | none => exact Or.inl e
    | some x => exact Or.inr (by rw [e, h]; simp)
  · exact Or.inr fun e => h e.symm
theorem Apart.nil (v : Value) : Apart (.slice none 0 0) v := Or.inl rfl
/-- A slice of the call's own has become v'. -/
structure Grew (w w' : World) (v v' : Value) : Prop where
  grown : w.grownBy w' v.ownBlock
  spot : v'.ownBlock = v.ownBlock ∨ ∃ q, v'.ownBlock = some q ∧ w.heap.size ≤ q
theorem Grew.keep {w w' : World} {v v' u : Value} (G : Grew w w' v v') {B size n : Nat} {e : TypeId} {xs : List Value} (h : w.ownsRow B e size u n xs) (hap : Apart u v) : w'.ownsRow B e size u n xs ∧ Apart u v' := by
  refine ⟨h.kept G.grown hap, ?_⟩
  rcases G.spot with e | ⟨q, e, hq⟩
  · rcases hap with h1 | h1
    · exact Or.inl h1
    · exact Or.inr (by rw [e]; exact h1)
  · cases e2 : u.ownBlock with
    | none => exact Or.inl e2
    | some p =>
      have := (h.lt p e2).2
      exact Or.inr (by rw [e, e2]; simp; omega)
theorem Grew.below {w w' : World} {v v' : Value} (G : Grew w w' v v') {B C size n : Nat} {e : TypeId} {xs : List Value} (h : w.ownsRow B e size v n xs) (hC : C ≤ B) (hw : C ≤ w.heap.size) : Below C w w' :=
  (Below.refl C w).grown G.grown hw fun q hq => Nat.le_trans hC (h.lt q hq).1
/-- One text appended to a slice of the call's own: for the walk. It lies in a block of its own. -/
theorem wpList_srow {w : World} {ops : Array Oper} {rest : List Oper} {o : Oper} {a : Act} {Q : Exit → Act → World → Prop} (hgd : o.guard = none) (sl x : Operand)
    (ho : o.op = .call { callee := .builtin .append, args := #[sl, x], argTypes := #[34, 34] })
    (B : Nat) (v : Value) (xs : List ByteArray) (hs : a.eval sl = v) (y : ByteArray) (hx : a.eval x = .slice (some ⟨w.heap.size, 0, none⟩) 1 1) (hown : SRow w B v xs) (hB : B ≤ w.heap.size) (hl : xs.length ≤ 1000000)
    (h : ∀ v' w', SRow w' B v' (xs ++ [y]) → Below B w w' → Grew w w' v v' → wpList Tryz.prog ops Q rest (a.put o.dst v') w') : wpList Tryz.prog ops Q (o :: rest) a (w.alloc (.cells #[.string y] 9)) := by
  obtain ⟨i0, hi, hz0, hz1, hz2⟩ := info_parts infoS
  have hr := hown.later ((Below.refl _ w).alloc (Nat.le_refl _) (.cells #[.string y] 9))
  refine wpList_append_own_at (w := w.alloc (.cells #[.string y] 9)) hgd sl x 34 ho B 9 i0 (.string ⟨#[]⟩) 1 16 Tryz.underlying34 hi hz0 hz1 hz2 rfl (by decide) v xs.length (xs.map Value.string) hs hr ⟨w.heap.size, 0, none⟩ 1 1 [.string y] hx rfl ?_ ?_ (by unfold maxLen; omega) (by omega) (by simp; omega) ?_
  · intro j u hj
    match j, hj with
    | 0, hj => simp at hj; subst hj; simp [Addr.add]
  · intro u hu; simp at hu; subst hu; rfl
  · intro v' w' h2 h3 _ h4
    have G : Grew w w' v v' := ⟨(World.grownBy_alloc w _ _).trans h3, by
      rcases h4 with h4 | h4
      · exact Or.inl h4
      · exact Or.inr ⟨_, h4, by simp⟩⟩
    refine h v' w' ?_ (G.below hown (Nat.le_refl _) hB) G
    unfold SRow
    rw [List.length_append, List.map_append]
    exact h2
/-- One number appended to a slice of the call's own: for the walk. It lies in a block of its own. -/
theorem wpList_irow {w : World} {ops : Array Oper} {rest : List Oper} {o : Oper} {a : Act} {Q : Exit → Act → World → Prop} (hgd : o.guard = none) (sl x : Operand)
    (ho : o.op = .call { callee := .builtin .append, args := #[sl, x], argTypes := #[38, 38] })
    (B : Nat) (v : Value) (xs : List Int) (hs : a.eval sl = v) (y : Int) (hx : a.eval x = .slice (some ⟨w.heap.size, 0, none⟩) 1 1) (hown : IRow w B v xs) (hB : B ≤ w.heap.size) (hl : xs.length ≤ 1000000)
    (h : ∀ v' w', IRow w' B v' (xs ++ [y]) → Below B w w' → Grew w w' v v' → wpList Tryz.prog ops Q rest (a.put o.dst v') w') : wpList Tryz.prog ops Q (o :: rest) a (w.alloc (.cells #[.int .i64 y] 3)) := by
  obtain ⟨i0, hi, hz0, hz1, hz2⟩ := info_parts infoI
  have hr := hown.later ((Below.refl _ w).alloc (Nat.le_refl _) (.cells #[.int .i64 y] 3))
  refine wpList_append_own_at (w := w.alloc (.cells #[.int .i64 y] 3)) hgd sl x 38 ho B 3 i0 (.int .i64 0) 1 8 Tryz.underlying38 hi hz0 hz1 hz2 rfl (by decide) v xs.length (xs.map icell) hs hr ⟨w.heap.size, 0, none⟩ 1 1 [.int .i64 y] hx rfl ?_ ?_ (by unfold maxLen; omega) (by omega) (by simp; omega) ?_
  · intro j u hj
    match j, hj with
    | 0, hj => simp at hj; subst hj; simp [Addr.add]
  · intro u hu; simp at hu; subst hu; rfl
  · intro v' w' h2 h3 _ h4
    have G : Grew w w' v v' := ⟨(World.grownBy_alloc w _ _).trans h3, by
      rcases h4 with h4 | h4
      · exact Or.inl h4
      · exact Or.inr ⟨_, h4, by simp⟩⟩
    refine h v' w' ?_ (G.below hown (Nat.le_refl _) hB) G
    unfold IRow
    rw [List.length_append, List.map_append]
    exact h2

/-- Whether two lists of texts are the same. -/
def sameS (a b : List ByteArray) : Bool := decide (a = b)
theorem sameS_len {a b : List ByteArray} (h : a.length ≠ b.length) : sameS a b = false := by
  unfold sameS; simp; intro e; exact h (by rw [e])
theorem sameS_no {a b : List ByteArray} {k : Nat} (h1 : k < a.length) (h2 : k < b.length) (h : a[k] ≠ b[k]) : sameS a b = false := by
  unfold sameS; simp; rintro rfl; exact h rfl
theorem sameS_yes {a b : List ByteArray} (h : a.length = b.length) (hk : ∀ j (h1 : j < a.length) (h2 : j < b.length), a[j] = b[j]) : sameS a b = true := by
  unfold sameS; simp; exact List.ext_getElem h hk
theorem sameS_self (a : List ByteArray) : sameS a a = true := by unfold sameS; simp

end Go.Proofs.YteijmjbiaffcmaaGreatDoor
