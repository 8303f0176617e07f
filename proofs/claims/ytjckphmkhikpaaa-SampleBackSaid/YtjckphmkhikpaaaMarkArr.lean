/- Arrays of eight numbers. -/
import Derived.Test.YtjckphmkhikpaaaMarkArgs
import Derived.Test.YtjckphmkhikpaaaMarkBel
import Derived.Laws.Rows
import Derived.Deep.MidRow
import Derived.Laws.IdiomCopy
namespace Go.Proofs.Ytjckphmkhikpaaa
open Go.RowKit Go.Proofs.Ytjckphmkhikpaaa.Vi Go.Proofs.Ytjckphmkhikpaaa.Mk

/-- Eight numbers as a value's cells. -/
def arrOf (f : Nat → Int) : Array Value := ((List.range 8).map fun i => Value.int .i64 (f i)).toArray
theorem arrOf_at (f : Nat → Int) (i : Nat) (h : i < 8) : (arrOf f)[i]? = some (.int .i64 (f i)) := by
  unfold arrOf; simp [h]
theorem arrOf_size (f : Nat → Int) : (arrOf f).size = 8 := by unfold arrOf; simp
/-- Block b holds eight numbers, the i-th f i, and they may be written. -/
def Arr (w : World) (b : Nat) (f : Nat → Int) : Prop := ∀ i, i < 8 → w.cell? ⟨b, i, none⟩ = some (.int .i64 (f i)) ∧ w.frozen? ⟨b, i, none⟩ = false
theorem Arr.new (w : World) (f : Nat → Int) (T : TypeId) : Arr (w.alloc (.cells (arrOf f) T)) w.heap.size f := by
  intro i hi
  constructor
  · rw [World.cell?_alloc_mark, arrOf_at f i hi]
  · rw [World.frozen?_alloc_mark]; simp
theorem Arr.room {w : World} {b : Nat} {f : Nat → Int} (h : Arr w b f) : b < w.heap.size := World.block_lt_of_cell? w _ (h 0 (by decide)).1
theorem Arr.below {w w' : World} {b : Nat} {f : Nat → Int} (h : Arr w b f) (hb : Below w.heap.size w w') : Arr w' b f := fun i hi =>
  ⟨(hb.cell (p := ⟨b, i, none⟩) h.room).trans (h i hi).1, (hb.frozen (p := ⟨b, i, none⟩) h.room).trans (h i hi).2⟩
def updI (f : Nat → Int) (p : Nat) (v : Int) : Nat → Int := fun q => if q = p then v else f q
theorem Arr.stored {w : World} {b : Nat} {f : Nat → Int} (h : Arr w b f) (p : Nat) (hp : p < 8) (v : Int) : Arr (w.setCell ⟨b, p, none⟩ (.int .i64 v)) b (updI f p v) := by
  intro q hq
  refine ⟨?_, by simp [go_sem, (h q hq).2]⟩
  unfold updI
  by_cases e : q = p
  · subst e
    rw [if_pos rfl]; simp [go_sem, (h q hq).1]
  · rw [if_neg e, World.cell?_setCell_other]
    · exact (h q hq).1
    · intro e2; exact e (congrArg Addr.off e2).symm
theorem Arr.drew {w : World} {b : Nat} {f : Nat → Int} (h : Arr w b f) : Arr w.drew b f := fun i hi => h i hi
theorem Arr.range {w : World} {b : Nat} {f : Nat → Int} (h : Arr w b f) : w.rangeAt b 0 (arrOf f).toList := by
  intro j v hj
  have : j < 8 := by
    have := (List.getElem?_eq_some_iff.1 hj).1
    rw [Array.length_toList, arrOf_size] at this; exact this
  rw [Array.getElem?_toList, arrOf_at f j this] at hj
  rw [Nat.zero_add, (h j this).1, hj]
theorem infoA : (Try.prog.info? 90).map (·.size) = some 8 := by kernel_rfl

theorem Arr.alloc {w : World} {b : Nat} {f : Nat → Int} (h : Arr w b f) (o : Obj) : Arr (w.alloc o) b f := by
  have hr := h.room
  intro i hi
  obtain ⟨h1, h2⟩ := h i hi
  exact ⟨by simp [go_sem, hr, h1], by simp [go_sem, hr, h2]⟩

theorem below_setCells {B : Nat} {w0 : World} (b : Nat) (hb : B ≤ b) : ∀ (vs : List Value) (o : Nat) (w : World), Below B w0 w → Below B w0 (w.setCells b o vs)
  | [], _, _, h => h
  | v :: r, o, _, h => below_setCells b hb r (o + 1) _ (h.setCell hb v)
theorem Arr.stored8 {w : World} {b : Nat} {f0 : Nat → Int} (h : Arr w b f0) (f : Nat → Int) : Arr (w.setCells b 0 (arrOf f).toList) b f := by
  intro i hi
  refine ⟨?_, ?_⟩
  · have := World.cell?_setCells_in b (arrOf f).toList 0 w (fun j hj => by
      rw [Array.length_toList, arrOf_size] at hj
      rw [Nat.zero_add, (h j hj).1]; rfl) i (by rw [Array.length_toList, arrOf_size]; exact hi)
    rw [Nat.zero_add] at this
    rw [this]
    have e := arrOf_at f i hi
    rw [Array.getElem?_eq_getElem (by rw [arrOf_size]; exact hi)] at e
    simpa using e
  · rw [World.frozen?_setCells]; exact (h i hi).2
/-- The laws of the load and of the store, at these cells. -/
theorem wpList_load_arr {ops : Array Oper} {rest : List Oper} {op : Oper} {a : Act} {w : World} {Q : Exit → Act → World → Prop} {b : Nat} {f : Nat → Int} (h : Arr w b f) (hgd : op.guard = none) (x : Operand) (ho : op.op = .load 90 x)
    (hx : a.eval x = .pointer (some ⟨b, 0, none⟩)) (k : wpList Try.prog ops Q rest (a.put op.dst (.agg (arrOf f))) w) : wpList Try.prog ops Q (op :: rest) a w := by
  refine wpList_load_mid hgd 90 x ho b 0 hx (arrOf f).toList _ h.range Try.underlying90 rfl (by rw [infoA, Array.length_toList, arrOf_size]) ?_
  simpa using k
theorem wpList_store_arr {ops : Array Oper} {rest : List Oper} {op : Oper} {a : Act} {w : World} {Q : Exit → Act → World → Prop} {b : Nat} {f0 f : Nat → Int} (h : Arr w b f0) (hgd : op.guard = none) (x y : Operand) (ho : op.op = .store 90 x y)
    (hx : a.eval x = .pointer (some ⟨b, 0, none⟩)) (hy : a.eval y = .agg (arrOf f))
    (k : ∀ w', Arr w' b f → (∀ B w0, B ≤ b → Below B w0 w → Below B w0 w') → wpList Try.prog ops Q rest (a.put op.dst undef) w') : wpList Try.prog ops Q (op :: rest) a w := by
  refine wpList_store_mid hgd 90 x y ho b 0 (arrOf f) hx hy (fun j hj => ?_) (by rw [infoA, arrOf_size]) ?_ (k _ (h.stored8 f) fun B w0 hB hw => below_setCells b hB _ _ _ hw)
  · rw [arrOf_size] at hj
    rw [Nat.zero_add, (h j hj).1]
    exact ⟨rfl, (h j hj).2⟩
  · rw [Array.all_eq_true_iff_forall_mem]
    intro v hv
    unfold arrOf at hv
    simp at hv
    obtain ⟨i, _, rfl⟩ := hv
    rfl

/-- The eight cells as they are loaded; stored in a row of the call's own, and read there. -/
theorem Arr.loadVar {w : World} {b : Nat} {f : Nat → Int} (h : Arr w b f) : (Go.loadVar 90 ⟨b, 0, none⟩).run Try.prog w = .ok (.agg (arrOf f)) w := by
  have := run_loadVar_mid (P := Try.prog) w b 0 90 (arrOf f).toList _ h.range Try.underlying90 rfl (by rw [infoA, Array.length_toList, arrOf_size])
  simpa using this
theorem Arr.zero (w : World) : Arr (w.alloc (.cells (arrOf fun _ => 0) 90)) w.heap.size (fun _ => 0) := Arr.new w _ _
theorem Arr.other {w : World} {b : Nat} {f : Nat → Int} (k : Arr w b f) (a : Addr) (v : Value) (hne : b ≠ a.block) : Arr (w.setCell a v) b f := fun i hi => by
  obtain ⟨h1, h2⟩ := k i hi
  refine ⟨?_, by simp [go_sem, h2]⟩
  rw [World.cell?_setCell_other]
  · exact h1
  · intro e; exact hne (by rw [e])
theorem Arr.under {w w' : World} {b B : Nat} {f : Nat → Int} (k : Arr w b f) (hb : Below B w w') (hB : b < B) : Arr w' b f := fun i hi =>
  ⟨(hb.cell (p := ⟨b, i, none⟩) hB).trans (k i hi).1, (hb.frozen (p := ⟨b, i, none⟩) hB).trans (k i hi).2⟩

/-- A new variable of eight numbers, and what is stored into it. -/
theorem wpList_new_arr {ops : Array Oper} {rest : List Oper} {op : Oper} {a : Act} {w : World} {Q : Exit → Act → World → Prop} {f : Nat → Int} (hgd : op.guard = none) (x y : Operand) (ho : op.op = .store 90 x y)
    (hx : a.eval x = .pointer (some ⟨w.heap.size, 0, none⟩)) (hy : a.eval y = .agg (arrOf f))
    (k : ∀ w', Arr w' w.heap.size f → Below w.heap.size w w' → wpList Try.prog ops Q rest (a.put op.dst undef) w') : wpList Try.prog ops Q (op :: rest) a (w.alloc (.cells (arrOf fun _ => 0) 90)) :=
  wpList_store_arr (Arr.zero w) hgd x y ho hx hy fun w' h1 h2 => k w' h1 (h2 _ _ (Nat.le_refl _) ((Below.refl _ _).alloc (Nat.le_refl _) _))

end Go.Proofs.Ytjckphmkhikpaaa
