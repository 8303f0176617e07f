/- An aggregate's eighteen cells in a block: read and written as one. -/
import Derived.Test.YtipjhlabcbkgjaaAggMath
import Derived.Test.YtipjhlabcbkgjaaProg
import Derived.Deep.MidRow
import Derived.RangeFuncRecord
set_option maxRecDepth 20000
namespace Go.Proofs.Ytipjhlabcbkgjaa.Ag
open Go.RowKit Go.Proofs.Ytipjhlabcbkgjaa Go.Proofs.Ytipjhlabcbkgjaa.Wd Go.Proofs.Ytipjhlabcbkgjaa.Vi Go.Proofs.Ytipjhlabcbkgjaa.Mk

def cells18 (a : Ag) : List Value := [.int .i64 a.n, .int .i64 (wh a.s), .int .u64 (wl a.s), .int .i64 a.mn, .int .i64 a.mx, .int .i64 a.la, .int .i64 a.st.c, .int .i64 a.st.s, .int .i64 a.st.q, .int .i64 (a.b 0), .int .i64 (a.b 1), .int .i64 (a.b 2), .int .i64 (a.b 3), .int .i64 (a.b 4), .int .i64 (a.b 5), .int .i64 (a.b 6), .int .i64 (a.b 7), .int .i64 (a.b 8)]
theorem agV_is (a : Ag) : agV a = .agg (cells18 a).toArray := rfl
theorem cells18_one (a : Ag) : ∀ v ∈ cells18 a, v.oneCell' = true := by
  intro v hv
  simp only [cells18, List.mem_cons, List.not_mem_nil, or_false] at hv
  rcases hv with rfl | rfl | rfl | rfl | rfl | rfl | rfl | rfl | rfl | rfl | rfl | rfl | rfl | rfl | rfl | rfl | rfl | rfl <;> rfl
theorem below_cells {B : Nat} {w0 : World} (b : Nat) (hb : B ≤ b) : ∀ (vs : List Value) (o : Nat) (w : World), Below B w0 w → Below B w0 (w.setCells b o vs)
  | [], _, _, h => h
  | v :: r, o, _, h => below_cells b hb r (o + 1) _ (h.setCell hb v)
/-- The aggregate a stands in block b. -/
structure AgAt (w : World) (b : Nat) (a : Ag) : Prop where
  r : w.rangeAt b 0 (cells18 a)
theorem AgAt.cell {w : World} {b : Nat} {a : Ag} (h : AgAt w b a) (j : Nat) {v : Value} (hv : (cells18 a)[j]? = some v) : w.cell? ⟨b, j, none⟩ = some v := by have := h.r j v hv; rwa [Nat.zero_add] at this
theorem AgAt.room {w : World} {b : Nat} {a : Ag} (h : AgAt w b a) : b < w.heap.size := World.block_lt_of_cell? w _ (h.cell 0 rfl)
theorem AgAt.upto {w w' : World} {b B : Nat} {a : Ag} (h : AgAt w b a) (k : Below B w w') (hb : b < B) : AgAt w' b a := ⟨fun j v hv => (k.cell (p := ⟨b, 0 + j, none⟩) hb).trans (h.r j v hv)⟩
theorem AgAt.below {w w' : World} {b : Nat} {a : Ag} (h : AgAt w b a) (k : Below w.heap.size w w') : AgAt w' b a := h.upto k h.room
theorem AgAt.all {w : World} {b : Nat} {a : Ag} (h : AgAt w b a) : w.cell? ⟨b, 0, none⟩ = some (.int .i64 a.n) ∧ w.cell? ⟨b, 1, none⟩ = some (.int .i64 (wh a.s)) ∧ w.cell? ⟨b, 2, none⟩ = some (.int .u64 (wl a.s)) ∧ w.cell? ⟨b, 3, none⟩ = some (.int .i64 a.mn) ∧ w.cell? ⟨b, 4, none⟩ = some (.int .i64 a.mx) ∧ w.cell? ⟨b, 5, none⟩ = some (.int .i64 a.la) ∧ w.cell? ⟨b, 6, none⟩ = some (.int .i64 a.st.c) ∧ w.cell? ⟨b, 7, none⟩ = some (.int .i64 a.st.s) ∧ w.cell? ⟨b, 8, none⟩ = some (.int .i64 a.st.q) ∧ w.cell? ⟨b, 9, none⟩ = some (.int .i64 (a.b 0)) ∧ w.cell? ⟨b, 10, none⟩ = some (.int .i64 (a.b 1)) ∧ w.cell? ⟨b, 11, none⟩ = some (.int .i64 (a.b 2)) ∧ w.cell? ⟨b, 12, none⟩ = some (.int .i64 (a.b 3)) ∧ w.cell? ⟨b, 13, none⟩ = some (.int .i64 (a.b 4)) ∧ w.cell? ⟨b, 14, none⟩ = some (.int .i64 (a.b 5)) ∧ w.cell? ⟨b, 15, none⟩ = some (.int .i64 (a.b 6)) ∧ w.cell? ⟨b, 16, none⟩ = some (.int .i64 (a.b 7)) ∧ w.cell? ⟨b, 17, none⟩ = some (.int .i64 (a.b 8)) :=
  ⟨h.cell 0 rfl, h.cell 1 rfl, h.cell 2 rfl, h.cell 3 rfl, h.cell 4 rfl, h.cell 5 rfl, h.cell 6 rfl, h.cell 7 rfl, h.cell 8 rfl, h.cell 9 rfl, h.cell 10 rfl, h.cell 11 rfl, h.cell 12 rfl, h.cell 13 rfl, h.cell 14 rfl, h.cell 15 rfl, h.cell 16 rfl, h.cell 17 rfl⟩
/-- It may be written. -/
structure AgW (w : World) (b : Nat) (a : Ag) : Prop where
  at_ : AgAt w b a
  t : w.there b 0 18
theorem AgW.below {w w' : World} {b : Nat} {a : Ag} (h : AgW w b a) (k : Below w.heap.size w w') : AgW w' b a :=
  ⟨h.at_.below k, fun j hj => ⟨by rw [k.cell (p := ⟨b, 0 + j, none⟩) h.at_.room]; exact (h.t j hj).1, (k.frozen (p := ⟨b, 0 + j, none⟩) h.at_.room).trans (h.t j hj).2⟩⟩
theorem AgW.upto {w w' : World} {b B : Nat} {a : Ag} (h : AgW w b a) (k : Below B w w') (hb : b < B) : AgW w' b a :=
  ⟨h.at_.upto k hb, fun j hj => ⟨by rw [k.cell (p := ⟨b, 0 + j, none⟩) hb]; exact (h.t j hj).1, (k.frozen (p := ⟨b, 0 + j, none⟩) hb).trans (h.t j hj).2⟩⟩
theorem AgAt.of_all {w : World} {b : Nat} {a : Ag} (h : w.cell? ⟨b, 0, none⟩ = some (.int .i64 a.n) ∧ w.cell? ⟨b, 1, none⟩ = some (.int .i64 (wh a.s)) ∧ w.cell? ⟨b, 2, none⟩ = some (.int .u64 (wl a.s)) ∧ w.cell? ⟨b, 3, none⟩ = some (.int .i64 a.mn) ∧ w.cell? ⟨b, 4, none⟩ = some (.int .i64 a.mx) ∧ w.cell? ⟨b, 5, none⟩ = some (.int .i64 a.la) ∧ w.cell? ⟨b, 6, none⟩ = some (.int .i64 a.st.c) ∧ w.cell? ⟨b, 7, none⟩ = some (.int .i64 a.st.s) ∧ w.cell? ⟨b, 8, none⟩ = some (.int .i64 a.st.q) ∧ w.cell? ⟨b, 9, none⟩ = some (.int .i64 (a.b 0)) ∧ w.cell? ⟨b, 10, none⟩ = some (.int .i64 (a.b 1)) ∧ w.cell? ⟨b, 11, none⟩ = some (.int .i64 (a.b 2)) ∧ w.cell? ⟨b, 12, none⟩ = some (.int .i64 (a.b 3)) ∧ w.cell? ⟨b, 13, none⟩ = some (.int .i64 (a.b 4)) ∧ w.cell? ⟨b, 14, none⟩ = some (.int .i64 (a.b 5)) ∧ w.cell? ⟨b, 15, none⟩ = some (.int .i64 (a.b 6)) ∧ w.cell? ⟨b, 16, none⟩ = some (.int .i64 (a.b 7)) ∧ w.cell? ⟨b, 17, none⟩ = some (.int .i64 (a.b 8))) : AgAt w b a := by
  obtain ⟨c0, c1, c2, c3, c4, c5, c6, c7, c8, c9, c10, c11, c12, c13, c14, c15, c16, c17⟩ := h
  refine ⟨fun j v hv => ?_⟩
  rw [Nat.zero_add]
  match j, hv with
  | 0, hv => cases hv; exact c0
  | 1, hv => cases hv; exact c1
  | 2, hv => cases hv; exact c2
  | 3, hv => cases hv; exact c3
  | 4, hv => cases hv; exact c4
  | 5, hv => cases hv; exact c5
  | 6, hv => cases hv; exact c6
  | 7, hv => cases hv; exact c7
  | 8, hv => cases hv; exact c8
  | 9, hv => cases hv; exact c9
  | 10, hv => cases hv; exact c10
  | 11, hv => cases hv; exact c11
  | 12, hv => cases hv; exact c12
  | 13, hv => cases hv; exact c13
  | 14, hv => cases hv; exact c14
  | 15, hv => cases hv; exact c15
  | 16, hv => cases hv; exact c16
  | 17, hv => cases hv; exact c17
  | n + 18, hv => cases hv
theorem heap_new (w : World) (o : Obj) : (w.alloc o).heap[w.heap.size]? = some o := World.alloc_heap_new w o
theorem AgW.new (w : World) (a : Ag) (T : TypeId) : AgW (w.alloc (.cells (cells18 a).toArray T)) w.heap.size a := by
  have hb := heap_new w (.cells (cells18 a).toArray T)
  have hc : ∀ j, (w.alloc (.cells (cells18 a).toArray T)).cell? ⟨w.heap.size, 0 + j, none⟩ = (cells18 a)[j]? := fun j => by
    rw [Nat.zero_add]
    unfold World.cell?
    rw [hb]
    show (cells18 a).toArray[j]? = _
    rw [List.getElem?_toArray]
  have hlen : (cells18 a).length = 18 := rfl
  refine ⟨⟨fun j v hv => (hc j).trans hv⟩, fun j hj => ⟨?_, ?_⟩⟩
  · rw [hc j, List.getElem?_eq_getElem (by omega)]; rfl
  · unfold World.frozen?
    rw [hb]
    rfl
theorem wh_zero : wh 0 = 0 := by decide
theorem wl_zero : wl 0 = 0 := by decide
theorem agV_zero : agV Ag.zero = .agg #[.int .i64 0, .int .i64 0, .int .u64 0, .int .i64 0, .int .i64 0, .int .i64 0, .int .i64 0, .int .i64 0, .int .i64 0, .int .i64 0, .int .i64 0, .int .i64 0, .int .i64 0, .int .i64 0, .int .i64 0, .int .i64 0, .int .i64 0, .int .i64 0] := by simp only [agV, Ag.zero, wh_zero, wl_zero]
theorem AgW.zero (w : World) (T : TypeId) : AgW (w.alloc (.cells #[.int .i64 0, .int .i64 0, .int .u64 0, .int .i64 0, .int .i64 0, .int .i64 0, .int .i64 0, .int .i64 0, .int .i64 0, .int .i64 0, .int .i64 0, .int .i64 0, .int .i64 0, .int .i64 0, .int .i64 0, .int .i64 0, .int .i64 0, .int .i64 0] T)) w.heap.size Ag.zero := by
  have := AgW.new w Ag.zero T
  simp only [Ag.zero, cells18, wh_zero, wl_zero] at this
  exact this
/-- The aggregate a is written into block b. -/
abbrev stA (w : World) (b : Nat) (a : Ag) : World := w.setCells b 0 (cells18 a)
theorem stA_below {w0 w : World} {B b : Nat} (a : Ag) (h : Below B w0 w) (hB : B ≤ b) : Below B w0 (stA w b a) := below_cells b hB _ 0 w h
theorem AgAt.st {w : World} {b q : Nat} {a c : Ag} (h : AgAt w b c) (hq : b ≠ q) : AgAt (stA w q a) b c := ⟨World.rangeAt_setCells_apart h.r q 0 _ (Or.inl hq)⟩
theorem AgW.other {w : World} {b q : Nat} {a c : Ag} (h : AgW w b c) (hq : b ≠ q) : AgW (stA w q a) b c := ⟨h.at_.st hq, World.there_setCells h.t _ _ _⟩
theorem AgW.st {w : World} {b : Nat} {c : Ag} (a : Ag) (h : AgW w b c) : AgW (stA w b a) b a := ⟨⟨World.rangeAt_setCells_same _ _ _ _ h.t⟩, World.there_setCells h.t _ _ _⟩
theorem infoAg : (Try.prog.info? 29).map (·.size) = some 18 := by kernel_rfl
theorem store_ag {op : Oper} {a : Act} {w : World} {K : Act → World → Prop} {Q : Exit → Act → World → Prop} (x y : Operand) (ho : op.op = .store 29 x y) (b : Nat) (c g : Ag) (hx : a.eval x = .pointer (some ⟨b, 0, none⟩)) (hy : a.eval y = agV g)
    (hW : AgW w b c) (h : K (a.put op.dst undef) (stA w b g)) : op.wp Try.prog a w K Q :=
  wp_store_mid 29 x y ho b 0 (cells18 g).toArray hx hy hW.t infoAg (all_oneCell_toArray (cells18_one g)) h
theorem load_ag {op : Oper} {a : Act} {w : World} {K : Act → World → Prop} {Q : Exit → Act → World → Prop} (x : Operand) (ho : op.op = .load 29 x) (b : Nat) (g : Ag) (hx : a.eval x = .pointer (some ⟨b, 0, none⟩))
    (hA : AgAt w b g) (h : K (a.put op.dst (agV g)) w) : op.wp Try.prog a w K Q :=
  wp_load_mid 29 x ho b 0 hx (cells18 g) _ hA.r Try.underlying29 rfl infoAg h
theorem list_store_ag {ops : Array Oper} {rest : List Oper} {op : Oper} {a : Act} {w : World} {Q : Exit → Act → World → Prop} (hgd : op.guard = none) (x y : Operand) (ho : op.op = .store 29 x y) (b : Nat) (c g : Ag) (hx : a.eval x = .pointer (some ⟨b, 0, none⟩)) (hy : a.eval y = agV g)
    (hW : AgW w b c) (h : wpList Try.prog ops Q rest (a.put op.dst undef) (stA w b g)) : wpList Try.prog ops Q (op :: rest) a w :=
  wpList_store_mid hgd 29 x y ho b 0 (cells18 g).toArray hx hy hW.t infoAg (all_oneCell_toArray (cells18_one g)) h
theorem list_load_ag {ops : Array Oper} {rest : List Oper} {op : Oper} {a : Act} {w : World} {Q : Exit → Act → World → Prop} (hgd : op.guard = none) (x : Operand) (ho : op.op = .load 29 x) (b : Nat) (g : Ag) (hx : a.eval x = .pointer (some ⟨b, 0, none⟩))
    (hA : AgAt w b g) (h : wpList Try.prog ops Q rest (a.put op.dst (agV g)) w) : wpList Try.prog ops Q (op :: rest) a w :=
  wpList_load_mid hgd 29 x ho b 0 hx (cells18 g) _ hA.r Try.underlying29 rfl infoAg h
theorem results_ag {fn : Func} {p : Tmp} (h : fn.results = #[.cell p 29]) (tmps : Array Value) (w : World) (b : Nat) (a : Ag) (hp : tmps.getD p undef = .pointer (some ⟨b, 0, none⟩)) (hA : AgAt w b a) :
    (results fn tmps).run Try.prog w = .ok (agV a) w := by
  have hp2 : tmps[p]?.getD undef = .pointer (some ⟨b, 0, none⟩) := by simpa using hp
  have hl := run_loadVar_mid (P := Try.prog) w b 0 29 (cells18 a) _ hA.r Try.underlying29 rfl infoAg
  rw [agV_is]
  generalize cells18 a = l at *
  simp [results, h, hp2, asAddr, hl]
end Go.Proofs.Ytipjhlabcbkgjaa.Ag
