/- Slices of lists of the call's own; frames in which some blocks may turn. -/
import Derived.Test.YtcjcbbpolhpphaaBlockMerge
import Derived.Test.YtcjcbbpolhpphaaSampleG
set_option maxRecDepth 20000
set_option linter.unusedSimpArgs false
set_option linter.unusedVariables false
namespace Go.Proofs.Ytcjcbbpolhpphaa
open Go.RowKit Go.Proofs.Ytcjcbbpolhpphaa.Vi Go.Proofs.Ytcjcbbpolhpphaa.Mk

/-- Of what was there only blocks of S may have turned. -/
structure ButP (S : Nat → Prop) (w w' : World) : Prop where
  os : w'.os = w.os
  tape : w'.tape = w.tape
  output : w'.output = w.output
  size : w.heap.size ≤ w'.heap.size
  block : ∀ k, k < w.heap.size → ¬ S k → w'.heap[k]? = w.heap[k]?
theorem ButP.refl (S : Nat → Prop) (w : World) : ButP S w w := ⟨rfl, rfl, rfl, Nat.le_refl _, fun _ _ _ => rfl⟩
theorem ButP.trans {S : Nat → Prop} {u v w : World} (h : ButP S u v) (k : ButP S v w) : ButP S u w :=
  ⟨k.os.trans h.os, k.tape.trans h.tape, k.output.trans h.output, Nat.le_trans h.size k.size, fun i hi hb => (k.block i (Nat.lt_of_lt_of_le hi h.size) hb).trans (h.block i hi hb)⟩
/-- What turns in a later part, and stood at the beginning, may turn. -/
theorem ButP.next {S T : Nat → Prop} {u v w : World} (h : ButP S u v) (k : ButP T v w) (hT : ∀ i, i < u.heap.size → T i → S i) : ButP S u w :=
  ⟨k.os.trans h.os, k.tape.trans h.tape, k.output.trans h.output, Nat.le_trans h.size k.size, fun i hi hb => (k.block i (Nat.lt_of_lt_of_le hi h.size) (fun g => hb (hT i hi g))).trans (h.block i hi hb)⟩
theorem ButP.of {S : Nat → Prop} {w w' : World} (h : Below w.heap.size w w') : ButP S w w' := ⟨h.os, h.tape, h.output, h.size, fun k hk _ => h.block k hk⟩
theorem ButP.ofB {S : Nat → Prop} {B : Nat} {u w w' : World} (h : ButP S u w) (k : Below B w w') (hB : u.heap.size ≤ B) : ButP S u w' :=
  ⟨k.os.trans h.os, k.tape.trans h.tape, k.output.trans h.output, Nat.le_trans h.size k.size, fun i hi hb => (k.block i (Nat.lt_of_lt_of_le hi hB)).trans (h.block i hi hb)⟩
theorem ButP.but {S : Nat → Prop} {d : Nat} {u w w' : World} (h : ButP S u w) (k : But d w w') (hd : S d ∨ u.heap.size ≤ d) : ButP S u w' :=
  ⟨k.os.trans h.os, k.tape.trans h.tape, k.output.trans h.output, Nat.le_trans h.size k.size, fun i hi hb => (k.block i (Nat.lt_of_lt_of_le hi h.size) (fun e => by subst e; rcases hd with g | g; exact hb g; omega)).trans (h.block i hi hb)⟩
theorem ButP.alloc {S : Nat → Prop} {u w : World} (h : ButP S u w) (o : Obj) : ButP S u (w.alloc o) := h.ofB ((Below.refl _ w).alloc (Nat.le_refl _) o) h.size
theorem ButP.setCell {S : Nat → Prop} {u w : World} (h : ButP S u w) (b o : Nat) (v : Value) (hd : S b ∨ u.heap.size ≤ b) : ButP S u (w.setCell ⟨b, o, none⟩ v) :=
  h.but ((But.refl b w).setCell o v) hd
theorem ButP.cell {S : Nat → Prop} {w w' : World} (h : ButP S w w') {p : Addr} (hp : ¬ S p.block) (hw : p.block < w.heap.size) : w'.cell? p = w.cell? p := World.cell?_of_block (w := w) (h.block p.block hw hp)
theorem ButP.frozen {S : Nat → Prop} {w w' : World} (h : ButP S w w') {p : Addr} (hp : ¬ S p.block) (hw : p.block < w.heap.size) : w'.frozen? p = w.frozen? p := World.frozen?_of_block (w := w) (h.block p.block hw hp)
theorem ButP.below {S : Nat → Prop} {B : Nat} {w w' : World} (h : ButP S w w') (hb : ∀ k, S k → B ≤ k) (hB : B ≤ w.heap.size) : Below B w w' := ⟨h.os, h.tape, h.output, h.size, fun k hk => h.block k (by omega) (fun g => by have := hb k g; omega)⟩
theorem owns_butP {S : Nat → Prop} {w w' : World} {B size n : Nat} {e : TypeId} {v : Value} {xs : List Value} (h : w.ownsRow B e size v n xs) (k : ButP S w w') (hS : ∀ i, S i → i < B) : w'.ownsRow B e size v n xs := by
  obtain ⟨h1, h2⟩ := h
  refine ⟨h1, ?_⟩
  rcases h2 with h2 | ⟨g, cap, cur, e1, e2, e3, rest⟩
  · exact Or.inl h2
  · have hg : g < w.heap.size := (Array.getElem?_eq_some_iff.1 e3).1
    exact Or.inr ⟨g, cap, cur, e1, e2, (k.block g hg (fun q => by have := hS g q; omega)).trans e3, rest⟩
theorem PRow.butP {S : Nat → Prop} {w w' : World} {B : Nat} {v : Value} {xs : List Pt} (h : PRow w B v xs) (k : ButP S w w') (hS : ∀ i, S i → i < B) : PRow w' B v xs := owns_butP h k hS

/-- A slice of lists that the call has made above B, the lists, too. -/
def LRow (w : World) (B : Nat) (v : Value) (L : List (List Pt)) : Prop := ∃ vs : List Value, w.ownsRow B 35 1 v L.length vs ∧ ∀ i (h : i < L.length), ∃ p c, vs[i]? = some (.slice p (L[i]).length c) ∧ PRow w B (.slice p (L[i]).length c) L[i]
theorem LRow.nil (w : World) (B : Nat) : LRow w B (.slice none 0 0) [] := ⟨[], World.ownsRow_nil _ _ _ _, fun i h => absurd h (Nat.not_lt_zero _)⟩
theorem LRow.slice {w : World} {B : Nat} {v : Value} {L : List (List Pt)} (h : LRow w B v L) : ∃ a c, v = .slice a L.length c := by
  obtain ⟨vs, h, -⟩ := h
  rcases h.2 with ⟨h, h0⟩ | ⟨g, cap, cur, h, _⟩
  · exact ⟨_, _, by rw [h, h0]⟩
  · exact ⟨_, _, h⟩
theorem LRow.butP {S : Nat → Prop} {w w' : World} {B : Nat} {v : Value} {L : List (List Pt)} (h : LRow w B v L) (k : ButP S w w') (hS : ∀ i, S i → i < B) : LRow w' B v L := by
  obtain ⟨vs, h1, h2⟩ := h
  refine ⟨vs, owns_butP h1 k hS, fun i hi => ?_⟩
  obtain ⟨p, c, e, hp⟩ := h2 i hi
  exact ⟨p, c, e, hp.butP k hS⟩
theorem LRow.later {w w' : World} {B : Nat} {v : Value} {L : List (List Pt)} (h : LRow w B v L) (k : Below w.heap.size w w') : LRow w' B v L := h.butP (S := fun _ => False) (ButP.of k) (fun _ g => g.elim)
theorem LRow.mono {w : World} {B B' : Nat} {v : Value} {L : List (List Pt)} (h : LRow w B v L) (hB : B' ≤ B) : LRow w B' v L := by
  obtain ⟨vs, ⟨h0, h1⟩, h2⟩ := h
  refine ⟨vs, ⟨h0, ?_⟩, fun i hi => ?_⟩
  · rcases h1 with h1 | ⟨g, cap, cur, e1, e2, e3, rest⟩
    · exact Or.inl h1
    · exact Or.inr ⟨g, cap, cur, e1, Nat.le_trans hB e2, e3, rest⟩
  · obtain ⟨p, c, e, hp⟩ := h2 i hi
    exact ⟨p, c, e, hp.base hB⟩
theorem apartPL {w : World} {B B' n m : Nat} {x v : Value} {xs vs : List Value} (h : w.ownsRow B 55 6 x n xs) (k : w.ownsRow B' 35 1 v m vs) : x.ownBlock ≠ v.ownBlock ∨ v.ownBlock = none := by
  rcases k.2 with ⟨rfl, -⟩ | ⟨g', cap', cur', rfl, -, e', -⟩
  · exact Or.inr rfl
  · rcases h.2 with ⟨rfl, -⟩ | ⟨g, cap, cur, rfl, -, e, -⟩
    · exact Or.inl (by intro q; cases q)
    · refine Or.inl fun q => ?_
      obtain rfl : g = g' := by simpa [Value.ownBlock] using q
      rw [e] at e'
      injection e' with e'
      injection e' with _ e' _
      exact absurd e' (by decide)
theorem infoL : (Try.prog.info? 35).map (fun i => (i.zero, i.size, i.bytes)) = some (some (.slice none 0 0), 1, 24) := by kernel_rfl
/-- append(l, m), m a list, l the call's own. -/
theorem wpList_appL {ops : Array Oper} {rest : List Oper} {o : Oper} {a : Act} {w : World} {Q : Exit → Act → World → Prop} (hgd : o.guard = none) (d s : Operand)
    (ho : o.op = .call { callee := .builtin .append, args := #[d, s], argTypes := #[72, 72] }) (B r : Nat) (v : Value) (L : List (List Pt)) (p : Option Addr) (c m : Nat) (l : List Pt) (N : Nat) (hd : a.eval d = v) (hs : a.eval s = .slice (some ⟨N, 0, none⟩) 1 1) (hN : w.heap.size = N)
    (hr : Hid (L.length = r)) (hR : LRow w B v L) (hm : l.length = m) (hl : PRow w B (.slice p m c) l) (hlen : r + 1 ≤ 1000000) (hB : B ≤ w.heap.size)
    (h : ∀ a' c' w', Hid (LRow w' B (.slice a' (r + 1) c') (L ++ [l])) → Below B w w' → wpList Try.prog ops Q rest (a.put o.dst (.slice a' (r + 1) c')) w') :
    wpList Try.prog ops Q (o :: rest) a (w.alloc (.cells #[.slice p m c] 35)) := by
  subst hN
  subst hm
  obtain ⟨i0, hi, hz0, hz1, hz2⟩ := info_parts infoL
  have hr := hr.out
  obtain ⟨vs, hR2, hL⟩ := hR
  rw [hr] at hR2
  have hne : ∀ q, v.ownBlock = some q → B ≤ q := fun q hq => (World.ownsRow.lt hR2 q hq).1
  have hvl : vs.length = r := by have := hR2.1; omega
  refine wpList_append_own_at (w := w.alloc (.cells #[.slice p l.length c] 35)) hgd d s 72 ho B 35 i0 (.slice none 0 0) 1 24 Try.underlying72 hi hz0 hz1 hz2 rfl (by decide) v r vs hd (hR2.alloc _) ⟨w.heap.size, 0, none⟩ 1 1 [.slice p l.length c] hs rfl (cell_one_new _ _ _) (fun u hu => by rw [List.mem_singleton] at hu; subst hu; rfl) (by unfold maxLen; omega) (by omega) (by simp; omega) ?_
  intro v' w' hown hgrow _ _
  have hlr : (L ++ [l]).length = r + 1 := by rw [List.length_append, hr]; rfl
  have hal := (Below.refl w.heap.size w).alloc (Nat.le_refl _) (.cells #[.slice p l.length c] 35)
  have keep : ∀ {x : Value} {xs : List Pt}, PRow w B x xs → PRow w' B x xs := fun {x xs} hx => (hx.later hal).grown hgrow (apartPL hx hR2)
  have hR3 : LRow w' B v' (L ++ [l]) := by
    refine ⟨vs ++ [.slice p l.length c], by rw [hlr]; exact hown, fun i hi => ?_⟩
    rw [hlr] at hi
    by_cases hir : i < r
    · obtain ⟨p', c', e, hp⟩ := hL i (by omega)
      rw [List.getElem_append_left (by omega)]
      exact ⟨p', c', by rw [List.getElem?_append_left (by omega)]; exact e, keep hp⟩
    · obtain rfl : i = r := by omega
      have e : (L ++ [l])[i] = l := by rw [List.getElem_append_right (by omega)]; simp [hr]
      rw [e]
      exact ⟨p, c, by rw [List.getElem?_append_right (by omega)]; simp [hvl], keep hl⟩
  obtain ⟨a', c', e⟩ := hR3.slice
  rw [hlr] at e
  subst e
  exact h a' c' w' hR3 (((Below.refl B w).alloc hB _).grown hgrow (by simp; omega) hne)
/-- It is read. -/
theorem LRow.lls {w : World} {B : Nat} {a : Option Addr} {n c : Nat} {L : List (List Pt)} (h : LRow w B (.slice a n c) L) : LLs w w.heap.size a L := by
  obtain ⟨vs, h1, h2⟩ := h
  refine ⟨?_⟩
  cases L with
  | nil => exact Or.inl rfl
  | cons x L =>
    right
    rcases h1.2 with ⟨_, h0⟩ | ⟨g, cap, cur, e, _, hb, _⟩
    · simp at h0
    · injection e with e1 e2 e3
      subst e1 e2 e3
      refine ⟨g, 0, rfl, (Array.getElem?_eq_some_iff.1 hb).1, fun i hi => ?_⟩
      obtain ⟨p, c', e, hp⟩ := h2 i hi
      refine ⟨p, c', ?_, hp.lst⟩
      have hvl : vs.length = (x :: L).length := by have := h1.1; omega
      have := World.ownsRow.cellAt h1 i (by omega)
      rw [Nat.zero_add, this]
      exact e
end Go.Proofs.Ytcjcbbpolhpphaa
