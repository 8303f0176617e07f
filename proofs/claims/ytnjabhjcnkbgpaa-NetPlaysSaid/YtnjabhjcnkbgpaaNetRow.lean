/- Messages in rows; a network in memory. -/
import Derived.Test.YtnjabhjcnkbgpaaChecked
import Derived.Test.YtnjabhjcnkbgpaaNetMath
import Derived.Maps.AppendAt
import Derived.Deep.AppendSrc
import Derived.Deep.Upon
import Derived.Deep.MidRow
import Derived.OwnWalk
import Derived.BigQuiet
import Derived.Lib.SmallJoins
import Derived.Lib.SliceRun
import Derived.Laws.Rows
import Derived.Laws.Tables
import Derived.Laws.AppendOwnNone
import Derived.Deep.CutRange
import Derived.Deep.LoopGhost
import Derived.WalkMore
set_option maxRecDepth 20000
set_option linter.unusedSimpArgs false
set_option linter.unusedVariables false
namespace Go.Proofs.Ytnjabhjcnkbgpaa
open Go.RowKit

theorem bel_next {w a b : World} (h : Below w.heap.size w a) (k : Below a.heap.size a b) : Below w.heap.size w b := h.trans (k.mono h.size)
theorem bel_new {w a : World} (h : Below w.heap.size w a) (o : Obj) : Below w.heap.size w (a.alloc o) := h.alloc h.size o
theorem bel_al (w : World) (o : Obj) : Below w.heap.size w (w.alloc o) := (Below.refl _ w).alloc (Nat.le_refl _) o
theorem below_drewN {B : Nat} {a w : World} (h : Below B a w) (n : Nat) : Below B a (w.drewN n) := ⟨h.os, h.tape, h.output, h.size, h.block⟩
theorem info_parts {o : Option TypeInfo} {z : Value} {n m : Nat} (h : o.map (fun i => (i.zero, i.size, i.bytes)) = some (some z, n, m)) : ∃ i0, o = some i0 ∧ i0.zero = some z ∧ i0.size = n ∧ i0.bytes = m := by
  cases o with
  | none => cases h
  | some i => simp at h; exact ⟨i, rfl, h.1, h.2.1, h.2.2⟩
theorem ownsRow_slice {w : World} {base size n : Nat} {e : TypeId} {v : Value} {xs : List Value} (h : w.ownsRow base e size v n xs) : ∃ a c, v = .slice a n c := by
  rcases h.2 with ⟨h, h0⟩ | ⟨g, cap, cur, h, _⟩
  · exact ⟨_, _, by rw [h, h0]⟩
  · exact ⟨_, _, h⟩
theorem owns_later {w w' : World} {B size n : Nat} {e : TypeId} {v : Value} {xs : List Value} (h : w.ownsRow B e size v n xs) (k : Below w.heap.size w w') : w'.ownsRow B e size v n xs := by
  refine ⟨h.1, ?_⟩
  rcases h.2 with h1 | ⟨g, cap, cur, hv, hg, hh, hr⟩
  · exact Or.inl h1
  · exact Or.inr ⟨g, cap, cur, hv, hg, by rw [k.block g (Array.getElem?_eq_some_iff.1 hh).1]; exact hh, hr⟩
theorem row_of {w w' : World} {B sz n : Nat} {e : TypeId} {v : Value} {xs : List Value} (h : w.ownsRow B e sz v n xs) (hk : ∀ k, v.ownBlock = some k → w'.heap[k]? = w.heap[k]?) : w'.ownsRow B e sz v n xs := by
  refine ⟨h.1, ?_⟩
  rcases h.2 with h1 | ⟨g, cap, cur, rfl, hg, hh, hr⟩
  · exact Or.inl h1
  · exact Or.inr ⟨g, cap, cur, rfl, hg, (hk g rfl).trans hh, hr⟩
theorem row_heap {w : World} {B sz n : Nat} {e : TypeId} {v : Value} {xs : List Value} (h : w.ownsRow B e sz v n xs) {k : Nat} (hk : v.ownBlock = some k) : ∃ cur, w.heap[k]? = some (.cells cur e (0, 0)) := by
  rcases h.2 with ⟨rfl, _⟩ | ⟨g, cap, cur, rfl, _, hh, _⟩
  · cases hk
  · injection hk with e; subst e; exact ⟨cur, hh⟩
theorem kinds_ne {w : World} {k b : Nat} {cs cs' : Array Value} {T T' : TypeId} {f f' : Nat × Nat} (h : w.heap[k]? = some (.cells cs T f)) (h' : w.heap[b]? = some (.cells cs' T' f')) (hT : T ≠ T') : k ≠ b := by
  rintro rfl
  rw [h] at h'
  injection h' with e
  injection e with _ e
  exact hT e
theorem cell_of {w : World} {b j : Nat} {cs : Array Value} {T : TypeId} (h : w.heap[b]? = some (.cells cs T)) : w.cell? ⟨b, j, none⟩ = cs[j]? := by
  rw [World.cell?_of_block (w := w) (w' := w) rfl]; simp [World.cell?, h]
theorem frozen_of {w : World} {b j : Nat} {cs : Array Value} {T : TypeId} (h : w.heap[b]? = some (.cells cs T)) : w.frozen? ⟨b, j, none⟩ = false := frozen_of_row w b j cs T h
theorem infoI : (Try.prog.info? 3).map (fun i => (i.zero, i.size, i.bytes)) = some (some (.int .i64 0), 1, 8) := by kernel_rfl
theorem infoM : (Try.prog.info? 34).map (fun i => (i.zero, i.size, i.bytes)) = some (some (.agg #[.int .i64 0, .int .i64 0, .int .i64 0, .string ⟨#[]⟩, .int .i64 0]), 5, 48) := by kernel_rfl
/-- A message's cells. -/
def mcells (m : Ml) : List Value := [.int .i64 m.n, .int .i64 m.f, .int .i64 m.t, .string m.s, .int .i64 m.a]
def Ml.v (m : Ml) : Value := .agg #[.int .i64 m.n, .int .i64 m.f, .int .i64 m.t, .string m.s, .int .i64 m.a]
theorem flat_len (l : List Ml) : (l.flatMap mcells).length = l.length * 5 := by
  induction l with
  | nil => rfl
  | cons m r ih => rw [List.flatMap_cons, List.length_append, ih]; simp [mcells]; omega
theorem flat_at (l : List Ml) (i : Nat) (h : i < l.length) (r : Nat) (hr : r < 5) : (l.flatMap mcells)[i * 5 + r]? = (mcells l[i])[r]? := by
  induction l generalizing i with
  | nil => simp at h
  | cons m t ih =>
    rw [List.flatMap_cons]
    cases i with
    | zero => rw [List.getElem?_append_left (by simp [mcells]; omega)]; simp
    | succ i =>
      rw [List.getElem?_append_right (by simp [mcells]; omega)]
      have e : (i + 1) * 5 + r - (mcells m).length = i * 5 + r := by simp [mcells]; omega
      rw [e, ih i (by simpa using h)]; simp
theorem flat_take (l : List Ml) (i : Nat) : (l.take i).flatMap mcells = (l.flatMap mcells).take (i * 5) := by
  induction l generalizing i with
  | nil => simp
  | cons m t ih =>
    cases i with
    | zero => simp
    | succ i =>
      rw [List.take_succ_cons, List.flatMap_cons, List.flatMap_cons, ih i, List.take_append]
      have e : (mcells m).length = 5 := rfl
      rw [e, List.take_of_length_le (l := mcells m) (by rw [e]; omega), show (i + 1) * 5 - 5 = i * 5 by omega]
theorem flat_drop (l : List Ml) (i : Nat) : (l.drop i).flatMap mcells = (l.flatMap mcells).drop (i * 5) := by
  induction l generalizing i with
  | nil => simp
  | cons m t ih =>
    cases i with
    | zero => simp
    | succ i =>
      rw [List.drop_succ_cons, List.flatMap_cons, ih i, List.drop_append]
      have e : (mcells m).length = 5 := rfl
      rw [e, List.drop_of_length_le (l := mcells m) (by rw [e]; omega), List.nil_append, show (i + 1) * 5 - 5 = i * 5 by omega]
theorem mcells_one {l : List Ml} {u : Value} (h : u ∈ l.flatMap mcells) : u.oneCell' = true := by
  obtain ⟨p, _, hu⟩ := List.mem_flatMap.1 h
  simp [mcells] at hu
  rcases hu with rfl | rfl | rfl | rfl | rfl <;> rfl
/-- v is a slice of the messages l, in a block of its own, at B or above. -/
def MRow (w : World) (B : Nat) (v : Value) (l : List Ml) : Prop := w.ownsRow B 34 5 v l.length (l.flatMap mcells)
theorem MRow.slice {w : World} {B : Nat} {v : Value} {l : List Ml} (h : MRow w B v l) : ∃ a c, v = .slice a l.length c := ownsRow_slice h
theorem MRow.nil (w : World) (B : Nat) : MRow w B (.slice none 0 0) [] := World.ownsRow_nil _ _ _ _
theorem MRow.later {w w' : World} {B : Nat} {v : Value} {l : List Ml} (h : MRow w B v l) (k : Below w.heap.size w w') : MRow w' B v l := owns_later h k
theorem MRow.mono {w : World} {B B' : Nat} {v : Value} {l : List Ml} (h : MRow w B v l) (k : B' ≤ B) : MRow w B' v l := World.ownsRow.mono h k
/-- What stands at place i. -/
structure MAt (w : World) (g o : Nat) (m : Ml) : Prop where
  c0 : w.cell? ⟨g, o, none⟩ = some (.int .i64 m.n)
  c1 : w.cell? ⟨g, o + 1, none⟩ = some (.int .i64 m.f)
  c2 : w.cell? ⟨g, o + 2, none⟩ = some (.int .i64 m.t)
  c3 : w.cell? ⟨g, o + 3, none⟩ = some (.string m.s)
  c4 : w.cell? ⟨g, o + 4, none⟩ = some (.int .i64 m.a)
theorem MRow.block {w : World} {B : Nat} {a : Option Addr} {n c : Nat} {l : List Ml} (h : MRow w B (.slice a n c) l) (h0 : 0 < l.length) : ∃ g, a = some ⟨g, 0, none⟩ ∧ n = l.length ∧ B ≤ g ∧ g < w.heap.size ∧ (∀ j, w.frozen? ⟨g, j, none⟩ = false) ∧ ∀ j (hj : j < l.length), MAt w g (j * 5) l[j] := by
  rcases h.2 with ⟨hv, h2⟩ | ⟨g, cap, cur, hv, hg, hh, hn, hm, hs, ht⟩
  · omega
  · have h1 := h
    unfold MRow at h1
    rw [hv] at h1
    injection hv with e1 e2 e3
    subst e1 e2
    have e := World.ownsRow.cellAt h1
    refine ⟨g, rfl, rfl, hg, (Array.getElem?_eq_some_iff.1 hh).1, fun j => frozen_of hh, fun j hj => ?_⟩
    have f : ∀ r, r < 5 → w.cell? ⟨g, j * 5 + r, none⟩ = (mcells l[j])[r]? := fun r hr => by rw [e (j * 5 + r) (by omega), flat_at l j hj r hr]
    exact ⟨f 0 (by decide), f 1 (by decide), f 2 (by decide), f 3 (by decide), f 4 (by decide)⟩

/-- All but some blocks stand as they stood. -/
structure Frm (Mo : Nat → Prop) (w w' : World) : Prop where
  os : w'.os = w.os
  tape : w'.tape = w.tape
  output : w'.output = w.output
  size : w.heap.size ≤ w'.heap.size
  block : ∀ k, k < w.heap.size → ¬ Mo k → w'.heap[k]? = w.heap[k]?
theorem Frm.refl (Mo : Nat → Prop) (w : World) : Frm Mo w w := ⟨rfl, rfl, rfl, Nat.le_refl _, fun _ _ _ => rfl⟩
theorem Frm.trans {Mo Mo' : Nat → Prop} {a b c : World} (h : Frm Mo a b) (k : Frm Mo' b c) (hs : ∀ i, Mo' i → Mo i ∨ a.heap.size ≤ i) : Frm Mo a c :=
  ⟨k.os.trans h.os, k.tape.trans h.tape, k.output.trans h.output, Nat.le_trans h.size k.size, fun i hi hn => (k.block i (Nat.lt_of_lt_of_le hi h.size) (fun hm => by
    rcases hs i hm with h1 | h1
    · exact hn h1
    · omega)).trans (h.block i hi hn)⟩
theorem Frm.of_below {Mo : Nat → Prop} {w w' : World} (h : Below w.heap.size w w') : Frm Mo w w' := ⟨h.os, h.tape, h.output, h.size, fun k hk _ => h.block k hk⟩
theorem Frm.of_grown {Mo : Nat → Prop} {w w' : World} {r : Option Nat} (h : w.grownBy w' r) (hr : ∀ k, r = some k → Mo k) : Frm Mo w w' :=
  ⟨h.os, h.tape, h.output, h.size, fun k hk hn => h.block k hk (fun e => hn (hr k e.symm))⟩
theorem Frm.below {Mo : Nat → Prop} {w w' : World} {B : Nat} (h : Frm Mo w w') (hB : B ≤ w.heap.size) (hm : ∀ k, Mo k → B ≤ k) : Below B w w' :=
  ⟨h.os, h.tape, h.output, h.size, fun k hk => h.block k (by omega) (fun h1 => by have := hm k h1; omega)⟩
theorem Frm.set {Mo : Nat → Prop} (w : World) (b o : Nat) (v : Value) (h : Mo b) : Frm Mo w (w.setCell ⟨b, o, none⟩ v) :=
  ⟨rfl, rfl, rfl, by simp, fun k _ hn => heap_setCell_other w ⟨b, o, none⟩ k v (fun e => hn (by rw [e]; exact h))⟩

/-- A network's cells. -/
def pcells (par : Nat → Bool) : List Value := (List.range 4096).map fun k => Value.bool (par k)
def ncells (V : Value) (last : Int) (par : Nat → Bool) : Array Value := ⟨V :: .int .i64 last :: pcells par⟩
theorem pcells_len (par : Nat → Bool) : (pcells par).length = 4096 := by unfold pcells; rw [List.length_map, List.length_range]
theorem pcells_at (par : Nat → Bool) (k : Nat) (h : k < 4096) : (pcells par)[k]? = some (.bool (par k)) := by
  unfold pcells
  rw [List.getElem?_map, List.getElem?_range h]; rfl
theorem ncells_at (V : Value) (last : Int) (par : Nat → Bool) (k : Nat) (h : k < 4096) : (ncells V last par)[2 + k]? = some (.bool (par k)) := by
  unfold ncells
  rw [show 2 + k = k + 1 + 1 by omega]
  simpa using pcells_at par k h
theorem pcells_set (par : Nat → Bool) (k : Nat) (v : Bool) (h : k < 4096) : (pcells par).set k (.bool v) = pcells fun j => if j = k then v else par j := by
  refine List.ext_getElem? fun i => ?_
  by_cases hi : i < 4096
  · rw [pcells_at _ i hi, List.getElem?_set]
    by_cases e : k = i
    · subst e; simp [pcells_len, h]
    · rw [if_neg e, pcells_at _ i hi, if_neg (fun x => e x.symm)]
  · rw [List.getElem?_eq_none (by rw [List.length_set, pcells_len]; omega), List.getElem?_eq_none (by rw [pcells_len]; omega)]
theorem ncells_set (V : Value) (last : Int) (par : Nat → Bool) (k : Nat) (v : Bool) (h : k < 4096) : (ncells V last par).setIfInBounds (2 + k) (.bool v) = ncells V last fun j => if j = k then v else par j := by
  unfold ncells
  rw [List.setIfInBounds_toArray, show 2 + k = k + 1 + 1 by omega, List.set_cons_succ, List.set_cons_succ, pcells_set par k v h]
theorem pcells_no : pcells (fun _ => false) = List.replicate 4096 (.bool false) := by
  unfold pcells
  rw [List.map_const', List.length_range]
/-- A network in block b, its messages' slice V, all of it at B or above. -/
structure NAt (w : World) (B b : Nat) (V : Value) (S : NS) : Prop where
  hb : w.heap[b]? = some (.cells (ncells V S.last S.par) 54)
  row : MRow w B V S.mail
  base : B ≤ b
  len : S.mail.length ≤ 2000
  ends : ∀ m ∈ S.mail, endB m.f = true ∧ endB m.t = true ∧ m.s.size ≤ 80000
def nmods (b : Nat) (V : Value) (k : Nat) : Prop := k = b ∨ V.ownBlock = some k
theorem NAt.not {w : World} {B b : Nat} {V : Value} {S : NS} (h : NAt w B b V S) {k : Nat} {cs : Array Value} {T : TypeId} {f : Nat × Nat} (hk : w.heap[k]? = some (.cells cs T f)) (h1 : T ≠ 54) (h2 : T ≠ 34) : ¬ nmods b V k := by
  rintro (rfl | hm)
  · exact kinds_ne hk h.hb h1 rfl
  · obtain ⟨cur, e⟩ := row_heap h.row hm
    exact kinds_ne hk e h2 rfl
theorem NAt.own {w : World} {B b : Nat} {V : Value} {S : NS} (h : NAt w B b V S) : V.ownBlock ≠ some b := fun e => by
  obtain ⟨cur, e2⟩ := row_heap h.row e
  exact kinds_ne h.hb e2 (by decide) rfl
theorem NAt.lt {w : World} {B b : Nat} {V : Value} {S : NS} (h : NAt w B b V S) : b < w.heap.size := (Array.getElem?_eq_some_iff.1 h.hb).1
theorem NAt.mods {w : World} {B b : Nat} {V : Value} {S : NS} (h : NAt w B b V S) {k : Nat} (hk : nmods b V k) : B ≤ k ∧ k < w.heap.size := by
  rcases hk with rfl | hk
  · exact ⟨h.base, h.lt⟩
  · exact World.ownsRow.lt h.row k hk
theorem NAt.c0 {w : World} {B b : Nat} {V : Value} {S : NS} (h : NAt w B b V S) : w.cell? ⟨b, 0, none⟩ = some V := cell_of h.hb
theorem NAt.c1 {w : World} {B b : Nat} {V : Value} {S : NS} (h : NAt w B b V S) : w.cell? ⟨b, 1, none⟩ = some (.int .i64 S.last) := cell_of h.hb
theorem NAt.cp {w : World} {B b : Nat} {V : Value} {S : NS} (h : NAt w B b V S) {k : Nat} (hk : k < 4096) : w.cell? ⟨b, 2 + k, none⟩ = some (.bool (S.par k)) := (cell_of h.hb).trans (ncells_at _ _ _ k hk)
theorem NAt.fz {w : World} {B b : Nat} {V : Value} {S : NS} (h : NAt w B b V S) (j : Nat) : w.frozen? ⟨b, j, none⟩ = false := frozen_of h.hb
theorem NAt.later {w w' : World} {B b : Nat} {V : Value} {S : NS} (h : NAt w B b V S) (k : Below w.heap.size w w') : NAt w' B b V S :=
  ⟨(k.block b h.lt).trans h.hb, h.row.later k, h.base, h.len, h.ends⟩
theorem NAt.mono {w : World} {B B' b : Nat} {V : Value} {S : NS} (h : NAt w B b V S) (k : B' ≤ B) : NAt w B' b V S := ⟨h.hb, h.row.mono k, Nat.le_trans k h.base, h.len, h.ends⟩
/-- The network has gone from one state to S'. -/
structure NW (w w' : World) (B b : Nat) (V V' : Value) (S' : NS) : Prop where
  at_ : NAt w' B b V' S'
  frm : Frm (nmods b V) w w'
  sub : ∀ k, V'.ownBlock = some k → V.ownBlock = some k ∨ w.heap.size ≤ k
theorem NW.refl {w : World} {B b : Nat} {V : Value} {S : NS} (h : NAt w B b V S) : NW w w B b V V S := ⟨h, Frm.refl _ _, fun _ h => Or.inl h⟩
theorem NW.of_below {w w' : World} {B b : Nat} {V : Value} {S : NS} (h : NAt w B b V S) (k : Below w.heap.size w w') : NW w w' B b V V S := ⟨h.later k, Frm.of_below k, fun _ h => Or.inl h⟩
theorem NW.trans {w w' w'' : World} {B b : Nat} {V V' V'' : Value} {S' S'' : NS} (h : NW w w' B b V V' S') (k : NW w' w'' B b V' V'' S'') : NW w w'' B b V V'' S'' :=
  ⟨k.at_, h.frm.trans k.frm fun i hi => by
    rcases hi with rfl | hi
    · exact Or.inl (Or.inl rfl)
    · rcases h.sub i hi with h1 | h1
      · exact Or.inl (Or.inr h1)
      · exact Or.inr h1, fun i hi => by
    rcases k.sub i hi with h1 | h1
    · exact h.sub i h1
    · exact Or.inr (Nat.le_trans h.frm.size h1)⟩
theorem NW.later {w w' w'' : World} {B b : Nat} {V V' : Value} {S' : NS} (h : NW w w' B b V V' S') (k : Below w'.heap.size w' w'') : NW w w'' B b V V' S' := h.trans (NW.of_below h.at_ k)
theorem NW.ahead {w w' w'' : World} {B b : Nat} {V V' : Value} {S' : NS} (k : Below w.heap.size w w') (h : NW w' w'' B b V V' S') : NW w w'' B b V V' S' :=
  ⟨h.at_, Frm.trans (Mo := nmods b V) (Frm.of_below k) h.frm fun i hi => Or.inl hi, fun i hi => by
    rcases h.sub i hi with h1 | h1
    · exact Or.inl h1
    · exact Or.inr (Nat.le_trans k.size h1)⟩
theorem NW.below {w w' : World} {B b : Nat} {V V' : Value} {S S' : NS} (h : NW w w' B b V V' S') (k : NAt w B b V S) {C : Nat} (hC : C ≤ B) : Below C w w' :=
  h.frm.below (by have := k.lt; have := k.base; omega) fun i hi => by have := (k.mods hi).1; omega
/-- A method has answered v, and the network is S'. -/
def NDone (B b : Nat) (V : Value) (S' : NS) (v : Value) (w : World) (e : Ending) (w' : World) : Prop := ∃ V', e = .returned v ∧ NW w w' B b V V' S'
end Go.Proofs.Ytnjabhjcnkbgpaa
