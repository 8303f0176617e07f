/- A directory in memory: the struct, its two folders, its changes, its files and their bytes. -/
import Derived.Test.YteijmjbiaffcmaaGreatDoorFilesChg
import Derived.Deep.AppendSrc
import Derived.Deep.Upon
import Derived.Maps.AppendAt
import Derived.Lib.AppendStr
import Derived.Laws.Rows
set_option maxRecDepth 20000
set_option linter.unusedSimpArgs false
namespace Go.Proofs.YteijmjbiaffcmaaGreatDoor.Fi
open Go.RowKit Go.Maps Go.Shelf

theorem bel_next {w a b : World} (h : Below w.heap.size w a) (k : Below a.heap.size a b) : Below w.heap.size w b := h.trans (k.mono h.size)
theorem bel_new {w a : World} (h : Below w.heap.size w a) (o : Obj) : Below w.heap.size w (a.alloc o) := h.alloc h.size o
theorem below_drewN {B : Nat} {a w : World} (h : Below B a w) (n : Nat) : Below B a (w.drewN n) := ⟨h.os, h.tape, h.output, h.size, h.block⟩
theorem info_parts {o : Option TypeInfo} {z : Value} {n m : Nat} (h : o.map (fun i => (i.zero, i.size, i.bytes)) = some (some z, n, m)) : ∃ i0, o = some i0 ∧ i0.zero = some z ∧ i0.size = n ∧ i0.bytes = m := by
  cases o with
  | none => cases h
  | some i => simp at h; exact ⟨i, rfl, h.1, h.2.1, h.2.2⟩
theorem infoB : (Tryz.prog.info? 5).map (fun i => (i.zero, i.size, i.bytes)) = some (some (.int .u8 0), 1, 1) := by kernel_rfl
theorem infoF : (Tryz.prog.info? 93).map (fun i => (i.zero, i.size, i.bytes)) = some (some .nilFunc, 1, 8) := by kernel_rfl
/-- A file: its block, its bytes, how many of them are synchronized. -/
structure Fil where
  q : Nat
  s : ByteArray
  k : Nat
/-- A directory. -/
structure FS where
  room : Int
  now : FM
  firm : FM
  chg : List Chg
  on : Bool
  armed : Bool
  left : Int
  fil : List Fil
/-- Where its parts lie: its folders' blocks, its slice of changes, its files' slices of bytes, the boxes of the changes. -/
structure Lay where
  bn : Option Nat
  bf : Option Nat
  vc : Value
  V : Nat → Value
  cs : List (Nat × Nat)
def BRow (w : World) (v : Value) (s : ByteArray) : Prop := w.ownsRow 0 5 1 v s.size (Lib.strCells s)
def ptr (q : Nat) : Value := .pointer (some ⟨q, 0, none⟩)
/-- The function value that does a change. -/
def chgV : Chg → Nat × Nat → Value
  | .mk _ _, p => .func (.func 111) #[] #[.pointer (some ⟨p.1, 0, none⟩), .pointer (some ⟨p.2, 0, none⟩)]
  | .del _, p => .func (.func 112) #[] #[.pointer (some ⟨p.1, 0, none⟩)]
  | .ren _ _, _ => .nilFunc
/-- A box that holds a name. -/
def BoxN (w : World) (c : Nat) (n : Nm) : Prop := ∃ s : ByteArray, nm s = n ∧ s.size ≤ 20 ∧ w.heap[c]? = some (.cells #[.string s] 9)
def CapIs (w : World) : Chg → Nat × Nat → Prop
  | .mk n q, p => w.heap[p.1]? = some (.cells #[.pointer (some ⟨q, 0, none⟩)] 86) ∧ BoxN w p.2 n
  | .del n, p => BoxN w p.1 n
  | .ren _ _, _ => False
def Apart (u v : Value) : Prop := u.ownBlock = none ∨ u.ownBlock ≠ v.ownBlock
def headV (S : FS) (L : Lay) : Array Value := #[.int .i64 S.room, .map L.bn, .map L.bf, L.vc, .bool S.on, .bool S.armed, .int .i64 S.left]
structure FsAt (w : World) (b : Nat) (S : FS) (L : Lay) : Prop where
  hb : w.heap[b]? = some (.cells (headV S L) 79)
  now : SrcIs w L.bn S.now
  firm : SrcIs w L.bf S.firm
  two : L.bn = none ∨ L.bn ≠ L.bf
  row : w.ownsRow 0 93 1 L.vc S.chg.length ((S.chg.zip L.cs).map fun p => chgV p.1 p.2)
  lcs : L.cs.length = S.chg.length
  caps : ∀ p ∈ S.chg.zip L.cs, CapIs w p.1 p.2
  fil : ∀ f ∈ S.fil, w.heap[f.q]? = some (.cells #[L.V f.q, .int .i64 (f.k : Int)] 90) ∧ BRow w (L.V f.q) f.s
  ap : ∀ f ∈ S.fil, ∀ g ∈ S.fil, f.q ≠ g.q → Apart (L.V f.q) (L.V g.q)
/-- The blocks that a directory's methods turn. -/
def mods (b : Nat) (S : FS) (L : Lay) (k : Nat) : Prop := k = b ∨ L.bn = some k ∨ L.bf = some k ∨ L.vc.ownBlock = some k ∨ ∃ f ∈ S.fil, k = f.q ∨ (L.V f.q).ownBlock = some k
/-- All but some blocks stand as they stood. -/
structure Frm (Mo : Nat → Prop) (w w' : World) : Prop where
  os : w'.os = w.os
  tape : w'.tape = w.tape
  output : w'.output = w.output
  size : w.heap.size ≤ w'.heap.size
  block : ∀ k, k < w.heap.size → ¬ Mo k → w'.heap[k]? = w.heap[k]?
theorem Frm.refl (Mo : Nat → Prop) (w : World) : Frm Mo w w := ⟨rfl, rfl, rfl, Nat.le_refl _, fun _ _ _ => rfl⟩
theorem Frm.trans {Mo Mo' : Nat → Prop} {a b c : World} (h : Frm Mo a b) (k : Frm Mo' b c) (hs : ∀ i, Mo' i → Mo i ∨ a.heap.size ≤ i) : Frm Mo a c :=
  ⟨k.os.trans h.os, k.tape.trans h.tape, k.output.trans h.output, Nat.le_trans h.size k.size, fun i hi hn => (k.block i (Nat.lt_of_lt_of_le hi h.size) (fun hm => by
    rcases hs i hm with h1 | h1
    · exact hn h1
    · omega)).trans (h.block i hi hn)⟩
theorem Frm.of_below {Mo : Nat → Prop} {w w' : World} (h : Below w.heap.size w w') : Frm Mo w w' := ⟨h.os, h.tape, h.output, h.size, fun k hk _ => h.block k hk⟩
theorem Frm.of_grown {Mo : Nat → Prop} {w w' : World} {r : Option Nat} (h : w.grownBy w' r) (hr : ∀ k, r = some k → Mo k) : Frm Mo w w' :=
  ⟨h.os, h.tape, h.output, h.size, fun k hk hn => h.block k hk (fun e => hn (hr k e.symm))⟩
theorem Frm.below {Mo : Nat → Prop} {w w' : World} {B : Nat} (h : Frm Mo w w') (hB : B ≤ w.heap.size) (hm : ∀ k, Mo k → B ≤ k) : Below B w w' :=
  ⟨h.os, h.tape, h.output, h.size, fun k hk => h.block k (by omega) (fun h1 => by have := hm k h1; omega)⟩
/-- A directory has gone from S to S'. -/
structure Went (w w' : World) (b : Nat) (S S' : FS) (L L' : Lay) : Prop where
  at_ : FsAt w' b S' L'
  frm : Frm (mods b S L) w w'
  sub : ∀ k, mods b S' L' k → mods b S L k ∨ w.heap.size ≤ k
theorem Went.trans {w w' w'' : World} {b : Nat} {S S' S'' : FS} {L L' L'' : Lay} (h : Went w w' b S S' L L') (k : Went w' w'' b S' S'' L' L'') : Went w w'' b S S'' L L'' :=
  ⟨k.at_, h.frm.trans k.frm h.sub, fun i hi => by
    rcases k.sub i hi with h1 | h1
    · exact h.sub i h1
    · exact Or.inr (Nat.le_trans h.frm.size h1)⟩
theorem row_heap {w : World} {B n : Nat} {e : TypeId} {v : Value} {xs : List Value} (h : w.ownsRow B e 1 v n xs) {k : Nat} (hk : v.ownBlock = some k) : ∃ cur, w.heap[k]? = some (.cells cur e) := by
  rcases h.2 with ⟨rfl, _⟩ | ⟨g, cap, cur, rfl, _, hh, _⟩
  · cases hk
  · injection hk with e; subst e; exact ⟨cur, hh⟩
theorem SrcIs.lt {w : World} {p : Option Nat} {M : FM} (h : SrcIs w p M) {k : Nat} (hk : p = some k) : ∃ es c, w.heap[k]? = some (.map es c) := by
  rcases h with ⟨rfl, _⟩ | ⟨b, rfl, es, clock, hb, _⟩
  · cases hk
  · injection hk with e; subst e; exact ⟨es, clock, hb⟩
/-- What kind of block a directory's methods turn. -/
theorem FsAt.kind {w : World} {b : Nat} {S : FS} {L : Lay} (h : FsAt w b S L) {k : Nat} (hk : mods b S L k) : (∃ es c, w.heap[k]? = some (.map es c)) ∨ ∃ cur T, w.heap[k]? = some (.cells cur T) ∧ (T = 79 ∨ T = 93 ∨ T = 90 ∨ T = 5) := by
  rcases hk with rfl | hk | hk | hk | ⟨f, hf, rfl | hk⟩
  · exact Or.inr ⟨_, _, h.hb, Or.inl rfl⟩
  · exact Or.inl (h.now.lt hk)
  · exact Or.inl (h.firm.lt hk)
  · obtain ⟨cur, e⟩ := row_heap h.row hk
    exact Or.inr ⟨cur, _, e, Or.inr (Or.inl rfl)⟩
  · exact Or.inr ⟨_, _, (h.fil f hf).1, Or.inr (Or.inr (Or.inl rfl))⟩
  · obtain ⟨cur, e⟩ := row_heap (h.fil f hf).2 hk
    exact Or.inr ⟨cur, _, e, Or.inr (Or.inr (Or.inr rfl))⟩
theorem FsAt.room {w : World} {b : Nat} {S : FS} {L : Lay} (h : FsAt w b S L) {k : Nat} (hk : mods b S L k) : k < w.heap.size := by
  rcases h.kind hk with ⟨es, c, e⟩ | ⟨cur, T, e, _⟩
  · exact (Array.getElem?_eq_some_iff.1 e).1
  · exact (Array.getElem?_eq_some_iff.1 e).1
/-- A block of another kind is none of them. -/
theorem FsAt.not {w : World} {b : Nat} {S : FS} {L : Lay} (h : FsAt w b S L) {k : Nat} {cs : Array Value} {T : TypeId} (hk : w.heap[k]? = some (.cells cs T)) (h1 : T ≠ 79) (h2 : T ≠ 93) (h3 : T ≠ 90) (h4 : T ≠ 5) : ¬ mods b S L k := by
  intro hm
  rcases h.kind hm with ⟨es, c, e⟩ | ⟨cur, T', e, hT⟩
  · rw [hk] at e; cases e
  · rw [hk] at e
    injection e with e
    injection e with _ e
    subst e
    rcases hT with h | h | h | h
    · exact h1 h
    · exact h2 h
    · exact h3 h
    · exact h4 h
theorem BoxN.of {w w' : World} {c : Nat} {n : Nm} (h : BoxN w c n) (e : ∀ o, w.heap[c]? = some o → w'.heap[c]? = some o) : BoxN w' c n := by
  obtain ⟨s, h1, h2, h3⟩ := h
  exact ⟨s, h1, h2, e _ h3⟩
/-- The captured boxes stand wherever blocks of their kinds stand. -/
theorem CapIs.of {w w' : World} {c : Chg} {p : Nat × Nat} (h : CapIs w c p) (e : ∀ (k : Nat) (cs : Array Value) (T : TypeId), w.heap[k]? = some (Obj.cells cs T) → (T = 9 ∨ T = 86) → w'.heap[k]? = some (Obj.cells cs T)) : CapIs w' c p := by
  have hn : ∀ c n, BoxN w c n → BoxN w' c n := fun c n ⟨s, h1, h2, h3⟩ => ⟨s, h1, h2, e _ _ _ h3 (Or.inl rfl)⟩
  cases c with
  | mk n q => exact ⟨e _ _ _ h.1 (Or.inr rfl), hn _ _ h.2⟩
  | del n => exact hn _ _ h
  | ren n t => exact h
theorem row_of {w w' : World} {B n : Nat} {e : TypeId} {v : Value} {xs : List Value} (h : w.ownsRow B e 1 v n xs) (hk : ∀ k, v.ownBlock = some k → w'.heap[k]? = w.heap[k]?) : w'.ownsRow B e 1 v n xs := by
  refine ⟨h.1, ?_⟩
  rcases h.2 with h1 | ⟨g, cap, cur, rfl, hg, hh, hr⟩
  · exact Or.inl h1
  · exact Or.inr ⟨g, cap, cur, rfl, hg, (hk g rfl).trans hh, hr⟩
theorem SrcIs.of {w w' : World} {p : Option Nat} {M : FM} (h : SrcIs w p M) (hk : ∀ k, p = some k → w'.heap[k]? = w.heap[k]?) : SrcIs w' p M := by
  rcases h with h | ⟨b, rfl, h⟩
  · exact Or.inl h
  · exact Or.inr ⟨b, rfl, h.of_heap (hk b rfl)⟩
/-- Nothing of it has turned. -/
theorem FsAt.keep {w w' : World} {b : Nat} {S : FS} {L : Lay} (h : FsAt w b S L) (hk : ∀ k, mods b S L k → w'.heap[k]? = w.heap[k]?) (hc : ∀ (k : Nat) (cs : Array Value) (T : TypeId), w.heap[k]? = some (Obj.cells cs T) → (T = 9 ∨ T = 86) → w'.heap[k]? = some (Obj.cells cs T)) : FsAt w' b S L :=
  ⟨(hk b (Or.inl rfl)).trans h.hb, h.now.of fun k e => hk k (Or.inr (Or.inl e)), h.firm.of fun k e => hk k (Or.inr (Or.inr (Or.inl e))), h.two, row_of h.row fun k e => hk k (Or.inr (Or.inr (Or.inr (Or.inl e)))), h.lcs, fun p hp => CapIs.of (h.caps p hp) hc,
    fun f hf => ⟨(hk f.q (Or.inr (Or.inr (Or.inr (Or.inr ⟨f, hf, Or.inl rfl⟩))))).trans (h.fil f hf).1, row_of (h.fil f hf).2 fun k e => hk k (Or.inr (Or.inr (Or.inr (Or.inr ⟨f, hf, Or.inr e⟩))))⟩, h.ap⟩
theorem FsAt.later {w w' : World} {b : Nat} {S : FS} {L : Lay} (h : FsAt w b S L) (k : Below w.heap.size w w') : FsAt w' b S L :=
  h.keep (fun i hi => k.block i (h.room hi)) fun i _ _ e _ => (k.block i (Array.getElem?_eq_some_iff.1 e).1).trans e
/-- Another directory's method has been called. -/
theorem FsAt.beside {w w' : World} {b b2 : Nat} {S S2 S2' : FS} {L L2 L2' : Lay} (h : FsAt w b S L) (h2 : FsAt w b2 S2 L2) (k : Went w w' b2 S2 S2' L2 L2') (hd : ∀ i, mods b S L i → ¬ mods b2 S2 L2 i) : FsAt w' b S L :=
  h.keep (fun i hi => k.frm.block i (h.room hi) (hd i hi)) fun i cs T e hT => by
    refine (k.frm.block i (Array.getElem?_eq_some_iff.1 e).1 (h2.not e ?_ ?_ ?_ ?_)).trans e
    all_goals rcases hT with rfl | rfl <;> decide
theorem kinds_ne {w : World} {k b : Nat} {cs cs' : Array Value} {T T' : TypeId} (h : w.heap[k]? = some (.cells cs T)) (h' : w.heap[b]? = some (.cells cs' T')) (hT : T ≠ T') : k ≠ b := by
  rintro rfl
  rw [h] at h'
  injection h' with e
  injection e with _ e
  exact hT e
theorem map_ne {w : World} {k b : Nat} {es : Array MapEntry} {c : Nat} {cs' : Array Value} {T' : TypeId} (h : w.heap[k]? = some (.map es c)) (h' : w.heap[b]? = some (.cells cs' T')) : k ≠ b := by
  rintro rfl
  rw [h] at h'
  cases h'
/-- The struct's fields have turned, and nothing else of it. -/
theorem FsAt.rehead {w w' : World} {b : Nat} {S S' : FS} {L : Lay} (h : FsAt w b S L) (hb' : w'.heap[b]? = some (.cells (headV S' L) 79)) (ho : ∀ k, k ≠ b → k < w.heap.size → w'.heap[k]? = w.heap[k]?) (e1 : S'.now = S.now) (e2 : S'.firm = S.firm) (e3 : S'.chg = S.chg) (e4 : S'.fil = S.fil) : FsAt w' b S' L := by
  have hrow : ∀ {n : Nat} {e : TypeId} {v : Value} {xs : List Value}, w.ownsRow 0 e 1 v n xs → e ≠ 79 → w'.ownsRow 0 e 1 v n xs := fun hr hne => row_of hr fun k hk => by
    obtain ⟨cur, hh⟩ := row_heap hr hk
    exact ho k (kinds_ne hh h.hb hne) (Array.getElem?_eq_some_iff.1 hh).1
  have hsrc : ∀ {p : Option Nat} {M : FM}, SrcIs w p M → SrcIs w' p M := fun hs => hs.of fun k hk => by
    obtain ⟨es, c, hh⟩ := hs.lt hk
    exact ho k (map_ne hh h.hb) (Array.getElem?_eq_some_iff.1 hh).1
  refine ⟨hb', by rw [e1]; exact hsrc h.now, by rw [e2]; exact hsrc h.firm, h.two, by rw [e3]; exact hrow h.row (by decide), by rw [e3]; exact h.lcs, fun p hp => ?_, fun f hf => ?_, by rw [e4]; exact h.ap⟩
  · rw [e3] at hp
    refine CapIs.of (h.caps p hp) fun k cs T e hT => (ho k (kinds_ne e h.hb ?_) (Array.getElem?_eq_some_iff.1 e).1).trans e
    rcases hT with rfl | rfl <;> decide
  · rw [e4] at hf
    obtain ⟨g1, g2⟩ := h.fil f hf
    exact ⟨(ho f.q (kinds_ne g1 h.hb (by decide)) (Array.getElem?_eq_some_iff.1 g1).1).trans g1, hrow g2 (by decide)⟩
theorem mods_same {b : Nat} {S S' : FS} {L : Lay} (e4 : S'.fil = S.fil) (k : Nat) : mods b S' L k → mods b S L k := by
  unfold mods; rw [e4]; exact id
theorem Went.set {w : World} {b : Nat} {S : FS} {L : Lay} (h : FsAt w b S L) (S' : FS) (j : Nat) (v : Value) (e : headV S' L = (headV S L).setIfInBounds j v) (e1 : S'.now = S.now) (e2 : S'.firm = S.firm) (e3 : S'.chg = S.chg) (e4 : S'.fil = S.fil) :
    Went w (w.setCell ⟨b, j, none⟩ v) b S S' L L :=
  ⟨h.rehead (by rw [e]; exact heap_setCell_same w b j _ _ v h.hb) (fun k hk _ => heap_setCell_other w ⟨b, j, none⟩ k v hk) e1 e2 e3 e4,
    ⟨rfl, rfl, rfl, by simp, fun k _ hn => heap_setCell_other w ⟨b, j, none⟩ k v (fun e => hn (Or.inl e))⟩, fun k hk => Or.inl (mods_same e4 k hk)⟩
theorem Went.refl {w : World} {b : Nat} {S : FS} {L : Lay} (h : FsAt w b S L) : Went w w b S S L L := ⟨h, Frm.refl _ _, fun _ hk => Or.inl hk⟩
theorem Went.below {w w' : World} {b : Nat} {S : FS} {L : Lay} (h : FsAt w b S L) (k : Below w.heap.size w w') : Went w w' b S S L L := ⟨h.later k, Frm.of_below k, fun _ hk => Or.inl hk⟩
theorem cell_of {w : World} {b j : Nat} {cs : Array Value} {T : TypeId} (h : w.heap[b]? = some (.cells cs T)) : w.cell? ⟨b, j, none⟩ = cs[j]? := by
  rw [World.cell?_of_block (w := w) (w' := w) rfl]; simp [World.cell?, h]
theorem frozen_of {w : World} {b j : Nat} {cs : Array Value} {T : TypeId} (h : w.heap[b]? = some (.cells cs T)) : w.frozen? ⟨b, j, none⟩ = false := frozen_of_row w b j cs T h
end Go.Proofs.YteijmjbiaffcmaaGreatDoor.Fi
