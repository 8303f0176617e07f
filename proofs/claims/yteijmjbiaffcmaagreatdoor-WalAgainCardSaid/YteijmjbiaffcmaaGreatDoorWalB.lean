/- Joined: WalAt, WalAsk. -/
import Derived.Test.YteijmjbiaffcmaaGreatDoorWalStr
import Derived.Test.YteijmjbiaffcmaaGreatDoorFilesDirs
import Derived.Test.YteijmjbiaffcmaaGreatDoorFrameHelp
import Derived.Deep.RegionHeld
/- A log in memory beside its directory. -/
set_option maxRecDepth 20000
set_option linter.unusedSimpArgs false
set_option linter.unusedVariables false
namespace Go.Proofs.YteijmjbiaffcmaaGreatDoor
open Go.RowKit Go.Maps Go.Shelf Go.Proofs.YteijmjbiaffcmaaGreatDoor.Vi Go.Proofs.YteijmjbiaffcmaaGreatDoor.Crc Go.Proofs.YteijmjbiaffcmaaGreatDoor.Fr Go.Proofs.YteijmjbiaffcmaaGreatDoor.Fi

/-- A log: the segment appended to, the state, the first record's number, the records, the last durable one's number. -/
structure WS where
  sg : Int
  st : ByteArray
  fi : Int
  rc : List ByteArray
  fm : Int
  br : Bool
/-- A slice of texts of the log's own; one that has a block is not empty. -/
def Rec (w : World) (v : Value) (xs : List ByteArray) : Prop := w.ownsRow 0 9 1 v xs.length (xs.map Value.string) ∧ (v = .slice none 0 0 ∨ xs ≠ [])
theorem Rec.nil (w : World) : Rec w (.slice none 0 0) [] := ⟨World.ownsRow_nil _ _ _ _, Or.inl rfl⟩
theorem Rec.slice {w : World} {v : Value} {xs : List ByteArray} (h : Rec w v xs) : ∃ a c, v = .slice a xs.length c := ownsRow_slice h.1
theorem Rec.of {w w' : World} {v : Value} {xs : List ByteArray} (h : Rec w v xs) (hk : ∀ k, v.ownBlock = some k → w'.heap[k]? = w.heap[k]?) : Rec w' v xs := ⟨Fi.row_of h.1 hk, h.2⟩
theorem Rec.heap {w : World} {v : Value} {xs : List ByteArray} (h : Rec w v xs) {k : Nat} (hk : v.ownBlock = some k) : ∃ cur, w.heap[k]? = some (.cells cur 9) := Fi.row_heap h.1 hk
theorem Rec.later {w w' : World} {v : Value} {xs : List ByteArray} (h : Rec w v xs) (k : Below w.heap.size w w') : Rec w' v xs :=
  h.of fun i hi => k.block i (by obtain ⟨c, e⟩ := h.heap hi; exact (Array.getElem?_eq_some_iff.1 e).1)
theorem Rec.ss {w : World} {v : Value} {xs : List ByteArray} (h : Rec w v xs) : Ss w v xs := SRow.ss (B := 0) h.1
theorem row_base {w : World} {B n : Nat} {e : TypeId} {v : Value} {xs : List Value} (h : w.ownsRow B e 1 v n xs) : w.ownsRow 0 e 1 v n xs :=
  ⟨h.1, h.2.imp id fun ⟨g, cap, cur, a, _, c⟩ => ⟨g, cap, cur, a, Nat.zero_le _, c⟩⟩
/-- A block of one cell has not turned. -/
def Ones (w w' : World) : Prop := ∀ (k : Nat) (c : Value) (T : TypeId), w.heap[k]? = some (.cells #[c] T) → w'.heap[k]? = some (.cells #[c] T)
/-- One text appended to a slice of the log's own: for the walk. -/
theorem wpList_rec {w : World} {ops : Array Oper} {rest : List Oper} {o : Oper} {a : Act} {Q : Exit → Act → World → Prop} (hgd : o.guard = none) (sl x : Operand)
    (ho : o.op = .call { callee := .builtin .append, args := #[sl, x], argTypes := #[34, 34] })
    (v : Value) (xs : List ByteArray) (hs : a.eval sl = v) (y : ByteArray) (hx : a.eval x = .slice (some ⟨w.heap.size, 0, none⟩) 1 1) (hown : Rec w v xs) (hl : xs.length ≤ 100000000)
    (h : ∀ v' w', Rec w' v' (xs ++ [y]) → w.grownBy w' v.ownBlock → Ones w w' → (v'.ownBlock = v.ownBlock ∨ ∃ q, v'.ownBlock = some q ∧ w.heap.size ≤ q) → wpList Tryz.prog ops Q rest (a.put o.dst v') w') : wpList Tryz.prog ops Q (o :: rest) a (w.alloc (.cells #[.string y] 9)) := by
  obtain ⟨i0, hi, hz0, hz1, hz2⟩ := info_parts infoS
  have hr := hown.later ((Below.refl _ w).alloc (Nat.le_refl _) (.cells #[.string y] 9))
  have hal : w.grownBy (w.alloc (.cells #[.string y] 9)) none := World.grownBy_alloc w _ _
  have hcy : ∀ j u, ([Value.string y] : List Value)[j]? = some u → (w.alloc (.cells #[.string y] 9)).cell? ((⟨w.heap.size, 0, none⟩ : Addr).add j) = some u := by
    intro j u hj
    match j, hj with
    | 0, hj => simp at hj; subst hj; simp [Addr.add]
  have hlt : ∀ k c T, w.heap[k]? = some (.cells #[c] T) → k < w.heap.size := fun k c T e => (Array.getElem?_eq_some_iff.1 e).1
  obtain ⟨hr1, hr2⟩ := hr
  by_cases hfull : ∃ ao n cap, v = .slice ao n cap ∧ n + 1 ≤ cap
  · obtain ⟨ao, n, cap, rfl, hroom⟩ := hfull
    refine wpList_append_own_at (w := w.alloc (.cells #[.string y] 9)) hgd sl x 34 ho 0 9 i0 (.string ⟨#[]⟩) 1 16 Tryz.underlying34 hi hz0 hz1 hz2 rfl (by decide) _ xs.length (xs.map Value.string) hs hr1 ⟨w.heap.size, 0, none⟩ 1 1 [.string y] hx rfl hcy ?_ (by unfold maxLen; omega) (by omega) (by simp) ?_
    · intro u hu; simp at hu; subst hu; rfl
    · intro v' w' h2 h3 _ h4
      refine h v' w' ⟨by rw [List.length_append, List.map_append]; exact h2, Or.inr (by simp)⟩ ((World.grownBy_alloc w _ _).trans h3) ?_ ?_
      · intro k c T e
        have hkl := hlt k c T e
        have e1 : (w.alloc (.cells #[.string y] 9)).heap[k]? = some (.cells #[c] T) := (Below.heap_alloc w _ k hkl).trans e
        refine (h3.block k (by simp; omega) ?_).trans e1
        intro hk
        rcases hown.1.2 with ⟨e5, e6⟩ | ⟨g, cap', cur, e5, _, hh, hcap, _, hsz, _⟩
        · injection e5 with e7 e8 e9
          rw [e9] at hroom; omega
        · injection e5 with e7 e8 e9
          subst e7
          have hk' : k = g := by
            simp [Value.ownBlock] at hk; exact hk
          subst hk'
          rw [hh] at e
          injection e with e
          injection e with e _
          rw [e] at hsz
          have : cap' = 1 := by simpa using hsz.symm
          rcases hown.2 with h9 | h9
          · cases h9
          · have : 0 < xs.length := List.length_pos_iff.2 h9
            omega
      · rcases h4 with h4 | h4
        · exact Or.inl h4
        · exact Or.inr ⟨_, h4, by simp⟩
  · obtain ⟨ao, cap, hv⟩ := hown.slice
    subst hv
    have hf : cap < xs.length + 1 := by
      apply Nat.lt_of_not_le
      intro hc
      exact hfull ⟨_, _, _, rfl, hc⟩
    refine wpList_append_grows (w.alloc (.cells #[.string y] 9)) hgd sl x 34 ho 9 i0 (.string ⟨#[]⟩) 1 16 Tryz.underlying34 hi hz0 hz1 hz2 rfl (by decide) ao xs.length cap (xs.map Value.string) hs ?_ (by simp) ?_ ⟨w.heap.size, 0, none⟩ 1 1 [.string y] hx rfl hcy ?_ hf (by unfold maxLen; omega) (by omega) ?_
    · intro e
      rcases hr1.2 with ⟨e5, e6⟩ | ⟨g, cap', cur, e5, _⟩
      · injection e5 with e7 e8 e9
        exact ⟨e6, e9⟩
      · injection e5 with e7
        rw [e] at e7; cases e7
    · intro b hb j u hj
      rcases hr1.2 with ⟨e5, e6⟩ | ⟨g, cap', cur, e5, _⟩
      · injection e5 with e7 e8 e9
        rw [hb] at e7; cases e7
      · injection e5 with e7 e8 e9
        rw [hb] at e7
        injection e7 with e7
        subst e7
        have hjl := (List.getElem?_eq_some_iff.1 hj).1
        rw [add_off, Nat.zero_add]
        subst hb e9
        rw [World.ownsRow.cellAt hr1 j (by simpa using hjl), hj]
    · intro u hu; simp at hu; subst hu; rfl
    · intro v' w' h2 h3
      have hg : w.grownBy w' none := hal.trans h3
      refine h v' w' ⟨by rw [List.length_append, List.map_append]; exact row_base h2, Or.inr (by simp)⟩ ⟨hg.os, hg.tape, hg.output, hg.size, fun k hk _ => hg.block k hk (by simp)⟩ (fun k c T e => (hg.block k (hlt k c T e) (by simp)).trans e) ?_
      have := h2.lt
      cases e : v'.ownBlock with
      | none =>
        exfalso
        rcases h2.2 with ⟨e5, e6⟩ | ⟨g, cap', cur, e5, _⟩
        · omega
        · rw [e5] at e; simp [Value.ownBlock] at e
      | some q => exact Or.inr ⟨q, rfl, by have := (h2.lt q e).1; simp at this; omega⟩
def walV (b : Nat) (W : WS) (v : Value) : Array Value := #[.pointer (some ⟨b, 0, none⟩), .int .i64 W.sg, .string W.st, .int .i64 W.fi, v, .int .i64 W.fm, .bool W.br]
structure WalAt (w : World) (b : Nat) (S : FS) (L : Lay) (a : Nat) (W : WS) (v : Value) : Prop where
  dir : Dir w b S L
  cell : w.heap[a]? = some (.cells (walV b W v) 60)
  rcs : Rec w v W.rc
def wmods (b : Nat) (S : FS) (L : Lay) (a : Nat) (v : Value) (k : Nat) : Prop := mods b S L k ∨ k = a ∨ v.ownBlock = some k
theorem WalAt.room {w : World} {b : Nat} {S : FS} {L : Lay} {a : Nat} {W : WS} {v : Value} (h : WalAt w b S L a W v) {k : Nat} (hk : wmods b S L a v k) : k < w.heap.size := by
  rcases hk with hk | rfl | hk
  · exact h.dir.at_.room hk
  · exact (Array.getElem?_eq_some_iff.1 h.cell).1
  · obtain ⟨c, e⟩ := h.rcs.heap hk
    exact (Array.getElem?_eq_some_iff.1 e).1
/-- A log and its directory have gone on. -/
structure WWent (w w' : World) (b : Nat) (S S' : FS) (L L' : Lay) (a : Nat) (W W' : WS) (v v' : Value) : Prop where
  at_ : WalAt w' b S' L' a W' v'
  frm : Frm (wmods b S L a v) w w'
  sub : ∀ k, wmods b S' L' a v' k → wmods b S L a v k ∨ w.heap.size ≤ k
section
variable {w w' w'' : World} {b a : Nat} {S S' S'' : FS} {L L' L'' : Lay} {W W' W'' : WS} {v v' v'' : Value}
theorem WWent.refl (h : WalAt w b S L a W v) : WWent w w b S S L L a W W v v := ⟨h, Frm.refl _ _, fun _ hk => Or.inl hk⟩
theorem WWent.trans (h : WWent w w' b S S' L L' a W W' v v') (k : WWent w' w'' b S' S'' L' L'' a W' W'' v' v'') : WWent w w'' b S S'' L L'' a W W'' v v'' :=
  ⟨k.at_, h.frm.trans k.frm h.sub, fun i hi => by
    rcases k.sub i hi with h1 | h1
    · exact h.sub i h1
    · exact Or.inr (Nat.le_trans h.frm.size h1)⟩
theorem WalAt.later (h : WalAt w b S L a W v) (k : Below w.heap.size w w') : WalAt w' b S L a W v :=
  ⟨h.dir.later k, (k.block a (Array.getElem?_eq_some_iff.1 h.cell).1).trans h.cell, h.rcs.later k⟩
theorem WWent.below (h : WalAt w b S L a W v) (k : Below w.heap.size w w') : WWent w w' b S S L L a W W v v := ⟨h.later k, Frm.of_below k, fun _ hk => Or.inl hk⟩
/-- The directory has gone on. -/
theorem WWent.dir (h : WalAt w b S L a W v) (k : Went w w' b S S' L L') (d : Dir w' b S' L') : WWent w w' b S S' L L' a W W v v := by
  refine ⟨⟨d, ?_, h.rcs.of fun i hi => ?_⟩, ⟨k.frm.os, k.frm.tape, k.frm.output, k.frm.size, fun i hi hn => k.frm.block i hi fun hm => hn (Or.inl hm)⟩, fun i hi => ?_⟩
  · exact (k.frm.block a (Array.getElem?_eq_some_iff.1 h.cell).1 (h.dir.at_.not h.cell (by decide) (by decide) (by decide) (by decide))).trans h.cell
  · obtain ⟨c, e⟩ := h.rcs.heap hi
    exact k.frm.block i (Array.getElem?_eq_some_iff.1 e).1 (h.dir.at_.not e (by decide) (by decide) (by decide) (by decide))
  · rcases hi with hi | hi | hi
    · exact (k.sub i hi).imp Or.inl id
    · exact Or.inl (Or.inr (Or.inl hi))
    · exact Or.inl (Or.inr (Or.inr hi))
theorem CapIs.ones {w w' : World} {c : Chg} {p : Nat × Nat} (h : CapIs w c p) (e : Ones w w') : CapIs w' c p := by
  have hn : ∀ c n, BoxN w c n → BoxN w' c n := fun c n ⟨s, h1, h2, h3⟩ => ⟨s, h1, h2, e _ _ _ h3⟩
  cases c with
  | mk n q => exact ⟨e _ _ _ h.1, hn _ _ h.2⟩
  | del n => exact hn _ _ h
  | ren n t => exact h
/-- All that turned lies outside a directory; blocks of one cell stand. -/
theorem FsAt.aside {w w' : World} {b : Nat} {S : FS} {L : Lay} (h : FsAt w b S L) (hk : ∀ k, mods b S L k → w'.heap[k]? = w.heap[k]?) (hc : Ones w w') : FsAt w' b S L :=
  ⟨(hk b (Or.inl rfl)).trans h.hb, h.now.of fun k e => hk k (Or.inr (Or.inl e)), h.firm.of fun k e => hk k (Or.inr (Or.inr (Or.inl e))), h.two, Fi.row_of h.row fun k e => hk k (Or.inr (Or.inr (Or.inr (Or.inl e)))), h.lcs, fun p hp => CapIs.ones (h.caps p hp) hc,
    fun f hf => ⟨(hk f.q (Or.inr (Or.inr (Or.inr (Or.inr ⟨f, hf, Or.inl rfl⟩))))).trans (h.fil f hf).1, Fi.row_of (h.fil f hf).2 fun k e => hk k (Or.inr (Or.inr (Or.inr (Or.inr ⟨f, hf, Or.inr e⟩))))⟩, h.ap⟩
/-- A field of the log, not its records, has turned. -/
theorem WWent.set (h : WalAt w b S L a W v) (W' : WS) (j : Nat) (u : Value) (e : walV b W' v = (walV b W v).setIfInBounds j u) (er : W'.rc = W.rc) : WWent w (w.setCell ⟨a, j, none⟩ u) b S S L L a W W' v v := by
  have hnm := h.dir.at_.not h.cell (by decide) (by decide) (by decide) (by decide)
  have ho : ∀ i, i ≠ a → (w.setCell ⟨a, j, none⟩ u).heap[i]? = w.heap[i]? := fun i hi => heap_setCell_other w ⟨a, j, none⟩ i u hi
  have hone : Ones w (w.setCell ⟨a, j, none⟩ u) := fun k c T e1 => by
    refine (ho k ?_).trans e1
    rintro rfl
    rw [h.cell] at e1
    injection e1 with e1
    injection e1 with e1 _
    have := congrArg Array.size e1
    simp [walV] at this
  refine ⟨⟨⟨FsAt.aside h.dir.at_ (fun i hi => ho i fun e => hnm (e ▸ hi)) hone, h.dir.bn, h.dir.whole⟩, by rw [e]; exact heap_setCell_same w a j _ _ _ h.cell, ?_⟩, ⟨rfl, rfl, rfl, by simp, fun i hi hn => ho i fun e => hn (Or.inr (Or.inl e))⟩, fun i hi => Or.inl hi⟩
  rw [er]
  refine h.rcs.of fun i hi => ho i ?_
  rintro rfl
  obtain ⟨c, e1⟩ := h.rcs.heap hi
  rw [h.cell] at e1
  injection e1 with e1
  injection e1 with _ e1
  revert e1; decide
/-- The records have turned. -/
theorem WWent.recs (h : WalAt w b S L a W v) {xs : List ByteArray} (hr : Rec w' v' xs) (hg : w.grownBy w' v.ownBlock) (h1 : Ones w w') (hs : v'.ownBlock = v.ownBlock ∨ v'.ownBlock = none ∨ ∃ q, v'.ownBlock = some q ∧ w.heap.size ≤ q) :
    WWent w (w'.setCell ⟨a, 4, none⟩ v') b S S L L a W { W with rc := xs } v v' := by
  have hnv : v.ownBlock ≠ some a := fun e => by
    obtain ⟨c, e1⟩ := h.rcs.heap e
    rw [h.cell] at e1
    injection e1 with e1
    injection e1 with _ e1
    revert e1; decide
  have hal : a < w.heap.size := (Array.getElem?_eq_some_iff.1 h.cell).1
  have hd : Dir w' b S L := ⟨FsAt.aside h.dir.at_ (fun i hi => hg.block i (h.dir.at_.room hi) (fun e => by
    obtain ⟨c, e1⟩ := h.rcs.heap e.symm
    exact h.dir.at_.not e1 (by decide) (by decide) (by decide) (by decide) hi)) h1, h.dir.bn, h.dir.whole⟩
  have hc : w'.heap[a]? = some (.cells (walV b W v) 60) := (hg.block a hal fun e => hnv e.symm).trans h.cell
  have hnv' : v'.ownBlock ≠ some a := fun e => by
    rcases hs with h2 | h2 | ⟨q, h2, h3⟩
    · exact hnv (h2.symm.trans e)
    · rw [h2] at e; cases e
    · rw [h2] at e; injection e with e; omega
  have hnm := hd.at_.not hc (by decide) (by decide) (by decide) (by decide)
  have ho : ∀ i, i ≠ a → (w'.setCell ⟨a, 4, none⟩ v').heap[i]? = w'.heap[i]? := fun i hi => heap_setCell_other w' ⟨a, 4, none⟩ i v' hi
  have hone : Ones w' (w'.setCell ⟨a, 4, none⟩ v') := fun k c T e1 => by
    refine (ho k ?_).trans e1
    rintro rfl
    rw [hc] at e1
    injection e1 with e1
    injection e1 with e1 _
    have := congrArg Array.size e1
    simp [walV] at this
  refine ⟨⟨⟨FsAt.aside hd.at_ (fun i hi => ho i fun e => hnm (e ▸ hi)) hone, hd.bn, hd.whole⟩, heap_setCell_same w' a 4 _ _ _ hc, hr.of fun i hi => ho i fun e => hnv' (e ▸ hi)⟩, ⟨hg.os, hg.tape, hg.output, by simpa using hg.size, fun i hi hn => (ho i fun e => hn (Or.inr (Or.inl e))).trans (hg.block i hi fun e => hn (Or.inr (Or.inr e.symm)))⟩, fun i hi => ?_⟩
  rcases hi with hi | hi | hi
  · exact Or.inl (Or.inl hi)
  · exact Or.inl (Or.inr (Or.inl hi))
  · rcases hs with h2 | h2 | ⟨q, h2, h3⟩
    · exact Or.inl (Or.inr (Or.inr (h2 ▸ hi)))
    · rw [h2] at hi; cases hi
    · rw [h2] at hi; injection hi with hi; exact Or.inr (by omega)
/-- A log above B, with the listed variables below B. -/
structure Log (B : Nat) (w : World) (b : Nat) (S : FS) (L : Lay) (a : Nat) (W : WS) (v : Value) : Prop where
  at_ : WalAt w b S L a W v
  lo : ∀ k, wmods b S L a v k → B ≤ k
  sz : B ≤ w.heap.size
  gl : ∀ w', Below B w w' → Glob w'
theorem Log.next {B : Nat} (h : Log B w b S L a W v) (k : WWent w w' b S S' L L' a W W' v v') : Log B w' b S' L' a W' v' :=
  ⟨k.at_, fun i hi => by
    rcases k.sub i hi with h1 | h1
    · exact h.lo i h1
    · exact Nat.le_trans h.sz h1, Nat.le_trans h.sz k.frm.size, fun u hu => h.gl u ((k.frm.below h.sz h.lo).trans hu)⟩
theorem Log.glob {B : Nat} (h : Log B w b S L a W v) : Glob w := h.gl w (Below.refl _ _)
theorem Log.bel {B : Nat} (h : Log B w b S L a W v) (k : WWent w w' b S S' L L' a W W' v v') : Below B w w' := k.frm.below h.sz h.lo
theorem Log.below {B : Nat} (h : Log B w b S L a W v) (k : Below w.heap.size w w') : Log B w' b S L a W v := h.next (WWent.below h.at_ k)
end
end Go.Proofs.YteijmjbiaffcmaaGreatDoor

/- Contracts of a log's queries, and of told. -/
set_option maxRecDepth 20000
set_option linter.unusedSimpArgs false
set_option linter.unusedVariables false
namespace Go.Proofs.YteijmjbiaffcmaaGreatDoor
open Go.RowKit Go.Maps Go.Shelf Go.Proofs.YteijmjbiaffcmaaGreatDoor.Vi Go.Proofs.YteijmjbiaffcmaaGreatDoor.Crc Go.Proofs.YteijmjbiaffcmaaGreatDoor.Fr Go.Proofs.YteijmjbiaffcmaaGreatDoor.Fi

structure WCells (w : World) (b a : Nat) (W : WS) (v : Value) : Prop where
  c0 : w.cell? ⟨a, 0, none⟩ = some (.pointer (some ⟨b, 0, none⟩))
  c1 : w.cell? ⟨a, 1, none⟩ = some (.int .i64 W.sg)
  c2 : w.cell? ⟨a, 2, none⟩ = some (.string W.st)
  c3 : w.cell? ⟨a, 3, none⟩ = some (.int .i64 W.fi)
  c4 : w.cell? ⟨a, 4, none⟩ = some v
  c5 : w.cell? ⟨a, 5, none⟩ = some (.int .i64 W.fm)
  c6 : w.cell? ⟨a, 6, none⟩ = some (.bool W.br)
theorem WalAt.cells {w : World} {b a : Nat} {S : FS} {L : Lay} {W : WS} {v : Value} (h : WalAt w b S L a W v) : WCells w b a W v :=
  ⟨cell_of h.cell, cell_of h.cell, cell_of h.cell, cell_of h.cell, cell_of h.cell, cell_of h.cell, cell_of h.cell⟩
theorem WalAt.free {w : World} {b a : Nat} {S : FS} {L : Lay} {W : WS} {v : Value} (h : WalAt w b S L a W v) (j : Nat) : w.frozen? ⟨a, j, none⟩ = false := frozen_of h.cell
section
variable {w : World} {b a : Nat} {S : FS} {L : Lay} {W : WS} {v : Value}
theorem first_is (h : WalAt w b S L a W v) : Calls Tryz.prog 23 #[.pointer (some ⟨a, 0, none⟩)] w fun e w' => e = .returned (.int .i64 W.fi) ∧ w = w' := by
  have c3 := h.cells.c3
  go_enter Tryz.func23, Tryz.ntmps23
  go_wp2
  go_ret
  exact ⟨rfl, rfl⟩
theorem firm_is (h : WalAt w b S L a W v) : Calls Tryz.prog 20 #[.pointer (some ⟨a, 0, none⟩)] w fun e w' => e = .returned (.int .i64 W.fm) ∧ w = w' := by
  have c5 := h.cells.c5
  go_enter Tryz.func20, Tryz.ntmps20
  go_wp2
  go_ret
  exact ⟨rfl, rfl⟩
theorem state_is (h : WalAt w b S L a W v) : Calls Tryz.prog 24 #[.pointer (some ⟨a, 0, none⟩)] w fun e w' => e = .returned (.string W.st) ∧ w = w' := by
  have c2 := h.cells.c2
  go_enter Tryz.func24, Tryz.ntmps24
  go_wp2
  go_ret
  exact ⟨rfl, rfl⟩
theorem broken_is (h : WalAt w b S L a W v) : Calls Tryz.prog 31 #[.pointer (some ⟨a, 0, none⟩)] w fun e w' => e = .returned (.bool W.br) ∧ w = w' := by
  have c0 := h.cells.c0
  have c6 := h.cells.c6
  go_enter Tryz.func31, Tryz.ntmps31
  go_wp2
  go_ret
  exact ⟨rfl, rfl⟩
def lastW (W : WS) : Int := W.fi + (W.rc.length : Int) - 1
structure Fine (W : WS) : Prop where
  f0 : 0 ≤ W.fi
  f1 : W.fi ≤ 2199023255552
  rc : W.rc.length ≤ 100000000
  s0 : 0 ≤ W.sg
  s1 : W.sg ≤ 100000000
theorem last_is (h : WalAt w b S L a W v) (hf : Fine W) : Calls Tryz.prog 21 #[.pointer (some ⟨a, 0, none⟩)] w fun e w' => e = .returned (.int .i64 (lastW W)) ∧ Below w.heap.size w w' := by
  obtain ⟨c0, -, -, c3, c4, -, -⟩ := h.cells
  obtain ⟨va, vc, rfl⟩ := h.rcs.slice
  obtain ⟨f0, f1, f2, -, -⟩ := hf
  unfold lastW
  obtain ⟨n, hn⟩ : ∃ n, W.rc.length = n := ⟨_, rfl⟩
  obtain ⟨f, hfi⟩ : ∃ f, W.fi = f := ⟨_, rfl⟩
  rw [hn] at c4 f2 ⊢
  rw [hfi] at c3 f0 f1 ⊢
  have w1 : IntKind.i64.wrap (f + (n : Int)) = f + (n : Int) := by rw [IntKind.wrap_i64]; omega
  have w2 : IntKind.i64.wrap (f + (n : Int) - 1) = f + (n : Int) - 1 := by rw [IntKind.wrap_i64]; omega
  clear h hn hfi
  go_enter Tryz.func21, Tryz.ntmps21
  go_wp2
  go_quiet (fail)
  go_wp2
  go_ret
  exact ⟨rfl, by first | exact Below.refl _ _ | exact (Below.refl _ _).drew | exact below_drewN (Below.refl _ _) _⟩
theorem ready_is (h : WalAt w b S L a W v) (z : Int) (he : Hid ((if W.br then 13 else 0) = z)) : Calls Tryz.prog 50 #[.pointer (some ⟨a, 0, none⟩)] w fun e w' => e = .returned (.int .i64 z) ∧ w = w' := by
  have k := broken_is h
  have he := he.out
  cases hb : W.br with
  | true =>
    rw [hb] at k he
    obtain rfl : (13 : Int) = z := he
    go_enter Tryz.func50, Tryz.ntmps50
    go_wp2_with (go_at_call 31; (with_reducible refine k.mono ?_); rintro e w1 ⟨rfl, rfl⟩)
    go_ret
    exact ⟨rfl, rfl⟩
  | false =>
    rw [hb] at k he
    obtain rfl : (0 : Int) = z := he
    go_enter Tryz.func50, Tryz.ntmps50
    go_wp2_with (go_at_call 31; (with_reducible refine k.mono ?_); rintro e w1 ⟨rfl, rfl⟩)
    go_ret
    exact ⟨rfl, rfl⟩
def toldW (W : WS) (e : Int) : WS := if e = 14 then { W with br := true } else W
theorem toldW_rc (W : WS) (e : Int) : (toldW W e).rc = W.rc := by unfold toldW; split <;> rfl
theorem told_is (h : WalAt w b S L a W v) (e : Int) : Calls Tryz.prog 56 #[.pointer (some ⟨a, 0, none⟩), .int .i64 e] w fun r w' => r = .returned (.int .i64 e) ∧ WWent w w' b S S L L a W (toldW W e) v v := by
  by_cases he : e = 14
  · subst he
    have hW : WWent w (w.setCell ⟨a, 6, none⟩ (.bool true)) b S S L L a W (toldW W 14) v v := WWent.set h _ 6 _ rfl rfl
    have HW := Lib.hid hW
    have c6 := h.cells.c6
    have f6 := h.free 6
    clear hW
    go_enter Tryz.func56, Tryz.ntmps56
    go_wp2
    go_ret
    exact ⟨rfl, HW.out⟩
  · have hW : WWent w w b S S L L a W (toldW W e) v v := by unfold toldW; rw [if_neg he]; exact WWent.refl h
    have HW := Lib.hid hW
    have hne : (e == 14) = false := by simpa using he
    clear hW
    go_enter Tryz.func56, Tryz.ntmps56
    go_wp2
    go_ret
    exact ⟨rfl, HW.out⟩
end
/-- The numbers of names. -/
def numsL (l : List Nm) : List Nat := l.filterMap numN
def intsN (l : List Nat) : List Int := List.map (fun n : Nat => (n : Int)) l
theorem numsL_snoc (l : List Nm) (k : Nat) (h : k < l.length) : numsL (l.take (k + 1)) = numsL (l.take k) ++ (match numN l[k] with | some n => [n] | none => []) := by
  unfold numsL
  rw [List.take_succ_eq_append_getElem h, List.filterMap_append]
  congr 1
  cases e : numN l[k] <;> simp [e]
theorem nrow_grew {w w' : World} {B B2 : Nat} {v u u' : Value} {l : List Nm} {xs : List Int} (h : NRow w B v l) (hu : IRow w B2 u xs) (G : Grew w w' u u') : NRow w' B v l :=
  Fi.row_of h fun k e => by
    obtain ⟨cur, hh⟩ := Fi.row_heap h e
    refine G.grown.block k (Array.getElem?_eq_some_iff.1 hh).1 fun e2 => ?_
    obtain ⟨cur2, hh2⟩ := Fi.row_heap hu e2.symm
    rw [hh] at hh2
    injection hh2 with hh2
    injection hh2 with _ hh2
    revert hh2; decide
theorem some_lt {w : World} {k : Nat} {o : Obj} (h : w.heap[k]? = some o) : k < w.heap.size := (Array.getElem?_eq_some_iff.1 h).1
theorem bel_al (w : World) (o : Obj) : Below w.heap.size w (w.alloc o) := (Below.refl _ w).alloc (Nat.le_refl _) o
theorem nrow_slice {w : World} {B : Nat} {v : Value} {l : List Nm} (h : NRow w B v l) : ∃ a c, v = .slice a l.length c := ownsRow_slice h
theorem nrow_later {w w' : World} {B : Nat} {v : Value} {l : List Nm} (h : NRow w B v l) (k : Below w.heap.size w w') : NRow w' B v l := owns_later h k
theorem Whole.nice {S : FS} (h : Whole S) : ∀ p ∈ S.now, p.1.length ≤ 20 := by
  have := h.good.niceK S.chg.length
  unfold namesK at this
  rw [List.take_length, ← h.now] at this
  exact this
def numsS (S : FS) : List Nat := numsL (S.now.map (·.1))
set_option maxHeartbeats 4000000 in
theorem numbers_is {b : Nat} {S : FS} {L : Lay} (w : World) (h : Dir w b S L) (G : Glob w) : Calls Tryz.prog 67 #[.pointer (some ⟨b, 0, none⟩)] w fun e w' => ∃ v, e = .returned v ∧ IRow w' w.heap.size v (intsN (numsS S)) ∧ Below w.heap.size w w' := by
  have kn := names_dir h
  have HNI0 : ∀ x ∈ S.now.map (·.1), x.length ≤ 20 := fun x hx => by
    obtain ⟨p, hp, rfl⟩ := List.mem_map.1 hx
    exact Whole.nice h.whole p hp
  unfold numsS
  have hn64 : (S.now.map (·.1)).length ≤ 64 := by rw [List.length_map]; exact h.whole.sane.len
  obtain ⟨l, hl⟩ : ∃ l, S.now.map (·.1) = l := ⟨_, rfl⟩
  rw [hl] at kn hn64 HNI0
  have HNI := Lib.hid HNI0
  rw [hl]
  clear h hl HNI0
  go_enter Tryz.func67, Tryz.ntmps67
  go_wp2_with (go_at_call 33; (with_reducible refine kn.mono ?_); rintro e w1 ⟨vn, rfl, hN, hB1⟩; (obtain ⟨an, cn, rfl⟩ := nrow_slice hN); (have HN1 := Lib.hid hN); (have HB1 := Lib.hid hB1); clear hN hB1 kn)
  obtain ⟨n, hn⟩ : ∃ n, l.length = n := ⟨_, rfl⟩
  simp only [hn]
  rw [hn] at hn64
  have HLN := Lib.hid hn
  have HN2 : Hid (NRow w1 w.heap.size (.slice an n cn) l) := Lib.hid (by rw [← hn]; exact HN1.out)
  clear hn HN1
  go_loopg [3, 11] n (fun g lv ii wr => ∃ i : Nat, i + g = n ∧ ii = .int .i64 (i : Int) ∧ IRow wr w.heap.size lv (intsN (numsL (l.take i))) ∧ NRow wr w.heap.size (.slice an n cn) l ∧ Below w.heap.size w wr)
  case atStart => exact ⟨0, by omega, rfl, (by rw [List.take_zero]; exact IRow.nil _ _), HN2.out, HB1.out⟩
  case round =>
    obtain ⟨i, hi, rfl, hI, hN, hB⟩ := hrel
    obtain ⟨ia, ic, rfl⟩ := hI.slice
    have HI := Lib.hid hI
    have HN := Lib.hid hN
    have HB := Lib.hid hB
    clear hI hN hB HN2 HB1
    cases gk with
    | zero =>
      obtain rfl : i = n := by omega
      have hlt : ¬ (i : Int) < (i : Int) := by omega
      have hli := HLN.out
      subst hli
      go_wp2
      go_ret
      have hI := HI.out
      simp only [List.take_length] at hI ⊢
      exact ⟨_, rfl, hI, HB.out⟩
    | succ g =>
      have hlt : (i : Int) < (n : Int) := by omega
      have hil : i < l.length := by rw [HLN.out]; omega
      obtain ⟨gn, rfl, hgn, hcn⟩ := nrow_cell HN.out hil
      have hni := HNI.out _ (List.getElem_mem hil)
      have hsn := numsL_snoc l i hil
      obtain ⟨x, hx⟩ : ∃ x, l[i] = x := ⟨_, rfl⟩
      rw [hx] at hcn hni hsn
      obtain ⟨s, hs⟩ : ∃ s : ByteArray, (⟨x.toArray⟩ : ByteArray) = s := ⟨_, rfl⟩
      have hsl : s.data.toList = x := by rw [← hs]
      have hss : s.size ≤ 1000000 := by
        have : s.data.toList.length = s.size := by simp
        rw [hsl] at this; omega
      rw [hs] at hcn
      have hiw : IntKind.i64.wrap ((i : Int) + 1) = (i : Int) + 1 := by rw [IntKind.wrap_i64]; omega
      have hlen : (intsN (numsL (l.take i))).length ≤ 64 := by
        unfold intsN numsL
        rw [List.length_map]
        have := List.length_filterMap_le numN (l.take i)
        rw [List.length_take] at this; omega
      have HGL := Lib.hid (G.below HB.out)
      rcases hv : numN x with _ | m
      · have kx := number_is s 0 false wr hss HGL.out (Lib.hid (by unfold numV; rw [hsl, hv]))
        rw [hv] at hsn
        have HSN := Lib.hid (show intsN (numsL (l.take (i + 1))) = intsN (numsL (l.take i)) by rw [hsn]; simp)
        clear hsn hx hs hsl hv
        go_wp2_with (go_at_call 11; (with_reducible refine kx.mono ?_); rintro e w2 ⟨rfl, hB2⟩; (have HB2 := Lib.hid hB2); clear kx hB2)
        go_roundg g
        case measure => omega
        case rel => exact ⟨i + 1, by omega, by go_num, by rw [HSN.out]; exact HI.out.later HB2.out, nrow_later HN.out HB2.out, bel_next HB.out HB2.out⟩
      · have kx := number_is s (m : Int) true wr hss HGL.out (Lib.hid (by unfold numV; rw [hsl, hv]))
        rw [hv] at hsn
        have HSN := Lib.hid (show intsN (numsL (l.take (i + 1))) = intsN (numsL (l.take i)) ++ [(m : Int)] by rw [hsn]; unfold intsN; rw [List.map_append]; rfl)
        clear hsn hx hs hsl hv
        go_wp2_with (first
          | (go_at_call 11; (with_reducible refine kx.mono ?_); rintro e w2 ⟨rfl, hB2⟩; (have HI2 := Lib.hid (HI.out.later hB2)); (have HN3 := Lib.hid (nrow_later HN.out hB2)); (have HB3 := Lib.hid (bel_next HB.out hB2)); clear kx hB2)
          | (at_builtin; refine wpList_irow rfl _ _ rfl w.heap.size (.slice ia (intsN (numsL (l.take i))).length ic) _ rfl (m : Int) rfl HI2.out HB3.out.size (by omega) ?_; intro v3 w3 hI3 hB4 hG3; (obtain ⟨a3, c3, rfl⟩ := hI3.slice); (have HI3 := Lib.hid hI3); (have HN4 := Lib.hid (nrow_grew HN3.out HI2.out hG3)); (have HB4 := Lib.hid (HB3.out.trans hB4)); clear hI3 hB4 hG3))
        go_roundg g
        case measure => omega
        case rel => exact ⟨i + 1, by omega, by go_num, (by rw [HSN.out]; have hh := HI3.out; rw [List.length_append] at hh; exact hh), HN4.out, HB4.out⟩
end Go.Proofs.YteijmjbiaffcmaaGreatDoor
