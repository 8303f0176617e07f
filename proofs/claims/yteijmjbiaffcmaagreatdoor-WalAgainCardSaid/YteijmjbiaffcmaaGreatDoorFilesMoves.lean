/- How a directory's parts turn in memory: its folder of names, its changes, its files. -/
import Derived.Test.YteijmjbiaffcmaaGreatDoorFilesUsed
set_option maxRecDepth 20000
set_option linter.unusedSimpArgs false
namespace Go.Proofs.YteijmjbiaffcmaaGreatDoor.Fi
open Go.RowKit Go.Maps Go.Shelf

/-- What stands where only one block of a kind has turned. -/
theorem FsAt.rest {w w' : World} {b : Nat} {S : FS} {L : Lay} (h : FsAt w b S L) {r : Option Nat} (hg : w.grownBy w' r) :
    ((∀ cs T, w.heap[b]? = some (.cells cs T) → r ≠ some b) → w'.heap[b]? = some (.cells (headV S L) 79)) ∧
    (r ≠ L.bn ∨ L.bn = none → SrcIs w' L.bn S.now) ∧ (r ≠ L.bf ∨ L.bf = none → SrcIs w' L.bf S.firm) ∧
    (r ≠ L.vc.ownBlock ∨ L.vc.ownBlock = none → w'.ownsRow 0 93 1 L.vc S.chg.length ((S.chg.zip L.cs).map fun p => chgV p.1 p.2)) := by
  have hb : ∀ k, k < w.heap.size → r ≠ some k → w'.heap[k]? = w.heap[k]? := fun k hk hne => hg.block k hk (fun e => hne e.symm)
  refine ⟨fun hn => (hb b (h.room (Or.inl rfl)) (hn _ _ h.hb)).trans h.hb, fun hn => h.now.of fun k e => ?_, fun hn => h.firm.of fun k e => ?_, fun hn => row_of h.row fun k e => ?_⟩
  · refine hb k (h.room (Or.inr (Or.inl e))) ?_
    rcases hn with hn | hn
    · rw [e] at hn; exact hn
    · rw [e] at hn; cases hn
  · refine hb k (h.room (Or.inr (Or.inr (Or.inl e)))) ?_
    rcases hn with hn | hn
    · rw [e] at hn; exact hn
    · rw [e] at hn; cases hn
  · refine hb k (h.room (Or.inr (Or.inr (Or.inr (Or.inl e))))) ?_
    rcases hn with hn | hn
    · rw [e] at hn; exact hn
    · rw [e] at hn; cases hn
/-- What stands of the changes' boxes and of the files where no block of their kinds has turned. -/
theorem FsAt.caps' {w w' : World} {b : Nat} {S : FS} {L : Lay} (h : FsAt w b S L) {r : Option Nat} (hg : w.grownBy w' r) (hr : ∀ k cs T, r = some k → w.heap[k]? = some (Obj.cells cs T) → T ≠ 9 ∧ T ≠ 86) : ∀ p ∈ S.chg.zip L.cs, CapIs w' p.1 p.2 :=
  fun p hp => CapIs.of (h.caps p hp) fun k cs T e hT => (hg.block k (Array.getElem?_eq_some_iff.1 e).1 (fun e2 => by
    obtain ⟨h1, h2⟩ := hr k cs T e2.symm e
    rcases hT with h3 | h3
    · exact h1 h3
    · exact h2 h3)).trans e
theorem FsAt.fils' {w w' : World} {b : Nat} {S : FS} {L : Lay} (h : FsAt w b S L) {r : Option Nat} (hg : w.grownBy w' r) (hr : ∀ k cs T, r = some k → w.heap[k]? = some (Obj.cells cs T) → T ≠ 90 ∧ T ≠ 5) : ∀ f ∈ S.fil, w'.heap[f.q]? = some (.cells #[L.V f.q, .int .i64 (f.k : Int)] 90) ∧ BRow w' (L.V f.q) f.s := by
  intro f hf
  obtain ⟨g1, g2⟩ := h.fil f hf
  refine ⟨(hg.block f.q (Array.getElem?_eq_some_iff.1 g1).1 (fun e2 => (hr _ _ _ e2.symm g1).1 rfl)).trans g1, row_of g2 fun k e => ?_⟩
  obtain ⟨cur, hh⟩ := row_heap g2 e
  exact hg.block k (Array.getElem?_eq_some_iff.1 hh).1 (fun e2 => (hr _ _ _ e2.symm hh).2 rfl)
theorem frm_of {w w' : World} {b : Nat} {S : FS} {L : Lay} {r : Option Nat} (hg : w.grownBy w' r) (hr : ∀ k, r = some k → mods b S L k) : Frm (mods b S L) w w' := Frm.of_grown hg hr
/-- The folder of names has turned. -/
theorem FsAt.remap {w w' : World} {b bm : Nat} {S : FS} {L : Lay} {M : FM} (h : FsAt w b S L) (hn : L.bn = some bm) (hM : MapIs w' bm M) (hg : w.grownBy w' (some bm)) : Went w w' b S { S with now := M } L L := by
  obtain ⟨es, c, hmap⟩ := h.now.lt hn
  have hk : ∀ k cs T, some bm = some k → w.heap[k]? = some (Obj.cells cs T) → False := fun k cs T e e2 => by
    injection e with e; subst e; rw [hmap] at e2; cases e2
  obtain ⟨r1, -, r3, r4⟩ := h.rest hg
  refine ⟨⟨r1 fun cs T e e2 => hk _ _ _ e2 e, Or.inr ⟨bm, hn, hM⟩, r3 ?_, h.two, r4 ?_, h.lcs, h.caps' hg fun k cs T e e2 => (hk _ _ _ e e2).elim, h.fils' hg fun k cs T e e2 => (hk _ _ _ e e2).elim, h.ap⟩, frm_of hg fun k e => Or.inr (Or.inl (hn.trans e)), fun k hk => Or.inl hk⟩
  · rcases h.two with e | e
    · rw [hn] at e; cases e
    · rw [← hn]; exact Or.inl e
  · refine Or.inl fun e => ?_
    obtain ⟨cur, hh⟩ := row_heap h.row e.symm
    exact hk _ _ _ rfl hh
theorem FsAt.head_after {w w2 : World} {b : Nat} {S : FS} {L : Lay} (h : FsAt w b S L) (hg : w.grownBy w2 L.vc.ownBlock) : w2.heap[b]? = some (.cells (headV S L) 79) :=
  (h.rest hg).1 fun cs T e e2 => by
    obtain ⟨cur, hh⟩ := row_heap h.row e2
    exact kinds_ne hh h.hb (by decide) rfl
theorem row_slice {w : World} {B n : Nat} {e : TypeId} {sz : Nat} {v : Value} {xs : List Value} (h : w.ownsRow B e sz v n xs) : ∃ a c, v = .slice a n c := by
  rcases h.2 with ⟨h, h0⟩ | ⟨g, cap, cur, h, _⟩
  · exact ⟨_, _, by rw [h, h0]⟩
  · exact ⟨_, _, h⟩
theorem CapIs.grown {w w' : World} {c : Chg} {p : Nat × Nat} {bm : Nat} (h : CapIs w c p) (hg : w.grownBy w' (some bm)) (hm : ∃ es c, w.heap[bm]? = some (.map es c)) : CapIs w' c p :=
  CapIs.of h fun k cs T e _ => (hg.block k (Array.getElem?_eq_some_iff.1 e).1 (fun e2 => by
    injection e2 with e2
    subst e2
    obtain ⟨es, c, hh⟩ := hm
    rw [hh] at e; cases e)).trans e
/-- A change has been put behind the others. -/
theorem FsAt.push {w w2 : World} {b : Nat} {S : FS} {L : Lay} {c : Chg} {p : Nat × Nat} {v' : Value} (h : FsAt w b S L) (hr : w2.ownsRow 0 93 1 v' (S.chg.length + 1) (((S.chg.zip L.cs).map fun p => chgV p.1 p.2) ++ [chgV c p])) (hg : w.grownBy w2 L.vc.ownBlock)
    (hloc : v'.ownBlock = L.vc.ownBlock ∨ ∃ g, v'.ownBlock = some g ∧ w.heap.size ≤ g) (hc : CapIs w c p) : Went w (w2.setCell ⟨b, 3, none⟩ v') b S { S with chg := S.chg ++ [c] } L { L with vc := v', cs := L.cs ++ [p] } := by
  have hkind : ∀ k cs T, L.vc.ownBlock = some k → w.heap[k]? = some (Obj.cells cs T) → T = 93 := fun k cs T e e2 => by
    obtain ⟨cur, hh⟩ := row_heap h.row e
    rw [hh] at e2
    injection e2 with e2
    injection e2 with _ e2
    exact e2.symm
  obtain ⟨r1, r2, r3, -⟩ := h.rest hg
  have hmapne : ∀ {p : Option Nat} {M : FM}, SrcIs w p M → L.vc.ownBlock ≠ p ∨ p = none := fun {p M} hs => by
    cases p with
    | none => exact Or.inr rfl
    | some k =>
      refine Or.inl fun e => ?_
      obtain ⟨es, c, hh⟩ := hs.lt rfl
      obtain ⟨cur, hh2⟩ := row_heap h.row e
      rw [hh] at hh2; cases hh2
  have hb2 : w2.heap[b]? = some (.cells (headV S L) 79) := r1 fun cs T e e2 => by
    have h1 := hkind b cs T e2 e
    rw [h.hb] at e
    injection e with e
    injection e with _ e
    rw [h1] at e
    exact absurd e (by decide)
  have hz : ((S.chg ++ [c]).zip (L.cs ++ [p])) = S.chg.zip L.cs ++ [(c, p)] := by
    rw [List.zip_append h.lcs.symm]; rfl
  have hset : ∀ k, k ≠ b → (w2.setCell ⟨b, 3, none⟩ v').heap[k]? = w2.heap[k]? := fun k hk => heap_setCell_other w2 ⟨b, 3, none⟩ k v' hk
  have hrow2 : (w2.setCell ⟨b, 3, none⟩ v').ownsRow 0 93 1 v' (S.chg.length + 1) (((S.chg.zip L.cs).map fun p => chgV p.1 p.2) ++ [chgV c p]) := row_of hr fun k e => by
    obtain ⟨cur, hh⟩ := row_heap hr e
    exact hset k (kinds_ne hh hb2 (by decide))
  have hne : ∀ {k : Nat} {cs : Array Value} {T : TypeId}, w.heap[k]? = some (Obj.cells cs T) → T ≠ 93 → T ≠ 79 → (w2.setCell ⟨b, 3, none⟩ v').heap[k]? = some (Obj.cells cs T) := fun {k cs T} e h1 h2 => by
    have hk1 : w2.heap[k]? = some (Obj.cells cs T) := (hg.block k (Array.getElem?_eq_some_iff.1 e).1 (fun e2 => h1 (hkind k cs T e2.symm e))).trans e
    exact (hset k (kinds_ne e h.hb h2)).trans hk1
  have hsrc : ∀ {q : Option Nat} {M : FM}, SrcIs w2 q M → SrcIs (w2.setCell ⟨b, 3, none⟩ v') q M := fun {q M} hs => hs.of fun k e => by
    obtain ⟨es, c, hh⟩ := hs.lt e
    exact hset k (map_ne hh hb2)
  refine ⟨⟨?_, hsrc (r2 (hmapne h.now)), hsrc (r3 (hmapne h.firm)), h.two, ?_, ?_, ?_, ?_, h.ap⟩, ?_, ?_⟩
  · exact heap_setCell_same w2 b 3 _ _ v' hb2
  · show (w2.setCell ⟨b, 3, none⟩ v').ownsRow 0 93 1 v' (S.chg ++ [c]).length (((S.chg ++ [c]).zip (L.cs ++ [p])).map fun p => chgV p.1 p.2)
    rw [hz, List.map_append, List.length_append]; exact hrow2
  · show (L.cs ++ [p]).length = (S.chg ++ [c]).length
    rw [List.length_append, List.length_append, h.lcs]; rfl
  · intro x hx
    have hx' : x ∈ S.chg.zip L.cs ++ [(c, p)] := by rw [← hz]; exact hx
    have hstr : ∀ (k : Nat) (cs : Array Value) (T : TypeId), w.heap[k]? = some (Obj.cells cs T) → (T = 9 ∨ T = 86) → (w2.setCell ⟨b, 3, none⟩ v').heap[k]? = some (Obj.cells cs T) := fun k cs T e hT => by
      refine hne e ?_ ?_
      all_goals rcases hT with rfl | rfl <;> decide
    rcases List.mem_append.1 hx' with hx1 | hx1
    · exact CapIs.of (h.caps x hx1) hstr
    · rw [List.mem_singleton] at hx1; subst hx1; exact CapIs.of hc hstr
  · intro f hf
    obtain ⟨g1, g2⟩ := h.fil f hf
    refine ⟨hne g1 (by decide) (by decide), ?_⟩
    rcases g2.2 with h0 | ⟨g, cap, cur, e1, e2, e3, e4⟩
    · exact ⟨g2.1, Or.inl h0⟩
    · exact ⟨g2.1, Or.inr ⟨g, cap, cur, e1, e2, hne e3 (by decide) (by decide), e4⟩⟩
  · exact ⟨hg.os, hg.tape, hg.output, by simpa using hg.size, fun k hk hn => by
      rw [hset k (fun e => hn (Or.inl e))]
      exact hg.block k hk (fun e => hn (Or.inr (Or.inr (Or.inr (Or.inl e.symm)))))⟩
  · intro k hk
    rcases hk with hk | hk | hk | hk | hk
    · exact Or.inl (Or.inl hk)
    · exact Or.inl (Or.inr (Or.inl hk))
    · exact Or.inl (Or.inr (Or.inr (Or.inl hk)))
    · rcases hloc with e | ⟨g, e, hge⟩
      · exact Or.inl (Or.inr (Or.inr (Or.inr (Or.inl (e.symm.trans hk)))))
      · have : k = g := by
          have h2 : some k = some g := hk.symm.trans e
          injection h2
        exact Or.inr (by omega)
    · exact Or.inl (Or.inr (Or.inr (Or.inr (Or.inr hk))))
end Go.Proofs.YteijmjbiaffcmaaGreatDoor.Fi
