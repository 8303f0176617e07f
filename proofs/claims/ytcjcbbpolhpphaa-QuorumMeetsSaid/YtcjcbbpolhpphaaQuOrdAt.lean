/- Two reads and the lists that they are handed, side by side. -/
import Derived.Test.YtcjcbbpolhpphaaQuOrdMath
set_option maxRecDepth 20000
set_option linter.unusedSimpArgs false
set_option linter.unusedVariables false
namespace Go.Proofs.Ytcjcbbpolhpphaa.Qu
open Go.RowKit Go.Proofs.Ytcjcbbpolhpphaa.Vi

abbrev TGOT : TypeId := 60
/-- The array of lists at block g. -/
structure GA (W : World) (B g : Nat) (GL : Nat → List Pt) : Prop where
  big : ∃ cur : Array Value, W.heap[g]? = some (.cells cur TGOT (0, 0))
  cel : ∀ i, i < 8 → ∃ a c, W.cell? ⟨g, i, none⟩ = some (.slice a (GL i).length c) ∧ PRow W B (.slice a (GL i).length c) (GL i)
  lo : B ≤ g
theorem GA.lt {W : World} {B g : Nat} {GL : Nat → List Pt} (h : GA W B g GL) : g < W.heap.size := by
  obtain ⟨cur, h⟩ := h.big
  exact (Array.getElem?_eq_some_iff.1 h).1
theorem GA.frozen {W : World} {B g : Nat} {GL : Nat → List Pt} (h : GA W B g GL) (o : Nat) : W.frozen? ⟨g, o, none⟩ = false := by
  obtain ⟨cur, h⟩ := h.big
  unfold World.frozen?
  simp [h]
theorem GA.other {W W' : World} {B g : Nat} {GL : Nat → List Pt} (h : GA W B g GL) (k : ∀ x, x < W.heap.size → x = g ∨ (∃ cur : Array Value, W.heap[x]? = some (.cells cur 55 (0, 0))) → W'.heap[x]? = W.heap[x]?) : GA W' B g GL := by
  have kg := k g h.lt (Or.inl rfl)
  have hc : ∀ o, W'.cell? ⟨g, o, none⟩ = W.cell? ⟨g, o, none⟩ := fun o => World.cell?_of_block (w := W) kg
  obtain ⟨cur, hb⟩ := h.big
  exact ⟨⟨cur, kg.trans hb⟩, fun i hi => (h.cel i hi).imp fun a h => h.imp fun c h => ⟨(hc _).trans h.1, prow_other h.2 fun x cur hx => k x (Array.getElem?_eq_some_iff.1 hx).1 (Or.inr ⟨cur, hx⟩)⟩, h.lo⟩
theorem GA.later {W W' : World} {B g : Nat} {GL : Nat → List Pt} (h : GA W B g GL) (k : Below W.heap.size W W') : GA W' B g GL := h.other fun x hx _ => k.block x hx
theorem GA.beside_r {W W' : World} {B0 B B' b g : Nat} {R : RS} {GL : Nat → List Pt} (h : GA W B' g GL) (hr : RdG W B0 B b R) (k : ButP (rmods W b) W W') : GA W' B' g GL := by
  obtain ⟨cur, hc⟩ := h.big
  refine h.other fun x hx hk => ?_
  rcases hk with rfl | ⟨c, e⟩
  · exact hr.stays k hc (by decide)
  · exact hr.stays k e (by decide)
theorem GA.put {W : World} {B g i : Nat} {GL : Nat → List Pt} {l : List Pt} {a : Option Addr} {c : Nat} (h : GA W B g GL) (hi : i < 8) (hp : PRow W B (.slice a l.length c) l) : GA (W.setCell ⟨g, i, none⟩ (.slice a l.length c)) B g fun q => if q = i then l else GL q := by
  obtain ⟨cur, hb⟩ := h.big
  have kp : ∀ (x : Nat) (cur : Array Value), W.heap[x]? = some (.cells cur 55 (0, 0)) → (W.setCell ⟨g, i, none⟩ (.slice a l.length c)).heap[x]? = W.heap[x]? := fun x cur hx => set_blk W g _ x _ (Array.getElem?_eq_some_iff.1 hx).1 fun e => type_ne hb hx (by decide) e
  refine ⟨⟨_, set_heap hb _⟩, fun q hq => ?_, h.lo⟩
  by_cases e : q = i
  · subst e
    rw [if_pos rfl]
    obtain ⟨a0, c0, h1, -⟩ := h.cel q hq
    exact ⟨a, c, World.cell?_setCell_same _ _ _ h1, prow_other hp kp⟩
  · rw [if_neg e]
    obtain ⟨a0, c0, h1, h2⟩ := h.cel q hq
    exact ⟨a0, c0, (cell_off (by omega)).trans h1, prow_other h2 kp⟩
theorem RdAt.low {w : World} {B B' b : Nat} {R : RS} (h : RdAt w B b R) (k : B' ≤ B) : RdAt w B' b R := by
  obtain ⟨h1, h2, h3, h4, h5, h6⟩ := h
  refine ⟨h1, Nat.le_trans k h2, ?_, h4, h5, h6⟩
  rcases h3 with h3 | ⟨m, c, ⟨hl, D, hD, hat⟩⟩
  · exact Or.inl h3
  · exact Or.inr ⟨m, c, Nat.le_trans k hl, D, hD, fun i hi => (hat i hi).imp fun a h => h.imp fun c h => ⟨h.1, h.2.base k⟩⟩
theorem RdG.beside_g {W : World} {B0 B B' b g i : Nat} {R : RS} {GL : Nat → List Pt} (h : RdG W B0 B b R) (hg : GA W B' g GL) (v : Value) : RdG (W.setCell ⟨g, i, none⟩ v) B0 B b R := by
  obtain ⟨cur, hc⟩ := hg.big
  refine h.other fun x hx hk => set_blk W g _ x _ hx fun e => ?_
  subst e
  rcases hk with hk | ⟨c, e⟩
  · rcases h.kind hk with ⟨c, e⟩ | ⟨es, cl, e⟩
    · exact type_ne hc e (by decide) rfl
    · exact map_cells hc e rfl
  · exact type_ne hc e (by decide) rfl
theorem rmods_same {W W' : World} {b k : Nat} (h : W'.heap[b]? = W.heap[b]?) : rmods W' b k ↔ rmods W b k := by
  unfold rmods
  rw [World.cell?_of_block (w := W) (a := ⟨b, 33, none⟩) h]
theorem RdG.mods_lt {w : World} {B0 B b k : Nat} {R : RS} (h : RdG w B0 B b R) (hk : rmods w b k) : k < w.heap.size := by
  rcases h.kind hk with ⟨c, e⟩ | ⟨es, cl, e⟩ <;> exact (Array.getElem?_eq_some_iff.1 e).1
/-- The law's state. -/
structure OS (w0 W : World) (ba bb g : Nat) (Ra Rb : RS) (GL : Nat → List Pt) : Prop where
  ra : RdAt W w0.heap.size ba Ra
  rb : RdAt W w0.heap.size bb Rb
  ap : ∀ k, rmods W ba k → rmods W bb k → False
  ga : GA W w0.heap.size g GL
  bel : Below w0.heap.size w0 W
theorem OS.hB {w0 W : World} {ba bb g : Nat} {Ra Rb : RS} {GL : Nat → List Pt} (h : OS w0 W ba bb g Ra Rb GL) : w0.heap.size ≤ W.heap.size := h.bel.size
theorem OS.later {w0 W W' : World} {ba bb g : Nat} {Ra Rb : RS} {GL : Nat → List Pt} (h : OS w0 W ba bb g Ra Rb GL) (k : Below W.heap.size W W') : OS w0 W' ba bb g Ra Rb GL :=
  ⟨h.ra.later k, h.rb.later k, fun x h1 h2 => h.ap x ((rmods_same (k.block _ h.ra.at_.lt)).1 h1) ((rmods_same (k.block _ h.rb.at_.lt)).1 h2), h.ga.later k, bel_next h.bel k⟩
theorem OS.put {w0 W : World} {ba bb g i : Nat} {Ra Rb : RS} {GL : Nat → List Pt} {l : List Pt} {a : Option Addr} {c : Nat} (h : OS w0 W ba bb g Ra Rb GL) (hi : i < 8) (hp : PRow W w0.heap.size (.slice a l.length c) l) : OS w0 (W.setCell ⟨g, i, none⟩ (.slice a l.length c)) ba bb g Ra Rb fun q => if q = i then l else GL q := by
  obtain ⟨cur, hc⟩ := h.ga.big
  obtain ⟨ca, hca⟩ := h.ra.at_.big
  obtain ⟨cb, hcb⟩ := h.rb.at_.big
  have ea : (W.setCell ⟨g, i, none⟩ (.slice a l.length c)).heap[ba]? = W.heap[ba]? := set_blk W g _ ba _ h.ra.at_.lt fun e => type_ne hc hca (by decide) e
  have eb : (W.setCell ⟨g, i, none⟩ (.slice a l.length c)).heap[bb]? = W.heap[bb]? := set_blk W g _ bb _ h.rb.at_.lt fun e => type_ne hc hcb (by decide) e
  exact ⟨h.ra.beside_g h.ga _, h.rb.beside_g h.ga _, fun x h1 h2 => h.ap x ((rmods_same ea).1 h1) ((rmods_same eb).1 h2), h.ga.put hi hp, h.bel.setCell (p := ⟨g, i, none⟩) h.ga.lo _⟩
theorem beside_rr {W W' : World} {B B' b b' : Nat} {R R' : RS} (h : RdAt W B b R) (h' : RdAt W B' b' R') (k : ButP (rmods W b') W W') (ap : ∀ x, rmods W b' x → rmods W b x → False) : RdAt W' B b R := by
  refine h.other fun x hx hk => ?_
  rcases hk with hk | ⟨c, e⟩
  · exact k.block x hx fun hm => ap x hm hk
  · exact h'.stays k e (by decide)
theorem OS.ansa {w0 W W' : World} {ba bb g : Nat} {Ra Rb Ra' : RS} {GL : Nat → List Pt} (h : OS w0 W ba bb g Ra Rb GL) (hr : RdAt W' w0.heap.size ba Ra') (k : ButP (rmods W ba) W W') (hm : ∀ x, rmods W' ba x → rmods W ba x ∨ W.heap.size ≤ x) : OS w0 W' ba bb g Ra' Rb GL := by
  have eb := k.block bb h.rb.at_.lt fun hx => h.ap bb hx (Or.inl rfl)
  refine ⟨hr, beside_rr h.rb h.ra k h.ap, fun x h1 h2 => ?_, h.ga.beside_r h.ra k, h.bel.trans (h.ra.below k h.hB)⟩
  have h2 := (rmods_same eb).1 h2
  rcases hm x h1 with h1 | h1
  · exact h.ap x h1 h2
  · have := h.rb.mods_lt h2
    omega
theorem OS.ansb {w0 W W' : World} {ba bb g : Nat} {Ra Rb Rb' : RS} {GL : Nat → List Pt} (h : OS w0 W ba bb g Ra Rb GL) (hr : RdAt W' w0.heap.size bb Rb') (k : ButP (rmods W bb) W W') (hm : ∀ x, rmods W' bb x → rmods W bb x ∨ W.heap.size ≤ x) : OS w0 W' ba bb g Ra Rb' GL := by
  have ea := k.block ba h.ra.at_.lt fun hx => h.ap ba (Or.inl rfl) hx
  refine ⟨beside_rr h.ra h.rb k fun x h1 h2 => h.ap x h2 h1, hr, fun x h1 h2 => ?_, h.ga.beside_r h.rb k, h.bel.trans (h.rb.below k h.hB)⟩
  have h1 := (rmods_same ea).1 h1
  rcases hm x h2 with h2 | h2
  · exact h.ap x h1 h2
  · have := h.ra.mods_lt h1
    omega
/-- The array is new. -/
theorem ga_new (w : World) (B : Nat) (hB : B ≤ w.heap.size) : GA (w.alloc (.cells #[.slice none 0 0, .slice none 0 0, .slice none 0 0, .slice none 0 0, .slice none 0 0, .slice none 0 0, .slice none 0 0, .slice none 0 0] TGOT)) B w.heap.size fun _ => [] := by
  refine ⟨⟨_, heap_alloc_new w _⟩, fun i hi => ⟨none, 0, ?_, PRow.nil _ _⟩, hB⟩
  unfold World.cell?
  dsimp only
  rw [heap_alloc_new]
  match i, hi with
  | 0, _ | 1, _ | 2, _ | 3, _ | 4, _ | 5, _ | 6, _ | 7, _ => rfl
  | n + 8, h => exact absurd h (by omega)
theorem rdO_new (l : List Int) (G : Nat → List Pt) (a : Nat) : newR 1 l = rdO (inL l) G a a 0 := by
  unfold newR newS rdO
  have e : ∀ i, inB a a i = false := fun i => by unfold inB; rw [decide_eq_false (by omega)]
  congr 1
  · congr 1
    funext i
    exact (e i).symm
  · funext i
    rw [e i]; rfl
theorem gl_step (G : Nat → List Pt) (k : Nat) : (fun q => if q = k then G k else (if q < k then G q else [])) = fun q => if q < k + 1 then G q else [] := by
  funext q
  by_cases e : q = k
  · subst e; rw [if_pos rfl, if_pos (Nat.lt_succ_self _)]
  · rw [if_neg e]
    by_cases h : q < k
    · rw [if_pos h, if_pos (by omega)]
    · rw [if_neg h, if_neg (by omega)]
end Go.Proofs.Ytcjcbbpolhpphaa.Qu
