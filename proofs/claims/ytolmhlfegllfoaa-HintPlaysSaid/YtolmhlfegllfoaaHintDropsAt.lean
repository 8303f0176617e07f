/- HintDrops: what the law carries on. -/
import Derived.Test.YtolmhlfegllfoaaHintDropsMath
import Derived.Test.YtolmhlfegllfoaaHintBoundsWalk
set_option maxRecDepth 20000
set_option linter.unusedSimpArgs false
set_option linter.unusedVariables false
namespace Go.Proofs.Ytolmhlfegllfoaa.Qu.Hi
open Go.RowKit Go.Maps Go.Proofs.Ytolmhlfegllfoaa.Vi Go.Proofs.Ytolmhlfegllfoaa.Mk

theorem prow_own {w : World} {B g : Nat} {v : Value} {xs : List Pt} (h : PRow w B v xs) (e : v.ownBlock = some g) : ∃ cur, w.heap[g]? = some (.cells cur 31 (0, 0)) := by
  rcases h.2 with ⟨rfl, _⟩ | ⟨g', cap, cur, rfl, _, hh, _⟩
  · cases e
  · injection e with e; subst e; exact ⟨cur, hh⟩
theorem own_kept {w w' : World} {T : TypeId} {k n B : Nat} {v : Value} {cs : List Value} {row : Option Nat} (h : w.ownsRow B T k v n cs) (hg : w.grownBy w' row) (hne : v.ownBlock ≠ none → v.ownBlock ≠ row) : w'.ownsRow B T k v n cs :=
  World.ownsRow.kept h hg (by
    by_cases hv : v.ownBlock = none
    · exact Or.inl hv
    · exact Or.inr (hne hv))
theorem prow_off {w w' : World} {B A : Nat} {v : Value} {xs : List Pt} {V : Nat → Value} (h : PRow w B v xs) (hb : Box16 w A V) (hg : w.grownBy w' (some A)) : PRow w' B v xs :=
  own_kept h hg fun _ e => by
    obtain ⟨cur, e2⟩ := prow_own h e
    obtain ⟨c2, e3, -, -⟩ := hb.obj
    rw [e2] at e3
    injection e3 with e3
    injection e3 with _ e3
    exact absurd e3 (by decide)
theorem irow_off {w w' : World} {B A : Nat} {v : Value} {xs : List Int} {V : Nat → Value} (h : IRow w B v xs) (hb : Box16 w A V) (hg : w.grownBy w' (some A)) : IRow w' B v xs :=
  own_kept h hg fun _ e => by
    obtain ⟨cur, e2⟩ := irow_own h e
    obtain ⟨c2, e3, -, -⟩ := hb.obj
    rw [e2] at e3
    injection e3 with e3
    injection e3 with _ e3
    exact absurd e3 (by decide)
theorem HiAt.past {w w' : World} {B b mm A : Nat} {room : Int} {L : List Hk} {V : Nat → Value} (h : HiAt w B b (some mm) room L) (hb : Box16 w A V) (hg : w.grownBy w' (some A)) : HiAt w' B b (some mm) room L := by
  obtain ⟨cur, e, -, -⟩ := hb.obj
  have h2 := h.off (T := 63) (by decide) e
  exact h.other (hg.block b h.lt fun e => h2.1 (Option.some.inj e).symm) fun m e => hg.block m (by rw [← Option.some.inj e]; exact h.mlt) fun e3 => h2.2 (by rw [e]; exact e3.symm)
/-- Rows stand when the map alone changes. -/
theorem prow_map {w w' : World} {B b mm B0 : Nat} {room : Int} {L : List Hk} {v : Value} {xs : List Pt} (h : PRow w B0 v xs) (hA : HiAt w B b (some mm) room L) (hg : w.grownBy w' (some mm)) : PRow w' B0 v xs :=
  own_kept h hg fun _ e => by
    obtain ⟨cur, e2⟩ := prow_own h e
    exact (hA.off (T := 31) (by decide) e2).2 rfl
theorem irow_map {w w' : World} {B b mm B0 : Nat} {room : Int} {L : List Hk} {v : Value} {xs : List Int} (h : IRow w B0 v xs) (hA : HiAt w B b (some mm) room L) (hg : w.grownBy w' (some mm)) : IRow w' B0 v xs :=
  own_kept h hg fun _ e => by
    obtain ⟨cur, e2⟩ := irow_own h e
    exact (hA.off (T := 3) (by decide) e2).2 rfl
theorem Box16.map {w w' : World} {A : Nat} {V : Nat → Value} {B b mm : Nat} {room : Int} {L : List Hk} (h : Box16 w A V) (hA : HiAt w B b (some mm) room L) (hg : w.grownBy w' (some mm)) : Box16 w' A V :=
  h.kept (hg.block A h.lt fun e => by
    obtain ⟨cur, e2, -, -⟩ := h.obj
    exact (hA.off (T := 63) (by decide) e2).2 e)
/-- The points are being added. -/
structure DpS (w X : World) (B b mm : Nat) (ns : List Int) (L : List Hk) : Prop where
  at_ : HiAt X B b (some mm) 600 L
  nds : ∀ x ∈ L, x.n ∈ nodesL ns
  bel : Below w.heap.size w X
theorem DpS.later {w X X' : World} {B b mm : Nat} {ns : List Int} {L : List Hk} (h : DpS w X B b mm ns L) (k : Below X.heap.size X X') : DpS w X' B b mm ns L := ⟨h.at_.later k, h.nds, bel_next h.bel k⟩
theorem DpS.added {w X X' : World} {B b mm : Nat} {ns : List Int} {L : List Hk} {p : Pt} (h : DpS w X B b mm ns L) (hB : w.heap.size ≤ B) (h1 : HiAt X' B b (some mm) 600 (addL L 600 p ns)) (h2 : X.grownBy X' (some mm)) : DpS w X' B b mm ns (addL L 600 p ns) :=
  ⟨h1, add_nodes h.nds, h.bel.grown h2 h.bel.size fun g hg => by rw [← Option.some.inj hg]; exact Nat.le_trans hB (h.at_.some_ mm rfl).1⟩
def hadV (L : List Hk) (t : Int) (AL : List Int) (i q : Nat) : List Pt := if (q : Int) ∈ AL.take i then hadL L t (q : Int) else []
/-- Some nodes' lists are gathered. -/
structure OuJ (w X : World) (B b mm A : Nat) (LA L : List Hk) (AL : List Int) (va : Value) (t : Int) (V : Nat → Value) (i : Nat) : Prop where
  at_ : HiAt X B b (some mm) 600 LA
  bel : Below w.heap.size w X
  all : IRow X w.heap.size va AL
  box : Box16 X A V
  had : ∀ q, q < 16 → PRow X w.heap.size (V q) (hadV L t AL i q)
  lo : w.heap.size ≤ A
  fresh : ∀ q : Nat, q < 16 → (q : Int) ∉ AL.take i → V q = .slice none 0 0
theorem OuJ.later {w X X' : World} {B b mm A : Nat} {LA L : List Hk} {AL : List Int} {va : Value} {t : Int} {V : Nat → Value} {i : Nat} (h : OuJ w X B b mm A LA L AL va t V i) (k : Below X.heap.size X X') : OuJ w X' B b mm A LA L AL va t V i :=
  ⟨h.at_.later k, bel_next h.bel k, h.all.later k, h.box.later k, fun q hq => (h.had q hq).later k, h.lo, h.fresh⟩
theorem OuJ.drop {w X X' : World} {B b mm A : Nat} {LA LB L : List Hk} {AL : List Int} {va : Value} {t : Int} {V : Nat → Value} {i : Nat} (h : OuJ w X B b mm A LA L AL va t V i) (hB : w.heap.size ≤ B) (h1 : HiAt X' B b (some mm) 600 LB) (h2 : X.grownBy X' (some mm)) : OuJ w X' B b mm A LB L AL va t V i :=
  ⟨h1, h.bel.grown h2 h.bel.size fun g hg => by rw [← Option.some.inj hg]; exact Nat.le_trans hB (h.at_.some_ mm rfl).1, irow_map h.all h.at_ h2, h.box.map h.at_ h2, fun q hq => prow_map (h.had q hq) h.at_ h2, h.lo, h.fresh⟩
/-- One node's list is parted. -/
structure InJ (wF X : World) (A q : Nat) (V : Nat → Value) (M : List Pt) (t : Int) (k r : Nat) (v : Value) : Prop where
  grow : wF.grownBy X (some A)
  box : Box16 X A (updV V q v)
  row : PRow X wF.heap.size v (keptK M t k)
  len : (keptK M t k).length = r
theorem InJ.later {wF X X' : World} {A q : Nat} {V : Nat → Value} {M : List Pt} {t : Int} {k r : Nat} {v : Value} (h : InJ wF X A q V M t k r v) (b : Below X.heap.size X X') : InJ wF X' A q V M t k r v :=
  ⟨h.grow.trans (grow_of b (some A)), h.box.later b, h.row.later b, h.len⟩
theorem updV_at (V : Nat → Value) (q : Nat) (v : Value) : updV V q v q = v := if_pos rfl
theorem InJ.app {wF X X' : World} {A q : Nat} {V : Nat → Value} {M : List Pt} {t : Int} {k r : Nat} {v v' : Value} (h : InJ wF X A q V M t k r v) (hq : q < 16) (hA : A < wF.heap.size) (hk : k < M.length) (ht : t ≤ M[k].t) (h1 : PRow X' wF.heap.size v' (keptK M t k ++ [M[k]])) (h2 : X.grownBy X' v.ownBlock) : InJ wF (X'.setCell ⟨A, q, none⟩ v') A q V M t (k + 1) (r + 1) v' := by
  have hne : ∀ g, v.ownBlock = some g → wF.heap.size ≤ g := fun g hg => (World.ownsRow.lt h.row g hg).1
  have hb : Box16 X' A (updV V q v) := h.box.kept (h2.block A h.box.lt fun e => by have := hne A e.symm; omega)
  have hs := hb.set hq v'
  have hother : ∀ g, g ≠ A → (X'.setCell ⟨A, q, none⟩ v').heap[g]? = X'.heap[g]? := fun g hg => RowKit.Below.heap_setCell _ _ _ _ hg
  have hsz : (X'.setCell ⟨A, q, none⟩ v').heap.size = X'.heap.size := by simp
  have hgs : X'.grownBy (X'.setCell ⟨A, q, none⟩ v') (some A) := ⟨rfl, rfl, rfl, by rw [hsz]; exact Nat.le_refl _, fun g _ hg => hother g fun e => hg (by rw [e])⟩
  refine ⟨?_, ?_, ?_, by rw [(kept_yes hk ht).1, List.length_append, h.len]; rfl⟩
  · exact (h.grow.andThen h2 fun g hg => Or.inl (hne g hg)).trans hgs
  · refine ⟨?_⟩
    obtain ⟨cur, e1, e2, e3⟩ := hs.obj
    refine ⟨cur, e1, e2, fun j hj => ?_⟩
    rw [e3 j hj]
    unfold updV
    split <;> simp_all
  · rw [(kept_yes hk ht).1]
    exact own_kept h1 hgs fun _ e => by
      obtain ⟨cur, e2⟩ := prow_own h1 e
      obtain ⟨c2, e3, -, -⟩ := hb.obj
      rw [e2] at e3
      injection e3 with e3
      injection e3 with _ e3
      exact absurd e3 (by decide)
theorem InJ.no {wF X : World} {A q : Nat} {V : Nat → Value} {M : List Pt} {t : Int} {k r : Nat} {v : Value} (h : InJ wF X A q V M t k r v) (hk : k < M.length) (ht : ¬ t ≤ M[k].t) : InJ wF X A q V M t (k + 1) r v :=
  ⟨h.grow, h.box, by rw [(kept_no hk ht).1]; exact h.row, by rw [(kept_no hk ht).1]; exact h.len⟩
theorem OuJ.in_ {w wF X : World} {B b mm A : Nat} {LA L : List Hk} {AL : List Int} {va v : Value} {t : Int} {V : Nat → Value} {i q r k : Nat} {M : List Pt} (h : OuJ w wF B b mm A LA L AL va t V i) (hI : InJ wF X A q V M t k r v) : HiAt X B b (some mm) 600 LA ∧ IRow X w.heap.size va AL ∧ Below w.heap.size w X :=
  ⟨h.at_.past h.box hI.grow, irow_off h.all h.box hI.grow, h.bel.grown hI.grow h.bel.size fun g hg => by rw [← Option.some.inj hg]; exact h.lo⟩
theorem OuJ.next {w wF X : World} {B b mm A : Nat} {LA L : List Hk} {AL : List Int} {va v : Value} {t : Int} {V : Nat → Value} {i q r : Nat} {M : List Pt} (h : OuJ w wF B b mm A LA L AL va t V i) (hi : i < AL.length) (hq : AL[i] = (q : Int)) (hM : M = forL L (q : Int) 600) (hI : InJ wF X A q V M t M.length r v) : OuJ w X B b mm A LA L AL va t (updV V q v) (i + 1) := by
  obtain ⟨h1, h2, h3⟩ := h.in_ hI
  have ht : AL.take (i + 1) = AL.take i ++ [(q : Int)] := by rw [List.take_succ_eq_append_getElem hi, hq]
  refine ⟨h1, h3, h2, hI.box, fun j hj => ?_, h.lo, fun j hj hn => ?_⟩
  rotate_left
  · rw [ht] at hn
    have e : j ≠ q := fun e => hn (by rw [e]; simp)
    unfold updV
    rw [if_neg e]
    exact h.fresh j hj fun k => hn (List.mem_append_left _ k)
  by_cases e : j = q
  · subst e
    rw [updV_at]
    have hk : hadV L t AL (i + 1) j = keptK M t M.length := by
      unfold hadV keptK
      rw [ht, if_pos (by simp), List.take_length, hM]
      rfl
    rw [hk]
    exact hI.row.base h.bel.size
  · have hk : hadV L t AL (i + 1) j = hadV L t AL i j := by
      unfold hadV
      rw [ht]
      have : ((j : Int) ∈ AL.take i ++ [(q : Int)]) ↔ (j : Int) ∈ AL.take i := by
        rw [List.mem_append, List.mem_singleton]
        exact ⟨fun k => k.elim id fun k => absurd (Int.ofNat.inj k) e, Or.inl⟩
      simp only [this]
    rw [hk]
    unfold updV
    rw [if_neg e]
    exact prow_off (h.had j hj) h.box hI.grow
theorem ns_cut {w : World} {a : Option Addr} {n c m : Nat} {l : List Int} (h : Ns w (.slice a n c) l) (hm : m = min n 12) : Ns w (.slice a m c) (l.take 12) := by
  obtain ⟨⟨a2, cap2, he, hc⟩, hw, hsz, hr⟩ := h
  injection he with e1 e2 e3
  subst e1 e3
  have hl : (l.take 12).length = m := by rw [List.length_take]; omega
  refine ⟨⟨a, c, by rw [hl], ?_⟩, fun n hn => hw n (List.mem_of_mem_take hn), by omega, hr⟩
  rcases hc with rfl | ⟨b, off, h3, h4, h5⟩
  · exact Or.inl (by simp)
  · refine Or.inr ⟨b, off, h3, h4, fun j hj => ?_⟩
    rw [List.getElem_take]; exact h5 j (by omega)
/-- What a round's region reads. -/
structure S22 (gA i A gm om : Nat) (q : Nat) (p : Pt) (X : World) : Prop where
  z : X.cell? ⟨gA, i, none⟩ = some (.int .i64 (q : Int))
  pt : PtO X gm om p
theorem S22.later {gA i A gm om q : Nat} {p : Pt} {X X' : World} (h : S22 gA i A gm om q p X) (k : Below X.heap.size X X') : S22 gA i A gm om q p X' := ⟨(k.cell (World.block_lt_of_cell? X _ h.z) ..).trans h.z, h.pt.below k h.pt.room⟩
end Go.Proofs.Ytolmhlfegllfoaa.Qu.Hi
