/- Files in memory: a new one, one that turns. -/
import Derived.Test.YteijmjbiaffcmaaGreatDoorFilesNew
set_option maxRecDepth 20000
set_option linter.unusedSimpArgs false
namespace Go.Proofs.YteijmjbiaffcmaaGreatDoor.Fi
open Go.RowKit Go.Maps Go.Shelf

def setV (V : Nat → Value) (q : Nat) (v : Value) (i : Nat) : Value := if i = q then v else V i
theorem setV_same (V : Nat → Value) (q : Nat) (v : Value) : setV V q v q = v := if_pos rfl
theorem setV_other {V : Nat → Value} {q i : Nat} {v : Value} (h : i ≠ q) : setV V q v i = V i := if_neg h
theorem FsAt.fq_lt {w : World} {b : Nat} {S : FS} {L : Lay} (h : FsAt w b S L) {f : Fil} (hf : f ∈ S.fil) : f.q < w.heap.size := (Array.getElem?_eq_some_iff.1 (h.fil f hf).1).1
theorem FsAt.fv_lt {w : World} {b : Nat} {S : FS} {L : Lay} (h : FsAt w b S L) {f : Fil} (hf : f ∈ S.fil) {k : Nat} (hk : (L.V f.q).ownBlock = some k) : k < w.heap.size := by
  obtain ⟨cur, hh⟩ := row_heap (h.fil f hf).2 hk
  exact (Array.getElem?_eq_some_iff.1 hh).1
def addS (S : FS) (q : Nat) : FS := { S with fil := S.fil ++ [⟨q, ⟨#[]⟩, 0⟩] }
def addL (L : Lay) (q : Nat) : Lay := { L with V := setV L.V q (.slice none 0 0) }
theorem FsAt.addfile {w w' : World} {b q : Nat} {S : FS} {L : Lay} (h : FsAt w b S L) (hq : w'.heap[q]? = some (.cells #[.slice none 0 0, .int .i64 0] 90)) (hqn : w.heap.size ≤ q) (k : Below w.heap.size w w') : Went w w' b S (addS S q) L (addL L q) := by
  have h1 := h.later k
  have hne : ∀ f ∈ S.fil, f.q ≠ q := fun f hf e => by have := h.fq_lt hf; omega
  have hfil : ∀ f ∈ (addS S q).fil, (f ∈ S.fil ∧ (addL L q).V f.q = L.V f.q) ∨ (f = ⟨q, ⟨#[]⟩, 0⟩ ∧ (addL L q).V q = .slice none 0 0) := fun f hf => by
    rcases List.mem_append.1 hf with hf | hf
    · exact Or.inl ⟨hf, setV_other (hne f hf)⟩
    · rw [List.mem_singleton] at hf
      exact Or.inr ⟨hf, setV_same _ _ _⟩
  refine ⟨⟨h1.hb, h1.now, h1.firm, h1.two, h1.row, h1.lcs, h1.caps, fun f hf => ?_, fun f hf g hg hfg => ?_⟩, Frm.of_below k, fun i hi => ?_⟩
  · rcases hfil f hf with ⟨hf, e⟩ | ⟨rfl, e⟩
    · rw [e]; exact h1.fil f hf
    · dsimp only
      rw [e]; exact ⟨hq, World.ownsRow_nil _ _ _ _⟩
  · rcases hfil f hf with ⟨hf, e⟩ | ⟨rfl, e⟩
    · rcases hfil g hg with ⟨hg, e2⟩ | ⟨rfl, e2⟩
      · rw [e, e2]; exact h1.ap f hf g hg hfg
      · dsimp only at e2 ⊢
        rw [e2]
        cases e3 : ((addL L q).V f.q).ownBlock with
        | none => exact Or.inl e3
        | some x => exact Or.inr (by rw [e3]; intro e4; cases e4)
    · dsimp only at e ⊢
      rw [e]; exact Or.inl rfl
  · rcases hi with hi | hi | hi | hi | ⟨f, hf, hi⟩
    · exact Or.inl (Or.inl hi)
    · exact Or.inl (Or.inr (Or.inl hi))
    · exact Or.inl (Or.inr (Or.inr (Or.inl hi)))
    · exact Or.inl (Or.inr (Or.inr (Or.inr (Or.inl hi))))
    · rcases hfil f hf with ⟨hf, e⟩ | ⟨rfl, e⟩
      · rw [e] at hi
        exact Or.inl (Or.inr (Or.inr (Or.inr (Or.inr ⟨f, hf, hi⟩))))
      · rcases hi with rfl | hi
        · exact Or.inr hqn
        · dsimp only at hi
          rw [e] at hi; cases hi
def updQ (F : List Fil) (q : Nat) (s : ByteArray) (k : Nat) : List Fil := F.map fun f => if f.q = q then ⟨q, s, k⟩ else f
theorem updQ_mem {F : List Fil} {q : Nat} {s : ByteArray} {k : Nat} {f : Fil} (h : f ∈ updQ F q s k) : (f = ⟨q, s, k⟩ ∧ ∃ g ∈ F, g.q = q) ∨ (f ∈ F ∧ f.q ≠ q) := by
  unfold updQ at h
  obtain ⟨g, hg, e⟩ := List.mem_map.1 h
  by_cases c : g.q = q
  · rw [if_pos c] at e; exact Or.inl ⟨e.symm, g, hg, c⟩
  · rw [if_neg c] at e; subst e; exact Or.inr ⟨hg, c⟩
def updS (S : FS) (q : Nat) (s : ByteArray) (k : Nat) : FS := { S with fil := updQ S.fil q s k }
def updL (L : Lay) (q : Nat) (v : Value) : Lay := { L with V := setV L.V q v }
theorem FsAt.refil {w w' : World} {b : Nat} {S : FS} {L : Lay} {f0 : Fil} {v' : Value} {s' : ByteArray} {k' : Nat} (h : FsAt w b S L) (h0 : f0 ∈ S.fil) (hos : w'.os = w.os) (htp : w'.tape = w.tape) (hout : w'.output = w.output) (hsz : w.heap.size ≤ w'.heap.size)
    (hk : ∀ k, k < w.heap.size → k ≠ f0.q → (L.V f0.q).ownBlock ≠ some k → w'.heap[k]? = w.heap[k]?) (hq : w'.heap[f0.q]? = some (.cells #[v', .int .i64 (k' : Int)] 90)) (hrow : BRow w' v' s') (hloc : v'.ownBlock = (L.V f0.q).ownBlock ∨ ∃ g, v'.ownBlock = some g ∧ w.heap.size ≤ g) :
    Went w w' b S (updS S f0.q s' k') L (updL L f0.q v') := by
  obtain ⟨a1, a2⟩ := h.fil f0 h0
  have hother : ∀ {k : Nat} {cs : Array Value} {T : TypeId}, w.heap[k]? = some (Obj.cells cs T) → T ≠ 90 → T ≠ 5 → w'.heap[k]? = some (Obj.cells cs T) := fun {k cs T} e e1 e2 => by
    refine (hk k (Array.getElem?_eq_some_iff.1 e).1 (kinds_ne e a1 e1) (fun e3 => ?_)).trans e
    obtain ⟨cur, hh⟩ := row_heap a2 e3
    exact kinds_ne e hh e2 rfl
  have hmap : ∀ {p : Option Nat} {M : FM}, SrcIs w p M → SrcIs w' p M := fun {p M} hs => hs.of fun k e => by
    obtain ⟨es, c, hh⟩ := hs.lt e
    refine hk k (Array.getElem?_eq_some_iff.1 hh).1 (map_ne hh a1) (fun e3 => ?_)
    obtain ⟨cur, hh2⟩ := row_heap a2 e3
    exact map_ne hh hh2 rfl
  have hfil : ∀ f ∈ (updS S f0.q s' k').fil, (f = ⟨f0.q, s', k'⟩ ∧ (updL L f0.q v').V f0.q = v') ∨ (f ∈ S.fil ∧ f.q ≠ f0.q ∧ (updL L f0.q v').V f.q = L.V f.q) := fun f hf => by
    rcases updQ_mem hf with ⟨e, _⟩ | ⟨hf, hne⟩
    · exact Or.inl ⟨e, setV_same _ _ _⟩
    · exact Or.inr ⟨hf, hne, setV_other hne⟩
  have hapart : ∀ g ∈ S.fil, g.q ≠ f0.q → Apart v' (L.V g.q) := fun g hg hne => by
    rcases hloc with e | ⟨x, e, hx⟩
    · unfold Apart; rw [e]; exact h.ap f0 h0 g hg (fun e => hne e.symm)
    · refine Or.inr fun e2 => ?_
      rw [e] at e2
      have := h.fv_lt hg e2.symm
      omega
  refine ⟨⟨hother h.hb (by decide) (by decide), hmap h.now, hmap h.firm, h.two, row_of h.row fun k e => ?_, h.lcs, fun p hp => CapIs.of (h.caps p hp) fun k cs T e hT => ?_, fun f hf => ?_, fun f hf g hg hfg => ?_⟩, ⟨hos, htp, hout, hsz, fun k hk1 hn => ?_⟩, fun i hi => ?_⟩
  · obtain ⟨cur, hh⟩ := row_heap h.row e
    exact (hother hh (by decide) (by decide)).trans hh.symm
  · refine hother e ?_ ?_
    all_goals rcases hT with rfl | rfl <;> decide
  · rcases hfil f hf with ⟨rfl, e⟩ | ⟨hf, hne, e⟩
    · dsimp only
      rw [e]; exact ⟨hq, hrow⟩
    · rw [e]
      obtain ⟨g1, g2⟩ := h.fil f hf
      have hfl := h.fq_lt hf
      refine ⟨(hk f.q hfl hne (fun e3 => ?_)).trans g1, row_of g2 fun k e => ?_⟩
      · obtain ⟨cur, hh⟩ := row_heap a2 e3
        exact kinds_ne g1 hh (by decide) rfl
      · obtain ⟨cur, hh⟩ := row_heap g2 e
        refine hk k (Array.getElem?_eq_some_iff.1 hh).1 (kinds_ne hh a1 (by decide)) (fun e3 => ?_)
        rcases h.ap f hf f0 h0 hne with e4 | e4
        · rw [e] at e4; cases e4
        · exact e4 (e.trans e3.symm)
  · rcases hfil f hf with ⟨rfl, e⟩ | ⟨hf, hne, e⟩
    · rcases hfil g hg with ⟨rfl, e2⟩ | ⟨hg, hne2, e2⟩
      · exact absurd rfl hfg
      · dsimp only
        rw [e, e2]; exact hapart g hg hne2
    · rcases hfil g hg with ⟨rfl, e2⟩ | ⟨hg, hne2, e2⟩
      · dsimp only
        rw [e, e2]
        rcases hapart f hf hne with h1 | h1
        · cases e3 : (L.V f.q).ownBlock with
          | none => exact Or.inl e3
          | some x => exact Or.inr (by rw [e3, h1]; intro e4; cases e4)
        · exact Or.inr fun e4 => h1 e4.symm
      · rw [e, e2]; exact h.ap f hf g hg hfg
  · exact hk k hk1 (fun e => hn (Or.inr (Or.inr (Or.inr (Or.inr ⟨f0, h0, Or.inl e⟩))))) (fun e => hn (Or.inr (Or.inr (Or.inr (Or.inr ⟨f0, h0, Or.inr e⟩)))))
  · rcases hi with hi | hi | hi | hi | ⟨f, hf, hi⟩
    · exact Or.inl (Or.inl hi)
    · exact Or.inl (Or.inr (Or.inl hi))
    · exact Or.inl (Or.inr (Or.inr (Or.inl hi)))
    · exact Or.inl (Or.inr (Or.inr (Or.inr (Or.inl hi))))
    · rcases hfil f hf with ⟨rfl, e⟩ | ⟨hf, hne, e⟩
      · rcases hi with hi | hi
        · exact Or.inl (Or.inr (Or.inr (Or.inr (Or.inr ⟨f0, h0, Or.inl hi⟩))))
        · dsimp only at hi
          rw [e] at hi
          rcases hloc with e2 | ⟨x, e2, hx⟩
          · exact Or.inl (Or.inr (Or.inr (Or.inr (Or.inr ⟨f0, h0, Or.inr (e2.symm.trans hi)⟩))))
          · rw [e2] at hi
            injection hi with hi
            exact Or.inr (by omega)
      · rw [e] at hi
        exact Or.inl (Or.inr (Or.inr (Or.inr (Or.inr ⟨f, hf, hi⟩))))
/-- A text's bytes appended to a file's. -/
theorem BRow.append {w : World} {v : Value} {s : ByteArray} (h : BRow w v s) (t : ByteArray) (hs : s.size + t.size ≤ 140737488355328) (ty : TypeId) :
    ∃ v' w', (Builtin.append_ #[57, 9] ty #[v, .string t]).run Tryz.prog w = .ok v' w' ∧ BRow w' v' (s ++ t) ∧ w.grownBy w' v.ownBlock ∧ (v'.ownBlock = v.ownBlock ∨ ∃ g, v'.ownBlock = some g ∧ w.heap.size ≤ g) := by
  obtain ⟨i0, hi, hz0, hz1, hz2⟩ := info_parts infoB
  have hcat : Lib.strCells s ++ Lib.strCells t = Lib.strCells (s ++ t) := by
    unfold Lib.strCells
    rw [← List.map_append]; congr 1
  have hsz : (s ++ t).size = s.size + t.size := ByteArray.size_append
  rcases h.2 with ⟨rfl, h0⟩ | ⟨g, cap, cur, rfl, hg0, hh, hn, hm, hcs, ht⟩
  · have hs0 : Lib.strCells s = [] := List.eq_nil_of_length_eq_zero (by rw [Lib.strCells_length]; exact h0)
    obtain ⟨v', w', e1, e2, e3, e4⟩ := Lib.run_append_own_string (P := Tryz.prog) w w.heap.size 57 9 ty 5 i0 Tryz.underlying57 Tryz.underlying9 hi hz0 hz1 hz2 _ 0 [] (World.ownsRow_nil _ _ _ _) t (by unfold maxLen; omega) (by omega) (Nat.le_refl _)
    refine ⟨v', w', e1, ?_, e3, ?_⟩
    · have e5 : w'.ownsRow w.heap.size 5 1 v' (s ++ t).size (Lib.strCells (s ++ t)) := by rw [← hcat, hs0, hsz, h0]; exact e2
      refine ⟨e5.1, ?_⟩
      rcases e5.2 with h1 | ⟨g, cap, cur, h1, _, h2⟩
      · exact Or.inl h1
      · exact Or.inr ⟨g, cap, cur, h1, Nat.zero_le _, h2⟩
    · rcases e2.2 with ⟨h1, _⟩ | ⟨g, cap, cur, h1, h2, _⟩
      · rw [h1]; exact Or.inl rfl
      · rw [h1]; exact Or.inr ⟨g, rfl, h2⟩
  · obtain ⟨v', w', e1, e2, e3, e4⟩ := Lib.run_append_own_string (P := Tryz.prog) w 0 57 9 ty 5 i0 Tryz.underlying57 Tryz.underlying9 hi hz0 hz1 hz2 _ s.size _ h t (by unfold maxLen; omega) (by omega) (Nat.zero_le _)
    refine ⟨v', w', e1, ?_, e3, ?_⟩
    · unfold BRow; rw [← hcat, hsz]; exact e2
    · by_cases hroom : s.size + t.size ≤ cap
      · have hbl : (byteCells t).length = t.size := by simpa using byteCells_length t
        have hrun := run_append_room_src (P := Tryz.prog) w 57 9 ty 5 i0 Tryz.underlying57 hi g 0 s.size cap (.string t) t.size (byteCells t) (by rw [hz1]; exact Src.ofString (w := w) Tryz.underlying9 t) hroom
          (fun j hj => by rw [hz1, Nat.zero_add, Nat.mul_one, cell_of hh]; rw [Array.getElem?_eq_getElem (by omega)]; rfl) (fun j hj => by rw [hz1, Nat.zero_add, Nat.mul_one]; exact frozen_of hh)
        rw [e1] at hrun
        injection hrun with hr1 hr2
        rw [hr1]; exact Or.inl rfl
      · have hrun := Lib.run_append_grow_string (P := Tryz.prog) w 57 9 ty 5 i0 (.int .u8 0) Tryz.underlying57 Tryz.underlying9 hi hz0 ⟨g, 0, none⟩ s.size cap (Lib.strCells s) (by rw [hz1, Lib.strCells_length, Nat.mul_one])
          (fun j u hu => by
            have := World.ownsRow.cells h (g := g) rfl j u hu
            exact this) t (by omega) (by omega) (by rw [hz2]; exact growslice_fits (by omega) (by omega))
        rw [e1] at hrun
        injection hrun with hr1 hr2
        rw [hr1]; exact Or.inr ⟨_, rfl, Nat.le_refl _⟩
theorem wpList_bytes {w : World} {ops : Array Oper} {rest : List Oper} {o : Oper} {a : Act} {Q : Exit → Act → World → Prop} (hgd : o.guard = none) (sl x : Operand)
    (ho : o.op = .call { callee := .builtin .append, args := #[sl, x], argTypes := #[57, 9] })
    (v : Value) (s t : ByteArray) (hs : a.eval sl = v) (hx : a.eval x = .string t) (hown : BRow w v s) (hsz : s.size + t.size ≤ 140737488355328)
    (h : ∀ v' w', BRow w' v' (s ++ t) → w.grownBy w' v.ownBlock → (v'.ownBlock = v.ownBlock ∨ ∃ g, v'.ownBlock = some g ∧ w.heap.size ≤ g) → wpList Tryz.prog ops Q rest (a.put o.dst v') w') : wpList Tryz.prog ops Q (o :: rest) a w := by
  refine wpList_plain hgd fun K hK => ?_
  obtain ⟨v', w', hr, h2, h3, h4⟩ := hown.append t hsz o.type
  unfold Oper.wp execOp
  simp only [ho, resolve, invoke, builtin, Sem.run_bind, Sem.run_pure, Result.andThen_ok, List.map_toArray, List.map_cons, List.map_nil, hs, hx, hr]
  exact hK _ _ (h v' w' h2 h3 h4)
theorem nil_text (w : World) : (convert 57 9 (.slice none 0 0)).run Tryz.prog w = .ok (.string ⟨#[]⟩) w := by kernel_rfl
/-- A file's bytes made into a text. -/
theorem BRow.text {w : World} {v : Value} {s : ByteArray} (h : BRow w v s) : (convert 57 9 v).run Tryz.prog w = .ok (.string s) w := by
  rcases h.2 with ⟨rfl, h0⟩ | ⟨g, cap, cur, rfl, hg0, hh, hn, hm, hcs, ht⟩
  · have : s = ⟨#[]⟩ := by
      cases s with
      | mk d => congr 1; exact Array.eq_empty_of_size_eq_zero h0
    subst this
    exact nil_text w
  · have e : s = ⟨s.data.toList.toArray⟩ := by cases s; simp
    have hl : s.data.toList.length = s.size := by rw [Array.length_toList]; rfl
    have := run_convert_bytes_back (P := Tryz.prog) w 57 9 5 ⟨g, 0, none⟩ cap s.data.toList Tryz.underlying57 Tryz.underlying5 Tryz.underlying9 fun j hj => by
      rw [hl] at hj
      have h1 := World.ownsRow.cells h (g := g) rfl j (.int .u8 (s.data.toList[j]'(by rw [hl]; exact hj)).toNat) (by unfold Lib.strCells; rw [List.getElem?_map, List.getElem?_eq_getElem (by rw [hl]; exact hj)]; rfl)
      simpa using h1
    rw [hl] at this
    rw [this, ← e]
end Go.Proofs.YteijmjbiaffcmaaGreatDoor.Fi
