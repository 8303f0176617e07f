/- The two networks of the law, side by side. -/
import Derived.Test.YtnjabhjcnkbgpaaNetPlaysMath
import Derived.Test.YtnjabhjcnkbgpaaNetArgs
set_option maxRecDepth 20000
set_option linter.unusedSimpArgs false
set_option linter.unusedVariables false
namespace Go.Proofs.Ytnjabhjcnkbgpaa
open Go.RowKit

/-- The program's network at b, the document's at r, and what the law holds besides. -/
def Duo (w0 w : World) (b r : Nat) (S : NS) (R : RN) (hs : List (Nat × Obj)) : Prop :=
  ∃ V VL VP, NAt w w0.heap.size b V S ∧ RAt w w0.heap.size r VL VP R ∧ (∀ i, nmods b V i → ¬ rmods r VL VP i) ∧ Below w0.heap.size w0 w ∧ ∀ x ∈ hs, w.heap[x.1]? = some x.2 ∧ ¬ nmods b V x.1 ∧ ¬ rmods r VL VP x.1
def DDone (w0 : World) (b r : Nat) (S' : NS) (R' : RN) (hs : List (Nat × Obj)) (v : Value) (w : World) (e : Ending) (w' : World) : Prop := e = .returned v ∧ Duo w0 w' b r S' R' hs ∧ w.heap.size ≤ w'.heap.size
/-- Behind the document's call the two say the same again. -/
def DocDone (w0 : World) (b r : Nat) (S' : NS) (k : Nat) (hs : List (Nat × Obj)) (v : Value) (w : World) (e : Ending) (w' : World) : Prop := e = .returned v ∧ (∃ R', Eqv S' R' k ∧ Duo w0 w' b r S' R' hs) ∧ w.heap.size ≤ w'.heap.size
section
variable {w0 w : World} {b r : Nat} {S S' : NS} {R R' : RN} {hs : List (Nat × Obj)} {k : Nat}
theorem Duo.bel (h : Duo w0 w b r S R hs) : Below w0.heap.size w0 w := by obtain ⟨_, _, _, _, _, _, h, _⟩ := h; exact h
theorem Duo.held (h : Duo w0 w b r S R hs) {i : Nat} {o : Obj} (hi : (i, o) ∈ hs) : w.heap[i]? = some o := by
  obtain ⟨_, _, _, _, _, _, _, h⟩ := h; exact (h _ hi).1
theorem Duo.rlt (h : Duo w0 w b r S R hs) : r < w.heap.size := by obtain ⟨_, _, _, _, hR, _⟩ := h; exact hR.lt
theorem Duo.later {w' : World} (h : Duo w0 w b r S R hs) (hb : Below w.heap.size w w') : Duo w0 w' b r S R hs := by
  obtain ⟨V, VL, VP, hN, hR, hd, h0, hh⟩ := h
  exact ⟨V, VL, VP, hN.later hb, hR.later hb, hd, bel_next h0 hb, fun x hx => ⟨(hb.block x.1 (Array.getElem?_eq_some_iff.1 (hh x hx).1).1).trans (hh x hx).1, (hh x hx).2⟩⟩
/-- What the law makes is nobody's. -/
theorem Duo.hold (h : Duo w0 w b r S R hs) (o : Obj) : Duo w0 (w.alloc o) b r S R ((w.heap.size, o) :: hs) := by
  obtain ⟨V, VL, VP, hN, hR, hd, h0, hh⟩ := h.later (bel_al w o)
  have h1 := h
  obtain ⟨V1, VL1, VP1, hN1, hR1, hd1, h01, hh1⟩ := h1
  refine ⟨V1, VL1, VP1, hN1.later (bel_al w o), hR1.later (bel_al w o), hd1, bel_next h01 (bel_al w o), fun x hx => ?_⟩
  rcases List.mem_cons.1 hx with rfl | hx
  · exact ⟨heap_alloc_new w o, fun hm => by have := (hN1.mods hm).2; omega, fun hm => by have := (hR1.mods hm).2; omega⟩
  · exact ⟨((bel_al w o).block x.1 (Array.getElem?_eq_some_iff.1 (hh1 x hx).1).1).trans (hh1 x hx).1, (hh1 x hx).2⟩
theorem Duo.less (h : Duo w0 w b r S R hs) {gs : List (Nat × Obj)} (hg : ∀ x ∈ gs, x ∈ hs) : Duo w0 w b r S R gs := by
  obtain ⟨V, VL, VP, hN, hR, hd, h0, hh⟩ := h
  exact ⟨V, VL, VP, hN, hR, hd, h0, fun x hx => hh x (hg x hx)⟩
theorem duo_prog {f : FuncId} {args : Array Value} {v : Value} (h : Duo w0 w b r S R hs) (hc : ∀ V, NAt w w0.heap.size b V S → Calls Try.prog f args w (NDone w0.heap.size b V S' v w)) : Calls Try.prog f args w (DDone w0 b r S' R hs v w) := by
  obtain ⟨V, VL, VP, hN, hR, hd, h0, hh⟩ := h
  refine (hc V hN).mono ?_
  rintro e w' ⟨V', rfl, hw⟩
  have hsub : ∀ i, nmods b V' i → nmods b V i ∨ w.heap.size ≤ i := fun i hi => by
    rcases hi with rfl | hi
    · exact Or.inl (Or.inl rfl)
    · rcases hw.sub i hi with h1 | h1
      · exact Or.inl (Or.inr h1)
      · exact Or.inr h1
  refine ⟨rfl, ⟨V', VL, VP, hw.at_, hR.keep (fun i hi => hw.frm.block i (hR.mods hi).2 fun hn => hd i hn hi), fun i hi hr => ?_, h0.trans (hw.below hN (Nat.le_refl _)), fun x hx => ?_⟩, hw.frm.size⟩
  · rcases hsub i hi with h1 | h1
    · exact hd i h1 hr
    · have := (hR.mods hr).2; omega
  · have hx1 := hh x hx
    have hlt := (Array.getElem?_eq_some_iff.1 hx1.1).1
    refine ⟨(hw.frm.block x.1 hlt hx1.2.1).trans hx1.1, fun hm => ?_, hx1.2.2⟩
    rcases hsub x.1 hm with h1 | h1
    · exact hx1.2.1 h1
    · omega
theorem duo_rw {w' : World} {V VL VP VL' VP' : Value} (hN : NAt w w0.heap.size b V S) (hR : RAt w w0.heap.size r VL VP R) (hd : ∀ i, nmods b V i → ¬ rmods r VL VP i) (h0 : Below w0.heap.size w0 w) (hh : ∀ x ∈ hs, w.heap[x.1]? = some x.2 ∧ ¬ nmods b V x.1 ∧ ¬ rmods r VL VP x.1) (hw : RW w w' w0.heap.size r VL VP VL' VP' R') : Duo w0 w' b r S R' hs := by
  refine ⟨V, VL', VP', ?_, hw.at_, fun i hi hr => ?_, h0.trans (hw.frm.below h0.size fun i hi => (hR.mods hi).1), fun x hx => ?_⟩
  · have hk : ∀ i, nmods b V i → w'.heap[i]? = w.heap[i]? := fun i hi => hw.frm.block i (hN.mods hi).2 fun hr => hd i hi hr
    exact ⟨(hk b (Or.inl rfl)).trans hN.hb, row_of hN.row fun i e => hk i (Or.inr e), hN.base, hN.len, hN.ends⟩
  · rcases hw.sub i hr with h1 | h1
    · exact hd i hi h1
    · have := (hN.mods hi).2; omega
  · have hx1 := hh x hx
    have hlt := (Array.getElem?_eq_some_iff.1 hx1.1).1
    refine ⟨(hw.frm.block x.1 hlt hx1.2.2).trans hx1.1, hx1.2.1, fun hm => ?_⟩
    rcases hw.sub x.1 hm with h1 | h1
    · exact hx1.2.2 h1
    · omega
theorem duo_doc {f : FuncId} {args : Array Value} {v : Value} (h : Duo w0 w b r S R hs) (hc : ∀ VL VP, RAt w w0.heap.size r VL VP R → Calls Try.prog f args w (RDone w0.heap.size r VL VP R' v w)) : Calls Try.prog f args w (DDone w0 b r S R' hs v w) := by
  obtain ⟨V, VL, VP, hN, hR, hd, h0, hh⟩ := h
  refine (hc VL VP hR).mono ?_
  rintro e w' ⟨VL', VP', rfl, hw⟩
  exact ⟨rfl, duo_rw hN hR hd h0 hh hw, hw.frm.size⟩
theorem doc_done {f : FuncId} {args : Array Value} {v v' : Value} {k : Nat} (h : Duo w0 w b r S' R hs) (E : Eqv S' R' k) (hv : v = v') (hc : ∀ VL VP, RAt w w0.heap.size r VL VP R → Calls Try.prog f args w (RDone w0.heap.size r VL VP R' v w)) : Calls Try.prog f args w (DocDone w0 b r S' k hs v' w) := by
  subst hv
  refine (duo_doc h hc).mono ?_
  rintro e w' ⟨rfl, hD, hs⟩
  exact ⟨rfl, ⟨R', E, hD⟩, hs⟩
theorem rsend_two (f t : Int) (s : ByteArray) (E : Eqv S R k) (hk : k ≤ 1000) (h : Duo w0 w b r (sendS S f t s) R hs) : Calls Try.prog 28 #[.pointer (some ⟨r, 0, none⟩), .int .i64 f, .int .i64 t, .string s] w (DocDone w0 b r (sendS S f t s) (k + 1) hs (.tuple #[.int .i64 (sendN S f t s), .bool (!refuse S f t s)]) w) :=
  doc_done h (E.send hk f t s) (by rw [E.sendN, E.refuse]) fun _ _ hR => rsend_is f t s hR
theorem rtake_two (x : Int) (hx : -9223372036854775808 ≤ x ∧ x ≤ 9223372036854775807) (E : Eqv S R k) (h : Duo w0 w b r (takeS S x) R hs) : Calls Try.prog 12 #[.pointer (some ⟨r, 0, none⟩), .int .i64 x] w (DocDone w0 b r (takeS S x) k hs (.tuple #[mailV (takeM S x), .bool (takeM S x).isSome]) w) := by
  by_cases h0 : (readyL S).length = 0
  · obtain ⟨e1, e2, e3⟩ := E.take_no x h0
    rw [e2] at h ⊢
    exact doc_done h E (by rw [e3]; rfl) fun _ _ hR => rtake_none x hR e1
  · obtain ⟨m, e1, e2, e3⟩ := E.take_yes x (by omega)
    exact doc_done h e3 (by rw [e2]; rfl) fun _ _ hR => rtake_some x m hx hR e1
theorem rdrop_two (x : Int) (hx : -9223372036854775808 ≤ x ∧ x ≤ 9223372036854775807) (E : Eqv S R k) (h : Duo w0 w b r (dropS S x) R hs) : Calls Try.prog 14 #[.pointer (some ⟨r, 0, none⟩), .int .i64 x] w (DocDone w0 b r (dropS S x) k hs (.bool (!(S.mail.length == 0))) w) := by
  by_cases h0 : S.mail.length = 0
  · have e : dropS S x = S := by unfold dropS; rw [if_pos h0]
    rw [e] at h ⊢
    exact doc_done h E (by rw [h0]; rfl) fun _ _ hR => rdrop_none x hR (by rw [E.mail]; exact List.length_eq_zero_iff.1 h0)
  · obtain ⟨m, e1, e3⟩ := E.drop_yes x (by omega)
    exact doc_done h e3 (by rw [beq_eq_false_iff_ne.2 h0]; rfl) fun _ _ hR => rdrop_some x m hx hR e1
theorem rdouble_two (x : Int) (hx : -9223372036854775808 ≤ x ∧ x ≤ 9223372036854775807) (E : Eqv S R k) (hk : k ≤ 1000) (h : Duo w0 w b r (doubleS S x) R hs) : Calls Try.prog 16 #[.pointer (some ⟨r, 0, none⟩), .int .i64 x] w (DocDone w0 b r (doubleS S x) (k + 1) hs (.bool (doubleB S)) w) := by
  cases hb : doubleB S with
  | false => exact doc_done h (E.double_no x hb) rfl fun _ _ hR => rdouble_no x hR (by rw [E.double_b, hb])
  | true =>
    obtain ⟨h1, m, h2, h3⟩ := E.double_yes hk x hb
    exact doc_done h h3 rfl fun _ _ hR => rdouble_yes x m hx hR h1 h2
theorem rpart_two (x y : Int) (E : Eqv S R k) (hk : k < 1000) (h : Duo w0 w b r (setS S x y true) R hs) : Calls Try.prog 18 #[.pointer (some ⟨r, 0, none⟩), .int .i64 x, .int .i64 y] w (DocDone w0 b r (setS S x y true) (k + 1) hs (.bool (!sameAs S x y true)) w) := by
  rw [E.part_b]
  cases hb : rpartB R x y with
  | false => exact doc_done h (E.part_no x y hb) rfl fun _ _ hR => rpart_no x y hR hb
  | true => exact doc_done h (E.part_yes x y hb) rfl fun _ _ hR => rpart_yes x y hR hb (by have := E.psl; omega)
theorem rjoin_two (x y : Int) (E : Eqv S R k) (h : Duo w0 w b r (setS S x y false) R hs) : Calls Try.prog 20 #[.pointer (some ⟨r, 0, none⟩), .int .i64 x, .int .i64 y] w (DocDone w0 b r (setS S x y false) (k + 1) hs (.bool (!sameAs S x y false)) w) :=
  doc_done h (E.join x y) (by rw [E.join_b]) fun _ _ hR => rjoin_is x y hR
theorem rtick_two (E : Eqv S R k) (hk : k ≤ 1000) (h : Duo w0 w b r (tickS S) R hs) : Calls Try.prog 23 #[.pointer (some ⟨r, 0, none⟩)] w (DocDone w0 b r (tickS S) (k + 1) hs (.tuple #[]) w) :=
  doc_done h (E.tick hk) rfl fun _ _ hR => rtick_is hR
theorem rlose_two (x : Int) (E : Eqv S R k) (h : Duo w0 w b r (loseS S x) R hs) : Calls Try.prog 25 #[.pointer (some ⟨r, 0, none⟩), .int .i64 x] w (DocDone w0 b r (loseS S x) k hs (.int .i64 (loseN S x)) w) :=
  doc_done h (E.lose x) (by rw [E.loseN]) fun _ _ hR => rlose_is x hR
/-- The law heals the document's network by its own hand. -/
theorem rheal_two (E : Eqv S R k) (h : Duo w0 w b r (healS S) R hs) : ∃ R', Eqv (healS S) R' k ∧ Duo w0 (w.setCell ⟨r, 2, none⟩ (.slice none 0 0)) b r (healS S) R' hs := by
  refine ⟨_, E.heal, ?_⟩
  obtain ⟨V, VL, VP, hN, hR, hd, h0, hh⟩ := h
  exact duo_rw hN hR hd h0 hh (hR.pairs (l := []) (V' := .slice none 0 0) (Frm.refl _ _) rfl (fun _ _ => rfl) (ARow.nil _ _) (Nat.zero_le _) (fun _ e => by cases e))
theorem Duo.rcell (h : Duo w0 w b r S R hs) : ∃ VL VP, w.cell? ⟨r, 0, none⟩ = some VL ∧ MRow w w0.heap.size VL R.mail ∧ w.cell? ⟨r, 2, none⟩ = some VP ∧ ∀ j, w.frozen? ⟨r, j, none⟩ = false := by
  obtain ⟨_, VL, VP, _, hR, _⟩ := h
  exact ⟨VL, VP, hR.c0.1, hR.rowL, hR.c0.2.2.1, hR.c0.2.2.2⟩
theorem duo_still {f : FuncId} {args : Array Value} {P : Ending → World → Prop} (h : Duo w0 w b r S R hs) (hc : ∀ V, NAt w w0.heap.size b V S → Calls Try.prog f args w P) : Calls Try.prog f args w P := by
  obtain ⟨V, _, _, hN, _⟩ := h
  exact hc V hN
theorem duo_rstill {f : FuncId} {args : Array Value} {P : Ending → World → Prop} (h : Duo w0 w b r S R hs) (hc : ∀ VL VP, RAt w w0.heap.size r VL VP R → Calls Try.prog f args w P) : Calls Try.prog f args w P := by
  obtain ⟨_, VL, VP, _, hR, _⟩ := h
  exact hc VL VP hR
end
end Go.Proofs.Ytnjabhjcnkbgpaa
