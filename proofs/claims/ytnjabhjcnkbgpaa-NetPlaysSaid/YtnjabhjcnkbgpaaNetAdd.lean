/- A message more. -/
import Derived.Test.YtnjabhjcnkbgpaaNetFns
import Derived.Deep.RegionLaw
set_option maxRecDepth 20000
set_option linter.unusedSimpArgs false
set_option linter.unusedVariables false
namespace Go.Proofs.Ytnjabhjcnkbgpaa
open Go.RowKit

theorem mat_new (w : World) (m : Ml) : MAt (w.alloc (.cells #[.int .i64 m.n, .int .i64 m.f, .int .i64 m.t, .string m.s, .int .i64 m.a] 34)) w.heap.size 0 m := by
  constructor <;> simp [go_sem]
theorem mat_add (b o j : Nat) : (⟨b, o, none⟩ : Addr).add j = ⟨b, o + j, none⟩ := by unfold Addr.add; split <;> simp_all
theorem mat_src {w : World} {g : Nat} {m : Ml} (h : MAt w g 0 m) : ∀ j u, (mcells m)[j]? = some u → w.cell? ((⟨g, 0, none⟩ : Addr).add j) = some u := by
  intro j u hj
  have hlt : j < 5 := (List.getElem?_eq_some_iff.1 hj).1
  rw [mat_add]
  match j, hlt with
  | 0, _ => simp [mcells] at hj; rw [← hj]; exact h.c0
  | 1, _ => simp [mcells] at hj; rw [← hj]; exact h.c1
  | 2, _ => simp [mcells] at hj; rw [← hj]; exact h.c2
  | 3, _ => simp [mcells] at hj; rw [← hj]; exact h.c3
  | 4, _ => simp [mcells] at hj; rw [← hj]; exact h.c4
/-- A message appended to a slice of messages: as a step of a region. -/
theorem step_mail {ops : Array Oper} {o : Oper} {a : Act} {w : World} {K : Act → World → Prop} {Q : Exit → Act → World → Prop} {E : Prop} (hgd : o.guard = none) (sl x : Operand)
    (ho : o.op = .call { callee := .builtin .append, args := #[sl, x], argTypes := #[27, 27] })
    (B : Nat) (v : Value) (l : List Ml) (m : Ml) (g : Nat) (hs : a.eval sl = v) (hx : a.eval x = .slice (some ⟨g, 0, none⟩) 1 1) (hown : MRow w B v l) (hy : MAt w g 0 m) (hl : l.length ≤ 2000) (hB : B ≤ w.heap.size)
    (h : ∀ v' w', MRow w' B v' (l ++ [m]) → w.grownBy w' v.ownBlock → (∀ k, v'.ownBlock = some k → v.ownBlock = some k ∨ w.heap.size ≤ k) → K (a.put o.dst v') w') :
    if Region.wanted o (yielded ops a.tmps) = true then Oper.wp Try.prog o a w K Q else E := by
  have hw : Region.wanted o (yielded ops a.tmps) = true := by simp [Region.wanted, hgd]
  rw [if_pos hw]
  obtain ⟨i0, hi, hz0, hz1, hz2⟩ := info_parts infoM
  obtain ⟨v', w', hr, h2, h3, h4, h5⟩ := run_append_own_at (P := Try.prog) (w := w) B 27 o.type 34 i0 _ 5 48 Try.underlying27 hi hz0 hz1 hz2 rfl (by decide) v l.length (l.flatMap mcells) hown ⟨g, 0, none⟩ 1 1 (mcells m) rfl (mat_src hy)
    (fun u hu => mcells_one (l := [m]) (by simpa using hu)) (by unfold maxLen; omega) (by omega) hB
  have hf := h v' w' (by unfold MRow; rw [List.length_append, List.flatMap_append, List.flatMap_cons, List.flatMap_nil, List.append_nil]; exact h2) h3 fun k hk => by
    rcases h5 with h5 | h5
    · rw [h5] at hk; exact Or.inl hk
    · rw [h5] at hk; injection hk with hk; exact Or.inr (Nat.le_of_eq hk)
  unfold Oper.wp execOp
  simp only [ho, resolve, invoke, builtin, Sem.run_bind, Sem.run_pure, Result.andThen_ok, List.map_toArray, List.map_cons, List.map_nil, hs, hx, hr]
  exact hf
section
variable {w : World} {B b : Nat} {V : Value} {S : NS}
theorem NW.last (h : NAt w B b V S) (n : Int) : NW w (w.setCell ⟨b, 1, none⟩ (.int .i64 n)) B b V V { S with last := n } :=
  ⟨⟨heap_setCell_same w b 1 _ _ _ h.hb, row_of h.row fun k hk => heap_setCell_other _ _ _ _ fun e => h.own (by rw [hk]; exact congrArg some e), h.base, h.len, h.ends⟩, Frm.set _ _ _ _ (Or.inl rfl), fun _ e => Or.inl e⟩
/-- A slice of messages has been stored into its field. -/
theorem NAt.mail {w' : World} {V' : Value} {l : List Ml} (h : NAt w B b V S) (hb : w'.heap[b]? = w.heap[b]?) (hr : MRow w' B V' l) (hl : l.length ≤ 2000) (he : ∀ m ∈ l, endB m.f = true ∧ endB m.t = true ∧ m.s.size ≤ 80000) : NAt (w'.setCell ⟨b, 0, none⟩ V') B b V' { S with mail := l } := by
  have hb' := hb.trans h.hb
  refine ⟨heap_setCell_same w' b 0 _ _ _ hb', row_of hr fun k hk => heap_setCell_other _ _ _ _ fun e => ?_, h.base, hl, he⟩
  obtain ⟨cur, hc⟩ := row_heap hr hk
  exact kinds_ne hc hb' (by decide) e
theorem ends_add {l : List Ml} {m : Ml} (h : ∀ m ∈ l, endB m.f = true ∧ endB m.t = true ∧ m.s.size ≤ 80000) (k : endB m.f = true ∧ endB m.t = true ∧ m.s.size ≤ 80000) : ∀ x ∈ l ++ [m], endB x.f = true ∧ endB x.t = true ∧ x.s.size ≤ 80000 := by
  intro x hx
  rcases List.mem_append.1 hx with hx | hx
  · exact h x hx
  · simp at hx; subst hx; exact k
theorem add_is (f t : Int) (s : ByteArray) (h : NAt w B b V S) (hf : endB f = true) (ht : endB t = true) (hs : s.size ≤ 80000) (hn : S.mail.length < 2000) : Calls Try.prog 42 #[.pointer (some ⟨b, 0, none⟩), .int .i64 f, .int .i64 t, .string s] w (NDone B b V (addS S f t s) (.int .i64 (inc S.last)) w) := by
  obtain ⟨z, hz⟩ : ∃ z, IntKind.i64.wrap (S.last + 1) = z := ⟨_, rfl⟩
  have HZ := Lib.hid (show addS S f t s = { S with mail := S.mail ++ [⟨z, f, t, s, 0⟩], last := z } by unfold addS inc; rw [hz])
  have HI := Lib.hid (show inc S.last = z from hz)
  obtain ⟨a, c, rfl⟩ := h.row.slice
  have c1 := h.c1
  have f1 := h.fz 1
  have H1 := Lib.hid (NW.last h z)
  have hE := Lib.hid (ends_add (m := ⟨z, f, t, s, 0⟩) h.ends ⟨hf, ht, hs⟩)
  have hlw := h.lt
  clear h
  go_enter Try.func42, Try.ntmps42
  go_upto_region 2 with fail
  obtain ⟨w1, hw1⟩ : ∃ x, x = w.setCell ⟨b, 1, none⟩ (.int .i64 z) := ⟨_, rfl⟩
  rw [← hw1] at H1 ⊢
  have h1 := H1.out.at_
  have d0 := h1.c0
  have d1 := h1.c1
  have g0 := h1.fz 0
  have hb1 := h1.lt
  dsimp only at d1
  clear hw1 c1 f1 h1
  have hrd := Lib.hid (H1.out.at_.later (Below.refl _ _).drew)
  have hKP := Lib.hid (fun (w2 : World) (a2 : Option Addr) (c2 n2 : Nat) (hn2 : (S.mail ++ [(⟨z, f, t, s, 0⟩ : Ml)]).length = n2) (hR2 : MRow w2 B (.slice a2 n2 c2) (S.mail ++ [⟨z, f, t, s, 0⟩])) (hg2 : (w1.drew.alloc (.cells #[.int .i64 z, .int .i64 f, .int .i64 t, .string s, .int .i64 0] 34)).grownBy w2 (Value.slice a S.mail.length c).ownBlock) (hs2 : ∀ k, (Value.slice a2 n2 c2).ownBlock = some k → (Value.slice a S.mail.length c).ownBlock = some k ∨ (w1.drew.alloc (.cells #[.int .i64 z, .int .i64 f, .int .i64 t, .string s, .int .i64 0] 34)).heap.size ≤ k) =>
    show w2.cell? ⟨b, 0, none⟩ = some (.slice a S.mail.length c) ∧ w2.frozen? ⟨b, 0, none⟩ = false ∧ w2.cell? ⟨b, 1, none⟩ = some (.int .i64 z) ∧ NW w (w2.setCell ⟨b, 0, none⟩ (.slice a2 n2 c2)) B b (.slice a S.mail.length c) (.slice a2 n2 c2) { S with mail := S.mail ++ [⟨z, f, t, s, 0⟩], last := z } by
      have hb2 : w2.heap[b]? = w1.heap[b]? := by
        rw [hg2.block b (by simp; omega) (fun e => H1.out.at_.own e.symm)]
        exact (bel_al w1.drew _).block b hb1
      have hb3 := hb2.trans H1.out.at_.hb
      have e0 : (w2.setCell ⟨b, 0, none⟩ (.slice a2 n2 c2)).cell? ⟨b, 0, none⟩ = some (.slice a2 n2 c2) := cell_of (heap_setCell_same w2 b 0 _ _ _ hb3)
      refine ⟨cell_of hb3, frozen_of hb3, cell_of hb3, ?_⟩
      have hat := H1.out.at_.mail hb2 hR2 (by rw [List.length_append]; simp; omega) hE.out
      refine H1.out.trans (NW.ahead (((Below.refl w1.heap.size w1).drew).trans (bel_al w1.drew (.cells #[.int .i64 z, .int .i64 f, .int .i64 t, .string s, .int .i64 0] 34))) ⟨hat, Frm.trans (Mo := nmods b (.slice a S.mail.length c)) (Mo' := nmods b (.slice a S.mail.length c)) (Frm.of_grown hg2 fun k e => Or.inr e) (Frm.set _ _ _ _ (Or.inl rfl)) fun i hi => Or.inl hi, hs2⟩))
  obtain ⟨n2, hn2⟩ : ∃ n2, (S.mail ++ [(⟨z, f, t, s, 0⟩ : Ml)]).length = n2 := ⟨_, rfl⟩
  have HN2 := Lib.hid hn2
  have hb1' : b < w1.drew.heap.size := hb1
  go_region_law (refine step_mail rfl _ _ rfl B _ S.mail ⟨z, f, t, s, 0⟩ w1.drew.heap.size rfl rfl (hrd.out.row.later (bel_al w1.drew _)) (mat_new w1.drew ⟨z, f, t, s, 0⟩) (by omega) (by have := hrd.out.lt; have := hrd.out.base; simp; omega) ?_; intro v2 w2 hR2 hg2 hs2; obtain ⟨a2, c2, rfl⟩ := hR2.slice; rw [HN2.out] at hR2 hs2 ⊢; obtain ⟨q0, q1, q2, q3⟩ := hKP.out w2 a2 c2 n2 HN2.out hR2 hg2 hs2; have HQ := Lib.hid q3; clear q3 hR2 hg2 hs2)
  all_goals go_wp2
  all_goals (go_ret; exact ⟨_, by rw [HI.out]; rfl, by rw [HZ.out]; exact HQ.out⟩)
end
end Go.Proofs.Ytnjabhjcnkbgpaa
