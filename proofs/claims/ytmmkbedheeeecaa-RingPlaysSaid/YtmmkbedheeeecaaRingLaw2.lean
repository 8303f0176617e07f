/- The law's few, with its list and its length by name. -/
import Derived.Test.YtmmkbedheeeecaaRingLaw
set_option maxRecDepth 20000
set_option linter.unusedSimpArgs false
namespace Go.Proofs.Ytmmkbedheeeecaa
open Go.RowKit

def FewD (w : World) (e : Ending) (w' : World) : Prop := ∃ (A : List Int) (a : Option Addr) (n c : Nat), e = .returned (.slice a n c) ∧ A.length = n ∧ n ≤ 12 ∧ Ns w (.slice a n c) A ∧ w = w'
theorem few2_is {a0 : Option Addr} {len0 cap0 : Nat} {w0 : World} (h : ArgInts w0 a0 len0 cap0) (w : World) (k : Below w0.heap.size w0 w) : Calls Try.prog 12 #[.slice a0 len0 cap0] w (FewD w) := by
  obtain ⟨l0, hl0, hc0⟩ := ns_of_args h
  refine (few_is (.slice a0 len0 cap0) l0 w.heap.size w (Ns.later hl0 k) hc0).mono ?_
  rintro e w' ⟨v, rfl, hN, rfl⟩
  obtain ⟨a, c, rfl⟩ := hN.slice
  exact ⟨_, a, _, c, rfl, rfl, by rw [List.length_take]; omega, hN, rfl⟩
/-- Numbers appended to a slice of the call's own, in a region that draws its order. -/
theorem step_ints {ops : Array Oper} {o : Oper} {a : Act} {w : World} {K : Act → World → Prop} {Q : Exit → Act → World → Prop} {E : Prop} (hgd : o.guard = none) (sl x : Operand)
    (ho : o.op = .call { callee := .builtin .append, args := #[sl, x], argTypes := #[27, 27] })
    (B : Nat) (v u : Value) (xs ys : List Int) (hs : a.eval sl = v) (hx : a.eval x = u) (hown : IRow w B v xs) (hnew : Ns w u ys) (hpos : ys ≠ []) (hB : B ≤ w.heap.size) (hl : xs.length + ys.length ≤ 1000000)
    (h : ∀ v' w', IRow w' B v' (xs ++ ys) → Below B w w' → Grew w w' v v' → K (a.put o.dst v') w') :
    if Region.wanted o (yielded ops a.tmps) = true then Oper.wp Try.prog o a w K Q else E := by
  have hw : Region.wanted o (yielded ops a.tmps) = true := by simp [Region.wanted, hgd]
  rw [if_pos hw]
  obtain ⟨i0, hi, hz0, hz1, hz2⟩ := info_parts infoI
  obtain ⟨⟨a2, c2, e2, h4⟩, -, -, -⟩ := hnew
  rcases h4 with h4 | ⟨b, off, rfl, hb, hc⟩
  · exact absurd h4 hpos
  · obtain ⟨v', w', hr, h2, h3, h4, h5⟩ := run_append_own_at (P := Try.prog) w B 27 o.type 3 i0 (.int .i64 0) 1 8 Try.underlying27 hi hz0 hz1 hz2 rfl (by decide) v xs.length (xs.map icell) hown ⟨b, off, none⟩ ys.length c2 (ys.map icell) (by rw [List.length_map, Nat.mul_one]) (fun j u hu => by
        rw [Addr.add_lit]
        have hj : j < ys.length := by
          have := (List.getElem?_eq_some_iff.1 hu).1
          rwa [List.length_map] at this
        rw [List.getElem?_map, List.getElem?_eq_getElem hj] at hu
        exact (hc j hj).trans hu) (fun u hu => by obtain ⟨x, -, rfl⟩ := List.mem_map.1 hu; rfl) (by unfold maxLen; omega) (by omega) hB
    have G : Grew w w' v v' := ⟨h3, by
      rcases h5 with h5 | h5
      · exact Or.inl h5
      · exact Or.inr ⟨_, h5, Nat.le_refl _⟩⟩
    have hf := h v' w' (by unfold IRow; rw [List.length_append, List.map_append]; exact h2) (G.below hown (Nat.le_refl _) hB) G
    subst e2
    unfold Oper.wp execOp
    simp only [ho, resolve, invoke, builtin, Sem.run_bind, Sem.run_pure, Result.andThen_ok, List.map_toArray, List.map_cons, List.map_nil, hs, hx, hr]
    exact hf
end Go.Proofs.Ytmmkbedheeeecaa
