/- What the laws want beside the contracts: rows of numbers appended and cut, texts that came in. -/
import Derived.Test.YtmmkbedheeeecaaRingRPref
import Derived.Test.YtmmkbedheeeecaaRingArgs
import Derived.Test.YtmmkbedheeeecaaRingHashesWalk
set_option maxRecDepth 20000
set_option linter.unusedSimpArgs false
namespace Go.Proofs.Ytmmkbedheeeecaa
open Go.RowKit

theorem and15 (n : Int) : bits .and .i64 n 15 = n % 16 := by
  have h15 : (BitVec.ofInt 64 15).toNat = 2 ^ 4 - 1 := by decide
  have key : (BitVec.ofInt 64 n &&& BitVec.ofInt 64 15).toNat = (n % ((2 ^ 64 : Nat) : Int)).toNat % 2 ^ 4 := by
    rw [BitVec.toNat_and, BitVec.toNat_ofInt, h15, Nat.and_two_pow_sub_one_eq_mod]
  show IntKind.i64.wrap ((BitVec.ofInt 64 n &&& BitVec.ofInt 64 15).toNat : Nat) = n % 16
  rw [key, IntKind.wrap_i64]
  omega
/-- Numbers appended to a slice of the call's own. -/
theorem wpList_ints {w : World} {ops : Array Oper} {rest : List Oper} {o : Oper} {a : Act} {Q : Exit → Act → World → Prop} (hgd : o.guard = none) (sl x : Operand)
    (ho : o.op = .call { callee := .builtin .append, args := #[sl, x], argTypes := #[27, 27] })
    (B : Nat) (v u : Value) (xs ys : List Int) (hs : a.eval sl = v) (hx : a.eval x = u) (hown : IRow w B v xs) (hnew : Ns w u ys) (hB : B ≤ w.heap.size) (hl : xs.length + ys.length ≤ 1000000)
    (h : ∀ v' w', IRow w' B v' (xs ++ ys) → Below B w w' → Grew w w' v v' → wpList Try.prog ops Q rest (a.put o.dst v') w') : wpList Try.prog ops Q (o :: rest) a w := by
  obtain ⟨i0, hi, hz0, hz1, hz2⟩ := info_parts infoI
  obtain ⟨⟨a2, c2, e2, h4⟩, -, -, -⟩ := hnew
  by_cases h0 : ys = []
  · have hrun : (Builtin.append_ #[27, 27] o.type #[v, u]).run Try.prog w = .ok v w := by
      obtain ⟨s1, s2, s3⟩ := hown.slice
      have hcap : xs.length ≤ s2 := by
        rcases hown.2 with ⟨e, hn⟩ | ⟨g, cap, cur, e, _, _, hn, _⟩
        · omega
        · rw [s3] at e; injection e with _ _ e3; omega
      subst s3 e2
      refine run_append_nothing w 27 27 o.type 3 i0 Try.underlying27 hi s1 xs.length s2 hcap _ ?_
      rw [h0]
      cases a2 with
      | none => exact Src.ofNil w Try.underlying27 c2
      | some ad => exact Src.ofSlice w Try.underlying27 ad 0 c2 [] (by simp) (fun j u hu => by simp at hu) (fun u hu => by simp at hu)
    refine wpList_plain hgd fun K hK => ?_
    unfold Oper.wp execOp
    simp only [ho, resolve, invoke, builtin, Sem.run_bind, Sem.run_pure, Result.andThen_ok, List.map_toArray, List.map_cons, List.map_nil, hs, hx, hrun]
    exact hK _ _ (h v w (by rw [h0, List.append_nil]; exact hown) (Below.refl _ _) ⟨World.grownBy.refl _ _, Or.inl rfl⟩)
  · rcases h4 with h4 | ⟨b, off, rfl, hb, hc⟩
    · exact absurd h4 h0
    · refine wpList_append_own_at w hgd sl x 27 ho B 3 i0 (.int .i64 0) 1 8 Try.underlying27 hi hz0 hz1 hz2 rfl (by decide) v xs.length (xs.map icell) hs hown ⟨b, off, none⟩ ys.length c2 (ys.map icell) (hx.trans e2) (by rw [List.length_map, Nat.mul_one]) ?_ ?_ (by unfold maxLen; omega) (by omega) hB ?_
      · intro j u hu
        rw [Addr.add_lit]
        have hj : j < ys.length := by
          have := (List.getElem?_eq_some_iff.1 hu).1
          rwa [List.length_map] at this
        rw [List.getElem?_map, List.getElem?_eq_getElem hj] at hu
        exact (hc j hj).trans hu
      · intro u hu
        obtain ⟨x, -, rfl⟩ := List.mem_map.1 hu; rfl
      · intro v' w' h2 h3 _ h5
        have G : Grew w w' v v' := ⟨h3, by
          rcases h5 with h5 | h5
          · exact Or.inl h5
          · exact Or.inr ⟨_, h5, Nat.le_refl _⟩⟩
        exact h v' w' (by unfold IRow; rw [List.length_append, List.map_append]; exact h2) (G.below hown (Nat.le_refl _) hB) G
theorem szI (w : World) : (sizeOf (Try.prog.elem 27)).run Try.prog w = .ok 1 w := by kernel_rfl
theorem IRow.cap {w : World} {B : Nat} {a : Option Addr} {n c : Nat} {xs : List Int} (h : IRow w B (.slice a n c) xs) : xs.length ≤ c ∧ n = xs.length := by
  rcases h.2 with ⟨e, hn⟩ | ⟨g, cap, cur, e, _, _, hn, _⟩
  · injection e with e1 e2 e3; omega
  · injection e with e1 e2 e3; omega
/-- A beginning of a slice of the call's own: what the cut gives, and that it is readable wherever the row stands. -/
theorem cutI_head (a : Option Addr) (n cap k : Nat) (hn : n ≤ cap) (hk : k ≤ n) : ∃ p c, ((∀ W, (Instr.slice 27 (.slice a n cap) none (some (.int .i64 (k : Int))) none).run Try.prog W = .ok (.slice p k c) W) ∧ (∀ W, (Instr.sliceAt 27 (.slice a n cap) none (some (.int .i64 (k : Int))) none).run Try.prog W = .ok (.slice p k c) W)) ∧
    ∀ {w : World} {l : List Int}, Ns w (.slice a n cap) l → l.length = n → Ns w (.slice p k c) (l.take k) := by
  have e : ∀ W, (Instr.slice 27 (.slice a n cap) none (some (.int .i64 (k : Int))) none).run Try.prog W = .ok (.slice (if cap = 0 then a else a.map (·.add (0 * 1))) (k - 0) (cap - 0)) W := fun W => by
    rw [run_slice_h (P := Try.prog) W 27 a n cap Try.underlying27 .i64 (k : Int) (by omega) (by omega), szI, Int.toNat_natCast]; rfl
  refine ⟨_, _, ⟨e, fun W => (run_sliceAt_slice (P := Try.prog) W 27 _ _ _ _ Try.underlying27).trans (e W)⟩, fun h hl => ?_⟩
  obtain ⟨⟨a', c', e1, h4⟩, h5, h6, h7⟩ := h
  injection e1 with e1 e2 e3
  subst e1
  refine ⟨⟨_, _, by rw [List.length_take]; congr 1; omega, ?_⟩, fun n hn => h5 n (List.mem_of_mem_take hn), by rw [List.length_take]; omega, Nat.le_refl _⟩
  by_cases hk0 : k = 0
  · subst hk0; exact Or.inl rfl
  · rw [if_neg (by omega)]
    rcases h4 with rfl | ⟨b, off, rfl, hb, hc⟩
    · simp at hl; omega
    · refine Or.inr ⟨b, off, by simp [Addr.add], hb, fun j hj => ?_⟩
      rw [List.length_take] at hj
      rw [List.getElem_take]
      exact hc j (by omega)
/-- What a slice of texts that came in is. -/
structure Ss (w : World) (v : Value) (l : List ByteArray) : Prop where
  shape : ∃ a cap, v = .slice a l.length cap ∧ (l = [] ∨ ∃ b off, a = some ⟨b, off, none⟩ ∧ b < w.heap.size ∧ ∀ j (h : j < l.length), w.cell? ⟨b, off + j, none⟩ = some (.string l[j]))
  texts : ∀ s ∈ l, s.size ≤ maxLen
  size : l.length ≤ 9223372036854775807
theorem ss_of_args {w : World} {a : Option Addr} {len cap : Nat} (h : ArgStrs w a len cap) : ∃ l : List ByteArray, Ss w (.slice a len cap) l := by
  rcases h with rfl | ⟨b, off, l, rfl, hl, hlc, hm, hcell, hw⟩
  · exact ⟨[], ⟨a, cap, rfl, Or.inl rfl⟩, fun n h => by simp at h, by simp⟩
  · subst hl
    have hm' : cap ≤ 9223372036854775807 := by unfold maxLen at hm; omega
    refine ⟨l, ⟨_, _, rfl, ?_⟩, hw, by omega⟩
    by_cases h0 : l = []
    · exact Or.inl h0
    · have : 0 < l.length := List.length_pos_iff.2 h0
      exact Or.inr ⟨b, off, rfl, World.block_lt_of_cell? w _ (hcell 0 this), hcell⟩
theorem Ss.later {w w' : World} {v : Value} {l : List ByteArray} (h : Ss w v l) (k : Below w.heap.size w w') : Ss w' v l := by
  obtain ⟨⟨a, cap, h1, h2⟩, h3, h4⟩ := h
  refine ⟨⟨a, cap, h1, ?_⟩, h3, h4⟩
  rcases h2 with h | ⟨b, off, e, hb, hc⟩
  · exact Or.inl h
  · exact Or.inr ⟨b, off, e, Nat.lt_of_lt_of_le hb k.size, fun j hj => (k.cell (p := ⟨b, off + j, none⟩) hb).trans (hc j hj)⟩
theorem Ss.cell {w : World} {a : Option Addr} {n cap : Nat} {l : List ByteArray} (h : Ss w (.slice a n cap) l) (h0 : 0 < l.length) : ∃ b off, a = some ⟨b, off, none⟩ ∧ ∀ j (h : j < l.length), w.cell? ⟨b, off + j, none⟩ = some (.string l[j]) := by
  obtain ⟨a', cap', h1, h2⟩ := h.shape
  injection h1 with e1 e2 e3
  subst e1 e2
  rcases h2 with rfl | ⟨b, off, h3, _, h4⟩
  · simp at h0
  · exact ⟨b, off, h3, h4⟩
theorem Ss.slice {w : World} {v : Value} {l : List ByteArray} (h : Ss w v l) : ∃ a cap, v = .slice a l.length cap := by
  obtain ⟨⟨a, cap, h1, _⟩, _⟩ := h; exact ⟨a, cap, h1⟩
end Go.Proofs.Ytmmkbedheeeecaa
