/- mark.With with a slice that is new; origin's vector. -/
import Derived.Test.YthifmfgnblecbaaOgMath
import Derived.Test.YthifmfgnblecbaaMarkB
set_option maxRecDepth 20000
set_option linter.unusedSimpArgs false
set_option linter.unusedVariables false
namespace Go.Proofs.Ythifmfgnblecbaa.Og
open Go.RowKit Go.Proofs.Ythifmfgnblecbaa.Vi Go.Proofs.Ythifmfgnblecbaa.Mk

/-- A slice of the numbers l that is new. -/
def VNew (l : List Int) (w : World) (e : Ending) (w' : World) : Prop := ∃ v, e = .returned v ∧ Ns w' v l ∧ Below w.heap.size w w' ∧ ∀ q, v.ownBlock = some q → w.heap.size ≤ q ∧ q < w'.heap.size
theorem withF_is (v : Value) (l : List Int) (s n : Int) (B : Nat) (w : World) (h : Nums w B v l) : Calls Try.prog 35 #[v, .int .i64 s, .int .i64 n] w (VNew (withL l s n) w) := by
  obtain ⟨a0, cap0, rfl⟩ := h.slice
  obtain ⟨W, hW⟩ : ∃ W, ((w.alloc (.cells #[.slice a0 l.length cap0] 22)).alloc (.cells #[.int .i64 s] 3)).alloc (.cells #[.int .i64 n] 3) = W := ⟨_, rfl⟩
  have hBW : Below w.heap.size w W := by rw [← hW]; exact (((Below.refl _ _).alloc (Nat.le_refl _) _).alloc (by simp) _).alloc (by simp; omega) _
  have hs : W.heap.size = w.heap.size + 1 + 1 + 1 := by rw [← hW]; simp
  have hc : W.cell? ⟨w.heap.size, 0, none⟩ = some (.slice a0 l.length cap0) := by rw [← hW]; simp [go_sem]
  have hd : W.cell? ⟨w.heap.size + 1, 0, none⟩ = some (.int .i64 s) := by rw [← hW]; simp [go_sem]
  have he : W.cell? ⟨w.heap.size + 1 + 1, 0, none⟩ = some (.int .i64 n) := by rw [← hW]; simp [go_sem]
  have hN := h.next hBW
  have hr := h.room
  have hK := vector_with (.pointer (some ⟨w.heap.size + 1, 0, none⟩)) (.pointer (some ⟨w.heap.size + 1 + 1, 0, none⟩)) (.pointer (some ⟨w.heap.size, 0, none⟩)) (fun i => if (i : Int) = s then n else atL l (i : Int)) (fun _ u => Below W.heap.size W u) w.heap.size W (by omega) (Below.refl _ _) (fun _ _ _ a b c => keepJ a b c)
    (fun k hk u hJ hz => by
      have k0 := (hJ.cell (p := ⟨w.heap.size, 0, none⟩) (by show w.heap.size < _; omega)).trans hc
      have k1 := (hJ.cell (p := ⟨w.heap.size + 1, 0, none⟩) (by show w.heap.size + 1 < _; omega)).trans hd
      have k2 := (hJ.cell (p := ⟨w.heap.size + 1 + 1, 0, none⟩) (by show w.heap.size + 1 + 1 < _; omega)).trans he
      by_cases hks : (k : Int) = s
      · simp only [if_pos hks]
        exact (with1_yes k _ _ _ s n _ u k1 k2 k0 hks).mono fun e u' ⟨h1, h2⟩ => by subst h2; exact ⟨h1, hJ, But.refl _ _⟩
      · simp only [if_neg hks]
        exact (with1_no k _ _ _ s n _ l B u k1 k2 k0 (hN.below (hJ.mono (by omega))) hk hks).mono fun e u' ⟨h1, h2⟩ => by subst h2; exact ⟨h1, hJ, But.refl _ _⟩)
  rw [withF] at hK
  subst hW
  clear h hN hr hc hd he hs
  have hmf := makeFunc_run
  go_enter Try.func35, Try.ntmps35
  go_wp2_with (go_at_call 48; (with_reducible refine hK.mono ?_); rintro e w1 ⟨rfl, hE, hJ⟩)
  go_ret
  have hsz := hE.room
  simp only [World.size_alloc] at hE hsz
  exact ⟨_, rfl, nums_of_eight hE (with_fit l s n), hBW.trans (hJ.mono hBW.size), fun q hq => by injection hq with hq; dsimp only at hq; subst hq; exact ⟨by omega, hsz⟩⟩

/-- The first k numbers. -/
def part (f : Nat → Int) (k : Nat) : Nat → Int := fun i => if i < k then cl (f i) else 0
theorem part_fit (f : Nat → Int) (k : Nat) : Fit (part f k) := fun i _ => by
  unfold part; split
  · exact cl_bounds _
  · omega
theorem part_zero (f : Nat → Int) : vec (part f 0) = [] := by
  have : ∀ n, upto (part f 0) n = 0 := fun n => by
    induction n with
    | zero => rfl
    | succ n ih => unfold upto; rw [if_neg (by unfold part; simp), ih]
  unfold vec; rw [this]; rfl
theorem part_step (f : Nat → Int) {k : Nat} (hk : k < 8) : withL (vec (part f k)) (k : Int) (f k) = vec (part f (k + 1)) := by
  unfold withL
  refine vec_congr fun i hi => ?_
  rw [vec_at (part_fit f k) hi]
  unfold part
  by_cases e : i = k
  · subst e; rw [if_pos rfl, if_pos (by omega)]
  · rw [if_neg (by omega)]
    by_cases c : i < k
    · rw [if_pos c, if_pos (by omega)]
    · rw [if_neg c, if_neg (by omega)]
theorem part_all (f : Nat → Int) : vec (part f 8) = vec fun i => cl (f i) := vec_congr fun i hi => by unfold part; rw [if_pos hi]
structure OvJ (w wr : World) (f : Nat → Int) (k : Nat) (v : Value) : Prop where
  ns : Ns wr v (vec (part f k))
  bel : Below w.heap.size w wr
  new : ∀ q, v.ownBlock = some q → w.heap.size ≤ q ∧ q < wr.heap.size
end Go.Proofs.Ythifmfgnblecbaa.Og
