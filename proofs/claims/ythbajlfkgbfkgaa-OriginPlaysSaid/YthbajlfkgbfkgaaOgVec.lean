/- mark.With with a slice that is new; origin's vector. -/
import Derived.Test.YthbajlfkgbfkgaaOgMath
import Derived.Test.YthbajlfkgbfkgaaMarkB
set_option maxRecDepth 20000
set_option linter.unusedSimpArgs false
set_option linter.unusedVariables false
namespace Go.Proofs.Ythbajlfkgbfkgaa.Og
open Go.RowKit Go.Proofs.Ythbajlfkgbfkgaa.Vi Go.Proofs.Ythbajlfkgbfkgaa.Mk

/-- A slice of the numbers l that is new. -/
def VNew (l : List Int) (w : World) (e : Ending) (w' : World) : Prop := ∃ v, e = .returned v ∧ Ns w' v l ∧ Below w.heap.size w w' ∧ ∀ q, v.ownBlock = some q → w.heap.size ≤ q ∧ q < w'.heap.size
theorem withF_is (v : Value) (l : List Int) (s n : Int) (B : Nat) (w : World) (h : Nums w B v l) : Calls Try.prog 46 #[v, .int .i64 s, .int .i64 n] w (VNew (withL l s n) w) := by
  obtain ⟨a0, cap0, rfl⟩ := h.slice
  obtain ⟨W, hW⟩ : ∃ W, ((w.alloc (.cells #[.slice a0 l.length cap0] 22)).alloc (.cells #[.int .i64 s] 3)).alloc (.cells #[.int .i64 n] 3) = W := ⟨_, rfl⟩
  have hBW : Below w.heap.size w W := by rw [← hW]; exact (((Below.refl _ _).alloc (Nat.le_refl _) _).alloc (by simp) _).alloc (by simp; omega) _
  have hs : W.heap.size = w.heap.size + 1 + 1 + 1 := by rw [← hW]; simp
  have hc : W.cell? ⟨w.heap.size, 0, none⟩ = some (.slice a0 l.length cap0) := by rw [← hW]; simp [go_sem]
  have hd : W.cell? ⟨w.heap.size + 1, 0, none⟩ = some (.int .i64 s) := by rw [← hW]; simp [go_sem]
  have he : W.cell? ⟨w.heap.size + 1 + 1, 0, none⟩ = some (.int .i64 n) := by rw [← hW]; simp [go_sem]
  have hN := h.next hBW
  have hr := h.room
  have hK := vector_with (.pointer (some ⟨w.heap.size + 1, 0, none⟩)) (.pointer (some ⟨w.heap.size + 1 + 1, 0, none⟩)) (.pointer (some ⟨w.heap.size, 0, none⟩)) (fun i => if (i : Int) = s then n else atL l (i : Int)) (fun _ u => Below W.heap.size W u) w.heap.size W (by omega) (Below.refl _ _) (fun _ _ _ a b c => keepJ a b c)
    (fun k hk u hJ hz => by
      have k0 := (hJ.cell (p := ⟨w.heap.size, 0, none⟩) (by show w.heap.size < _; omega)).trans hc
      have k1 := (hJ.cell (p := ⟨w.heap.size + 1, 0, none⟩) (by show w.heap.size + 1 < _; omega)).trans hd
      have k2 := (hJ.cell (p := ⟨w.heap.size + 1 + 1, 0, none⟩) (by show w.heap.size + 1 + 1 < _; omega)).trans he
      by_cases hks : (k : Int) = s
      · simp only [if_pos hks]
        exact (with1_yes k _ _ _ s n _ u k1 k2 k0 hks).mono fun e u' ⟨h1, h2⟩ => by subst h2; exact ⟨h1, hJ, But.refl _ _⟩
      · simp only [if_neg hks]
        exact (with1_no k _ _ _ s n _ l B u k1 k2 k0 (hN.below (hJ.mono (by omega))) hk hks).mono fun e u' ⟨h1, h2⟩ => by subst h2; exact ⟨h1, hJ, But.refl _ _⟩)
  rw [withF] at hK
  subst hW
  clear h hN hr hc hd he hs
  have hmf := makeFunc_run
  go_enter Try.func46, Try.ntmps46
  go_wp2_with (go_at_call 57; (with_reducible refine hK.mono ?_); rintro e w1 ⟨rfl, hE, hJ⟩)
  go_ret
  have hsz := hE.room
  simp only [World.size_alloc] at hE hsz
  exact ⟨_, rfl, nums_of_eight hE (with_fit l s n), hBW.trans (hJ.mono hBW.size), fun q hq => by injection hq with hq; dsimp only at hq; subst hq; exact ⟨by omega, hsz⟩⟩

/-- The first k numbers. -/
def part (f : Nat → Int) (k : Nat) : Nat → Int := fun i => if i < k then cl (f i) else 0
theorem part_fit (f : Nat → Int) (k : Nat) : Fit (part f k) := fun i _ => by
  unfold part; split
  · exact cl_bounds _
  · omega
theorem part_zero (f : Nat → Int) : vec (part f 0) = [] := by
  have : ∀ n, upto (part f 0) n = 0 := fun n => by
    induction n with
    | zero => rfl
    | succ n ih => unfold upto; rw [if_neg (by unfold part; simp), ih]
  unfold vec; rw [this]; rfl
theorem part_step (f : Nat → Int) {k : Nat} (hk : k < 8) : withL (vec (part f k)) (k : Int) (f k) = vec (part f (k + 1)) := by
  unfold withL
  refine vec_congr fun i hi => ?_
  rw [vec_at (part_fit f k) hi]
  unfold part
  by_cases e : i = k
  · subst e; rw [if_pos rfl, if_pos (by omega)]
  · rw [if_neg (by omega)]
    by_cases c : i < k
    · rw [if_pos c, if_pos (by omega)]
    · rw [if_neg c, if_neg (by omega)]
theorem part_all (f : Nat → Int) : vec (part f 8) = vec fun i => cl (f i) := vec_congr fun i hi => by unfold part; rw [if_pos hi]
structure OvJ (w wr : World) (f : Nat → Int) (k : Nat) (v : Value) : Prop where
  ns : Ns wr v (vec (part f k))
  bel : Below w.heap.size w wr
  new : ∀ q, v.ownBlock = some q → w.heap.size ≤ q ∧ q < wr.heap.size
set_option maxHeartbeats 1000000 in
theorem ovec_new (c0 : Value) (f : Nat → Int) (w : World)
    (hcall : ∀ k : Nat, k < 8 → ∀ u, Below w.heap.size w u → Calls Try.prog 35 #[.int .i64 (k : Int), c0] u fun e u' => e = .returned (.int .i64 (f k)) ∧ Below u.heap.size u u') :
    Calls Try.prog 34 #[.func (.func 35) #[] #[c0]] w (VNew (vec fun i => cl (f i)) w) := by
  have HC := Lib.hid hcall
  have H0 := Lib.hid (show OvJ w w f 0 (.slice none 0 0) from ⟨by rw [part_zero]; exact (Nums.nil w none 0).mono (Nat.zero_le _) (Nat.le_refl _), Below.refl _ _, fun q hq => by cases hq⟩)
  clear hcall
  go_enter Try.func34, Try.ntmps34
  go_wp2
  go_loopw [3, 5] (fun v i wr => ∃ k : Nat, k ≤ 8 ∧ i = .int .i64 (k : Int) ∧ Hid (OvJ w wr f k v)) (fun _ i _ => 8 - (intOf i).toNat)
  case atStart => exact ⟨0, by omega, rfl, H0⟩
  case round =>
    obtain ⟨k, hk, rfl, HJ⟩ := hrel
    clear H0
    by_cases hk8 : k < 8
    · have hk2 : (k : Int) < 8 := by omega
      have hcall := HC.out k hk8 wr HJ.out.bel
      have HS := Lib.hid (part_step f hk8)
      obtain ⟨x, hx⟩ : ∃ x, f k = x := ⟨_, rfl⟩
      rw [hx] at hcall HS
      have HJO := HJ.out
      have hkw := fun (u : World) (h : Below wr.heap.size wr u) => withF_is _ _ (k : Int) x _ u (Ns.later HJO.ns h)
      have HW := Lib.hid hkw
      clear hx hkw HJO
      go_wp2_with (first
        | (go_at_call 35; (with_reducible refine hcall.mono ?_); rintro e w1 ⟨rfl, hb1⟩; have HB1 := Lib.hid hb1; clear hb1)
        | (go_at_call 46; (with_reducible refine (HW.out _ HB1.out).mono ?_); rintro e w2 ⟨v2, rfl, hn2, hb2, hf2⟩; have HJ2 := Lib.hid (show OvJ w w2 f (k + 1) v2 from ⟨by rw [← HS.out]; exact hn2, (HJ.out.bel.trans (HB1.out.mono HJ.out.bel.size)).trans (hb2.mono (Nat.le_trans HJ.out.bel.size HB1.out.size)), fun q hq => ⟨by have := (hf2 q hq).1; have := HJ.out.bel.size; have := HB1.out.size; omega, (hf2 q hq).2⟩⟩); clear hn2 hb2 hf2))
      go_roundw
      case rel => exact ⟨k + 1, by omega, by go_num, HJ2⟩
      case measure => simp [intOf]; omega
    · obtain rfl : k = 8 := by omega
      go_wp2
      go_ret
      exact ⟨_, rfl, by rw [← part_all]; exact HJ.out.ns, HJ.out.bel, HJ.out.new⟩
set_option maxHeartbeats 1000000 in
theorem ovec_base (c0 c1 : Value) (f : Nat → Int) (w : World)
    (hcall : ∀ k : Nat, k < 8 → ∀ u, Below w.heap.size w u → Calls Try.prog 49 #[.int .i64 (k : Int), c0, c1] u fun e u' => e = .returned (.int .i64 (f k)) ∧ Below u.heap.size u u') :
    Calls Try.prog 34 #[.func (.func 49) #[] #[c0, c1]] w (VNew (vec fun i => cl (f i)) w) := by
  have HC := Lib.hid hcall
  have H0 := Lib.hid (show OvJ w w f 0 (.slice none 0 0) from ⟨by rw [part_zero]; exact (Nums.nil w none 0).mono (Nat.zero_le _) (Nat.le_refl _), Below.refl _ _, fun q hq => by cases hq⟩)
  clear hcall
  go_enter Try.func34, Try.ntmps34
  go_wp2
  go_loopw [3, 5] (fun v i wr => ∃ k : Nat, k ≤ 8 ∧ i = .int .i64 (k : Int) ∧ Hid (OvJ w wr f k v)) (fun _ i _ => 8 - (intOf i).toNat)
  case atStart => exact ⟨0, by omega, rfl, H0⟩
  case round =>
    obtain ⟨k, hk, rfl, HJ⟩ := hrel
    clear H0
    by_cases hk8 : k < 8
    · have hk2 : (k : Int) < 8 := by omega
      have hcall := HC.out k hk8 wr HJ.out.bel
      have HS := Lib.hid (part_step f hk8)
      obtain ⟨x, hx⟩ : ∃ x, f k = x := ⟨_, rfl⟩
      rw [hx] at hcall HS
      have HJO := HJ.out
      have hkw := fun (u : World) (h : Below wr.heap.size wr u) => withF_is _ _ (k : Int) x _ u (Ns.later HJO.ns h)
      have HW := Lib.hid hkw
      clear hx hkw HJO
      go_wp2_with (first
        | (go_at_call 49; (with_reducible refine hcall.mono ?_); rintro e w1 ⟨rfl, hb1⟩; have HB1 := Lib.hid hb1; clear hb1)
        | (go_at_call 46; (with_reducible refine (HW.out _ HB1.out).mono ?_); rintro e w2 ⟨v2, rfl, hn2, hb2, hf2⟩; have HJ2 := Lib.hid (show OvJ w w2 f (k + 1) v2 from ⟨by rw [← HS.out]; exact hn2, (HJ.out.bel.trans (HB1.out.mono HJ.out.bel.size)).trans (hb2.mono (Nat.le_trans HJ.out.bel.size HB1.out.size)), fun q hq => ⟨by have := (hf2 q hq).1; have := HJ.out.bel.size; have := HB1.out.size; omega, (hf2 q hq).2⟩⟩); clear hn2 hb2 hf2))
      go_roundw
      case rel => exact ⟨k + 1, by omega, by go_num, HJ2⟩
      case measure => simp [intOf]; omega
    · obtain rfl : k = 8 := by omega
      go_wp2
      go_ret
      exact ⟨_, rfl, by rw [← part_all]; exact HJ.out.ns, HJ.out.bel, HJ.out.new⟩
end Go.Proofs.Ythbajlfkgbfkgaa.Og
