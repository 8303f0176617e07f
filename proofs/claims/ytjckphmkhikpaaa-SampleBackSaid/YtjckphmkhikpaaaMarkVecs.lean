/- Contracts of package mark's normal, Join, Meet, With. -/
import Derived.Test.YtjckphmkhikpaaaMarkVec
import Derived.Test.YtjckphmkhikpaaaVintSmall
namespace Go.Proofs.Ytjckphmkhikpaaa
open Go.RowKit Go.Proofs.Ytjckphmkhikpaaa.Vi Go.Proofs.Ytjckphmkhikpaaa.Mk

/-- A new slice of the numbers l, and nothing that was there has turned. -/
def VDone (l : List Int) (w : World) (e : Ending) (w' : World) : Prop := ∃ v, e = .returned v ∧ Nums w' w'.heap.size v l ∧ Below w.heap.size w w'
theorem nums_of_eight {w : World} {b : Nat} {g : Nat → Int} (h : Eight w b g 8) (hf : Fit g) : Nums w w.heap.size (.slice (some ⟨b, 0, none⟩) (upto g 8) (upto g 8)) (vec g) := by
  refine ⟨⟨_, _, by rw [vec_length], Or.inr ⟨b, 0, rfl, h.room, fun j hj => ?_⟩⟩, fun n hn => ?_, ?_, Nat.le_refl _⟩
  · rw [vec_length] at hj
    have := upto_le g 8
    rw [vec_get, Nat.zero_add]
    exact h.get j (by omega) (by omega)
  · have := vec_fit hf n hn; omega
  · have := vec_size g; omega
theorem cl_fit {f : Nat → Int} (h : ∀ i, 0 ≤ f i ∧ f i ≤ 1099511627776) : (fun i => cl (f i)) = f := funext fun i => cl_in (h i).1 (h i).2
theorem keepJ {W u u' : World} (h : Below W.heap.size W u) (k : But W.heap.size u u') (hz : W.heap.size ≤ u.heap.size) : Below W.heap.size W u' := h.trans (k.below (Nat.le_refl _) hz)

theorem at_quiet (v : Value) (l : List Int) (s : Int) (B : Nat) (u : World) (n : Nat) (h : Nums u B v l) (hs : -9223372036854775808 ≤ s ∧ s ≤ 9223372036854775807) :
    Calls Try.prog 49 #[v, .int .i64 s] (u.drewN n) fun e w' => e = .returned (.int .i64 (atL l s)) ∧ w' = u.drewN n :=
  (at_any v l s B _ (h.next (below_drawn u n)) hs).mono fun _ _ ⟨h1, h2⟩ => ⟨h1, h2.symm⟩
theorem normal1_any (k : Nat) (p : Nat) (v : Value) (l : List Int) (B : Nat) (u : World) (c : u.cell? ⟨p, 0, none⟩ = some v) (h : Nums u B v l) (hk : k < 8) :
    Calls Try.prog 92 #[.int .i64 (k : Int), .pointer (some ⟨p, 0, none⟩)] u fun e u' => e = .returned (.int .i64 (atL l (k : Int))) ∧ u = u' := by
  have hA := at_any v l (k : Int) B u h (by omega)
  clear hk
  go_enter Try.func92, Try.ntmps92
  go_wp2_with (go_at_call 49; (with_reducible refine hA.mono ?_); rintro e w1 ⟨rfl, rfl⟩)
  go_ret
  exact ⟨rfl, rfl⟩
theorem normal_is (v : Value) (l : List Int) (B : Nat) (w : World) (h : Nums w B v l) : Calls Try.prog 75 #[v] w (VDone (plainL l) w) := by
  obtain ⟨a0, cap0, rfl⟩ := h.slice
  obtain ⟨W, hW⟩ : ∃ W, w.alloc (.cells #[.slice a0 l.length cap0] 24) = W := ⟨_, rfl⟩
  have hBW : Below w.heap.size w W := by rw [← hW]; exact (Below.refl _ _).alloc (Nat.le_refl _) _
  have hs : W.heap.size = w.heap.size + 1 := by rw [← hW]; simp
  have hc : W.cell? ⟨w.heap.size, 0, none⟩ = some (.slice a0 l.length cap0) := by rw [← hW]; simp [go_sem]
  have hN := h.next hBW
  have hr := h.room
  have hK := vector_normal (.pointer (some ⟨w.heap.size, 0, none⟩)) (fun i => atL l (i : Int)) (fun _ u => Below W.heap.size W u) w.heap.size W (by omega) (Below.refl _ _) (fun _ _ _ a b c => keepJ a b c)
    (fun k hk u hJ _ => (normal1_any k w.heap.size _ l B u ((hJ.cell (p := ⟨w.heap.size, 0, none⟩) (by show w.heap.size < _; omega)).trans hc) (hN.below (hJ.mono (by omega))) hk).mono fun e u' ⟨h1, h2⟩ => by subst h2; exact ⟨h1, hJ, But.refl _ _⟩)
  rw [cl_fit (fun i => atL_bounds l _)] at hK
  subst hW
  clear h hN hr hc hs
  have hmf := makeFunc_run
  go_enter Try.func75, Try.ntmps75
  go_wp2_with (go_at_call 91; (with_reducible refine hK.mono ?_); rintro e w1 ⟨rfl, hE, hJ⟩)
  go_ret
  simp only [World.size_alloc] at hE
  exact ⟨_, rfl, nums_of_eight hE (atL_fit l), hBW.trans (hJ.mono hBW.size)⟩

theorem withF (a : List Int) (s n : Int) : (fun i : Nat => cl (if (i : Int) = s then n else atL a (i : Int))) = fun i : Nat => if (i : Int) = s then cl n else atL a (i : Int) := by
  funext i
  by_cases h : (i : Int) = s
  · rw [if_pos h, if_pos h]
  · rw [if_neg h, if_neg h, cl_in (atL_bounds a _).1 (atL_bounds a _).2]
end Go.Proofs.Ytjckphmkhikpaaa
