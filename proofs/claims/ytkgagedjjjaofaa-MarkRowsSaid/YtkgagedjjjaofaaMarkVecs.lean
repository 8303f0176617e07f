/- Contracts of package mark's normal, Join, Meet, With. -/
import Derived.Test.YtkgagedjjjaofaaMarkVec
import Derived.Test.YtkgagedjjjaofaaVintSmall
namespace Go.Proofs.Ytkgagedjjjaofaa
open Go.RowKit Go.Proofs.Ytkgagedjjjaofaa.Vi Go.Proofs.Ytkgagedjjjaofaa.Mk

/-- A new slice of the numbers l, and nothing that was there has turned. -/
def VDone (l : List Int) (w : World) (e : Ending) (w' : World) : Prop := ∃ v, e = .returned v ∧ Nums w' w'.heap.size v l ∧ Below w.heap.size w w'
theorem nums_of_eight {w : World} {b : Nat} {g : Nat → Int} (h : Eight w b g 8) (hf : Fit g) : Nums w w.heap.size (.slice (some ⟨b, 0, none⟩) (upto g 8) (upto g 8)) (vec g) := by
  refine ⟨⟨_, _, by rw [vec_length], Or.inr ⟨b, 0, rfl, h.room, fun j hj => ?_⟩⟩, fun n hn => ?_, ?_, Nat.le_refl _⟩
  · rw [vec_length] at hj
    have := upto_le g 8
    rw [vec_get, Nat.zero_add]
    exact h.get j (by omega) (by omega)
  · have := vec_fit hf n hn; omega
  · have := vec_size g; omega
theorem cl_fit {f : Nat → Int} (h : ∀ i, 0 ≤ f i ∧ f i ≤ 1099511627776) : (fun i => cl (f i)) = f := funext fun i => cl_in (h i).1 (h i).2
theorem keepJ {W u u' : World} (h : Below W.heap.size W u) (k : But W.heap.size u u') (hz : W.heap.size ≤ u.heap.size) : Below W.heap.size W u' := h.trans (k.below (Nat.le_refl _) hz)

theorem at_quiet (v : Value) (l : List Int) (s : Int) (B : Nat) (u : World) (n : Nat) (h : Nums u B v l) (hs : -9223372036854775808 ≤ s ∧ s ≤ 9223372036854775807) :
    Calls Try.prog 33 #[v, .int .i64 s] (u.drewN n) fun e w' => e = .returned (.int .i64 (atL l s)) ∧ w' = u.drewN n :=
  (at_any v l s B _ (h.next (below_drawn u n)) hs).mono fun _ _ ⟨h1, h2⟩ => ⟨h1, h2.symm⟩
theorem normal1_any (k : Nat) (p : Nat) (v : Value) (l : List Int) (B : Nat) (u : World) (c : u.cell? ⟨p, 0, none⟩ = some v) (h : Nums u B v l) (hk : k < 8) :
    Calls Try.prog 67 #[.int .i64 (k : Int), .pointer (some ⟨p, 0, none⟩)] u fun e u' => e = .returned (.int .i64 (atL l (k : Int))) ∧ u = u' := by
  have hA := at_any v l (k : Int) B u h (by omega)
  clear hk
  go_enter Try.func67, Try.ntmps67
  go_wp2_with (go_at_call 33; (with_reducible refine hA.mono ?_); rintro e w1 ⟨rfl, rfl⟩)
  go_ret
  exact ⟨rfl, rfl⟩
theorem normal_is (v : Value) (l : List Int) (B : Nat) (w : World) (h : Nums w B v l) : Calls Try.prog 57 #[v] w (VDone (plainL l) w) := by
  obtain ⟨a0, cap0, rfl⟩ := h.slice
  obtain ⟨W, hW⟩ : ∃ W, w.alloc (.cells #[.slice a0 l.length cap0] 39) = W := ⟨_, rfl⟩
  have hBW : Below w.heap.size w W := by rw [← hW]; exact (Below.refl _ _).alloc (Nat.le_refl _) _
  have hs : W.heap.size = w.heap.size + 1 := by rw [← hW]; simp
  have hc : W.cell? ⟨w.heap.size, 0, none⟩ = some (.slice a0 l.length cap0) := by rw [← hW]; simp [go_sem]
  have hN := h.next hBW
  have hr := h.room
  have hK := vector_normal (.pointer (some ⟨w.heap.size, 0, none⟩)) (fun i => atL l (i : Int)) (fun _ u => Below W.heap.size W u) w.heap.size W (by omega) (Below.refl _ _) (fun _ _ _ a b c => keepJ a b c)
    (fun k hk u hJ _ => (normal1_any k w.heap.size _ l B u ((hJ.cell (p := ⟨w.heap.size, 0, none⟩) (by show w.heap.size < _; omega)).trans hc) (hN.below (hJ.mono (by omega))) hk).mono fun e u' ⟨h1, h2⟩ => by subst h2; exact ⟨h1, hJ, But.refl _ _⟩)
  rw [cl_fit (fun i => atL_bounds l _)] at hK
  subst hW
  clear h hN hr hc hs
  have hmf := makeFunc_run
  go_enter Try.func57, Try.ntmps57
  go_wp2_with (go_at_call 50; (with_reducible refine hK.mono ?_); rintro e w1 ⟨rfl, hE, hJ⟩)
  go_ret
  simp only [World.size_alloc] at hE
  exact ⟨_, rfl, nums_of_eight hE (atL_fit l), hBW.trans (hJ.mono hBW.size)⟩

set_option maxHeartbeats 1000000 in
theorem join1_any (k p q : Nat) (v1 v2 : Value) (l1 l2 : List Int) (B1 B2 : Nat) (u : World) (c1 : u.cell? ⟨p, 0, none⟩ = some v1) (c2 : u.cell? ⟨q, 0, none⟩ = some v2) (h1 : Nums u B1 v1 l1) (h2 : Nums u B2 v2 l2) (hk : k < 8) :
    Calls Try.prog 51 #[.int .i64 (k : Int), .pointer (some ⟨p, 0, none⟩), .pointer (some ⟨q, 0, none⟩)] u fun e u' => e = .returned (.int .i64 (max (atL l1 (k : Int)) (atL l2 (k : Int)))) ∧ ∃ n, u' = u.drewN n := by
  have hA := fun n => at_quiet v1 l1 (k : Int) B1 u n h1 (by omega)
  have hB := fun n => at_quiet v2 l2 (k : Int) B2 u n h2 (by omega)
  obtain ⟨x, hx⟩ : ∃ x, atL l1 (k : Int) = x := ⟨_, rfl⟩
  obtain ⟨y, hy⟩ : ∃ y, atL l2 (k : Int) = y := ⟨_, rfl⟩
  rw [hx] at hA ⊢
  rw [hy] at hB ⊢
  clear hk hx hy h1 h2
  go_enter Try.func51, Try.ntmps51
  go_wp2_with fail
  go_quiet (first | (go_at_call 33; with_reducible refine Calls.quiet_of_same (hA _)) | (go_at_call 33; with_reducible refine Calls.quiet_of_same (hB _)))
  go_wp2
  go_ret
  exact ⟨rfl, _, rfl⟩
theorem join_is (v1 v2 : Value) (l1 l2 : List Int) (B1 B2 : Nat) (w : World) (h1 : Nums w B1 v1 l1) (h2 : Nums w B2 v2 l2) : Calls Try.prog 25 #[v1, v2] w (VDone (joinL l1 l2) w) := by
  obtain ⟨a1, cap1, rfl⟩ := h1.slice
  obtain ⟨a2, cap2, rfl⟩ := h2.slice
  obtain ⟨W, hW⟩ : ∃ W, (w.alloc (.cells #[.slice a1 l1.length cap1] 39)).alloc (.cells #[.slice a2 l2.length cap2] 39) = W := ⟨_, rfl⟩
  have hBW : Below w.heap.size w W := by rw [← hW]; exact ((Below.refl _ _).alloc (Nat.le_refl _) _).alloc (by simp) _
  have hs : W.heap.size = w.heap.size + 1 + 1 := by rw [← hW]; simp
  have hc : W.cell? ⟨w.heap.size, 0, none⟩ = some (.slice a1 l1.length cap1) := by rw [← hW]; simp [go_sem]
  have hd : W.cell? ⟨w.heap.size + 1, 0, none⟩ = some (.slice a2 l2.length cap2) := by rw [← hW]; simp [go_sem]
  have hN := h1.next hBW
  have hM := h2.next hBW
  have hr := h1.room
  have hr2 := h2.room
  have hK := vector_join (.pointer (some ⟨w.heap.size, 0, none⟩)) (.pointer (some ⟨w.heap.size + 1, 0, none⟩)) (fun i => max (atL l1 (i : Int)) (atL l2 (i : Int))) (fun _ u => Below W.heap.size W u) w.heap.size W (by omega) (Below.refl _ _) (fun _ _ _ a b c => keepJ a b c)
    (fun k hk u hJ hz => (join1_any k w.heap.size (w.heap.size + 1) _ _ l1 l2 B1 B2 u ((hJ.cell (p := ⟨w.heap.size, 0, none⟩) (by show w.heap.size < _; omega)).trans hc) ((hJ.cell (p := ⟨w.heap.size + 1, 0, none⟩) (by show w.heap.size + 1 < _; omega)).trans hd) (hN.below (hJ.mono (by omega))) (hM.below (hJ.mono (by omega))) hk).mono fun e u' ⟨e1, n, e2⟩ => by subst e2; exact ⟨e1, hJ.trans ((below_drawn _ _).mono (by omega)), But.of (below_drawn _ _)⟩)
  rw [cl_fit (fun i => by have := atL_bounds l1 (i : Int); have := atL_bounds l2 (i : Int); omega)] at hK
  subst hW
  clear h1 h2 hN hM hr hr2 hc hd hs
  have hmf := makeFunc_run
  go_enter Try.func25, Try.ntmps25
  go_wp2_with (go_at_call 50; (with_reducible refine hK.mono ?_); rintro e w1 ⟨rfl, hE, hJ⟩)
  go_ret
  simp only [World.size_alloc] at hE
  exact ⟨_, rfl, nums_of_eight hE (join_fit l1 l2), hBW.trans (hJ.mono hBW.size)⟩

set_option maxHeartbeats 1000000 in
theorem meet1_any (k p q : Nat) (v1 v2 : Value) (l1 l2 : List Int) (B1 B2 : Nat) (u : World) (c1 : u.cell? ⟨p, 0, none⟩ = some v1) (c2 : u.cell? ⟨q, 0, none⟩ = some v2) (h1 : Nums u B1 v1 l1) (h2 : Nums u B2 v2 l2) (hk : k < 8) :
    Calls Try.prog 54 #[.int .i64 (k : Int), .pointer (some ⟨p, 0, none⟩), .pointer (some ⟨q, 0, none⟩)] u fun e u' => e = .returned (.int .i64 (min (atL l1 (k : Int)) (atL l2 (k : Int)))) ∧ ∃ n, u' = u.drewN n := by
  have hA := fun n => at_quiet v1 l1 (k : Int) B1 u n h1 (by omega)
  have hB := fun n => at_quiet v2 l2 (k : Int) B2 u n h2 (by omega)
  obtain ⟨x, hx⟩ : ∃ x, atL l1 (k : Int) = x := ⟨_, rfl⟩
  obtain ⟨y, hy⟩ : ∃ y, atL l2 (k : Int) = y := ⟨_, rfl⟩
  rw [hx] at hA ⊢
  rw [hy] at hB ⊢
  clear hk hx hy h1 h2
  go_enter Try.func54, Try.ntmps54
  go_wp2_with fail
  go_quiet (first | (go_at_call 33; with_reducible refine Calls.quiet_of_same (hA _)) | (go_at_call 33; with_reducible refine Calls.quiet_of_same (hB _)))
  go_wp2
  go_ret
  exact ⟨rfl, _, rfl⟩
theorem meet_is (v1 v2 : Value) (l1 l2 : List Int) (B1 B2 : Nat) (w : World) (h1 : Nums w B1 v1 l1) (h2 : Nums w B2 v2 l2) : Calls Try.prog 27 #[v1, v2] w (VDone (meetL l1 l2) w) := by
  obtain ⟨a1, cap1, rfl⟩ := h1.slice
  obtain ⟨a2, cap2, rfl⟩ := h2.slice
  obtain ⟨W, hW⟩ : ∃ W, (w.alloc (.cells #[.slice a1 l1.length cap1] 39)).alloc (.cells #[.slice a2 l2.length cap2] 39) = W := ⟨_, rfl⟩
  have hBW : Below w.heap.size w W := by rw [← hW]; exact ((Below.refl _ _).alloc (Nat.le_refl _) _).alloc (by simp) _
  have hs : W.heap.size = w.heap.size + 1 + 1 := by rw [← hW]; simp
  have hc : W.cell? ⟨w.heap.size, 0, none⟩ = some (.slice a1 l1.length cap1) := by rw [← hW]; simp [go_sem]
  have hd : W.cell? ⟨w.heap.size + 1, 0, none⟩ = some (.slice a2 l2.length cap2) := by rw [← hW]; simp [go_sem]
  have hN := h1.next hBW
  have hM := h2.next hBW
  have hr := h1.room
  have hr2 := h2.room
  have hK := vector_meet (.pointer (some ⟨w.heap.size, 0, none⟩)) (.pointer (some ⟨w.heap.size + 1, 0, none⟩)) (fun i => min (atL l1 (i : Int)) (atL l2 (i : Int))) (fun _ u => Below W.heap.size W u) w.heap.size W (by omega) (Below.refl _ _) (fun _ _ _ a b c => keepJ a b c)
    (fun k hk u hJ hz => (meet1_any k w.heap.size (w.heap.size + 1) _ _ l1 l2 B1 B2 u ((hJ.cell (p := ⟨w.heap.size, 0, none⟩) (by show w.heap.size < _; omega)).trans hc) ((hJ.cell (p := ⟨w.heap.size + 1, 0, none⟩) (by show w.heap.size + 1 < _; omega)).trans hd) (hN.below (hJ.mono (by omega))) (hM.below (hJ.mono (by omega))) hk).mono fun e u' ⟨e1, n, e2⟩ => by subst e2; exact ⟨e1, hJ.trans ((below_drawn _ _).mono (by omega)), But.of (below_drawn _ _)⟩)
  rw [cl_fit (fun i => by have := atL_bounds l1 (i : Int); have := atL_bounds l2 (i : Int); omega)] at hK
  subst hW
  clear h1 h2 hN hM hr hr2 hc hd hs
  have hmf := makeFunc_run
  go_enter Try.func27, Try.ntmps27
  go_wp2_with (go_at_call 50; (with_reducible refine hK.mono ?_); rintro e w1 ⟨rfl, hE, hJ⟩)
  go_ret
  simp only [World.size_alloc] at hE
  exact ⟨_, rfl, nums_of_eight hE (meet_fit l1 l2), hBW.trans (hJ.mono hBW.size)⟩

theorem with1_yes (k : Nat) (b0 b1 b2 : Nat) (s n : Int) (v : Value) (u : World) (c0 : u.cell? ⟨b0, 0, none⟩ = some (.int .i64 s)) (c1 : u.cell? ⟨b1, 0, none⟩ = some (.int .i64 n)) (_c2 : u.cell? ⟨b2, 0, none⟩ = some v) (hk : (k : Int) = s) :
    Calls Try.prog 55 #[.int .i64 (k : Int), .pointer (some ⟨b0, 0, none⟩), .pointer (some ⟨b1, 0, none⟩), .pointer (some ⟨b2, 0, none⟩)] u fun e u' => e = .returned (.int .i64 n) ∧ u = u' := by
  subst hk
  go_enter Try.func55, Try.ntmps55
  go_wp2
  go_ret
  exact ⟨rfl, rfl⟩
theorem with1_no (k : Nat) (b0 b1 b2 : Nat) (s n : Int) (v : Value) (l : List Int) (B : Nat) (u : World) (c0 : u.cell? ⟨b0, 0, none⟩ = some (.int .i64 s)) (_c1 : u.cell? ⟨b1, 0, none⟩ = some (.int .i64 n)) (c2 : u.cell? ⟨b2, 0, none⟩ = some v) (h : Nums u B v l) (hk8 : k < 8) (hk : ¬ (k : Int) = s) :
    Calls Try.prog 55 #[.int .i64 (k : Int), .pointer (some ⟨b0, 0, none⟩), .pointer (some ⟨b1, 0, none⟩), .pointer (some ⟨b2, 0, none⟩)] u fun e u' => e = .returned (.int .i64 (atL l (k : Int))) ∧ u = u' := by
  have hA := at_any v l (k : Int) B u h (by omega)
  have hk2 : ((k : Int) == s) = false := by simpa using hk
  clear hk hk8
  go_enter Try.func55, Try.ntmps55
  go_wp2_with (go_at_call 33; (with_reducible refine hA.mono ?_); rintro e w1 ⟨rfl, rfl⟩)
  go_ret
  exact ⟨rfl, rfl⟩
theorem withF (a : List Int) (s n : Int) : (fun i : Nat => cl (if (i : Int) = s then n else atL a (i : Int))) = fun i : Nat => if (i : Int) = s then cl n else atL a (i : Int) := by
  funext i
  by_cases h : (i : Int) = s
  · rw [if_pos h, if_pos h]
  · rw [if_neg h, if_neg h, cl_in (atL_bounds a _).1 (atL_bounds a _).2]
theorem with_is (v : Value) (l : List Int) (s n : Int) (B : Nat) (w : World) (h : Nums w B v l) : Calls Try.prog 29 #[v, .int .i64 s, .int .i64 n] w (VDone (withL l s n) w) := by
  obtain ⟨a0, cap0, rfl⟩ := h.slice
  obtain ⟨W, hW⟩ : ∃ W, ((w.alloc (.cells #[.slice a0 l.length cap0] 39)).alloc (.cells #[.int .i64 s] 3)).alloc (.cells #[.int .i64 n] 3) = W := ⟨_, rfl⟩
  have hBW : Below w.heap.size w W := by rw [← hW]; exact (((Below.refl _ _).alloc (Nat.le_refl _) _).alloc (by simp) _).alloc (by simp; omega) _
  have hs : W.heap.size = w.heap.size + 1 + 1 + 1 := by rw [← hW]; simp
  have hc : W.cell? ⟨w.heap.size, 0, none⟩ = some (.slice a0 l.length cap0) := by rw [← hW]; simp [go_sem]
  have hd : W.cell? ⟨w.heap.size + 1, 0, none⟩ = some (.int .i64 s) := by rw [← hW]; simp [go_sem]
  have he : W.cell? ⟨w.heap.size + 1 + 1, 0, none⟩ = some (.int .i64 n) := by rw [← hW]; simp [go_sem]
  have hN := h.next hBW
  have hr := h.room
  have hK := vector_with (.pointer (some ⟨w.heap.size + 1, 0, none⟩)) (.pointer (some ⟨w.heap.size + 1 + 1, 0, none⟩)) (.pointer (some ⟨w.heap.size, 0, none⟩)) (fun i => if (i : Int) = s then n else atL l (i : Int)) (fun _ u => Below W.heap.size W u) w.heap.size W (by omega) (Below.refl _ _) (fun _ _ _ a b c => keepJ a b c)
    (fun k hk u hJ hz => by
      have k0 := (hJ.cell (p := ⟨w.heap.size, 0, none⟩) (by show w.heap.size < _; omega)).trans hc
      have k1 := (hJ.cell (p := ⟨w.heap.size + 1, 0, none⟩) (by show w.heap.size + 1 < _; omega)).trans hd
      have k2 := (hJ.cell (p := ⟨w.heap.size + 1 + 1, 0, none⟩) (by show w.heap.size + 1 + 1 < _; omega)).trans he
      by_cases hks : (k : Int) = s
      · simp only [if_pos hks]
        exact (with1_yes k _ _ _ s n _ u k1 k2 k0 hks).mono fun e u' ⟨h1, h2⟩ => by subst h2; exact ⟨h1, hJ, But.refl _ _⟩
      · simp only [if_neg hks]
        exact (with1_no k _ _ _ s n _ l B u k1 k2 k0 (hN.below (hJ.mono (by omega))) hk hks).mono fun e u' ⟨h1, h2⟩ => by subst h2; exact ⟨h1, hJ, But.refl _ _⟩)
  rw [withF] at hK
  subst hW
  clear h hN hr hc hd he hs
  have hmf := makeFunc_run
  go_enter Try.func29, Try.ntmps29
  go_wp2_with (go_at_call 50; (with_reducible refine hK.mono ?_); rintro e w1 ⟨rfl, hE, hJ⟩)
  go_ret
  simp only [World.size_alloc] at hE
  exact ⟨_, rfl, nums_of_eight hE (with_fit l s n), hBW.trans (hJ.mono hBW.size)⟩
end Go.Proofs.Ytkgagedjjjaofaa
