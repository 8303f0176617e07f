/- Contracts of package mark's vector, one for each closure that it is handed. -/
import Derived.Test.YtjckphmkhikpaaaMarkAt
namespace Go.Proofs.Ytjckphmkhikpaaa
open Go.RowKit Go.Proofs.Ytjckphmkhikpaaa.Vi Go.Proofs.Ytjckphmkhikpaaa.Mk

/-- Block b has eight cells that may be written, and the first k of them hold g. -/
structure Eight (w : World) (b : Nat) (g : Nat → Int) (k : Nat) : Prop where
  cells : ∀ j, j < 8 → ∃ v, w.cell? ⟨b, j, none⟩ = some v ∧ (j < k → v = .int .i64 (g j))
  free : ∀ j, j < 8 → w.frozen? ⟨b, j, none⟩ = false
theorem Eight.room {w : World} {b k : Nat} {g : Nat → Int} (h : Eight w b g k) : b < w.heap.size := by
  obtain ⟨v, hv, _⟩ := h.cells 0 (by omega)
  exact World.block_lt_of_cell? w _ hv
theorem Eight.but {w w' : World} {b d k : Nat} {g : Nat → Int} (h : Eight w b g k) (hB : But d w w') (hd : b ≠ d) : Eight w' b g k :=
  ⟨fun j hj => by rw [hB.cell (p := ⟨b, j, none⟩) hd h.room]; exact h.cells j hj, fun j hj => by rw [hB.frozen (p := ⟨b, j, none⟩) hd h.room]; exact h.free j hj⟩
theorem Eight.step {w : World} {b k : Nat} {g : Nat → Int} (h : Eight w b g k) (_hk : k < 8) : Eight (w.setCell ⟨b, k, none⟩ (.int .i64 (g k))) b g (k + 1) := by
  refine ⟨fun j hj => ?_, fun j hj => by simp [go_sem, h.free j hj]⟩
  obtain ⟨v, hv, hg⟩ := h.cells j hj
  by_cases e : j = k
  · subst e
    exact ⟨_, World.cell?_setCell_same _ _ _ hv, fun _ => rfl⟩
  · refine ⟨v, ?_, fun hl => hg (by omega)⟩
    rw [World.cell?_setCell_other]
    · exact hv
    · intro e2; exact e (congrArg Addr.off e2).symm
theorem Eight.get {w : World} {b k : Nat} {g : Nat → Int} (h : Eight w b g k) (j : Nat) (hj : j < 8) (hk : j < k) : w.cell? ⟨b, j, none⟩ = some (.int .i64 (g j)) := by
  obtain ⟨v, hv, hg⟩ := h.cells j hj
  rw [hv, hg hk]
theorem Eight.new (w : World) (g : Nat → Int) (T : TypeId) : Eight (w.alloc (.cells #[.int .i64 0, .int .i64 0, .int .i64 0, .int .i64 0, .int .i64 0, .int .i64 0, .int .i64 0, .int .i64 0] T)) w.heap.size g 0 := by
  refine ⟨fun j hj => ⟨.int .i64 0, ?_, fun h => absurd h (Nat.not_lt_zero _)⟩, fun j _ => by simp [go_sem]⟩
  match j, hj with
  | 0, _ | 1, _ | 2, _ | 3, _ | 4, _ | 5, _ | 6, _ | 7, _ => simp [go_sem]
theorem But.self (w : World) (b : Nat) (o : Nat) (v : Value) : But b w (w.setCell ⟨b, o, none⟩ v) := (But.refl b w).setCell o v
/-- What vector leaves: a new slice of the vector's numbers. -/
def VecDone (g : Nat → Int) (J : Nat → World → Prop) (w : World) (e : Ending) (w' : World) : Prop :=
  e = .returned (.slice (some ⟨w.heap.size, 0, none⟩) (upto g 8) (upto g 8)) ∧ Eight w' w.heap.size g 8 ∧ J 8 w'
theorem upto_yes {g : Nat → Int} {k : Nat} (h : 0 < g k) : upto g (k + 1) = k + 1 := if_pos h
theorem upto_no {g : Nat → Int} {k : Nat} (h : ¬ 0 < g k) : upto g (k + 1) = upto g k := if_neg h


set_option maxHeartbeats 1000000 in
theorem vector_normal (c0 : Value) (f : Nat → Int) (J : Nat → World → Prop) (bj : Nat) (w : World) (hbj : bj < w.heap.size) (h0 : J 0 w) (hJ : ∀ k u u', J k u → But w.heap.size u u' → w.heap.size ≤ u.heap.size → J k u')
    (hcall : ∀ k : Nat, k < 8 → ∀ u, J k u → w.heap.size < u.heap.size → Calls Try.prog 92 #[.int .i64 (k : Int), c0] u fun e u' => e = .returned (.int .i64 (f k)) ∧ J (k + 1) u' ∧ But bj u u') :
    Calls Try.prog 91 #[.func (.func 92) #[] #[c0]] w (VecDone (fun i => cl (f i)) J w) := by
  obtain ⟨g, hg⟩ : ∃ g : Nat → Int, (fun i => cl (f i)) = g := ⟨_, rfl⟩
  have HG : Hid (∀ i, cl (f i) = g i) := Lib.hid (fun i => congrFun hg i)
  rw [hg]
  clear hg
  have hmk : ∀ w, (Instr.makeSlice 24 (.int .i64 8) (.int .i64 8)).run Try.prog w = .ok (.slice (some ⟨w.heap.size, 0, none⟩) 8 8) (w.alloc (.cells #[.int .i64 0, .int .i64 0, .int .i64 0, .int .i64 0, .int .i64 0, .int .i64 0, .int .i64 0, .int .i64 0] 3)) := fun _ => by kernel_rfl
  have hE0 := Eight.new w g 3
  have hJ1 := hJ 0 _ _ h0 (But.of ((Below.refl w.heap.size w).alloc (Nat.le_refl _) (.cells #[.int .i64 0, .int .i64 0, .int .i64 0, .int .i64 0, .int .i64 0, .int .i64 0, .int .i64 0, .int .i64 0] 3))) (Nat.le_refl _)
  have HJ := Lib.hid hJ
  have HC := Lib.hid hcall
  have HE0 := Lib.hid hE0
  have HJ1 := Lib.hid hJ1
  clear hJ hcall hE0 hJ1 h0
  have hU := fun k => upto_le g k
  have HU := Lib.hid hU
  clear hU
  go_enter Try.func91, Try.ntmps91
  go_wp2
  go_loopw [4, 9] (fun sz i wr => ∃ k : Nat, k ≤ 8 ∧ i = .int .i64 (k : Int) ∧ sz = .int .i64 ((upto g k : Nat) : Int) ∧ Eight wr w.heap.size g k ∧ J k wr) (fun _ i _ => 8 - (intOf i).toNat)
  case atStart => exact ⟨0, by omega, rfl, rfl, HE0.out, HJ1.out⟩
  case round =>
    obtain ⟨k, hk, rfl, rfl, hE, hJk⟩ := hrel
    clear hmk HE0 HJ1
    by_cases hk8 : k < 8
    · have hk2 : (k : Int) < 8 := by omega
      have hcall := HC.out k hk8 wr hJk hE.room
      have hG := HG.out k
      obtain ⟨x, hx⟩ : ∃ x, f k = x := ⟨_, rfl⟩
      rw [hx] at hcall hG
      have hbd := fun w => bounded_any x w
      rw [hG] at hbd
      have hne : w.heap.size ≠ bj := by omega
      by_cases hpos : 0 < g k
      · have HS := Lib.hid (upto_yes hpos)
        clear hx
        go_wp2_with (first
          | (go_at_call 92; (with_reducible refine hcall.mono ?_); rintro e w1 ⟨rfl, hJ1, hB1⟩; have hE1 := hE.but hB1 hne; obtain ⟨v1, hv1, -⟩ := hE1.cells k hk8; have hfz := hE1.free k hk8)
          | (go_at_call 82; (with_reducible refine (hbd _).mono ?_); rintro e w2 ⟨rfl, rfl⟩))
        go_roundw
        case rel => exact ⟨k + 1, by omega, by go_num, by rw [HS.out]; go_num, hE1.step hk8, HJ.out _ _ _ hJ1 (But.self _ _ _ _) (Nat.le_of_lt hE1.room)⟩
        case measure => simp [intOf]; omega
      · have HS := Lib.hid (upto_no hpos)
        clear hx
        go_wp2_with (first
          | (go_at_call 92; (with_reducible refine hcall.mono ?_); rintro e w1 ⟨rfl, hJ1, hB1⟩; have hE1 := hE.but hB1 hne; obtain ⟨v1, hv1, -⟩ := hE1.cells k hk8; have hfz := hE1.free k hk8)
          | (go_at_call 82; (with_reducible refine (hbd _).mono ?_); rintro e w2 ⟨rfl, rfl⟩))
        go_roundw
        case rel => exact ⟨k + 1, by omega, by go_num, by rw [HS.out], hE1.step hk8, HJ.out _ _ _ hJ1 (But.self _ _ _ _) (Nat.le_of_lt hE1.room)⟩
        case measure => simp [intOf]; omega
    · obtain rfl : k = 8 := by omega
      have h8 := HU.out 8
      obtain ⟨n, hn⟩ : ∃ n, upto g 8 = n := ⟨_, rfl⟩
      rw [hn] at h8 ⊢
      have HN := Lib.hid hn
      clear hn hk8 hk
      go_wp2
      go_ret
      exact ⟨by rw [HN.out]; rfl, hE, hJk⟩


end Go.Proofs.Ytjckphmkhikpaaa
