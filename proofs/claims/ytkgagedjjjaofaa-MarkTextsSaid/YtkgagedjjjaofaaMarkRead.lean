/- Contracts of Read, of package mark and of the document. -/
import Derived.Test.YtkgagedjjjaofaaMarkReadMath
import Derived.Test.YtkgagedjjjaofaaMarkRefB
import Derived.Laws.EntriesVeiled
namespace Go.Proofs.Ytkgagedjjjaofaa
open Go.RowKit Go.Proofs.Ytkgagedjjjaofaa.Vi Go.Proofs.Ytkgagedjjjaofaa.Mk

/-- What the closure of Read finds: the reader, how many numbers there are, and the method. -/
structure RdJ (w : World) (p q z : Nat) (s : ByteArray) (k : Nat) (u : World) : Prop where
  ra : RA u p (stp s k).1 (stp s k).2
  cz : u.cell? ⟨z, 0, none⟩ = some (.int .i64 (cntS s))
  cq : u.cell? ⟨q, 0, none⟩ = some (.func (.func 45) #[.pointer (some ⟨p, 0, none⟩)] #[])
  bel : Below w.heap.size w u
theorem RdJ.but {w u u' : World} {p q z d k : Nat} {s : ByteArray} (h : RdJ w p q z s k u) (hB : But d u u') (h1 : p ≠ d) (h2 : q ≠ d) (h3 : z ≠ d) (hd : w.heap.size ≤ d) : RdJ w p q z s k u' :=
  ⟨h.ra.but hB h1, (hB.cell (p := ⟨z, 0, none⟩) h3 (World.block_lt_of_cell? u _ h.cz)).trans h.cz, (hB.cell (p := ⟨q, 0, none⟩) h2 (World.block_lt_of_cell? u _ h.cq)).trans h.cq, h.bel.trans (hB.below hd h.bel.size)⟩

set_option maxHeartbeats 2000000 in
theorem read1_any (s : ByteArray) (hs : s.size ≤ 100000) (p q z k : Nat) (w u : World) (h : RdJ w p q z s k u) (hp : w.heap.size ≤ p) (hq : q ≠ p) (hz : z ≠ p) :
    Calls Try.prog 59 #[.int .i64 (k : Int), .pointer (some ⟨z, 0, none⟩), .pointer (some ⟨q, 0, none⟩)] u fun e u' => e = .returned (.int .i64 (numS s k)) ∧ RdJ w p q z s (k + 1) u' ∧ But p u u' := by
  have h0 := h
  obtain ⟨ra, cz, cq, bel⟩ := h
  by_cases hlt : (k : Int) < cntS s
  · have hsm := small_is p (stp s k).1 (stp s (k + 1)).1 (stp s k).2 (stp s (k + 1)).2 (numS s k) 1099511627776 u (by have := (stp_inv s k).2; unfold maxLen; omega) (by omega) (Lib.hid (stp_step hlt)) ra
    obtain ⟨x, hx⟩ : ∃ x, numS s k = x := ⟨_, rfl⟩
    obtain ⟨c, hc⟩ : ∃ c, cntS s = c := ⟨_, rfl⟩
    rw [hx] at hsm ⊢
    rw [hc] at cz hlt
    have HC := Lib.hid hc
    have HJ := Lib.hid h0
    clear hx hc h0 ra
    go_enter Try.func59, Try.ntmps59
    go_wp2_with (go_at_call 45; (with_reducible refine hsm.mono ?_); rintro e w1 ⟨rfl, hR, hB⟩)
    go_ret
    have G := HJ.out
    exact ⟨rfl, ⟨hR, (hB.cell (p := ⟨z, 0, none⟩) hz (World.block_lt_of_cell? u _ G.cz)).trans G.cz, (hB.cell (p := ⟨q, 0, none⟩) hq (World.block_lt_of_cell? u _ G.cq)).trans G.cq, G.bel.trans (hB.below hp G.bel.size)⟩, hB⟩
  · have e1 : numS s k = 0 := if_neg hlt
    have e2 : stp s (k + 1) = stp s k := stp_past hlt
    have HJ := Lib.hid (show RdJ w p q z s (k + 1) u from ⟨by rw [e2]; exact h0.ra, h0.cz, h0.cq, h0.bel⟩)
    obtain ⟨c, hc⟩ : ∃ c, cntS s = c := ⟨_, rfl⟩
    rw [hc] at cz hlt
    rw [e1]
    clear e1 e2 hc h0 ra
    go_enter Try.func59, Try.ntmps59
    go_wp2
    go_ret
    exact ⟨rfl, HJ.out, But.refl _ _⟩
/-- What Read answers. -/
def ReadDone (s : ByteArray) (w : World) (e : Ending) (w' : World) : Prop := ∃ v er, e = .returned (.tuple #[v, .int .i64 er]) ∧ Below w.heap.size w w' ∧ ((OkS s ∧ er = 0 ∧ Ns w' v (vecS s)) ∨ (¬ OkS s ∧ er = 10 ∧ v = .slice none 0 0))

theorem text_ne {s t : ByteArray} (h : s ≠ t) : (s.toList == t.toList) = false := by
  rw [Bool.eq_false_iff]
  intro e
  have e2 := eq_of_beq e
  rw [ByteArray.toList_eq, ByteArray.toList_eq] at e2
  exact h (list_inj e2)
set_option maxHeartbeats 4000000 in
theorem read_vec (s : ByteArray) (w : World) (hs : s.size ≤ 100000) : Calls Try.prog 39 #[.string s] w (ReadDone s w) := by
  have hmf := makeFunc_run
  have k1 := fun p w hA => small_is p s (stp s 0).1 false (stp s 0).2 (cntS s) 8 w (by unfold maxLen; omega) (by omega) (Lib.hid (stp_zero s)) hA
  have k2 : ∀ (w0 W : World) (p q z : Nat), RdJ w0 p q z s 0 W → w0.heap.size ≤ p → q ≠ p → z ≠ p → p < W.heap.size → q < W.heap.size → z < W.heap.size →
      Calls Try.prog 50 #[.func (.func 59) #[] #[.pointer (some ⟨z, 0, none⟩), .pointer (some ⟨q, 0, none⟩)]] W (VecDone (numS s) (fun k u => RdJ w0 p q z s k u) W) := fun w0 W p q z hJ hp hq hz rp rq rz => by
    have := vector_read (.pointer (some ⟨z, 0, none⟩)) (.pointer (some ⟨q, 0, none⟩)) (numS s) (fun k u => RdJ w0 p q z s k u) p W rp hJ
      (fun k u u' h hB _ => h.but hB (by omega) (by omega) (by omega) (Nat.le_trans hp (by omega)))
      (fun k _ u h _ => read1_any s hs p q z k w0 u h hp hq hz)
    rw [cl_fit (fun i => numS_bounds s i)] at this
    exact this
  obtain ⟨t, ht⟩ : ∃ t, tx (textL (plainL (vecS s))) = t := ⟨_, rfl⟩
  have k3 := fun v w h => textN v (vecS s) t w h (Lib.hid ht)
  have ht2 : tx (textL (vecS s)) = t := by rw [← ht]; unfold vecS; rw [plain_vec (numS_fit s)]
  obtain ⟨c, hc⟩ : ∃ c, cntS s = c := ⟨_, rfl⟩
  rw [hc] at k1
  have HC := Lib.hid hc
  clear hc
  by_cases hok : OkS s
  · have e : t = s := by rw [← ht2]; exact hok
    subst e
    have HOK := Lib.hid hok
    clear ht ht2 hok
    go_enter Try.func39, Try.ntmps39
    go_wp2_with (first
      | (go_at_call 11; (with_reducible refine (read_is _ _).mono ?_); rintro e w1 ⟨rfl, hA, hb1, hz1⟩; have hA0 := hA.below ((Below.refl _ _).alloc (Nat.le_refl _) (.cells #[.func (.func 45) #[.pointer (some ⟨w.heap.size, 0, none⟩)] #[]] 61)); have hq0 : (w1.alloc (.cells #[.func (.func 45) #[.pointer (some ⟨w.heap.size, 0, none⟩)] #[]] 61)).cell? ⟨w1.heap.size, 0, none⟩ = some (.func (.func 45) #[.pointer (some ⟨w.heap.size, 0, none⟩)] #[]) := by simp [go_sem])
      | (go_at_call 45; (with_reducible refine (k1 _ _ hA0).mono ?_); rintro e w2 ⟨rfl, hR, hB⟩; have hqB := (hB.cell (p := ⟨w1.heap.size, 0, none⟩) (by show w1.heap.size ≠ w.heap.size; omega) (by show w1.heap.size < (w1.alloc _).heap.size; simp)).trans hq0; have hsz2 := hB.size; have J0 : RdJ w w.heap.size w1.heap.size w2.heap.size t 0 (w2.alloc (.cells #[.int .i64 c] 3)) := ⟨hR.below ((Below.refl _ _).alloc (Nat.le_refl _) _), by rw [HC.out]; simp [go_sem], (((Below.refl _ w2).alloc (Nat.le_refl _) (.cells #[.int .i64 c] 3)).cell (p := ⟨w1.heap.size, 0, none⟩) (World.block_lt_of_cell? w2 _ hqB)).trans hqB, bel_new ((bel_new hb1 _).trans (hB.below (Nat.le_refl _) (by simp; omega))) _⟩; simp only [World.size_alloc] at hsz2)
      | (go_at_call 50; (with_reducible refine (k2 _ _ _ _ _ J0 (Nat.le_refl _) (by omega) (by omega) ?r1 ?r2 ?r3).mono ?_); (case r1 => simp; omega); (case r2 => simp; omega); (case r3 => simp); rintro e w3 ⟨rfl, hE, hJ8⟩; (have hN3 : Ns w3 _ (vecS t) := nums_of_eight hE (numS_fit t)); simp only [World.size_alloc] at hN3)
      | (go_at_call 41; (with_reducible refine (k3 _ _ hN3).mono ?_); rintro e w4 ⟨rfl, hb4⟩))
    go_ret2
    exact ⟨_, 0, rfl, bel_next hJ8.bel hb4, Or.inl ⟨HOK.out, rfl, hN3.later hb4⟩⟩
  · have e : t ≠ s := fun e => hok (by unfold OkS; rw [ht2]; exact e)
    have hne := text_ne e
    have HOK := Lib.hid hok
    clear ht ht2 hok e
    go_enter Try.func39, Try.ntmps39
    go_wp2_with (first
      | (go_at_call 11; (with_reducible refine (read_is _ _).mono ?_); rintro e w1 ⟨rfl, hA, hb1, hz1⟩; have hA0 := hA.below ((Below.refl _ _).alloc (Nat.le_refl _) (.cells #[.func (.func 45) #[.pointer (some ⟨w.heap.size, 0, none⟩)] #[]] 61)); have hq0 : (w1.alloc (.cells #[.func (.func 45) #[.pointer (some ⟨w.heap.size, 0, none⟩)] #[]] 61)).cell? ⟨w1.heap.size, 0, none⟩ = some (.func (.func 45) #[.pointer (some ⟨w.heap.size, 0, none⟩)] #[]) := by simp [go_sem])
      | (go_at_call 45; (with_reducible refine (k1 _ _ hA0).mono ?_); rintro e w2 ⟨rfl, hR, hB⟩; have hqB := (hB.cell (p := ⟨w1.heap.size, 0, none⟩) (by show w1.heap.size ≠ w.heap.size; omega) (by show w1.heap.size < (w1.alloc _).heap.size; simp)).trans hq0; have hsz2 := hB.size; have J0 : RdJ w w.heap.size w1.heap.size w2.heap.size s 0 (w2.alloc (.cells #[.int .i64 c] 3)) := ⟨hR.below ((Below.refl _ _).alloc (Nat.le_refl _) _), by rw [HC.out]; simp [go_sem], (((Below.refl _ w2).alloc (Nat.le_refl _) (.cells #[.int .i64 c] 3)).cell (p := ⟨w1.heap.size, 0, none⟩) (World.block_lt_of_cell? w2 _ hqB)).trans hqB, bel_new ((bel_new hb1 _).trans (hB.below (Nat.le_refl _) (by simp; omega))) _⟩; simp only [World.size_alloc] at hsz2)
      | (go_at_call 50; (with_reducible refine (k2 _ _ _ _ _ J0 (Nat.le_refl _) (by omega) (by omega) ?r1 ?r2 ?r3).mono ?_); (case r1 => simp; omega); (case r2 => simp; omega); (case r3 => simp); rintro e w3 ⟨rfl, hE, hJ8⟩; (have hN3 : Ns w3 _ (vecS s) := nums_of_eight hE (numS_fit s)); simp only [World.size_alloc] at hN3)
      | (go_at_call 41; (with_reducible refine (k3 _ _ hN3).mono ?_); rintro e w4 ⟨rfl, hb4⟩))
    go_ret2
    exact ⟨_, 10, rfl, bel_next hJ8.bel hb4, Or.inr ⟨HOK.out, rfl, rfl⟩⟩
end Go.Proofs.Ytkgagedjjjaofaa
