/- Slices of numbers, and contracts of package mark's At, bounded, Covers, Compare. -/
import Derived.Test.YtjckphmkhikpaaaVintReader
import Derived.Test.YtjckphmkhikpaaaVintArgs
import Derived.Test.YtjckphmkhikpaaaMarkMath
namespace Go.Proofs.Ytjckphmkhikpaaa
open Go.RowKit Go.Proofs.Ytjckphmkhikpaaa.Vi Go.Proofs.Ytjckphmkhikpaaa.Mk

/-- v is a slice of the numbers l, all of them in blocks below B. -/
structure Nums (w : World) (B : Nat) (v : Value) (l : List Int) : Prop where
  shape : ∃ a cap, v = .slice a l.length cap ∧ (l = [] ∨ ∃ b off, a = some ⟨b, off, none⟩ ∧ b < B ∧ ∀ j (h : j < l.length), w.cell? ⟨b, off + j, none⟩ = some (.int .i64 l[j]))
  wide : ∀ n ∈ l, -9223372036854775808 ≤ n ∧ n ≤ 9223372036854775807
  size : l.length ≤ 9223372036854775807
  room : B ≤ w.heap.size
theorem Nums.slice {w : World} {B : Nat} {v : Value} {l : List Int} (h : Nums w B v l) : ∃ a cap, v = .slice a l.length cap := by
  obtain ⟨⟨a, cap, h1, _⟩, _⟩ := h; exact ⟨a, cap, h1⟩
theorem Nums.mono {w : World} {B B' : Nat} {v : Value} {l : List Int} (h : Nums w B v l) (hB : B ≤ B') (hw : B' ≤ w.heap.size) : Nums w B' v l := by
  obtain ⟨⟨a, cap, h1, h2⟩, h3, h4, _⟩ := h
  refine ⟨⟨a, cap, h1, ?_⟩, h3, h4, hw⟩
  rcases h2 with h | ⟨b, off, e, hb, hc⟩
  · exact Or.inl h
  · exact Or.inr ⟨b, off, e, by omega, hc⟩
theorem Nums.below {w w' : World} {B : Nat} {v : Value} {l : List Int} (h : Nums w B v l) (k : Below B w w') : Nums w' B v l := by
  obtain ⟨⟨a, cap, h1, h2⟩, h3, h4, h5⟩ := h
  refine ⟨⟨a, cap, h1, ?_⟩, h3, h4, Nat.le_trans h5 k.size⟩
  rcases h2 with h | ⟨b, off, e, hb, hc⟩
  · exact Or.inl h
  · exact Or.inr ⟨b, off, e, hb, fun j hj => (k.cell (p := ⟨b, off + j, none⟩) hb).trans (hc j hj)⟩
theorem Nums.nil (w : World) (a : Option Addr) (cap : Nat) : Nums w 0 (.slice a 0 cap) [] := ⟨⟨a, cap, rfl, Or.inl rfl⟩, fun n h => (by simp at h), by simp, Nat.zero_le _⟩
theorem Nums.next {w w' : World} {B : Nat} {v : Value} {l : List Int} (h : Nums w B v l) (k : Below w.heap.size w w') : Nums w' B v l := h.below (k.mono h.room)

theorem bounded_any (n : Int) (w : World) : Calls Try.prog 82 #[.int .i64 n] w fun e w' => e = .returned (.int .i64 (cl n)) ∧ w = w' := by
  by_cases c1 : n < 0
  · rw [show cl n = 0 by unfold cl; rw [if_pos c1]]
    go_enter Try.func82, Try.ntmps82
    go_wp2
    all_goals (go_ret; exact ⟨rfl, rfl⟩)
  · by_cases c2 : (1099511627776 : Int) < n
    · rw [show cl n = 1099511627776 by unfold cl; rw [if_neg c1, if_pos c2]]
      have c3 : 0 ≤ n := by omega
      clear c1
      go_enter Try.func82, Try.ntmps82
      go_wp2
      all_goals (go_ret; exact ⟨rfl, rfl⟩)
    · rw [show cl n = n by unfold cl; rw [if_neg c1, if_neg c2]]
      have c3 : 0 ≤ n := by omega
      have c4 : n ≤ 1099511627776 := by omega
      clear c1 c2
      go_enter Try.func82, Try.ntmps82
      go_wp2
      all_goals (go_ret; exact ⟨rfl, rfl⟩)

theorem at_any (v : Value) (l : List Int) (s : Int) (B : Nat) (w : World) (h : Nums w B v l) (hs : -9223372036854775808 ≤ s ∧ s ≤ 9223372036854775807) :
    Calls Try.prog 49 #[v, .int .i64 s] w fun e w' => e = .returned (.int .i64 (atL l s)) ∧ w = w' := by
  obtain ⟨⟨a, cap, rfl, hc⟩, -, hsz, -⟩ := h
  by_cases c1 : s < 0
  · rw [atL_out (Or.inl c1)]
    go_enter Try.func49, Try.ntmps49
    go_wp2
    go_ret
    exact ⟨rfl, rfl⟩
  · obtain ⟨k, rfl⟩ := Int.eq_ofNat_of_zero_le (by omega : 0 ≤ s)
    clear c1 hs
    by_cases c2 : (7 : Int) < (k : Int)
    · rw [atL_out (Or.inr c2)]
      go_enter Try.func49, Try.ntmps49
      go_wp2
      go_ret
      exact ⟨rfl, rfl⟩
    · by_cases c3 : (l.length : Int) ≤ (k : Int)
      · rw [atL_past c3]
        go_enter Try.func49, Try.ntmps49
        go_wp2
        go_ret
        exact ⟨rfl, rfl⟩
      · have hk : k < l.length := by omega
        rcases hc with rfl | ⟨b, off, rfl, _, hc⟩
        · simp at hk
        · have hck := hc k hk
          rw [atL_get (by omega) hk]
          obtain ⟨x, hx⟩ : ∃ x, l[k] = x := ⟨_, rfl⟩
          rw [hx] at hck ⊢
          have c4 : (k : Int) < (l.length : Int) := by omega
          have hb := fun w => bounded_any x w
          clear hc hx hk
          go_enter Try.func49, Try.ntmps49
          go_wp2_with (go_at_call 82; (with_reducible refine (hb _).mono ?_); rintro e w1 ⟨rfl, rfl⟩)
          go_ret
          exact ⟨rfl, rfl⟩
end Go.Proofs.Ytjckphmkhikpaaa
