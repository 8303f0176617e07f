/- slices.Contains and the document's In. -/
import Derived.Test.YtmmkbedheeeecaaRingAt
set_option maxRecDepth 20000
set_option linter.unusedSimpArgs false
namespace Go.Proofs.Ytmmkbedheeeecaa
open Go.RowKit

def inL (l : List Int) (x : Int) : Bool := decide (x ∈ l)
theorem inL_yes {l : List Int} {x : Int} {k : Nat} (h : k < l.length) (e : l[k] = x) : inL l x = true := by unfold inL; simp; rw [← e]; exact List.getElem_mem h
theorem inL_no {l : List Int} {x : Int} (h : ∀ j (hj : j < l.length), l[j] ≠ x) : inL l x = false := by
  unfold inL
  simp only [decide_eq_false_iff_not]
  intro hm
  obtain ⟨j, hj, e⟩ := List.getElem_of_mem hm
  exact h j hj e
def idxL (l : List Int) (x : Int) (z : Int) : Prop := (z = -1 ∧ ∀ j (hj : j < l.length), l[j] ≠ x) ∨ (∃ k : Nat, z = (k : Int) ∧ ∃ h : k < l.length, l[k] = x)
set_option maxHeartbeats 1000000 in
theorem index_is (v : Value) (l : List Int) (x : Int) (w : World) (h : Ns w v l) : Calls Try.prog 37 #[v, .int .i64 x] w fun e w' => ∃ z, e = .returned (.int .i64 z) ∧ idxL l x z ∧ w = w' := by
  obtain ⟨a, cap, rfl⟩ := h.slice
  have hsz := h.size
  have H := Lib.hid h
  obtain ⟨n, hn⟩ : ∃ n, l.length = n := ⟨_, rfl⟩
  rw [hn] at hsz ⊢
  have HN := Lib.hid hn
  clear h hn
  go_enter Try.func37, Try.ntmps37
  go_wp2
  go_loopw [8] (fun i wr => ∃ k : Nat, k ≤ n ∧ i = .int .i64 (k : Int) ∧ wr = w ∧ ∀ j (hj : j < l.length), j < k → l[j] ≠ x) (fun i _ => n - (intOf i).toNat)
  case atStart => exact ⟨0, by omega, rfl, rfl, fun j _ hj => absurd hj (Nat.not_lt_zero _)⟩
  case round =>
    obtain ⟨k, hk, rfl, rfl, hall⟩ := hrel
    have HALL := Lib.hid hall
    clear hall
    by_cases hkn : k < n
    · have hk2 : (k : Int) < (n : Int) := by omega
      have hkl : k < l.length := by rw [HN.out]; exact hkn
      obtain ⟨-, b, off, rfl, g⟩ := H.out.cell (by omega)
      have c1 := g k hkl
      obtain ⟨y, hy⟩ : ∃ y, l[k] = y := ⟨_, rfl⟩
      rw [hy] at c1
      have HY := Lib.hid hy
      clear g hy
      by_cases hxy : x = y
      · have hq : (x == y) = true := by simpa using hxy
        have HXY := Lib.hid hxy
        clear hxy hkn
        go_wp2
        go_ret
        exact ⟨_, rfl, Or.inr ⟨k, rfl, hkl, HY.out.trans HXY.out.symm⟩, rfl⟩
      · have hq : (x == y) = false := by simpa using hxy
        have HXY := Lib.hid hxy
        clear hxy hkn
        go_wp2
        go_roundw
        case rel =>
          refine ⟨k + 1, by omega, by go_num, trivial, fun j hj h1 => ?_⟩
          by_cases e : j = k
          · subst e; rw [HY.out]; exact fun e => HXY.out e.symm
          · exact HALL.out j hj (by omega)
        case measure => simp [intOf]; omega
    · obtain rfl : k = n := by omega
      have hk2 : ¬ (k : Int) < (k : Int) := by omega
      clear hkn
      go_wp2
      go_ret
      exact ⟨_, rfl, Or.inl ⟨rfl, fun j hj => HALL.out j hj (by rw [← HN.out]; exact hj)⟩, rfl⟩
theorem contains_is (v : Value) (l : List Int) (x : Int) (w : World) (h : Ns w v l) : Calls Try.prog 26 #[v, .int .i64 x] w fun e w' => e = .returned (.bool (inL l x)) ∧ w = w' := by
  have k := index_is v l x w h
  obtain ⟨a, cap, rfl⟩ := h.slice
  go_enter Try.func26, Try.ntmps26
  go_wp2_with (go_at_call 37; (with_reducible refine k.mono ?_); rintro e w1 ⟨z, rfl, hz, rfl⟩; have HZ := Lib.hid hz; clear hz)
  go_ret
  refine ⟨?_, rfl⟩
  rcases HZ.out with ⟨rfl, h2⟩ | ⟨j, rfl, h1, h2⟩
  · rw [inL_no h2]; rfl
  · rw [inL_yes h1 h2]
    simp
set_option maxHeartbeats 1000000 in
theorem in_is (v : Value) (l : List Int) (x : Int) (w : World) (h : Ns w v l) : Calls Try.prog 17 #[v, .int .i64 x] w fun e w' => e = .returned (.bool (inL l x)) ∧ w = w' := by
  obtain ⟨a, cap, rfl⟩ := h.slice
  have hsz := h.size
  have H := Lib.hid h
  obtain ⟨n, hn⟩ : ∃ n, l.length = n := ⟨_, rfl⟩
  obtain ⟨q, hq⟩ : ∃ q, inL l x = q := ⟨_, rfl⟩
  have HQ := Lib.hid hq
  rw [hn] at hsz ⊢
  rw [hq]
  have HN := Lib.hid hn
  clear h hn hq
  go_enter Try.func17, Try.ntmps17
  go_wp2
  go_loopw [5] (fun i wr => ∃ k : Nat, k ≤ n ∧ i = .int .i64 (k : Int) ∧ wr = w ∧ ∀ j (hj : j < l.length), j < k → l[j] ≠ x) (fun i _ => n - (intOf i).toNat)
  case atStart => exact ⟨0, by omega, rfl, rfl, fun j _ hj => absurd hj (Nat.not_lt_zero _)⟩
  case round =>
    obtain ⟨k, hk, rfl, rfl, hall⟩ := hrel
    have HALL := Lib.hid hall
    clear hall
    by_cases hkn : k < n
    · have hk2 : (k : Int) < (n : Int) := by omega
      have hkl : k < l.length := by rw [HN.out]; exact hkn
      obtain ⟨-, b, off, rfl, g⟩ := H.out.cell (by omega)
      have c1 := g k hkl
      obtain ⟨y, hy⟩ : ∃ y, l[k] = y := ⟨_, rfl⟩
      rw [hy] at c1
      have HY := Lib.hid hy
      clear g hy
      by_cases hxy : y = x
      · have hq : (y == x) = true := by simpa using hxy
        have HXY := Lib.hid hxy
        clear hxy hkn
        go_wp2
        go_ret
        exact ⟨by rw [← HQ.out, inL_yes hkl (HY.out.trans HXY.out)]; rfl, rfl⟩
      · have hq : (y == x) = false := by simpa using hxy
        have HXY := Lib.hid hxy
        clear hxy hkn
        go_wp2
        go_roundw
        case rel =>
          refine ⟨k + 1, by omega, by go_num, trivial, fun j hj h1 => ?_⟩
          by_cases e : j = k
          · subst e; rw [HY.out]; exact HXY.out
          · exact HALL.out j hj (by omega)
        case measure => simp [intOf]; omega
    · obtain rfl : k = n := by omega
      have hk2 : ¬ (k : Int) < (k : Int) := by omega
      clear hkn
      go_wp2
      go_ret
      exact ⟨by rw [← HQ.out, inL_no fun j hj => HALL.out j hj (by rw [← HN.out]; exact hj)]; rfl, rfl⟩
end Go.Proofs.Ytmmkbedheeeecaa
