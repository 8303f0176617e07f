/- The methods of package vint's Reader, each by one contract: what it answers, and what is left. -/
import Derived.Test.YtjckphmkhikpaaaVintReader
import Derived.Test.YtjckphmkhikpaaaVintClone
import Derived.Deep.RegionHeld3
namespace Go.Proofs.Ytjckphmkhikpaaa
open Go.RowKit Go.Proofs.Ytjckphmkhikpaaa.Vi

/-- The number that comes next, and what is left behind it. -/
def numF (r : ByteArray) : Option (Nat × ByteArray) :=
  match getL 0 r.data.toList with
  | none => none
  | some (v, m) => some (v, restB r m)
theorem numF_none {r : ByteArray} (h : numF r = none) : getL 0 r.data.toList = none := by
  unfold numF at h
  split at h
  · assumption
  · cases h
theorem numF_some {r r' : ByteArray} {v : Nat} (h : numF r = some (v, r')) : ∃ m, getL 0 r.data.toList = some (v, m) ∧ restB r m = r' := by
  unfold numF at h
  split at h
  · cases h
  · rename_i v' m he
    simp at h
    obtain ⟨rfl, rfl⟩ := h
    exact ⟨m, he, rfl⟩
theorem numF_bounds {r r' : ByteArray} {v : Nat} (h : numF r = some (v, r')) : v < 18446744073709551616 ∧ r'.size ≤ r.size := by
  obtain ⟨m, h1, rfl⟩ := numF_some h
  obtain ⟨h2, _⟩ := getL_bounds h1
  exact ⟨h2, by rw [restB_size]; omega⟩

/-- What Num answers, and what is left. -/
def numQ (r : ByteArray) (br : Bool) : Int × ByteArray × Bool :=
  if br then (0, r, true) else match numF r with
    | none => (0, ⟨#[]⟩, true)
    | some (v, r') => ((v : Int), r', false)
def smallQ (r : ByteArray) (br : Bool) (most : Int) : Int × ByteArray × Bool :=
  if br then (0, r, true) else match numF r with
    | none => (0, ⟨#[]⟩, true)
    | some (v, r') => if 0 ≤ most ∧ (v : Int) ≤ most then ((v : Int), r', false) else (0, ⟨#[]⟩, true)
def textQ (r : ByteArray) (br : Bool) : ByteArray × ByteArray × Bool :=
  if br then (⟨#[]⟩, r, true) else match numF r with
    | none => (⟨#[]⟩, ⟨#[]⟩, true)
    | some (v, r') => if v ≤ r'.size then (r'.extract 0 v, restB r' v, false) else (⟨#[]⟩, ⟨#[]⟩, true)
def endQ (r : ByteArray) (br : Bool) : Int := if br then 10 else if r.size = 0 then 0 else 10

theorem num_is (b : Nat) (r r' : ByteArray) (br br' : Bool) (v : Int) (w : World) (hr : r.size ≤ maxLen) (H : Hid (numQ r br = (v, r', br'))) (h : RA w b r br) :
    Calls Try.prog 98 #[.pointer (some ⟨b, 0, none⟩)] w (Took b (.int .u64 v) r' br' w) := by
  have H := H.out
  unfold numQ at H
  cases br with
  | true =>
    rw [if_pos rfl] at H
    simp at H
    obtain ⟨rfl, rfl, rfl⟩ := H
    exact num_broken b r w h
  | false =>
    rw [if_neg (by simp)] at H
    cases hf : numF r with
    | none =>
      rw [hf] at H
      simp at H
      obtain ⟨rfl, rfl, rfl⟩ := H
      exact num_none b r w hr (numF_none hf) h
    | some x =>
      obtain ⟨u, r1⟩ := x
      rw [hf] at H
      simp at H
      obtain ⟨rfl, rfl, rfl⟩ := H
      obtain ⟨m, h1, h2⟩ := numF_some hf
      exact num_some b r _ _ m w hr h1 h2 h
theorem numQ_bounds {r r' : ByteArray} {br br' : Bool} {v : Int} (H : numQ r br = (v, r', br')) : 0 ≤ v ∧ v ≤ 18446744073709551615 ∧ r'.size ≤ r.size := by
  unfold numQ at H
  split at H
  · simp at H
    obtain ⟨rfl, rfl, rfl⟩ := H
    omega
  · split at H
    · simp at H
      obtain ⟨rfl, rfl, rfl⟩ := H
      exact ⟨by omega, by omega, Nat.zero_le _⟩
    · rename_i u r1 hf
      simp at H
      obtain ⟨rfl, rfl, rfl⟩ := H
      have := numF_bounds hf
      omega
theorem int_is (b : Nat) (r r' : ByteArray) (br br' : Bool) (v z : Int) (w : World) (hr : r.size ≤ maxLen) (H : Hid (numQ r br = (v, r', br'))) (hz : Hid (zag v = z)) (h : RA w b r br) :
    Calls Try.prog 88 #[.pointer (some ⟨b, 0, none⟩)] w (Took b (.int .i64 z) r' br' w) := by
  have hk := num_is b r r' br br' v w hr H h
  obtain ⟨h1, h2, _⟩ := numQ_bounds H.out
  have hg := fun w => zag_any v w h1 h2
  rw [hz.out] at hg
  go_enter Try.func88, Try.ntmps88
  go_wp2_with (first
    | (go_at_call 98; (with_reducible refine hk.mono ?_); rintro e w1 ⟨rfl, hR, hB⟩)
    | (go_at_call 97; (with_reducible refine (hg _).mono ?_); rintro e w2 ⟨rfl, rfl⟩))
  go_ret
  exact ⟨rfl, hR, hB⟩
theorem end_is (b : Nat) (r : ByteArray) (br : Bool) (z : Int) (w : World) (h : RA w b r br) (H : Hid (endQ r br = z)) :
    Calls Try.prog 62 #[.pointer (some ⟨b, 0, none⟩)] w fun e w' => e = .returned (.int .i64 z) ∧ w = w' := by
  have H := H.out
  unfold endQ at H
  obtain ⟨c0, c1, f0, f1⟩ := h
  cases br with
  | true =>
    rw [if_pos rfl] at H
    subst H
    go_enter Try.func62, Try.ntmps62
    go_wp2
    go_ret
    exact ⟨rfl, rfl⟩
  | false =>
    rw [if_neg (by simp)] at H
    by_cases h0 : r.size = 0
    · rw [if_pos h0] at H
      subst H
      obtain rfl : r = ⟨#[]⟩ := ByteArray.ext (Array.eq_empty_of_size_eq_zero h0)
      clear h0
      go_enter Try.func62, Try.ntmps62
      go_wp2
      go_ret
      exact ⟨rfl, rfl⟩
    · rw [if_neg h0] at H
      subst H
      have e1 : r.toList.isEmpty = false := by
        rw [ByteArray.toList_eq]
        apply Bool.eq_false_iff.2
        intro e
        rw [List.isEmpty_iff] at e
        exact h0 (by rw [ByteArray.size, ← Array.length_toList, e]; rfl)
      clear h0
      go_enter Try.func62, Try.ntmps62
      go_wp2
      go_ret
      exact ⟨rfl, rfl⟩
theorem read_is (s : ByteArray) (w : World) : Calls Try.prog 56 #[.string s] w fun e w' => e = .returned (.pointer (some ⟨w.heap.size, 0, none⟩)) ∧ RA w' w.heap.size s false ∧ Below w.heap.size w w' ∧ w.heap.size < w'.heap.size := by
  go_enter Try.func56, Try.ntmps56
  go_wp2
  go_ret
  exact ⟨rfl, ⟨by simp [go_sem], by simp [go_sem], by simp [go_sem], by simp [go_sem]⟩, (Below.refl _ _).alloc (Nat.le_refl _) _, by simp⟩

theorem int_nil (w : World) : Calls Try.prog 88 #[.pointer none] w fun e w' => e = .returned (.int .i64 0) ∧ w = w' := by
  have hg := fun w => zag_any 0 w (by omega) (by omega)
  rw [show zag 0 = 0 by decide] at hg
  go_enter Try.func88, Try.ntmps88
  go_wp2_with (first
    | (go_at_call 98; (with_reducible refine (num_nil _).mono ?_); rintro e w1 ⟨rfl, rfl⟩)
    | (go_at_call 97; (with_reducible refine (hg _).mono ?_); rintro e w2 ⟨rfl, rfl⟩))
  go_ret
  exact ⟨rfl, rfl⟩
theorem end_nil (w : World) : Calls Try.prog 62 #[.pointer none] w fun e w' => e = .returned (.int .i64 10) ∧ w = w' := by
  go_enter Try.func62, Try.ntmps62
  go_wp2
  go_ret
  exact ⟨rfl, rfl⟩
theorem text_nil (w : World) : Calls Try.prog 87 #[.pointer none] w fun e w' => e = .returned (.string ⟨#[]⟩) ∧ w = w' := by
  have hmf := makeFunc_run
  go_enter Try.func87, Try.ntmps87
  go_wp2
  go_ret
  exact ⟨rfl, rfl⟩
theorem small_nil (m : Int) (w : World) : Calls Try.prog 57 #[.pointer none, .int .i64 m] w fun e w' => e = .returned (.int .i64 0) ∧ Below w.heap.size w w' := by
  have hmf := makeFunc_run
  go_enter Try.func57, Try.ntmps57
  go_wp2
  go_ret
  exact ⟨rfl, ((Below.refl _ _).alloc (Nat.le_refl _) _).alloc (by simp) _⟩
end Go.Proofs.Ytjckphmkhikpaaa
