/- Plain mathematics of a frame's head: its first ten bytes say its length, or that it is cut off, or that it is none. -/
import Derived.Test.YteijmjbiaffcmaaGreatDoorFrameMath
import Derived.Test.YteijmjbiaffcmaaGreatDoorFrameRows
namespace Go.Proofs.YteijmjbiaffcmaaGreatDoor.Fr
open Go.Proofs.YteijmjbiaffcmaaGreatDoor.Vi Go.Proofs.YteijmjbiaffcmaaGreatDoor.Crc

theorem getL_take : ∀ (s : List UInt8) (k : Nat), k ≤ 9 → getL k (s.take (10 - k)) = getL k s := by
  intro s
  induction s with
  | nil => intro k hk; rw [List.take_nil]
  | cons b t ih =>
    intro k hk
    rw [show 10 - k = (9 - k) + 1 by omega, List.take_succ_cons, getL, getL]
    by_cases h9 : k = 9
    · subst h9
      by_cases h1 : b.toNat = 0 ∧ 0 < 9
      · rw [if_pos h1, if_pos h1]
      · rw [if_neg h1, if_neg h1]
        by_cases h2 : 1 < b.toNat ∧ 9 = 9
        · rw [if_pos h2, if_pos h2]
        · rw [if_neg h2, if_neg h2, if_pos (by omega), if_pos (by omega)]
    · rw [show 9 - k = 10 - (k + 1) by omega, ih (k + 1) (by omega)]
theorem getL_one (k : Nat) : getL k [1] = some (1, 1) := by
  rw [getL, if_neg (by simp), if_neg (by simp), if_pos (by decide)]; rfl
/-- What one more byte, a 1, tells. -/
theorem more_yes : ∀ (h : List UInt8) (k : Nat), (∀ b ∈ h, 128 ≤ b.toNat) → k + h.length ≤ 9 → getL k (h ++ [1]) ≠ none := by
  intro h
  induction h with
  | nil => intro k _ hk; rw [List.nil_append, getL_one k]; simp
  | cons b t ih =>
    intro k hb hk
    have h1 := hb b (List.mem_cons_self ..)
    rw [List.length_cons] at hk
    have h2 := ih (k + 1) (fun x hx => hb x (List.mem_cons_of_mem _ hx)) (by omega)
    rw [List.cons_append, getL, if_neg (by omega), if_neg (by omega), if_neg (by omega)]
    cases e : getL (k + 1) (t ++ [1]) with
    | none => exact absurd e h2
    | some x => simp
theorem more_no : ∀ (h : List UInt8) (k : Nat), k ≤ 9 → getL k h = none → getL k (h ++ [1]) ≠ none → (∀ b ∈ h, 128 ≤ b.toNat) ∧ k + h.length ≤ 9 := by
  intro h
  induction h with
  | nil => intro k hk _ _; exact ⟨fun b hb => by simp at hb, by simpa using hk⟩
  | cons b t ih =>
    intro k hk hn hm
    rw [getL] at hn
    rw [List.cons_append, getL] at hm
    by_cases h1 : b.toNat = 0 ∧ 0 < k
    · rw [if_pos h1] at hm; exact absurd rfl hm
    rw [if_neg h1] at hn hm
    by_cases h2 : 1 < b.toNat ∧ k = 9
    · rw [if_pos h2] at hm; exact absurd rfl hm
    rw [if_neg h2] at hn hm
    by_cases h3 : b.toNat < 128
    · rw [if_pos h3] at hn; cases hn
    rw [if_neg h3] at hn hm
    have g1 : getL (k + 1) t = none := by
      cases e : getL (k + 1) t with
      | none => rfl
      | some x => rw [e] at hn; cases hn
    have g2 : getL (k + 1) (t ++ [1]) ≠ none := by
      intro e; rw [e] at hm; exact hm rfl
    obtain ⟨g3, g4⟩ := ih (k + 1) (by omega) g1 g2
    refine ⟨fun x hx => ?_, by rw [List.length_cons]; omega⟩
    rcases List.mem_cons.1 hx with rfl | hx
    · omega
    · exact g3 x hx

/-- What a head says: where the body begins, where the frame ends, and the status of that alone. -/
def measL (h : List UInt8) : Int × Int × Int := match getL 0 h with
  | none => if getL 0 (h ++ [1]) = none then (0, 0, 3) else (0, 0, 2)
  | some (n, m) => if 70000 < n then (0, 0, 3) else ((m : Int), ((m + n + 4 : Nat) : Int), 0)
theorem measL_bounds {h : List UInt8} {b e st : Int} (hm : measL h = (b, e, st)) : 0 ≤ b ∧ b ≤ e ∧ e ≤ 70014 ∧ (st = 0 ∨ st = 2 ∨ st = 3) := by
  unfold measL at hm
  cases hg : getL 0 h with
  | none =>
    rw [hg] at hm
    simp only at hm
    split at hm
    all_goals (simp at hm; omega)
  | some x =>
    obtain ⟨n, m⟩ := x
    rw [hg] at hm
    obtain ⟨h1, -, h3, -⟩ := getL_some h 0 n m (by omega) hg
    have := enc_len10 n (by simpa using h1)
    simp only at hm
    split at hm
    all_goals (simp at hm; omega)
theorem early_iff {s : List UInt8} (hg : getL 0 s = none) : early s = true ↔ getL 0 (s.take 10 ++ [1]) ≠ none := by
  have ht := getL_take s 0 (by omega)
  constructor
  · intro h
    unfold early at h
    rw [Bool.and_eq_true, List.all_eq_true] at h
    have hl : s.length ≤ 9 := by simpa using h.1
    rw [List.take_of_length_le (by omega)]
    exact more_yes s 0 (fun b hb => by simpa using h.2 b hb) (by omega)
  · intro h
    obtain ⟨h1, h2⟩ := more_no _ 0 (by omega) (ht.trans hg) h
    rw [List.length_take] at h2
    have : s.length ≤ 9 := by omega
    rw [List.take_of_length_le (by omega)] at h1
    unfold early
    rw [Bool.and_eq_true, List.all_eq_true]
    exact ⟨by simpa using this, fun b hb => by simpa using h1 b hb⟩
theorem head_bad {s : List UInt8} {b e st : Int} (h0 : s ≠ []) (hm : measL (s.take 10) = (b, e, st)) (hs : st ≠ 0) : getF s = ⟨st.toNat, [], 0⟩ := by
  have ht := getL_take s 0 (by omega)
  unfold measL at hm
  rw [show s.take 10 = s.take (10 - 0) from rfl, ht] at hm
  cases hg : getL 0 s with
  | none =>
    rw [hg] at hm
    simp only at hm
    by_cases he : early s = true
    · rw [if_neg ((early_iff hg).1 he)] at hm
      rw [getF_early h0 he]
      simp at hm; obtain ⟨-, -, rfl⟩ := hm; rfl
    · rw [if_pos (by
        apply Classical.byContradiction
        intro h
        exact he ((early_iff hg).2 h))] at hm
      rw [getF_none h0 (by simpa using he) hg]
      simp at hm; obtain ⟨-, -, rfl⟩ := hm; rfl
  | some x =>
    obtain ⟨n, m⟩ := x
    rw [hg] at hm
    simp only at hm
    rw [getF_some hg]
    split at hm
    · rename_i c
      rw [if_pos c]
      simp at hm; obtain ⟨-, -, rfl⟩ := hm; rfl
    · simp at hm; omega
theorem head_good {s : List UInt8} {b e : Int} (hm : measL (s.take 10) = (b, e, 0)) : ∃ n m : Nat, b = (m : Int) ∧ e = ((m + n + 4 : Nat) : Int) ∧ n ≤ 70000 ∧ m ≤ 10 ∧ m ≤ s.length ∧
    getF s = if s.length < m + n + 4 then ⟨2, [], 0⟩ else if sealed ((s.drop m).take n) = (s.drop m).take (n + 4) then ⟨0, (s.drop m).take n, m + n + 4⟩ else ⟨3, [], 0⟩ := by
  have ht := getL_take s 0 (by omega)
  unfold measL at hm
  rw [show s.take 10 = s.take (10 - 0) from rfl, ht] at hm
  cases hg : getL 0 s with
  | none =>
    rw [hg] at hm
    simp only at hm
    split at hm <;> simp at hm
  | some x =>
    obtain ⟨n, m⟩ := x
    rw [hg] at hm
    simp only at hm
    obtain ⟨h1, -, h3, rest, h4⟩ := getL_some s 0 n m (by omega) hg
    have h5 := enc_len10 n (by simpa using h1)
    have hml : m ≤ s.length := by rw [h4, h3, List.length_append]; omega
    rw [getF_some hg]
    split at hm
    · simp at hm
    · rename_i c
      simp at hm
      obtain ⟨rfl, rfl⟩ := hm
      refine ⟨n, m, rfl, by push_cast; omega, by omega, by omega, hml, ?_⟩
      rw [if_neg c]
      by_cases c2 : s.length < m + n + 4
      · rw [if_pos c2, if_pos (by omega)]
      · rw [if_neg c2, if_neg (by omega)]
/-- What Open says of a text that is a body with its sum. -/
theorem open_yes (l : List UInt8) (n : Nat) (hn : l.length = n + 4) (h : sealed (l.take n) = l) : opens (tx l) = true ∧ bodyOf (tx l) = tx (l.take n) := by
  have e1 : (tx l).extract 0 ((tx l).size - 4) = tx (l.take n) := by
    rw [tx_size, hn, show n + 4 - 4 = n by omega]
    apply ByteArray.ext
    simp [tx]
  have e2 : sealedB (tx (l.take n)) = tx l := by
    have : (tx (l.take n)).data.toList = l.take n := by simp [tx]
    unfold sealedB
    rw [this, h]; rfl
  have e3 : opens (tx l) = true := by
    unfold opens
    rw [e1, e2, tx_size]; simp; omega
  refine ⟨e3, ?_⟩
  unfold bodyOf
  rw [e3, if_pos rfl, e1]
theorem open_no (l : List UInt8) (n : Nat) (hn : l.length = n + 4) (h : sealed (l.take n) ≠ l) : opens (tx l) = false ∧ bodyOf (tx l) = tx [] := by
  have e1 : (tx l).extract 0 ((tx l).size - 4) = tx (l.take n) := by
    rw [tx_size, hn, show n + 4 - 4 = n by omega]
    apply ByteArray.ext
    simp [tx]
  have e2 : sealedB (tx (l.take n)) ≠ tx l := by
    have : (tx (l.take n)).data.toList = l.take n := by simp [tx]
    unfold sealedB
    rw [this]
    intro e
    exact h (tx_inj (l := sealed (l.take n)) (m := l) e)
  have e3 : opens (tx l) = false := by
    unfold opens
    rw [e1]; simp [e2]
  refine ⟨e3, ?_⟩
  unfold bodyOf
  rw [e3]; rfl
end Go.Proofs.YteijmjbiaffcmaaGreatDoor.Fr
