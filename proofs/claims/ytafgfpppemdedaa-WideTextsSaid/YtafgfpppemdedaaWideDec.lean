/- Plain mathematics of decimal digits: it imports nothing of the program. -/
import Derived.Test.YtafgfpppemdedaaWideMath
namespace Go.Proofs.Ytafgfpppemdedaa
namespace Wd

/-- The digits of a number in at most so many places, none for 0. -/
def decF : Nat → Nat → List UInt8
  | 0, _ => []
  | k + 1, n => if n = 0 then [] else decF k (n / 10) ++ [UInt8.ofNat (48 + n % 10)]
def decz (n : Nat) : List UInt8 := decF 40 n
/-- A number in decimal. -/
def dec (n : Nat) : List UInt8 := if n = 0 then [48] else decz n
/-- A whole number in decimal. -/
def textOf (a : Int) : List UInt8 := if a < 0 then 45 :: dec a.natAbs else dec a.natAbs

theorem decF_more (k : Nat) : ∀ n, n < 10 ^ k → decF k n = decF (k + 1) n := by
  induction k with
  | zero =>
    intro n h
    have : n = 0 := by simpa using h
    subst this; rfl
  | succ k ih =>
    intro n h
    rw [decF, decF]
    by_cases h0 : n = 0
    · rw [if_pos h0, if_pos h0]
    · rw [if_neg h0, if_neg h0, ih (n / 10) (by rw [Nat.pow_succ] at h; omega)]
theorem decz_zero : decz 0 = [] := rfl
theorem decz_step (n : Nat) (h0 : n ≠ 0) (h : n < 10000000000000000000000000000000000000000) : decz n = decz (n / 10) ++ [UInt8.ofNat (48 + n % 10)] := by
  unfold decz
  rw [decF, if_neg h0, decF_more 39 (n / 10) (by
    have : (10 : Nat) ^ 39 = 1000000000000000000000000000000000000000 := by decide
    omega)]
theorem decF_length (k : Nat) : ∀ j n, n < 10 ^ j → (decF k n).length ≤ j := by
  induction k with
  | zero => intro j n _; exact Nat.zero_le _
  | succ k ih =>
    intro j n h
    rw [decF]
    by_cases h0 : n = 0
    · rw [if_pos h0]; exact Nat.zero_le _
    · rw [if_neg h0]
      cases j with
      | zero => exact absurd (by simpa using h) h0
      | succ j =>
        have := ih j (n / 10) (by rw [Nat.pow_succ] at h; omega)
        simp; exact this
theorem dec_length (n : Nat) (h : n < 1000000000000000000000000000000000000000) : (dec n).length ≤ 39 := by
  unfold dec
  split
  · decide
  · exact decF_length 40 39 n (by
      have : (10 : Nat) ^ 39 = 1000000000000000000000000000000000000000 := by decide
      omega)

/-- The number that digits say. -/
def valD (l : List UInt8) : Nat := l.foldl (fun v c => v * 10 + (c.toNat - 48)) 0
theorem valD_snoc (l : List UInt8) (c : UInt8) : valD (l ++ [c]) = valD l * 10 + (c.toNat - 48) := by
  unfold valD; rw [List.foldl_append]; rfl
theorem digit_toNat (d : Nat) (h : d < 10) : (UInt8.ofNat (48 + d)).toNat = 48 + d := by
  rw [UInt8.toNat_ofNat']; exact Nat.mod_eq_of_lt (by omega)
theorem valD_decF (k : Nat) : ∀ n, n < 10 ^ k → valD (decF k n) = n := by
  induction k with
  | zero =>
    intro n h
    have : n = 0 := by simpa using h
    subst this; rfl
  | succ k ih =>
    intro n h
    rw [decF]
    by_cases h0 : n = 0
    · rw [if_pos h0, h0]; rfl
    · rw [if_neg h0, valD_snoc, ih (n / 10) (by rw [Nat.pow_succ] at h; omega), digit_toNat _ (Nat.mod_lt _ (by decide))]
      omega
theorem valD_dec (n : Nat) (h : n < 10000000000000000000000000000000000000000) : valD (dec n) = n := by
  unfold dec
  split
  · rename_i h0; rw [h0]; rfl
  · exact valD_decF 40 n (by
      have : (10 : Nat) ^ 40 = 10000000000000000000000000000000000000000 := by decide
      omega)
/-- A digit's sign. -/
def isDig (c : UInt8) : Bool := decide (48 ≤ c.toNat ∧ c.toNat ≤ 57)
theorem dig_of (d : Nat) (h : d < 10) : isDig (UInt8.ofNat (48 + d)) = true := by
  unfold isDig; rw [digit_toNat d h]; simp; omega
theorem decF_digits (k : Nat) : ∀ n, (decF k n).all isDig = true := by
  induction k with
  | zero => intro n; rfl
  | succ k ih =>
    intro n
    rw [decF]
    split
    · rfl
    · rw [List.all_append, ih, List.all_cons, dig_of _ (Nat.mod_lt _ (by decide))]; rfl
theorem dec_digits (n : Nat) : (dec n).all isDig = true := by
  unfold dec; split
  · decide
  · exact decF_digits 40 n
theorem decF_head (k : Nat) : ∀ n, n ≠ 0 → n < 10 ^ k → ∃ c t, decF k n = c :: t ∧ c ≠ 48 := by
  induction k with
  | zero => intro n h0 h; exact absurd (by simpa using h) h0
  | succ k ih =>
    intro n h0 h
    rw [decF, if_neg h0]
    by_cases h1 : n / 10 = 0
    · rw [h1]
      refine ⟨UInt8.ofNat (48 + n % 10), [], ?_, ?_⟩
      · cases k <;> simp [decF]
      · intro e
        have := congrArg UInt8.toNat e
        rw [digit_toNat _ (Nat.mod_lt _ (by decide))] at this
        have h48 : (48 : UInt8).toNat = 48 := by decide
        omega
    · obtain ⟨c, t, e, hc⟩ := ih (n / 10) h1 (by rw [Nat.pow_succ] at h; omega)
      exact ⟨c, t ++ [UInt8.ofNat (48 + n % 10)], by rw [e]; rfl, hc⟩
theorem dec_head (n : Nat) (h0 : n ≠ 0) (h : n < 10000000000000000000000000000000000000000) : ∃ c t, dec n = c :: t ∧ c ≠ 48 := by
  unfold dec
  rw [if_neg h0]
  exact decF_head 40 n h0 (by
    have : (10 : Nat) ^ 40 = 10000000000000000000000000000000000000000 := by decide
    omega)
theorem dec_ne (n : Nat) (h : n < 10000000000000000000000000000000000000000) : dec n ≠ [] := by
  by_cases h0 : n = 0
  · subst h0; decide
  · obtain ⟨c, t, e, _⟩ := dec_head n h0 h
    rw [e]; exact List.cons_ne_nil _ _
theorem dec_inj {m n : Nat} (h : m < 10000000000000000000000000000000000000000) (g : n < 10000000000000000000000000000000000000000) (e : dec m = dec n) : m = n := by
  rw [← valD_dec m h, ← valD_dec n g, e]

theorem inW_abs {a : Int} (h : InW a) : a.natAbs ≤ 170141183460469231731687303715884105728 := by
  obtain ⟨h1, h2⟩ := h
  omega
theorem dec_first (n : Nat) (h : n < 10000000000000000000000000000000000000000) : ∃ c t, dec n = c :: t ∧ isDig c = true := by
  have hd := dec_digits n
  cases e : dec n with
  | nil => exact absurd e (dec_ne n h)
  | cons c t =>
    rw [e, List.all_cons, Bool.and_eq_true] at hd
    exact ⟨c, t, rfl, hd.1⟩
theorem textOf_inj {a b : Int} (h : InW a) (g : InW b) (e : textOf a = textOf b) : a = b := by
  have ha := inW_abs h
  have hb := inW_abs g
  unfold textOf at e
  have no : ∀ n : Nat, n < 10000000000000000000000000000000000000000 → ∀ l : List UInt8, (45 : UInt8) :: l ≠ dec n := by
    intro n hn l e
    obtain ⟨c, t, e2, hc⟩ := dec_first n hn
    rw [e2] at e
    have := (List.cons.inj e).1
    rw [← this] at hc
    exact absurd hc (by decide)
  split at e <;> split at e
  · have := dec_inj (by omega) (by omega) (List.cons.inj e).2; omega
  · exact absurd e (no _ (by omega) _)
  · exact absurd e.symm (no _ (by omega) _)
  · have := dec_inj (by omega) (by omega) e; omega
theorem textOf_length {a : Int} (h : InW a) : 0 < (textOf a).length ∧ (textOf a).length ≤ 40 := by
  have ha := inW_abs h
  have h1 := dec_length a.natAbs (by omega)
  have h2 := List.length_pos_iff.2 (dec_ne a.natAbs (by omega))
  unfold textOf
  split
  · simp; omega
  · omega
theorem textOf_sign {a : Int} (h : InW a) : (textOf a).head? = some 45 ↔ a < 0 := by
  have ha := inW_abs h
  unfold textOf
  split
  · rename_i hn; simp [hn]
  · rename_i hn
    obtain ⟨c, t, e, hc⟩ := dec_first a.natAbs (by omega)
    rw [e]
    simp
    constructor
    · intro e2; rw [e2] at hc; exact absurd hc (by decide)
    · intro e2; exact absurd e2 hn
end Wd
end Go.Proofs.Ytafgfpppemdedaa
