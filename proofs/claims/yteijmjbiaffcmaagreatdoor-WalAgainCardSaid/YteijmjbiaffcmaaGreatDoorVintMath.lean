/- Plain mathematics of the numbers' bytes: it imports nothing of the program. -/
namespace Go.Proofs.YteijmjbiaffcmaaGreatDoor
namespace Vi

/-- The bytes of a number: seven bits each, the least ones first. -/
def enc (n : Nat) : List UInt8 := if n < 128 then [UInt8.ofNat n] else UInt8.ofNat (n % 128 + 128) :: enc (n / 128)
termination_by n
decreasing_by omega

theorem enc_small {n : Nat} (h : n < 128) : enc n = [UInt8.ofNat n] := by rw [enc, if_pos h]
theorem enc_great {n : Nat} (h : ¬ n < 128) : enc n = UInt8.ofNat (n % 128 + 128) :: enc (n / 128) := by rw [enc, if_neg h]
theorem u8_of (n : Nat) (h : n < 256) : (UInt8.ofNat n).toNat = n := by
  rw [UInt8.toNat_ofNat']; exact Nat.mod_eq_of_lt (by omega)

theorem enc_len_pos (n : Nat) : 0 < (enc n).length := by
  by_cases h : n < 128
  · rw [enc_small h]; simp
  · rw [enc_great h]; simp
theorem enc_ne (n : Nat) : enc n ≠ [] := fun e => by have := enc_len_pos n; rw [e] at this; simp at this
theorem enc_len (k : Nat) : ∀ n, n < 128 ^ (k + 1) → (enc n).length ≤ k + 1 := by
  induction k with
  | zero => intro n h; rw [enc_small (by simpa using h)]; simp
  | succ k ih =>
    intro n h
    by_cases hn : n < 128
    · rw [enc_small hn]; simp
    · rw [enc_great hn]
      have := ih (n / 128) (by rw [Nat.pow_succ] at h; omega)
      simp; exact this
theorem enc_len10 (n : Nat) (h : n < 18446744073709551616) : (enc n).length ≤ 10 := enc_len 9 n (by
  have : (128 : Nat) ^ (9 + 1) = 1180591620717411303424 := by decide
  omega)
theorem enc_mono (m : Nat) : ∀ n, m ≤ n → (enc m).length ≤ (enc n).length := by
  induction m using Nat.strongRecOn with
  | ind m ih =>
    intro n h
    by_cases hm : m < 128
    · rw [enc_small hm]; exact enc_len_pos n
    · rw [enc_great hm, enc_great (by omega : ¬ n < 128)]
      have := ih (m / 128) (by omega) (n / 128) (Nat.div_le_div_right h)
      simp; exact this
theorem u8_inj {a b : Nat} (ha : a < 256) (hb : b < 256) (e : UInt8.ofNat a = UInt8.ofNat b) : a = b := by
  rw [← u8_of a ha, ← u8_of b hb, e]

/-- The number that bytes say. -/
def val : List UInt8 → Nat
  | [] => 0
  | b :: t => b.toNat % 128 + 128 * val t
theorem val_enc (n : Nat) : val (enc n) = n := by
  induction n using Nat.strongRecOn with
  | ind n ih =>
    by_cases h : n < 128
    · rw [enc_small h]
      show (UInt8.ofNat n).toNat % 128 + 128 * 0 = n
      rw [u8_of n (by omega)]; omega
    · rw [enc_great h]
      show (UInt8.ofNat (n % 128 + 128)).toNat % 128 + 128 * val (enc (n / 128)) = n
      rw [u8_of _ (by omega), ih (n / 128) (by omega)]; omega
theorem enc_inj {a b : Nat} (e : enc a = enc b) : a = b := by rw [← val_enc a, ← val_enc b, e]

/-- The number whose bytes open a text of which k groups have been read, and how many bytes it takes. -/
def getL : Nat → List UInt8 → Option (Nat × Nat)
  | _, [] => none
  | k, b :: t => if b.toNat = 0 ∧ 0 < k then none else if 1 < b.toNat ∧ k = 9 then none else if b.toNat < 128 then some (b.toNat, 1) else
    match getL (k + 1) t with
    | none => none
    | some (v, m) => some (b.toNat % 128 + 128 * v, m + 1)

theorem pow_step {k : Nat} (h : k < 9) : 2 ^ (64 - 7 * k) = 128 * 2 ^ (64 - 7 * (k + 1)) := by
  rw [show 64 - 7 * k = (64 - 7 * (k + 1)) + 7 by omega, Nat.pow_add, Nat.mul_comm]
theorem pow_big {k : Nat} (h : k < 9) : 128 ≤ 2 ^ (64 - 7 * k) := by
  rw [pow_step h]; have := Nat.two_pow_pos (64 - 7 * (k + 1)); omega

theorem getL_enc (n : Nat) : ∀ k rest, k ≤ 9 → n < 2 ^ (64 - 7 * k) → (0 < k → n ≠ 0) → getL k (enc n ++ rest) = some (n, (enc n).length) := by
  induction n using Nat.strongRecOn with
  | ind n ih =>
    intro k rest hk hn h0
    by_cases h : n < 128
    · rw [enc_small h]
      show getL k (UInt8.ofNat n :: rest) = _
      rw [getL, u8_of n (by omega), if_neg (fun h => h0 h.2 h.1), if_neg, if_pos h]; rfl
      rintro ⟨h1, rfl⟩
      have : (2 : Nat) ^ (64 - 7 * 9) = 2 := by decide
      omega
    · rw [enc_great h]
      have h9 : k < 9 := by
        refine Decidable.byContradiction fun e => ?_
        obtain rfl : k = 9 := by omega
        have : (2 : Nat) ^ (64 - 7 * 9) = 2 := by decide
        omega
      show getL k (UInt8.ofNat (n % 128 + 128) :: (enc (n / 128) ++ rest)) = _
      rw [getL, u8_of _ (by omega), if_neg (by omega), if_neg (by omega), if_neg (by omega), ih (n / 128) (by omega) (k + 1) rest (by omega) (by have := pow_step h9; omega) (by omega)]
      simp; omega

theorem getL_some (l : List UInt8) : ∀ k v m, k ≤ 9 → getL k l = some (v, m) → v < 2 ^ (64 - 7 * k) ∧ (0 < k → v ≠ 0) ∧ m = (enc v).length ∧ ∃ rest, l = enc v ++ rest := by
  induction l with
  | nil => intro k v m _ h; simp [getL] at h
  | cons b t ih =>
    intro k v m hk h
    rw [getL] at h
    have hb := b.toNat_lt
    have hbb : UInt8.ofNat b.toNat = b := UInt8.ofNat_toNat
    split at h
    · cases h
    split at h
    · cases h
    split at h
    · rename_i h1 h2 h3
      simp at h
      obtain ⟨rfl, rfl⟩ := h
      rw [enc_small h3]
      refine ⟨?_, fun hk0 e => h1 ⟨e, hk0⟩, rfl, t, by rw [hbb]; rfl⟩
      by_cases h9 : k = 9
      · subst h9
        have : (2 : Nat) ^ (64 - 7 * 9) = 2 := by decide
        omega
      · have := pow_big (show k < 9 by omega)
        omega
    · rename_i h1 h2 h3
      have h9 : k < 9 := by
        refine Decidable.byContradiction fun e => ?_
        exact h2 ⟨by omega, by omega⟩
      split at h
      · cases h
      · rename_i v' m' he
        simp at h
        obtain ⟨rfl, rfl⟩ := h
        obtain ⟨g1, g2, g3, rest, g4⟩ := ih (k + 1) v' m' (by omega) he
        have hv' := g2 (by omega)
        rw [enc_great (by omega : ¬ b.toNat % 128 + 128 * v' < 128)]
        have e1 : (b.toNat % 128 + 128 * v') / 128 = v' := by omega
        have e2 : (b.toNat % 128 + 128 * v') % 128 + 128 = b.toNat := by omega
        rw [e1, e2, hbb]
        exact ⟨by have := pow_step h9; omega, by omega, by simp [g3], rest, by rw [g4]; rfl⟩

/-- A number's bytes: all but the last have the high bit, the last has not. -/
theorem getL_high (l : List UInt8) : ∀ k, (∀ b ∈ l, 128 ≤ b.toNat) → getL k l = none := by
  induction l with
  | nil => intro k _; rfl
  | cons b t ih =>
    intro k h
    have hb := h b (List.mem_cons_self ..)
    rw [getL, if_neg (by omega)]
    split
    · rfl
    rw [if_neg (by omega), ih (k + 1) fun c hc => h c (List.mem_cons_of_mem _ hc)]
theorem enc_high (n : Nat) : ∀ j (h : j < (enc n).length), j + 1 < (enc n).length → 128 ≤ ((enc n)[j]).toNat := by
  induction n using Nat.strongRecOn with
  | ind n ih =>
    intro j h h1
    by_cases hn : n < 128
    · have : (enc n).length = 1 := by rw [enc_small hn]; rfl
      omega
    · have e := enc_great hn
      cases j with
      | zero => simp only [e, List.getElem_cons_zero, u8_of _ (by omega : n % 128 + 128 < 256)]; omega
      | succ j =>
        simp only [e, List.length_cons] at h h1
        simp only [e, List.getElem_cons_succ]
        exact ih (n / 128) (by omega) j (by omega) (by omega)
theorem enc_low (n : Nat) (h : (enc n).length - 1 < (enc n).length) : ((enc n)[(enc n).length - 1]).toNat < 128 := by
  induction n using Nat.strongRecOn with
  | ind n ih =>
    by_cases hn : n < 128
    · simp only [enc_small hn, List.length_singleton, Nat.sub_self, List.getElem_cons_zero]
      rw [u8_of n (by omega)]; exact hn
    · have e := enc_great hn
      have hp := enc_len_pos (n / 128)
      have := ih (n / 128) (by omega) (by omega)
      simp only [e, List.length_cons, Nat.add_sub_cancel]
      rw [List.getElem_cons]
      split
      · omega
      · exact this
end Vi
end Go.Proofs.YteijmjbiaffcmaaGreatDoor
