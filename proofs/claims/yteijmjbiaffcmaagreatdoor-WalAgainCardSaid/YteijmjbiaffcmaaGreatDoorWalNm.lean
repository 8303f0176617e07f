/- The names of segments, as mathematics. -/
import Derived.Lib.ItoaNum
import Derived.Lib.AtoiTie
import Derived.Lib.AtoiAllCases
import Derived.Lib.Repeat
import Derived.Lib.Strings
set_option maxRecDepth 20000
set_option linter.unusedSimpArgs false
namespace Go.Proofs.YteijmjbiaffcmaaGreatDoor
open Go.Lib

def digs8 (n : Nat) : List UInt8 := (List.range 8).map fun t => dg n (7 - t)
def seg (n : Nat) : List UInt8 := 119 :: 46 :: digs8 n
def segI (n : Int) : List UInt8 := if 1 ≤ n ∧ n ≤ 99999999 then seg n.toNat else []
theorem digs8_len (n : Nat) : (digs8 n).length = 8 := by simp [digs8]
theorem seg_len (n : Nat) : (seg n).length = 10 := by simp [seg, digs8_len]
theorem nD_le8 {n : Nat} (h : n ≤ 99999999) : nDigits n ≤ 8 := by
  by_cases h0 : n < 10
  · rw [nDigits_small h0]; omega
  · have h1 := nDigits_pos n
    apply Nat.le_of_not_lt
    intro hc
    have h2 : 10 ^ (nDigits n - 1) ≤ n := by
      have := lt_pow_nDigits n
      obtain ⟨k, hk⟩ : ∃ k, nDigits n = k + 1 := ⟨nDigits n - 1, by omega⟩
      apply Nat.le_of_not_lt
      intro hlt
      rcases Nat.eq_zero_or_pos k with hz | hz
      · subst hz; omega
      · have : nDigits n ≤ k := by
          clear this h1 hc h0
          rw [hk] at hlt
          simp at hlt
          have key : ∀ (j u : Nat), 0 < j → u < 10 ^ j → nDigits u ≤ j := by
            intro j
            induction j with
            | zero => intro u h; omega
            | succ j ih =>
              intro u _ hu
              by_cases hs : u < 10
              · rw [nDigits_small hs]; omega
              · rw [nDigits_big hs]
                rcases Nat.eq_zero_or_pos j with hj | hj
                · subst hj; simp at hu; omega
                · have := ih (u / 10) hj (by rw [Nat.pow_succ] at hu; omega)
                  omega
          exact key k n hz hlt
        omega
    have h3 : 10 ^ 8 ≤ 10 ^ (nDigits n - 1) := Nat.pow_le_pow_right (by omega) (by omega)
    omega
theorem dg_high {n : Nat} : ∀ {j : Nat}, n < 10 ^ j → dg n j = 48 := by
  intro j h
  unfold dg
  rw [Nat.div_eq_of_lt h]; rfl
theorem repeat_zeros : ∀ c, repeatL [48] c = List.replicate c (48 : UInt8)
  | 0 => rfl
  | c + 1 => by rw [repeatL, repeat_zeros c, List.replicate_succ]; rfl
/-- The digits with zeros ahead are eight. -/
theorem pad8 {n : Nat} (h : n ≤ 99999999) : repeatL [48] (8 - (decDigits n).length) ++ decDigits n = digs8 n := by
  have h8 := nD_le8 h
  rw [decDigits_length, repeat_zeros, decDigits_eq]
  obtain ⟨k, hk⟩ : ∃ k, nDigits n = k := ⟨_, rfl⟩
  have hlt := lt_pow_nDigits n
  rw [hk] at h8 hlt ⊢
  apply List.ext_getElem
  · simp [digs8]; omega
  · intro i h1 h2
    simp [digs8] at h1 h2 ⊢
    rw [List.getElem_append]
    split
    · rename_i hi
      simp at hi
      rw [List.getElem_replicate, dg_high]
      exact Nat.lt_of_lt_of_le hlt (Nat.pow_le_pow_right (by omega) (by omega))
    · rename_i hi
      simp at hi ⊢
      congr 1
      omega
theorem segI_pos {n : Int} (h1 : 1 ≤ n) (h2 : n ≤ 99999999) : segI n = 119 :: 46 :: (repeatL [48] (8 - (itoa n).length) ++ itoa n) := by
  unfold segI itoa
  rw [if_pos ⟨h1, h2⟩, if_neg (by omega), pad8 (by omega)]; rfl
theorem itoa_len8 {n : Int} (h1 : 1 ≤ n) (h2 : n ≤ 99999999) : (itoa n).length ≤ 8 := by
  unfold itoa
  rw [if_neg (by omega), decDigits_length]
  exact nD_le8 (by omega)
theorem dg_nat (n j : Nat) : (dg n j).toNat = 48 + n / 10 ^ j % 10 := by
  unfold dg
  have : n / 10 ^ j % 10 < 10 := Nat.mod_lt _ (by omega)
  rw [UInt8.toNat_ofNat']
  omega
theorem decFrom_digs (n : Nat) : ∀ (k acc : Nat), decFrom acc ((List.range k).map fun t => dg n (k - 1 - t)) = some (acc * 10 ^ k + n % 10 ^ k) := by
  intro k
  induction k with
  | zero => intro acc; simp [decFrom, Nat.mod_one]
  | succ k ih =>
    intro acc
    rw [List.range_succ_eq_map, List.map_cons, List.map_map]
    unfold decFrom
    have hd : (dg n (k + 1 - 1 - 0)).toNat = 48 + n / 10 ^ k % 10 := dg_nat n k
    have hlt : n / 10 ^ k % 10 < 10 := Nat.mod_lt _ (by omega)
    have hv : digitVal (dg n (k + 1 - 1 - 0)) = some (n / 10 ^ k % 10) := by
      unfold digitVal
      rw [hd, if_pos (by omega)]
      congr 1; omega
    rw [hv]
    dsimp only
    have e : ((fun t => dg n (k + 1 - 1 - t)) ∘ Nat.succ) = fun t => dg n (k - 1 - t) := by
      funext t; simp; congr 1; omega
    rw [e, ih]
    congr 1
    have h1 : n % 10 ^ (k + 1) = n % 10 ^ k + 10 ^ k * (n / 10 ^ k % 10) := by
      rw [Nat.pow_succ, Nat.mod_mul]
    rw [h1, Nat.pow_succ]
    rw [Nat.add_mul]
    generalize n / 10 ^ k % 10 = d
    rw [Nat.mul_assoc, Nat.mul_comm 10 (10 ^ k), Nat.mul_comm d]
    omega
theorem atoi_digs {n : Nat} (h : n ≤ 99999999) : atoiAll (digs8 n) = .ok (n : Int) := by
  rw [atoiAll_short _ (by rw [digs8_len]; omega)]
  have hd : ∀ j, (dg n j).toNat ≠ 43 ∧ (dg n j).toNat ≠ 45 := fun j => by rw [dg_nat]; omega
  have e : digs8 n = dg n 7 :: (List.range 7).map fun t => dg n (6 - t) := by
    unfold digs8
    rw [List.range_succ_eq_map, List.map_cons, List.map_map]
    congr 1
  have hdec : decNat (digs8 n) = some n := by
    have := decFrom_digs n 8 0
    rw [show ((List.range 8).map fun t => dg n (8 - 1 - t)) = digs8 n from rfl] at this
    unfold decNat
    rw [if_neg (by rw [e]; simp), this]
    congr 1
    rw [Nat.zero_mul, Nat.zero_add, Nat.mod_eq_of_lt (by omega)]
  unfold atoi
  rw [e]
  dsimp only
  rw [← e]
  have h1 : dg n 7 ≠ 45 := fun e => (hd 7).2 (by rw [e]; rfl)
  have h2 : dg n 7 ≠ 43 := fun e => (hd 7).1 (by rw [e]; rfl)
  simp [h1, h2, hdec, NumEnd.ofOption]
/-- The number of a name. -/
def numN (l : List UInt8) : Option Nat := match atoiAll (trimPrefix l [119, 46]) with
  | .ok v => if segI v = l then some v.toNat else none
  | _ => none
theorem trim_seg (n : Nat) : trimPrefix (seg n) [119, 46] = digs8 n := by
  unfold trimPrefix seg hasPrefix
  simp
theorem numN_seg {n : Nat} (h1 : 1 ≤ n) (h2 : n ≤ 99999999) : numN (seg n) = some n := by
  unfold numN
  rw [trim_seg, atoi_digs h2]
  dsimp only
  rw [if_pos]
  · simp
  · unfold segI
    rw [if_pos (by omega)]; simp
theorem numN_some {l : List UInt8} {n : Nat} (h : numN l = some n) (hl : l ≠ []) : l = seg n ∧ 1 ≤ n ∧ n ≤ 99999999 := by
  unfold numN at h
  split at h
  · rename_i v hv
    split at h
    · rename_i e
      injection h with h
      unfold segI at e
      split at e
      · rename_i hb
        rw [h] at e
        exact ⟨e.symm, by omega, by omega⟩
      · exact absurd e.symm hl
    · cases h
  · cases h
end Go.Proofs.YteijmjbiaffcmaaGreatDoor
