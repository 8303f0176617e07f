/- What the document's Get looks for: the first byte without the high bit, at most the tenth. It imports nothing of the program. -/
import Derived.Test.YteijmjbiaffcmaaGreatDoorVintMath
namespace Go.Proofs.YteijmjbiaffcmaaGreatDoor.Vi

/-- The first m bytes from a on have the high bit. -/
def High (l : List UInt8) (a m : Nat) : Prop := ∀ j, j < m → ∀ h : a + j < l.length, 128 ≤ (l[a + j]).toNat
theorem High.zero (l : List UInt8) (a : Nat) : High l a 0 := fun _ hj => absurd hj (Nat.not_lt_zero _)
theorem High.succ {l : List UInt8} {a m : Nat} (h : High l a m) (hb : ∀ h : a + m < l.length, 128 ≤ (l[a + m]).toNat) : High l a (m + 1) := by
  intro j hj hl
  by_cases e : j = m
  · subst e; exact hb hl
  · exact h j (by omega) hl
theorem High.short {l : List UInt8} {a m : Nat} (h : High l a m) (hl : l.length ≤ a + m) : getL 0 (l.drop a) = none := by
  apply getL_high
  intro b hb
  obtain ⟨j, hj, rfl⟩ := List.getElem_of_mem hb
  rw [List.length_drop] at hj
  rw [List.getElem_drop]
  exact h j (by omega) (by omega)
theorem got {l : List UInt8} {a v m : Nat} (h : getL 0 (l.drop a) = some (v, m)) :
    v < 18446744073709551616 ∧ 1 ≤ m ∧ m ≤ 10 ∧ a + m ≤ l.length ∧ (l.drop a).take m = enc v ∧ (∀ h' : a + (m - 1) < l.length, (l[a + (m - 1)]).toNat < 128) ∧ High l a (m - 1) := by
  obtain ⟨h1, -, h3, rest, h4⟩ := getL_some _ 0 v m (by omega) h
  have h1 : v < 18446744073709551616 := h1
  have hp := enc_len_pos v
  have ht := enc_len10 v h1
  have hl := congrArg List.length h4
  rw [List.length_drop, List.length_append] at hl
  have at_ : ∀ j (hj : j < (enc v).length) (hj2 : a + j < l.length), l[a + j] = (enc v)[j] := by
    intro j hj hj2
    have : (l.drop a)[j]'(by rw [List.length_drop]; omega) = (enc v)[j] := by
      simp only [h4]
      rw [List.getElem_append_left hj]
    rw [← this, List.getElem_drop]
  subst h3
  refine ⟨h1, hp, ht, by omega, by rw [h4]; simp, fun h' => ?_, fun j hj hj2 => ?_⟩
  · rw [at_ _ (by omega) h']; exact enc_low v (by omega)
  · rw [at_ j (by omega) hj2]; exact enc_high v j (by omega) (by omega)
theorem High.ten {l : List UInt8} {a : Nat} (h : High l a 10) : getL 0 (l.drop a) = none := by
  cases e : getL 0 (l.drop a) with
  | none => rfl
  | some x =>
    obtain ⟨h1, h2, h3, h4, h5, h6, h7⟩ := got (v := x.1) (m := x.2) e
    have := h6 (by omega)
    have := h (x.2 - 1) (by omega) (by omega)
    omega
theorem get_first {l : List UInt8} {a n : Nat} (h : High l a n) (hl : a + (n + 1) ≤ l.length) (hb : (l[a + n]).toNat < 128) (hn : n + 1 ≤ 10) :
    getL 0 (l.drop a) = if enc (val ((l.drop a).take (n + 1)) % 18446744073709551616) = (l.drop a).take (n + 1) then some (val ((l.drop a).take (n + 1)) % 18446744073709551616, n + 1) else none := by
  split
  · rename_i he
    have hlen : ((l.drop a).take (n + 1)).length = n + 1 := by rw [List.length_take, List.length_drop]; omega
    have e : l.drop a = enc (val ((l.drop a).take (n + 1)) % 18446744073709551616) ++ (l.drop a).drop (n + 1) := by rw [he, List.take_append_drop]
    have := getL_enc (val ((l.drop a).take (n + 1)) % 18446744073709551616) 0 ((l.drop a).drop (n + 1)) (by omega) (by show _ < 18446744073709551616; omega) (by omega)
    rw [← e] at this
    rw [this]
    have h2 := congrArg List.length he
    rw [hlen] at h2
    rw [h2]
  · rename_i he
    cases e : getL 0 (l.drop a) with
    | none => rfl
    | some x =>
      exfalso
      obtain ⟨h1, h2, h3, h4, h5, h6, h7⟩ := got (v := x.1) (m := x.2) e
      have hm : x.2 = n + 1 := by
        rcases Nat.lt_trichotomy x.2 (n + 1) with c | c | c
        · have := h6 (by omega)
          have := h (x.2 - 1) (by omega) (by omega)
          omega
        · exact c
        · have := h7 n (by omega) (by omega)
          omega
      rw [hm] at h5
      apply he
      rw [h5, val_enc, Nat.mod_eq_of_lt h1]
end Go.Proofs.YteijmjbiaffcmaaGreatDoor.Vi
