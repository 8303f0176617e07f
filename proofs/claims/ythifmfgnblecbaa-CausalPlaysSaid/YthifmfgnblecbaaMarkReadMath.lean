/- What a text is read as: the numbers that Small answers one by one, and when they are a vector's text. -/
import Derived.Test.YthifmfgnblecbaaMarkB
import Derived.Test.YthifmfgnblecbaaMarkC
namespace Go.Proofs.Ythifmfgnblecbaa
open Go.RowKit Go.Proofs.Ythifmfgnblecbaa.Vi Go.Proofs.Ythifmfgnblecbaa.Mk

theorem numF_enc (n : Nat) (rest : List UInt8) (hn : n < 18446744073709551616) : numF (tx (enc n ++ rest)) = some (n, tx rest) := by
  have e : (tx (enc n ++ rest)).data.toList = enc n ++ rest := by simp [tx]
  have hg := getL_enc n 0 rest (by omega) (by show n < 18446744073709551616; exact hn) (by omega)
  have h2 : restB (tx (enc n ++ rest)) (enc n).length = tx rest := by
    apply list_inj
    rw [restB_list, e]; simp [tx]
  unfold numF
  rw [e, hg]
  simp only [h2]
theorem smallQ_enc (x m : Int) (rest : List UInt8) (h0 : 0 ≤ x) (h1 : x ≤ m) (h2 : m ≤ 1099511627776) : smallQ (tx (enc x.toNat ++ rest)) false m = (x, tx rest, false) := by
  unfold smallQ
  rw [if_neg (by simp), numF_enc _ _ (by omega)]
  simp only
  rw [if_pos (by omega)]
  rw [Int.toNat_of_nonneg h0]
theorem smallQ_range {r r' : ByteArray} {br br' : Bool} {m v : Int} (H : smallQ r br m = (v, r', br')) (hm : 0 ≤ m) : 0 ≤ v ∧ v ≤ m := by
  unfold smallQ at H
  split at H
  · simp at H; obtain ⟨rfl, _⟩ := H; omega
  · split at H
    · simp at H; obtain ⟨rfl, _⟩ := H; omega
    · split at H
      · rename_i hc
        simp at H; obtain ⟨rfl, _⟩ := H; omega
      · simp at H; obtain ⟨rfl, _⟩ := H; omega
theorem smallQ_good {r r' : ByteArray} {br : Bool} {m v : Int} (H : smallQ r br m = (v, r', false)) : br = false ∧ r.data.toList = enc v.toNat ++ r'.data.toList := by
  unfold smallQ at H
  split at H
  · simp at H
  · rename_i hb
    split at H
    · simp at H
    · rename_i u r1 hf
      split at H
      · rename_i hc
        simp at H
        obtain ⟨rfl, rfl⟩ := H
        obtain ⟨k, hg, rfl⟩ := numF_some hf
        obtain ⟨g1, g2, g3, rest, g4⟩ := getL_some _ 0 u k (by omega) hg
        refine ⟨by simpa using hb, ?_⟩
        rw [restB_list, g4, g3]; simp
      · simp at H

/-- How many numbers a text says that it has. -/
def cntS (s : ByteArray) : Int := (smallQ s false 8).1
/-- What is left ahead of its k-th number. -/
def stp (s : ByteArray) : Nat → ByteArray × Bool
  | 0 => (smallQ s false 8).2
  | k + 1 => if (k : Int) < cntS s then (smallQ (stp s k).1 (stp s k).2 1099511627776).2 else stp s k
/-- Its k-th number. -/
def numS (s : ByteArray) (k : Nat) : Int := if (k : Int) < cntS s then (smallQ (stp s k).1 (stp s k).2 1099511627776).1 else 0
def vecS (s : ByteArray) : List Int := vec (numS s)
def outS (s : ByteArray) (k : Nat) : List Int := (List.range k).map (numS s)
theorem cntS_bounds (s : ByteArray) : 0 ≤ cntS s ∧ cntS s ≤ 8 := smallQ_range (show smallQ s false 8 = (_, _, _) from rfl) (by omega)
theorem numS_bounds (s : ByteArray) (k : Nat) : 0 ≤ numS s k ∧ numS s k ≤ 1099511627776 := by
  unfold numS
  split
  · exact smallQ_range (show smallQ _ _ 1099511627776 = (_, _, _) from rfl) (by omega)
  · omega
theorem numS_fit (s : ByteArray) : Fit (numS s) := fun i _ => numS_bounds s i
theorem stp_step {s : ByteArray} {k : Nat} (h : (k : Int) < cntS s) : smallQ (stp s k).1 (stp s k).2 1099511627776 = (numS s k, (stp s (k + 1)).1, (stp s (k + 1)).2) := by
  have e1 : numS s k = (smallQ (stp s k).1 (stp s k).2 1099511627776).1 := if_pos h
  have e2 : stp s (k + 1) = (smallQ (stp s k).1 (stp s k).2 1099511627776).2 := if_pos h
  rw [e1, e2]
theorem stp_zero (s : ByteArray) : smallQ s false 8 = (cntS s, (stp s 0).1, (stp s 0).2) := rfl
theorem stp_past {s : ByteArray} {k : Nat} (h : ¬ (k : Int) < cntS s) : stp s (k + 1) = stp s k := if_neg h
theorem stp_inv (s : ByteArray) : ∀ k, ((stp s k).2 = true → (stp s k).1 = ⟨#[]⟩) ∧ (stp s k).1.size ≤ s.size
  | 0 => by
    obtain ⟨h1, _, h3⟩ := smallQ_inv (stp_zero s) (fun e => (by cases e))
    exact ⟨fun e => (h1 e).1, h3⟩
  | k + 1 => by
    obtain ⟨i1, i2⟩ := stp_inv s k
    by_cases h : (k : Int) < cntS s
    · obtain ⟨h1, _, h3⟩ := smallQ_inv (stp_step h) i1
      exact ⟨fun e => (h1 e).1, by omega⟩
    · rw [stp_past h]; exact ⟨i1, i2⟩
theorem stp_good {s : ByteArray} : ∀ {k}, (stp s (k + 1)).2 = false → (stp s k).2 = false := by
  intro k h
  by_cases hk : (k : Int) < cntS s
  · have e := stp_step hk
    rw [h] at e
    exact (smallQ_good e).1
  · rw [stp_past hk] at h; exact h
theorem stp_end (s : ByteArray) (n : Nat) (hn : (n : Int) = cntS s) : ∀ k, n ≤ k → stp s k = stp s n := by
  intro k
  induction k with
  | zero =>
    intro h
    obtain rfl : n = 0 := by omega
    rfl
  | succ k ih =>
    intro h
    by_cases e : n = k + 1
    · rw [e]
    · rw [stp_past (by omega), ih (by omega)]
theorem outS_succ (s : ByteArray) (k : Nat) : outS s (k + 1) = outS s k ++ [numS s k] := by unfold outS; rw [List.range_succ, List.map_append]; rfl
theorem encL_app (a b : List Int) : encL (a ++ b) = encL a ++ encL b := by unfold encL; rw [List.flatMap_append]
theorem outS_text {s : ByteArray} : ∀ k : Nat, (k : Int) ≤ cntS s → (stp s k).2 = false → s.data.toList = enc (cntS s).toNat ++ encL (outS s k) ++ (stp s k).1.data.toList
  | 0, _, h => by
    have e := stp_zero s
    rw [h] at e
    have := (smallQ_good e).2
    simpa [outS, encL] using this
  | k + 1, hk, h => by
    have hlt : (k : Int) < cntS s := by omega
    have ih := outS_text k (by omega) (stp_good h)
    have e := stp_step hlt
    rw [h] at e
    have g := (smallQ_good e).2
    have e1 : encL [numS s k] = enc (numS s k).toNat := by simp [encL]
    rw [ih, g, outS_succ, encL_app, e1]
    simp [List.append_assoc]
theorem outS_vec (s : ByteArray) (n : Nat) (hn : (n : Int) = cntS s) : plainL (outS s n) = vecS s := by
  have hc := cntS_bounds s
  refine vec_congr fun i hi => ?_
  by_cases h : i < n
  · rw [atL_get hi (by unfold outS; simpa using h)]
    have : (outS s n)[i]'(by unfold outS; simpa using h) = numS s i := by simp [outS]
    rw [this, cl_in (numS_bounds s i).1 (numS_bounds s i).2]
  · rw [atL_past (by unfold outS; simp; omega)]
    unfold numS; rw [if_neg (by omega)]

/-- The text is a vector's. -/
def OkS (s : ByteArray) : Prop := tx (textL (vecS s)) = s
theorem okS_of {s : ByteArray} {n : Nat} (hn : (n : Int) = cntS s) (h1 : (stp s n).2 = false) (h2 : (stp s n).1.size = 0) (h3 : outS s n = plainL (outS s n)) : OkS s := by
  have e := outS_text n (by omega) h1
  have e0 : (stp s n).1.data.toList = [] := by
    apply List.eq_nil_of_length_eq_zero
    simpa using h2
  rw [e0, List.append_nil] at e
  have e1 : vecS s = outS s n := by rw [← outS_vec s n hn, ← h3]
  have e2 : (outS s n).length = (cntS s).toNat := by unfold outS; simp; omega
  unfold OkS
  rw [e1]
  apply list_inj
  rw [e]
  unfold textL
  rw [e2]; simp [tx]
/-- A vector's text is read as the vector. -/
theorem read_text (g : Nat → Int) (hg : Fit g) (s : ByteArray) (hs : tx (textL (vec g)) = s) : cntS s = ((vec g).length : Int) ∧ ∀ k, k ≤ (vec g).length → stp s k = (tx (encL ((vec g).drop k)), false) ∧ outS s k = (vec g).take k := by
  have hl := vec_size g
  have hz : smallQ s false 8 = (((vec g).length : Int), tx (encL (vec g)), false) := by
    rw [← hs]
    unfold textL
    have := smallQ_enc ((vec g).length : Int) 8 (encL (vec g)) (by omega) (by omega) (by omega)
    rw [Int.toNat_natCast] at this
    exact this
  have hc : cntS s = ((vec g).length : Int) := by unfold cntS; rw [hz]
  refine ⟨hc, fun k => ?_⟩
  induction k with
  | zero =>
    intro _
    refine ⟨?_, by simp [outS]⟩
    show (smallQ s false 8).2 = _
    rw [hz]; rfl
  | succ k ih =>
    intro hk
    obtain ⟨i1, i2⟩ := ih (by omega)
    have hkl : k < (vec g).length := by omega
    have hb := vec_fit hg _ (List.getElem_mem hkl)
    have e0 : encL ((vec g).drop k) = enc ((vec g)[k]).toNat ++ encL ((vec g).drop (k + 1)) := by
      rw [List.drop_eq_getElem_cons hkl]; simp only [encL, List.flatMap_cons]
    have e1 : smallQ (stp s k).1 (stp s k).2 1099511627776 = ((vec g)[k], tx (encL ((vec g).drop (k + 1))), false) := by
      rw [i1, e0]
      exact smallQ_enc _ _ _ hb.1 hb.2 (by omega)
    have e2 := stp_step (s := s) (k := k) (by rw [hc]; omega)
    rw [e1] at e2
    simp only [Prod.mk.injEq] at e2
    refine ⟨Prod.ext e2.2.1.symm e2.2.2.symm, ?_⟩
    rw [outS_succ, i2, ← e2.1, List.take_succ_eq_append_getElem hkl]
theorem read_text_vec (g : Nat → Int) (hg : Fit g) (s : ByteArray) (hs : tx (textL (vec g)) = s) : vecS s = vec g := by
  obtain ⟨h1, h2⟩ := read_text g hg s hs
  rw [← outS_vec s (vec g).length h1.symm, (h2 _ (Nat.le_refl _)).2, List.take_length, plain_vec hg]
theorem okS_text (g : Nat → Int) (hg : Fit g) (s : ByteArray) (hs : tx (textL (vec g)) = s) : OkS s := by
  unfold OkS
  rw [read_text_vec g hg s hs]; exact hs
theorem okS_parts {s : ByteArray} (h : OkS s) {n : Nat} (hn : (n : Int) = cntS s) : (stp s n).2 = false ∧ (stp s n).1.size = 0 ∧ outS s n = plainL (outS s n) := by
  obtain ⟨h1, h2⟩ := read_text (numS s) (numS_fit s) s h
  obtain rfl : n = (vec (numS s)).length := by omega
  obtain ⟨h3, h4⟩ := h2 _ (Nat.le_refl _)
  rw [h3]
  refine ⟨rfl, by simp [encL, tx_size], ?_⟩
  rw [h4, List.take_length, plain_vec (numS_fit s)]
end Go.Proofs.Ythifmfgnblecbaa
