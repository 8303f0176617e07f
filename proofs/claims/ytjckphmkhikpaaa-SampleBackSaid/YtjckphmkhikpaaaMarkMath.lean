/- Plain mathematics of vectors: it imports nothing of the program. -/
namespace Go.Proofs.Ytjckphmkhikpaaa.Mk

/-- A number in its bounds. -/
def cl (n : Int) : Int := if n < 0 then 0 else if 1099511627776 < n then 1099511627776 else n
theorem cl_bounds (n : Int) : 0 ≤ cl n ∧ cl n ≤ 1099511627776 := by unfold cl; split <;> (try split) <;> omega
theorem cl_in {n : Int} (h : 0 ≤ n) (k : n ≤ 1099511627776) : cl n = n := by unfold cl; rw [if_neg (by omega), if_neg (by omega)]
theorem cl_cl (n : Int) : cl (cl n) = cl n := cl_in (cl_bounds n).1 (cl_bounds n).2

/-- The number of a site in a list. -/
def atL (l : List Int) (i : Int) : Int := if i < 0 ∨ 7 < i then 0 else cl (l.getD i.toNat 0)
theorem atL_out {l : List Int} {i : Int} (h : i < 0 ∨ 7 < i) : atL l i = 0 := if_pos h
theorem atL_in (l : List Int) {i : Nat} (h : i < 8) : atL l (i : Int) = cl (l.getD i 0) := by unfold atL; rw [if_neg (by omega), Int.toNat_natCast]
theorem atL_past {l : List Int} {i : Int} (h : (l.length : Int) ≤ i) : atL l i = 0 := by
  unfold atL
  split
  · rfl
  · rw [List.getD_eq_getElem?_getD, List.getElem?_eq_none (by omega)]; rfl
theorem atL_bounds (l : List Int) (i : Int) : 0 ≤ atL l i ∧ atL l i ≤ 1099511627776 := by
  unfold atL
  split
  · omega
  · exact cl_bounds _
theorem atL_get {l : List Int} {i : Nat} (h : i < 8) (k : i < l.length) : atL l (i : Int) = cl l[i] := by
  rw [atL_in l h, List.getD_eq_getElem?_getD, List.getElem?_eq_getElem k]; rfl
theorem atL_nil (i : Int) : atL [] i = 0 := by unfold atL; split; rfl; rfl

/-- How many of the first k numbers are left without the zeros at the end. -/
def upto (f : Nat → Int) : Nat → Nat
  | 0 => 0
  | k + 1 => if 0 < f k then k + 1 else upto f k
theorem upto_le (f : Nat → Int) : ∀ k, upto f k ≤ k
  | 0 => Nat.le_refl _
  | k + 1 => by
    unfold upto
    split
    · exact Nat.le_refl _
    · have := upto_le f k; omega
theorem upto_past {f : Nat → Int} : ∀ {k j}, upto f k ≤ j → j < k → ¬ 0 < f j
  | 0, _, _, h => absurd h (Nat.not_lt_zero _)
  | k + 1, j, h, hj => by
    unfold upto at h
    split at h
    · omega
    · rename_i hk
      by_cases e : j = k
      · subst e; exact hk
      · exact upto_past h (by omega)
theorem upto_last {f : Nat → Int} : ∀ {k n}, upto f k = n + 1 → 0 < f n
  | 0, _, h => by simp [upto] at h
  | k + 1, n, h => by
    unfold upto at h
    split at h
    · rename_i hk
      obtain rfl : k = n := by omega
      exact hk
    · exact upto_last h
theorem upto_congr {f g : Nat → Int} : ∀ {k}, (∀ i, i < k → f i = g i) → upto f k = upto g k
  | 0, _ => rfl
  | k + 1, h => by
    unfold upto
    rw [h k (by omega), upto_congr (k := k) fun i hi => h i (by omega)]

/-- The vector of eight numbers. -/
def vec (f : Nat → Int) : List Int := (List.range (upto f 8)).map f
theorem vec_length (f : Nat → Int) : (vec f).length = upto f 8 := by unfold vec; simp
theorem vec_size (f : Nat → Int) : (vec f).length ≤ 8 := by rw [vec_length]; exact upto_le f 8
theorem vec_get (f : Nat → Int) (i : Nat) (h : i < (vec f).length) : (vec f)[i] = f i := by
  simp [vec]
theorem vec_congr {f g : Nat → Int} (h : ∀ i, i < 8 → f i = g i) : vec f = vec g := by
  have e := upto_congr (k := 8) h
  unfold vec
  rw [e]
  apply List.map_congr_left
  intro i hi
  have := List.mem_range.1 hi
  have := upto_le g 8
  exact h i (by omega)
/-- Eight numbers in their bounds. -/
def Fit (f : Nat → Int) : Prop := ∀ i, i < 8 → 0 ≤ f i ∧ f i ≤ 1099511627776
theorem vec_at {f : Nat → Int} (h : Fit f) {i : Nat} (hi : i < 8) : atL (vec f) (i : Int) = f i := by
  rw [atL_in _ hi, List.getD_eq_getElem?_getD]
  by_cases k : i < (vec f).length
  · rw [List.getElem?_eq_getElem k, vec_get f i k]
    exact cl_in (h i hi).1 (h i hi).2
  · rw [List.getElem?_eq_none (by omega)]
    rw [vec_length] at k
    have := upto_past (f := f) (k := 8) (j := i) (by omega) hi
    have := h i hi
    show cl 0 = f i
    rw [show cl 0 = 0 by decide]; omega
theorem vec_fit {f : Nat → Int} (h : Fit f) : ∀ n ∈ vec f, 0 ≤ n ∧ n ≤ 1099511627776 := by
  intro n hn
  obtain ⟨i, hi, rfl⟩ := List.getElem_of_mem hn
  rw [vec_get]
  have := vec_size f
  exact h i (by omega)
theorem vec_inj {f g : Nat → Int} (hf : Fit f) (hg : Fit g) : vec f = vec g ↔ ∀ i, i < 8 → f i = g i :=
  ⟨fun h i hi => by rw [← vec_at hf hi, ← vec_at hg hi, h], vec_congr⟩
theorem atL_fit (l : List Int) : Fit fun i => atL l (i : Int) := fun _ _ => atL_bounds l _

/-- The normal form. -/
def plainL (l : List Int) : List Int := vec fun i => atL l (i : Int)
def joinL (a b : List Int) : List Int := vec fun i => max (atL a (i : Int)) (atL b (i : Int))
def meetL (a b : List Int) : List Int := vec fun i => min (atL a (i : Int)) (atL b (i : Int))
def withL (a : List Int) (s n : Int) : List Int := vec fun i => if (i : Int) = s then cl n else atL a (i : Int)
def covL (a b : List Int) : Bool := (List.range 8).all fun i => decide (atL b (Int.ofNat i) ≤ atL a (Int.ofNat i))
def cmpB (x y : Bool) : Int := if x then (if y then 0 else 1) else (if y then -1 else 2)
def cmpL (a b : List Int) : Int := cmpB (covL a b) (covL b a)
theorem join_fit (a b : List Int) : Fit fun i => max (atL a (i : Int)) (atL b (i : Int)) := fun i _ => by
  have := atL_bounds a (i : Int); have := atL_bounds b (i : Int); show 0 ≤ max _ _ ∧ max _ _ ≤ _; omega
theorem meet_fit (a b : List Int) : Fit fun i => min (atL a (i : Int)) (atL b (i : Int)) := fun i _ => by
  have := atL_bounds a (i : Int); have := atL_bounds b (i : Int); show 0 ≤ min _ _ ∧ min _ _ ≤ _; omega
theorem with_fit (a : List Int) (s n : Int) : Fit fun i => if (i : Int) = s then cl n else atL a (i : Int) := fun i _ => by
  by_cases h : (i : Int) = s
  · simp only [if_pos h]; exact cl_bounds n
  · simp only [if_neg h]; exact atL_bounds a _
theorem atL_join (a b : List Int) {i : Nat} (h : i < 8) : atL (joinL a b) (i : Int) = max (atL a (i : Int)) (atL b (i : Int)) := vec_at (join_fit a b) h
theorem atL_meet (a b : List Int) {i : Nat} (h : i < 8) : atL (meetL a b) (i : Int) = min (atL a (i : Int)) (atL b (i : Int)) := vec_at (meet_fit a b) h
theorem atL_with (a : List Int) (s n : Int) {i : Nat} (h : i < 8) : atL (withL a s n) (i : Int) = if (i : Int) = s then cl n else atL a (i : Int) := vec_at (with_fit a s n) h
theorem atL_plain (a : List Int) {i : Nat} (h : i < 8) : atL (plainL a) (i : Int) = atL a (i : Int) := vec_at (atL_fit a) h
theorem plain_vec {f : Nat → Int} (h : Fit f) : plainL (vec f) = vec f := vec_congr fun _ hi => vec_at h hi
theorem vec_max (f g : Nat → Int) (hf : Fit f) (hg : Fit g) : vec f = vec g ↔ ∀ i, i < 8 → f i = g i := vec_inj hf hg
theorem covL_iff {a b : List Int} : covL a b = true ↔ ∀ i : Nat, i < 8 → atL b (i : Int) ≤ atL a (i : Int) := by
  unfold covL
  rw [List.all_eq_true]
  constructor
  · intro h i hi
    simpa using h i (List.mem_range.2 hi)
  · intro h i hi
    simpa using h i (List.mem_range.1 hi)

/-- What Covers has seen: the first k sites are no greater. -/
theorem cov_all {a b : List Int} {k : Nat} (h : ∀ i : Nat, i < k → atL b (i : Int) ≤ atL a (i : Int)) (hk : 8 ≤ k) : covL a b = true := covL_iff.2 fun _ hi => h _ (by omega)
theorem cov_no {a b : List Int} {i : Nat} (hi : i < 8) (h : atL a (i : Int) < atL b (i : Int)) : covL a b = false := by
  cases e : covL a b with
  | false => rfl
  | true => have := covL_iff.1 e i hi; omega
end Go.Proofs.Ytjckphmkhikpaaa.Mk
