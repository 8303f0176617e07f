/- Joined: MarkMath, MarkBel, MarkStamp. -/
import Derived.WalkKit
import Derived.Below
import Derived.WalkSmall
import Derived.Test.YthifmfgnblecbaaVintB
import Derived.Deep.RegionHeld3
/- Plain mathematics of vectors: it imports nothing of the program. -/
namespace Go.Proofs.Ythifmfgnblecbaa.Mk

/-- A number in its bounds. -/
def cl (n : Int) : Int := if n < 0 then 0 else if 1099511627776 < n then 1099511627776 else n
theorem cl_bounds (n : Int) : 0 ≤ cl n ∧ cl n ≤ 1099511627776 := by unfold cl; split <;> (try split) <;> omega
theorem cl_in {n : Int} (h : 0 ≤ n) (k : n ≤ 1099511627776) : cl n = n := by unfold cl; rw [if_neg (by omega), if_neg (by omega)]
theorem cl_cl (n : Int) : cl (cl n) = cl n := cl_in (cl_bounds n).1 (cl_bounds n).2

/-- The number of a site in a list. -/
def atL (l : List Int) (i : Int) : Int := if i < 0 ∨ 7 < i then 0 else cl (l.getD i.toNat 0)
theorem atL_out {l : List Int} {i : Int} (h : i < 0 ∨ 7 < i) : atL l i = 0 := if_pos h
theorem atL_in (l : List Int) {i : Nat} (h : i < 8) : atL l (i : Int) = cl (l.getD i 0) := by unfold atL; rw [if_neg (by omega), Int.toNat_natCast]
theorem atL_past {l : List Int} {i : Int} (h : (l.length : Int) ≤ i) : atL l i = 0 := by
  unfold atL
  split
  · rfl
  · rw [List.getD_eq_getElem?_getD, List.getElem?_eq_none (by omega)]; rfl
theorem atL_bounds (l : List Int) (i : Int) : 0 ≤ atL l i ∧ atL l i ≤ 1099511627776 := by
  unfold atL
  split
  · omega
  · exact cl_bounds _
theorem atL_get {l : List Int} {i : Nat} (h : i < 8) (k : i < l.length) : atL l (i : Int) = cl l[i] := by
  rw [atL_in l h, List.getD_eq_getElem?_getD, List.getElem?_eq_getElem k]; rfl
theorem atL_nil (i : Int) : atL [] i = 0 := by unfold atL; split; rfl; rfl

/-- How many of the first k numbers are left without the zeros at the end. -/
def upto (f : Nat → Int) : Nat → Nat
  | 0 => 0
  | k + 1 => if 0 < f k then k + 1 else upto f k
theorem upto_le (f : Nat → Int) : ∀ k, upto f k ≤ k
  | 0 => Nat.le_refl _
  | k + 1 => by
    unfold upto
    split
    · exact Nat.le_refl _
    · have := upto_le f k; omega
theorem upto_past {f : Nat → Int} : ∀ {k j}, upto f k ≤ j → j < k → ¬ 0 < f j
  | 0, _, _, h => absurd h (Nat.not_lt_zero _)
  | k + 1, j, h, hj => by
    unfold upto at h
    split at h
    · omega
    · rename_i hk
      by_cases e : j = k
      · subst e; exact hk
      · exact upto_past h (by omega)
theorem upto_last {f : Nat → Int} : ∀ {k n}, upto f k = n + 1 → 0 < f n
  | 0, _, h => by simp [upto] at h
  | k + 1, n, h => by
    unfold upto at h
    split at h
    · rename_i hk
      obtain rfl : k = n := by omega
      exact hk
    · exact upto_last h
theorem upto_congr {f g : Nat → Int} : ∀ {k}, (∀ i, i < k → f i = g i) → upto f k = upto g k
  | 0, _ => rfl
  | k + 1, h => by
    unfold upto
    rw [h k (by omega), upto_congr (k := k) fun i hi => h i (by omega)]

/-- The vector of eight numbers. -/
def vec (f : Nat → Int) : List Int := (List.range (upto f 8)).map f
theorem vec_length (f : Nat → Int) : (vec f).length = upto f 8 := by unfold vec; simp
theorem vec_size (f : Nat → Int) : (vec f).length ≤ 8 := by rw [vec_length]; exact upto_le f 8
theorem vec_get (f : Nat → Int) (i : Nat) (h : i < (vec f).length) : (vec f)[i] = f i := by
  simp [vec]
theorem vec_congr {f g : Nat → Int} (h : ∀ i, i < 8 → f i = g i) : vec f = vec g := by
  have e := upto_congr (k := 8) h
  unfold vec
  rw [e]
  apply List.map_congr_left
  intro i hi
  have := List.mem_range.1 hi
  have := upto_le g 8
  exact h i (by omega)
/-- Eight numbers in their bounds. -/
def Fit (f : Nat → Int) : Prop := ∀ i, i < 8 → 0 ≤ f i ∧ f i ≤ 1099511627776
theorem vec_at {f : Nat → Int} (h : Fit f) {i : Nat} (hi : i < 8) : atL (vec f) (i : Int) = f i := by
  rw [atL_in _ hi, List.getD_eq_getElem?_getD]
  by_cases k : i < (vec f).length
  · rw [List.getElem?_eq_getElem k, vec_get f i k]
    exact cl_in (h i hi).1 (h i hi).2
  · rw [List.getElem?_eq_none (by omega)]
    rw [vec_length] at k
    have := upto_past (f := f) (k := 8) (j := i) (by omega) hi
    have := h i hi
    show cl 0 = f i
    rw [show cl 0 = 0 by decide]; omega
theorem vec_fit {f : Nat → Int} (h : Fit f) : ∀ n ∈ vec f, 0 ≤ n ∧ n ≤ 1099511627776 := by
  intro n hn
  obtain ⟨i, hi, rfl⟩ := List.getElem_of_mem hn
  rw [vec_get]
  have := vec_size f
  exact h i (by omega)
theorem vec_inj {f g : Nat → Int} (hf : Fit f) (hg : Fit g) : vec f = vec g ↔ ∀ i, i < 8 → f i = g i :=
  ⟨fun h i hi => by rw [← vec_at hf hi, ← vec_at hg hi, h], vec_congr⟩
theorem atL_fit (l : List Int) : Fit fun i => atL l (i : Int) := fun _ _ => atL_bounds l _

/-- The normal form. -/
def plainL (l : List Int) : List Int := vec fun i => atL l (i : Int)
def joinL (a b : List Int) : List Int := vec fun i => max (atL a (i : Int)) (atL b (i : Int))
def meetL (a b : List Int) : List Int := vec fun i => min (atL a (i : Int)) (atL b (i : Int))
def withL (a : List Int) (s n : Int) : List Int := vec fun i => if (i : Int) = s then cl n else atL a (i : Int)
def covL (a b : List Int) : Bool := (List.range 8).all fun i => decide (atL b (Int.ofNat i) ≤ atL a (Int.ofNat i))
def cmpB (x y : Bool) : Int := if x then (if y then 0 else 1) else (if y then -1 else 2)
def cmpL (a b : List Int) : Int := cmpB (covL a b) (covL b a)
theorem join_fit (a b : List Int) : Fit fun i => max (atL a (i : Int)) (atL b (i : Int)) := fun i _ => by
  have := atL_bounds a (i : Int); have := atL_bounds b (i : Int); show 0 ≤ max _ _ ∧ max _ _ ≤ _; omega
theorem meet_fit (a b : List Int) : Fit fun i => min (atL a (i : Int)) (atL b (i : Int)) := fun i _ => by
  have := atL_bounds a (i : Int); have := atL_bounds b (i : Int); show 0 ≤ min _ _ ∧ min _ _ ≤ _; omega
theorem with_fit (a : List Int) (s n : Int) : Fit fun i => if (i : Int) = s then cl n else atL a (i : Int) := fun i _ => by
  by_cases h : (i : Int) = s
  · simp only [if_pos h]; exact cl_bounds n
  · simp only [if_neg h]; exact atL_bounds a _
theorem atL_join (a b : List Int) {i : Nat} (h : i < 8) : atL (joinL a b) (i : Int) = max (atL a (i : Int)) (atL b (i : Int)) := vec_at (join_fit a b) h
theorem atL_meet (a b : List Int) {i : Nat} (h : i < 8) : atL (meetL a b) (i : Int) = min (atL a (i : Int)) (atL b (i : Int)) := vec_at (meet_fit a b) h
theorem atL_with (a : List Int) (s n : Int) {i : Nat} (h : i < 8) : atL (withL a s n) (i : Int) = if (i : Int) = s then cl n else atL a (i : Int) := vec_at (with_fit a s n) h
theorem atL_plain (a : List Int) {i : Nat} (h : i < 8) : atL (plainL a) (i : Int) = atL a (i : Int) := vec_at (atL_fit a) h
theorem plain_vec {f : Nat → Int} (h : Fit f) : plainL (vec f) = vec f := vec_congr fun _ hi => vec_at h hi
theorem vec_max (f g : Nat → Int) (hf : Fit f) (hg : Fit g) : vec f = vec g ↔ ∀ i, i < 8 → f i = g i := vec_inj hf hg
theorem covL_iff {a b : List Int} : covL a b = true ↔ ∀ i : Nat, i < 8 → atL b (i : Int) ≤ atL a (i : Int) := by
  unfold covL
  rw [List.all_eq_true]
  constructor
  · intro h i hi
    simpa using h i (List.mem_range.2 hi)
  · intro h i hi
    simpa using h i (List.mem_range.1 hi)

/-- What Covers has seen: the first k sites are no greater. -/
theorem cov_all {a b : List Int} {k : Nat} (h : ∀ i : Nat, i < k → atL b (i : Int) ≤ atL a (i : Int)) (hk : 8 ≤ k) : covL a b = true := covL_iff.2 fun _ hi => h _ (by omega)
theorem cov_no {a b : List Int} {i : Nat} (hi : i < 8) (h : atL a (i : Int) < atL b (i : Int)) : covL a b = false := by
  cases e : covL a b with
  | false => rfl
  | true => have := covL_iff.1 e i hi; omega
end Go.Proofs.Ythifmfgnblecbaa.Mk

/- Small steps of 'Below'. -/
namespace Go.Proofs.Ythifmfgnblecbaa
open Go.RowKit
theorem bel_next {w a b : World} (h : Below w.heap.size w a) (k : Below a.heap.size a b) : Below w.heap.size w b := h.trans (k.mono h.size)
theorem bel_new {w a : World} (h : Below w.heap.size w a) (o : Obj) : Below w.heap.size w (a.alloc o) := h.alloc h.size o
theorem bel_lt {w a : World} (h : Below w.heap.size w a) : w.heap.size ≤ a.heap.size := h.size
end Go.Proofs.Ythifmfgnblecbaa

/- Contracts of package mark's Check, Less, Later, Bytes, and of the document's answers for them. -/
namespace Go.Proofs.Ythifmfgnblecbaa
open Go.RowKit Go.Proofs.Ythifmfgnblecbaa.Vi Go.Proofs.Ythifmfgnblecbaa.Mk

/-- A stamp: clock, site, number. -/
structure St where
  c : Int
  s : Int
  q : Int
def St.v (a : St) : Value := .agg #[.int .i64 a.c, .int .i64 a.s, .int .i64 a.q]
def St.ok (a : St) : Bool := decide (1 ≤ a.c ∧ a.c ≤ 1099511627776 ∧ 0 ≤ a.s ∧ a.s ≤ 7 ∧ 1 ≤ a.q ∧ a.q ≤ 1099511627776)
def St.lt (a b : St) : Bool := decide (a.c < b.c ∨ a.c = b.c ∧ (a.s < b.s ∨ a.s = b.s ∧ a.q < b.q))
def St.err (a : St) : Int := if a.ok then 0 else 1
theorem St.ext' {a b : St} (h1 : a.c = b.c) (h2 : a.s = b.s) (h3 : a.q = b.q) : a = b := by cases a; cases b; simp_all
instance : DecidableEq St := fun a b => decidable_of_iff (a.c = b.c ∧ a.s = b.s ∧ a.q = b.q) ⟨fun h => St.ext' h.1 h.2.1 h.2.2, fun h => by subst h; exact ⟨rfl, rfl, rfl⟩⟩
theorem St.err_no {a : St} (h : ¬ (1 ≤ a.c ∧ a.c ≤ 1099511627776 ∧ 0 ≤ a.s ∧ a.s ≤ 7 ∧ 1 ≤ a.q ∧ a.q ≤ 1099511627776)) : a.err = 1 := by
  unfold St.err St.ok; rw [if_neg]; simpa using h
theorem St.err_yes {a : St} (h : 1 ≤ a.c ∧ a.c ≤ 1099511627776 ∧ 0 ≤ a.s ∧ a.s ≤ 7 ∧ 1 ≤ a.q ∧ a.q ≤ 1099511627776) : a.err = 0 := by
  unfold St.err St.ok; rw [if_pos]; simpa using h
theorem St.lt1 {c1 s1 q1 c2 s2 q2 : Int} (h : c1 ≠ c2) : (St.mk c1 s1 q1).lt (St.mk c2 s2 q2) = decide (c1 < c2) := by
  unfold St.lt; rw [decide_eq_decide]; simp only; omega
theorem St.lt2 {c s1 q1 s2 q2 : Int} (h : s1 ≠ s2) : (St.mk c s1 q1).lt (St.mk c s2 q2) = decide (s1 < s2) := by
  unfold St.lt; rw [decide_eq_decide]; simp [h]
theorem St.lt3 {c s q1 q2 : Int} : (St.mk c s q1).lt (St.mk c s q2) = decide (q1 < q2) := by
  unfold St.lt; rw [decide_eq_decide]; simp
/-- Two new blocks. -/
theorem two_new (w : World) (o1 o2 : Obj) : Below w.heap.size w ((w.alloc o1).alloc o2) := ((Below.refl _ _).alloc (Nat.le_refl _) _).alloc (by simp) _

theorem counts_any (n : Int) (w : World) : Calls Try.prog 65 #[.int .i64 n] w fun e w' => e = .returned (.bool (decide (1 ≤ n ∧ n ≤ 1099511627776))) ∧ w = w' := by
  by_cases h1 : 1 ≤ n
  · by_cases h2 : n ≤ 1099511627776
    · rw [show decide (1 ≤ n ∧ n ≤ 1099511627776) = true by simp; omega]
      go_enter Try.func65, Try.ntmps65
      go_wp2
      go_ret
      exact ⟨rfl, rfl⟩
    · rw [show decide (1 ≤ n ∧ n ≤ 1099511627776) = false by simp; omega]
      go_enter Try.func65, Try.ntmps65
      go_wp2
      go_ret
      exact ⟨rfl, rfl⟩
  · rw [show decide (1 ≤ n ∧ n ≤ 1099511627776) = false by simp; omega]
    go_enter Try.func65, Try.ntmps65
    go_wp2
    go_ret
    exact ⟨rfl, rfl⟩

set_option maxHeartbeats 1000000 in
theorem check_is (a : St) (w : World) : Calls Try.prog 55 #[a.v] w fun e w' => e = .returned (.int .i64 a.err) ∧ Below w.heap.size w w' := by
  obtain ⟨c, s, q⟩ := a
  unfold St.v
  have kc := fun w => counts_any c w
  have kq := fun w => counts_any q w
  by_cases h0 : ¬ (1 ≤ c ∧ c ≤ 1099511627776)
  · rw [St.err_no (by simp only; omega)]
    rw [show decide (1 ≤ c ∧ c ≤ 1099511627776) = false by simp; omega] at kc
    go_enter Try.func55, Try.ntmps55
    go_wp2_with (first | (go_at_call 65; (with_reducible refine (kc _).mono ?_); rintro e w1 ⟨rfl, rfl⟩) | (go_at_call 65; (with_reducible refine (kq _).mono ?_); rintro e w1 ⟨rfl, rfl⟩))
    go_ret
    exact ⟨rfl, (Below.refl _ _).alloc (Nat.le_refl _) _⟩
  · have g0 := h0
    by_cases h1 : s < 0
    · rw [St.err_no (by simp only; omega)]
      rw [show decide (1 ≤ c ∧ c ≤ 1099511627776) = true by simp; omega] at kc
      go_enter Try.func55, Try.ntmps55
      go_wp2_with (first | (go_at_call 65; (with_reducible refine (kc _).mono ?_); rintro e w1 ⟨rfl, rfl⟩) | (go_at_call 65; (with_reducible refine (kq _).mono ?_); rintro e w1 ⟨rfl, rfl⟩))
      go_ret
      exact ⟨rfl, (Below.refl _ _).alloc (Nat.le_refl _) _⟩
    · have g1 := h1
      by_cases h2 : 7 < s
      · rw [St.err_no (by simp only; omega)]
        rw [show decide (1 ≤ c ∧ c ≤ 1099511627776) = true by simp; omega] at kc
        skip
        go_enter Try.func55, Try.ntmps55
        go_wp2_with (first | (go_at_call 65; (with_reducible refine (kc _).mono ?_); rintro e w1 ⟨rfl, rfl⟩) | (go_at_call 65; (with_reducible refine (kq _).mono ?_); rintro e w1 ⟨rfl, rfl⟩))
        go_ret
        exact ⟨rfl, (Below.refl _ _).alloc (Nat.le_refl _) _⟩
      · have g2 := h2
        by_cases h3 : ¬ (1 ≤ q ∧ q ≤ 1099511627776)
        · rw [St.err_no (by simp only; omega)]
          rw [show decide (1 ≤ c ∧ c ≤ 1099511627776) = true by simp; omega] at kc
          skip
          skip
          rw [show decide (1 ≤ q ∧ q ≤ 1099511627776) = false by simp; omega] at kq
          go_enter Try.func55, Try.ntmps55
          go_wp2_with (first | (go_at_call 65; (with_reducible refine (kc _).mono ?_); rintro e w1 ⟨rfl, rfl⟩) | (go_at_call 65; (with_reducible refine (kq _).mono ?_); rintro e w1 ⟨rfl, rfl⟩))
          go_ret
          exact ⟨rfl, (Below.refl _ _).alloc (Nat.le_refl _) _⟩
        · have g3 := h3
          rw [St.err_yes (by simp only; omega)]
          rw [show decide (1 ≤ c ∧ c ≤ 1099511627776) = true by simp; omega] at kc
          skip
          skip
          rw [show decide (1 ≤ q ∧ q ≤ 1099511627776) = true by simp; omega] at kq
          go_enter Try.func55, Try.ntmps55
          go_wp2_with (first | (go_at_call 65; (with_reducible refine (kc _).mono ?_); rintro e w1 ⟨rfl, rfl⟩) | (go_at_call 65; (with_reducible refine (kq _).mono ?_); rintro e w1 ⟨rfl, rfl⟩))
          go_ret
          exact ⟨rfl, (Below.refl _ _).alloc (Nat.le_refl _) _⟩

set_option maxHeartbeats 1000000 in
theorem rcheck_is (a : St) (w : World) : Calls Try.prog 60 #[a.v] w fun e w' => e = .returned (.int .i64 a.err) ∧ Below w.heap.size w w' := by
  obtain ⟨c, s, q⟩ := a
  unfold St.v
  by_cases h0 : c < 1
  · rw [St.err_no (by simp only; omega)]
    go_enter Try.func60, Try.ntmps60
    go_wp2
    go_ret
    exact ⟨rfl, (Below.refl _ _).alloc (Nat.le_refl _) _⟩
  · have g0 := h0
    by_cases h1 : 1099511627776 < c
    · rw [St.err_no (by simp only; omega)]
      skip
      go_enter Try.func60, Try.ntmps60
      go_wp2
      go_ret
      exact ⟨rfl, (Below.refl _ _).alloc (Nat.le_refl _) _⟩
    · have g1 := h1
      by_cases h2 : q < 1
      · rw [St.err_no (by simp only; omega)]
        skip
        skip
        go_enter Try.func60, Try.ntmps60
        go_wp2
        go_ret
        exact ⟨rfl, (Below.refl _ _).alloc (Nat.le_refl _) _⟩
      · have g2 := h2
        by_cases h3 : 1099511627776 < q
        · rw [St.err_no (by simp only; omega)]
          skip
          skip
          skip
          go_enter Try.func60, Try.ntmps60
          go_wp2
          go_ret
          exact ⟨rfl, (Below.refl _ _).alloc (Nat.le_refl _) _⟩
        · have g3 := h3
          by_cases h4 : s < 0
          · rw [St.err_no (by simp only; omega)]
            skip
            skip
            skip
            skip
            go_enter Try.func60, Try.ntmps60
            go_wp2
            go_ret
            exact ⟨rfl, (Below.refl _ _).alloc (Nat.le_refl _) _⟩
          · have g4 := h4
            by_cases h5 : 7 < s
            · rw [St.err_no (by simp only; omega)]
              skip
              skip
              skip
              skip
              skip
              go_enter Try.func60, Try.ntmps60
              go_wp2
              go_ret
              exact ⟨rfl, (Below.refl _ _).alloc (Nat.le_refl _) _⟩
            · have g5 := h5
              rw [St.err_yes (by simp only; omega)]
              skip
              skip
              skip
              skip
              skip
              skip
              go_enter Try.func60, Try.ntmps60
              go_wp2
              go_ret
              exact ⟨rfl, (Below.refl _ _).alloc (Nat.le_refl _) _⟩

/-- A stamp's three cells in block b. -/
structure StAt (w : World) (b : Nat) (a : St) : Prop where
  c0 : w.cell? ⟨b, 0, none⟩ = some (.int .i64 a.c)
  c1 : w.cell? ⟨b, 1, none⟩ = some (.int .i64 a.s)
  c2 : w.cell? ⟨b, 2, none⟩ = some (.int .i64 a.q)
theorem StAt.room {w : World} {b : Nat} {a : St} (h : StAt w b a) : b < w.heap.size := World.block_lt_of_cell? w _ h.c0
theorem StAt.below {w w' : World} {b : Nat} {a : St} (h : StAt w b a) (k : Below w.heap.size w w') : StAt w' b a :=
  ⟨(k.cell (p := ⟨b, 0, none⟩) h.room).trans h.c0, (k.cell (p := ⟨b, 1, none⟩) h.room).trans h.c1, (k.cell (p := ⟨b, 2, none⟩) h.room).trans h.c2⟩

/-- A new stamp's block that may be written: all zeros. -/
structure Out (w : World) (b : Nat) : Prop where
  z0 : w.cell? ⟨b, 0, none⟩ = some (.int .i64 0)
  z1 : w.cell? ⟨b, 1, none⟩ = some (.int .i64 0)
  z2 : w.cell? ⟨b, 2, none⟩ = some (.int .i64 0)
  y0 : w.frozen? ⟨b, 0, none⟩ = false
  y1 : w.frozen? ⟨b, 1, none⟩ = false
  y2 : w.frozen? ⟨b, 2, none⟩ = false
theorem Out.room {w : World} {b : Nat} (h : Out w b) : b < w.heap.size := World.block_lt_of_cell? w _ h.z0
theorem Out.below {w w' : World} {b : Nat} (h : Out w b) (k : Below w.heap.size w w') : Out w' b :=
  ⟨(k.cell (p := ⟨b, 0, none⟩) h.room).trans h.z0, (k.cell (p := ⟨b, 1, none⟩) h.room).trans h.z1, (k.cell (p := ⟨b, 2, none⟩) h.room).trans h.z2, (k.frozen (p := ⟨b, 0, none⟩) h.room).trans h.y0, (k.frozen (p := ⟨b, 1, none⟩) h.room).trans h.y1, (k.frozen (p := ⟨b, 2, none⟩) h.room).trans h.y2⟩
theorem StAt.new (w : World) (a : St) : StAt (w.alloc (.cells #[.int .i64 a.c, .int .i64 a.s, .int .i64 a.q] 31)) w.heap.size a := ⟨by simp [go_sem], by simp [go_sem], by simp [go_sem]⟩
theorem StAt.alloc {w : World} {b : Nat} {a : St} (h : StAt w b a) (o : Obj) : StAt (w.alloc o) b a := h.below ((Below.refl _ _).alloc (Nat.le_refl _) _)
theorem Out.new (w : World) : Out (w.alloc (.cells #[.int .i64 0, .int .i64 0, .int .i64 0] 31)) w.heap.size := ⟨by simp [go_sem], by simp [go_sem], by simp [go_sem], by simp [go_sem], by simp [go_sem], by simp [go_sem]⟩
theorem Out.alloc {w : World} {b : Nat} (h : Out w b) (o : Obj) : Out (w.alloc o) b := h.below ((Below.refl _ _).alloc (Nat.le_refl _) _)

/-- Three stamps in their blocks. -/
structure Held3 (w : World) (b1 b2 b3 : Nat) (x y z : St) (w' : World) : Prop where
  h1 : StAt w' b1 x
  h2 : StAt w' b2 y
  h3 : StAt w' b3 z
  bel : Below w.heap.size w w'
theorem Held3.keep {w w1 w2 : World} {b1 b2 b3 : Nat} {x y z : St} (h : Held3 w b1 b2 b3 x y z w1) (k : Below w1.heap.size w1 w2) : Held3 w b1 b2 b3 x y z w2 := ⟨h.h1.below k, h.h2.below k, h.h3.below k, h.bel.trans (k.mono h.bel.size)⟩
theorem Held3.drew {w w1 : World} {b1 b2 b3 : Nat} {x y z : St} (h : Held3 w b1 b2 b3 x y z w1) : Held3 w b1 b2 b3 x y z w1.drew := h.keep ((Below.refl _ _).drew)
theorem eql_run (a b : St) (w : World) : (binOp .eql 31 (.agg #[.int .i64 a.c, .int .i64 a.s, .int .i64 a.q]) (.agg #[.int .i64 b.c, .int .i64 b.s, .int .i64 b.q])).run Try.prog w = .ok (.bool (decide (a = b))) w := by
  obtain ⟨c1, s1, q1⟩ := a
  obtain ⟨c2, s2, q2⟩ := b
  have e : decide (St.mk c1 s1 q1 = St.mk c2 s2 q2) = (decide (c1 = c2) && (decide (s1 = s2) && decide (q1 = q2))) := by
    rw [Bool.eq_iff_iff]; simp
  rw [e]
  by_cases e1 : c1 = c2
  · by_cases e2 : s1 = s2
    · by_cases e3 : q1 = q2
      · subst e1; subst e2; subst e3; simp [go_sem]
      · have e4 : (q1 == q2) = false := by simpa using e3
        subst e1; subst e2; simp [go_sem, e3, e4]
    · have e4 : (s1 == s2) = false := by simpa using e2
      subst e1; simp [go_sem, e2, e4]
  · have e4 : (c1 == c2) = false := by simpa using e1
    simp [go_sem, e1, e4]
theorem St.lt_self (a : St) : a.lt a = false := by unfold St.lt; simp
theorem St.lt_not {a b : St} (h : a.lt b = true) : b.lt a = false := by unfold St.lt at *; simp at *; omega
theorem St.lt_trans {a b c : St} (h : a.lt b = true) (k : b.lt c = true) : a.lt c = true := by unfold St.lt at *; simp at *; omega
theorem St.lt_eq {a b : St} (h : a.lt b = false) (k : b.lt a = false) : a = b := by
  unfold St.lt at *
  simp at *
  exact St.ext' (by omega) (by omega) (by omega)
end Go.Proofs.Ythifmfgnblecbaa
