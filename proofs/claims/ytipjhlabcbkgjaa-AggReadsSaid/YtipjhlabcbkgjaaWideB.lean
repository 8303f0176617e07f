/- Joined: WideDiv, WideDec, WideOwn, WideText, WideNum, WideParse, WideAwake, WideTri. -/
import Derived.Test.YtipjhlabcbkgjaaWideA
import Derived.Deep.DeepCutAuto
import Derived.Deep.CutBlock
import Derived.BigQuiet
import Derived.Deep.QuietTactic
import Derived.Deep.RegionHeld3
import Derived.Laws.AppendOwn
import Derived.Laws.IdiomStrings
import Derived.OwnWalk
import Derived.Handy
import Derived.BigRegion
import Derived.Deep.RegionWith
/- Contracts of package wide's functions that part a number, and of math/bits.Div64 by ten, over the seat's translation. -/
namespace Go.Proofs.Ytipjhlabcbkgjaa
open Go.RowKit Go.Proofs.Ytipjhlabcbkgjaa.Wd

/-- Small: the lower half read as a signed number, if the number is that. -/
def isSmall (a : Int) : Bool := decide (-9223372036854775808 ≤ a ∧ a ≤ 9223372036854775807)
theorem rep_small {n : Int} (h0 : -9223372036854775808 ≤ n) (h1 : n ≤ 9223372036854775807) : ∃ x y, Rep x y n := rep_of (by unfold InW; omega)

theorem keep2 {b : Nat} {x y : Value} {w0 w1 w2 : World} (h : w1.cell? ⟨b, 0, none⟩ = some x ∧ w1.cell? ⟨b, 1, none⟩ = some y ∧ Below w0.heap.size w0 w1) (hb : Below w1.heap.size w1 w2) : w2.cell? ⟨b, 0, none⟩ = some x ∧ w2.cell? ⟨b, 1, none⟩ = some y ∧ Below w0.heap.size w0 w2 := by
  obtain ⟨h1, h2, h3⟩ := h
  exact ⟨(hb.cell (World.block_lt_of_cell? w1 _ h1)).trans h1, (hb.cell (World.block_lt_of_cell? w1 _ h2)).trans h2, h3.trans (hb.mono h3.size)⟩

set_option maxHeartbeats 400000 in
theorem small_yes (h l a : Int) (w : World) (A : Rep h l a) (hs : isSmall a = true) :
    Calls Try.prog 62 #[.agg #[.int .i64 (h), .int .u64 (l)]] w fun e w' => e = .returned (.tuple #[.int .i64 a, .bool true]) ∧ Below w.heap.size w w' := by
  have hb := of_decide_eq_true hs
  have hw : wrap64 l = a := by
    obtain ⟨p1, p2, p3, p4, p5⟩ := A
    rw [wrap64_is]; omega
  go_enter Try.func62, Try.ntmps62
  go_wp2_with fail
  go_region_held3 (fun w' => w'.cell? ⟨w.heap.size, 0, none⟩ = some (.int .i64 h) ∧ w'.cell? ⟨w.heap.size, 1, none⟩ = some (.int .u64 l) ∧ Below w.heap.size w w') ((first | exact ⟨by simp [go_sem], by simp [go_sem], by (repeat (first | exact Below.refl _ _ | refine Below.drew ?_ | refine below_drewN ?_ _ | (refine Below.setCell ?_ (by simp; try omega) _) | (refine below_new ?_ _ (by simp; try omega)) | (refine below_on ?_ (by assumption)) | (refine below_next ?_ (by assumption) (by simp; try omega)) | assumption))⟩ | exact keep2 (by assumption) (by assumption)))
    ((first | (go_at_call 32; refine (of_any a h l _ hb.1 hb.2 A).mono ?_; rintro e w' ⟨rfl, hb'⟩)))
  all_goals
    rename_i hS
    have hbel := hS.2.2
    go_wp2
    go_ret2
    exact ⟨rfl, hbel⟩

set_option maxHeartbeats 400000 in
theorem small_no (h l a : Int) (w : World) (A : Rep h l a) (hs : isSmall a = false) :
    Calls Try.prog 62 #[.agg #[.int .i64 (h), .int .u64 (l)]] w fun e w' => e = .returned (.tuple #[.int .i64 0, .bool false]) ∧ Below w.heap.size w w' := by
  have hb := of_decide_eq_false hs
  obtain ⟨n, hn⟩ : ∃ n, wrap64 l = n := ⟨_, rfl⟩
  have hn1 : -9223372036854775808 ≤ n ∧ n ≤ 9223372036854775807 := by rw [← hn, wrap64_is]; omega
  obtain ⟨x, y, X⟩ := rep_small hn1.1 hn1.2
  have hyl : y = l := by
    obtain ⟨p1, p2, p3, p4, p5⟩ := A
    obtain ⟨q1, q2, q3, q4, q5⟩ := X
    rw [wrap64_is] at hn
    omega
  rw [hyl] at X
  have hne : (x == h) = false := by
    obtain ⟨p1, p2, p3, p4, p5⟩ := A
    obtain ⟨q1, q2, q3, q4, q5⟩ := X
    rw [wrap64_is] at hn
    simp; omega
  clear hyl
  go_enter Try.func62, Try.ntmps62
  go_wp2_with fail
  go_region_held3 (fun w' => w'.cell? ⟨w.heap.size, 0, none⟩ = some (.int .i64 h) ∧ w'.cell? ⟨w.heap.size, 1, none⟩ = some (.int .u64 l) ∧ Below w.heap.size w w') ((first | exact ⟨by simp [go_sem], by simp [go_sem], by (repeat (first | exact Below.refl _ _ | refine Below.drew ?_ | refine below_drewN ?_ _ | (refine Below.setCell ?_ (by simp; try omega) _) | (refine below_new ?_ _ (by simp; try omega)) | (refine below_on ?_ (by assumption)) | (refine below_next ?_ (by assumption) (by simp; try omega)) | assumption))⟩ | exact keep2 (by assumption) (by assumption)))
    ((first | (go_at_call 32; refine (of_any n x l _ hn1.1 hn1.2 X).mono ?_; rintro e w' ⟨rfl, hb'⟩)))
  all_goals
    rename_i hS
    have hbel := hS.2.2
    go_wp2
    go_ret2
    exact ⟨rfl, hbel⟩

set_option maxRecDepth 100000 in
theorem len64_ten (w : World) : Calls Try.prog 93 #[.int .u64 10] w fun e w' => e = .returned (.int .i64 4) ∧ w = w' := by
  go_enter Try.func93, Try.ntmps93
  go_wp2
  go_ret
  exact ⟨ret_int (by kernel_rfl), rfl⟩
theorem lead64_ten (w : World) : Calls Try.prog 85 #[.int .u64 10] w fun e w' => e = .returned (.int .i64 60) ∧ w = w' := by
  go_enter Try.func85, Try.ntmps85
  go_wp2_with (go_at_call 93; (with_reducible refine (len64_ten _).mono ?_); rintro e w1 ⟨rfl, rfl⟩)
  go_ret
  exact ⟨rfl, rfl⟩

theorem or_high (x y : Int) (hx : 0 ≤ x) (hx1 : x ≤ 9) (hy : 0 ≤ y) (hy1 : y ≤ 18446744073709551615) : bits .or .u64 (x * 1152921504606846976) (y / 16) = x * 1152921504606846976 + y / 16 := by
  obtain ⟨a, rfl⟩ := Int.eq_ofNat_of_zero_le hx
  obtain ⟨b, rfl⟩ := Int.eq_ofNat_of_zero_le hy
  have h := bits_or_u64_nat (a * 1152921504606846976) (b / 16) (by omega) (by omega)
  have e : (a * 1152921504606846976) ||| (b / 16) = a * 1152921504606846976 + b / 16 := by
    have := Nat.shiftLeft_add_eq_or_of_lt (i := 60) (b := b / 16) (by omega) a
    rw [Nat.shiftLeft_eq] at this
    exact this.symm
  rw [e] at h
  simpa using h

set_option maxRecDepth 100000 in
set_option maxHeartbeats 1000000 in
theorem div64_ten (x y : Int) (w : World) (hx : 1 ≤ x) (hx1 : x ≤ 9) (hy : 0 ≤ y) (hy1 : y ≤ 18446744073709551615) :
    Calls Try.prog 61 #[.int .u64 x, .int .u64 y, .int .u64 10] w fun e w' => e = .returned (.tuple #[.int .u64 ((x * 18446744073709551616 + y) / 10), .int .u64 ((x * 18446744073709551616 + y) % 10)]) ∧ w = w' := by
  have hx2 : (x == 0) = false := by simp; omega
  obtain ⟨X, hX⟩ : ∃ X, bits .or .u64 (x * 1152921504606846976) (y / 16) = X := ⟨_, rfl⟩
  have HX := Lib.hid ((or_high x y (by omega) hx1 hy hy1).symm.trans hX)
  have bX : 0 ≤ X ∧ X ≤ 11529215046068469759 := by have := HX.out; omega
  obtain ⟨bX1, bX2⟩ := bX
  obtain ⟨q, hq⟩ : ∃ q, X / 2684354560 = q := ⟨_, rfl⟩
  have bq : 0 ≤ q ∧ q ≤ 4294967295 ∧ q * 2684354560 ≤ X ∧ X ≤ q * 2684354560 + 2684354559 := by omega
  obtain ⟨bq1, bq2, bq3, bq4⟩ := bq
  obtain ⟨Y, hY⟩ : ∃ Y, IntKind.u64.wrap (y * 1152921504606846976) = Y := ⟨_, rfl⟩
  have HY : Hid (Y = (y % 16) * 1152921504606846976) := by show _ = _; rw [← hY, IntKind.wrap_u64]; omega
  have bY : 0 ≤ Y ∧ Y ≤ 18446744073709551615 := by rw [← hY, IntKind.wrap_u64]; omega
  have hY0 : bits .and .u64 Y 4294967295 = 0 := by rw [mask32 Y bY.1 bY.2, HY.out]; omega
  obtain ⟨Y1, hY1⟩ : ∃ Y1, Y / 4294967296 = Y1 := ⟨_, rfl⟩
  have HY1 : Hid (Y1 = (y % 16) * 268435456) := by show _ = _; rw [← hY1, HY.out]; omega
  have bY1 : 0 ≤ Y1 ∧ Y1 ≤ 4294967295 := by rw [← hY1]; omega
  obtain ⟨Z, hZ⟩ : ∃ Z, IntKind.u64.wrap (IntKind.u64.wrap (IntKind.u64.wrap (X * 4294967296) + Y1) - IntKind.u64.wrap (q * 11529215046068469760)) = Z := ⟨_, rfl⟩
  have HZ : Hid (Z = (X - q * 2684354560) * 4294967296 + Y1) := by show _ = _; rw [← hZ]; simp only [IntKind.wrap_u64]; omega
  have bZ : 0 ≤ Z ∧ Z ≤ 11529215046068469759 := by have := HZ.out; omega
  obtain ⟨bZ1, bZ2⟩ := bZ
  obtain ⟨r, hr⟩ : ∃ r, Z / 2684354560 = r := ⟨_, rfl⟩
  have br : 0 ≤ r ∧ r ≤ 4294967295 ∧ r * 2684354560 ≤ Z ∧ Z ≤ r * 2684354560 + 2684354559 := by omega
  obtain ⟨br1, br2, br3, br4⟩ := br
  have hm : bits .and .u64 11529215046068469760 4294967295 = 0 := by kernel_rfl
  go_enter Try.func61, Try.ntmps61
  go_upto_block 1 with (go_at_call 85; (with_reducible refine (lead64_ten _).mono ?_); rintro e w1 ⟨rfl, rfl⟩)
  refine wp_loop_rounds 1 ?_
  rw [rounds_succ]
  go_wp2_with fail
  refine wp_loop_rounds 1 ?_
  rw [rounds_succ]
  go_wp2_with fail
  go_ret2
  refine ⟨tup2 ?_ ?_, rfl⟩
  · have e1 := HX.out
    have e2 := HY1.out
    have e3 := HZ.out
    clear hX hY hY0 hZ hm HX HY HZ HY1
    first | omega | show False
  · have e1 := HX.out
    have e2 := HY1.out
    have e3 := HZ.out
    clear hX hY hY0 hZ hm HX HY HZ HY1
    simp only [IntKind.wrap_u64]
    first | omega | show False

set_option maxRecDepth 100000 in
set_option maxHeartbeats 1000000 in
theorem div64_zero (y : Int) (w : World) (hy : 0 ≤ y) (hy1 : y ≤ 18446744073709551615) :
    Calls Try.prog 61 #[.int .u64 0, .int .u64 y, .int .u64 10] w fun e w' => e = .returned (.tuple #[.int .u64 (y / 10), .int .u64 (y % 10)]) ∧ Below w.heap.size w w' := by
  go_enter Try.func61, Try.ntmps61
  go_wp2_with fail
  go_quiet (fail)
  go_wp2
  go_ret2
  exact ⟨rfl, by (repeat (first | exact Below.refl _ _ | refine Below.drew ?_ | refine below_drewN ?_ _ | (refine Below.setCell ?_ (by simp; try omega) _) | (refine below_new ?_ _ (by simp; try omega)) | (refine below_on ?_ (by assumption)) | (refine below_next ?_ (by assumption) (by simp; try omega)) | assumption))⟩

/-- A number in two halves without its last digit, and that digit. -/
theorem div64_any (x y : Int) (w : World) (hx : 0 ≤ x) (hx1 : x ≤ 9) (hy : 0 ≤ y) (hy1 : y ≤ 18446744073709551615) :
    Calls Try.prog 61 #[.int .u64 x, .int .u64 y, .int .u64 10] w fun e w' => e = .returned (.tuple #[.int .u64 ((x * 18446744073709551616 + y) / 10), .int .u64 ((x * 18446744073709551616 + y) % 10)]) ∧ Below w.heap.size w w' := by
  by_cases h : x = 0
  · subst h
    have := div64_zero y w hy hy1
    simpa using this
  · refine (div64_ten x y w (by omega) hx1 hy hy1).mono ?_
    rintro e w' ⟨rfl, rfl⟩
    exact ⟨rfl, Below.refl _ _⟩

/-- What is left of the number a without its last digit lies in the halves x and y. -/
structure URep (x y a : Int) : Prop where
  x0 : 0 ≤ x
  x1 : x ≤ 18446744073709551615
  y0 : 0 ≤ y
  y1 : y ≤ 18446744073709551615
  eq : a = x * 18446744073709551616 + y

theorem tup3 {a b : Int} {u v : Value} {k : IntKind} (h : a = b) : Ending.returned (.tuple #[.int k a, u, v]) = .returned (.tuple #[.int k b, u, v]) := by rw [h]

/-- The absolute value of a, in halves. -/
theorem urep_abs {a : Int} (h : InW a) : ∃ x y, URep x y (a.natAbs : Int) := by
  obtain ⟨h1, h2⟩ := h
  exact ⟨(a.natAbs : Int) / 18446744073709551616, (a.natAbs : Int) % 18446744073709551616, by omega, by omega, by omega, by omega, by omega⟩

end Go.Proofs.Ytipjhlabcbkgjaa

/- Plain mathematics of decimal digits: it imports nothing of the program. -/
namespace Go.Proofs.Ytipjhlabcbkgjaa
namespace Wd

/-- The digits of a number in at most so many places, none for 0. -/
def decF : Nat → Nat → List UInt8
  | 0, _ => []
  | k + 1, n => if n = 0 then [] else decF k (n / 10) ++ [UInt8.ofNat (48 + n % 10)]
def decz (n : Nat) : List UInt8 := decF 40 n
/-- A number in decimal. -/
def dec (n : Nat) : List UInt8 := if n = 0 then [48] else decz n
/-- A whole number in decimal. -/
def textOf (a : Int) : List UInt8 := if a < 0 then 45 :: dec a.natAbs else dec a.natAbs

theorem decF_more (k : Nat) : ∀ n, n < 10 ^ k → decF k n = decF (k + 1) n := by
  induction k with
  | zero =>
    intro n h
    have : n = 0 := by simpa using h
    subst this; rfl
  | succ k ih =>
    intro n h
    rw [decF, decF]
    by_cases h0 : n = 0
    · rw [if_pos h0, if_pos h0]
    · rw [if_neg h0, if_neg h0, ih (n / 10) (by rw [Nat.pow_succ] at h; omega)]
theorem decz_zero : decz 0 = [] := rfl
theorem decz_step (n : Nat) (h0 : n ≠ 0) (h : n < 10000000000000000000000000000000000000000) : decz n = decz (n / 10) ++ [UInt8.ofNat (48 + n % 10)] := by
  unfold decz
  rw [decF, if_neg h0, decF_more 39 (n / 10) (by
    have : (10 : Nat) ^ 39 = 1000000000000000000000000000000000000000 := by decide
    omega)]
theorem decF_length (k : Nat) : ∀ j n, n < 10 ^ j → (decF k n).length ≤ j := by
  induction k with
  | zero => intro j n _; exact Nat.zero_le _
  | succ k ih =>
    intro j n h
    rw [decF]
    by_cases h0 : n = 0
    · rw [if_pos h0]; exact Nat.zero_le _
    · rw [if_neg h0]
      cases j with
      | zero => exact absurd (by simpa using h) h0
      | succ j =>
        have := ih j (n / 10) (by rw [Nat.pow_succ] at h; omega)
        simp; exact this
theorem dec_length (n : Nat) (h : n < 1000000000000000000000000000000000000000) : (dec n).length ≤ 39 := by
  unfold dec
  split
  · decide
  · exact decF_length 40 39 n (by
      have : (10 : Nat) ^ 39 = 1000000000000000000000000000000000000000 := by decide
      omega)

/-- The number that digits say. -/
def valD (l : List UInt8) : Nat := l.foldl (fun v c => v * 10 + (c.toNat - 48)) 0
theorem valD_snoc (l : List UInt8) (c : UInt8) : valD (l ++ [c]) = valD l * 10 + (c.toNat - 48) := by
  unfold valD; rw [List.foldl_append]; rfl
theorem digit_toNat (d : Nat) (h : d < 10) : (UInt8.ofNat (48 + d)).toNat = 48 + d := by
  rw [UInt8.toNat_ofNat']; exact Nat.mod_eq_of_lt (by omega)
theorem valD_decF (k : Nat) : ∀ n, n < 10 ^ k → valD (decF k n) = n := by
  induction k with
  | zero =>
    intro n h
    have : n = 0 := by simpa using h
    subst this; rfl
  | succ k ih =>
    intro n h
    rw [decF]
    by_cases h0 : n = 0
    · rw [if_pos h0, h0]; rfl
    · rw [if_neg h0, valD_snoc, ih (n / 10) (by rw [Nat.pow_succ] at h; omega), digit_toNat _ (Nat.mod_lt _ (by decide))]
      omega
theorem valD_dec (n : Nat) (h : n < 10000000000000000000000000000000000000000) : valD (dec n) = n := by
  unfold dec
  split
  · rename_i h0; rw [h0]; rfl
  · exact valD_decF 40 n (by
      have : (10 : Nat) ^ 40 = 10000000000000000000000000000000000000000 := by decide
      omega)
/-- A digit's sign. -/
def isDig (c : UInt8) : Bool := decide (48 ≤ c.toNat ∧ c.toNat ≤ 57)
theorem dig_of (d : Nat) (h : d < 10) : isDig (UInt8.ofNat (48 + d)) = true := by
  unfold isDig; rw [digit_toNat d h]; simp; omega
theorem decF_digits (k : Nat) : ∀ n, (decF k n).all isDig = true := by
  induction k with
  | zero => intro n; rfl
  | succ k ih =>
    intro n
    rw [decF]
    split
    · rfl
    · rw [List.all_append, ih, List.all_cons, dig_of _ (Nat.mod_lt _ (by decide))]; rfl
theorem dec_digits (n : Nat) : (dec n).all isDig = true := by
  unfold dec; split
  · decide
  · exact decF_digits 40 n
theorem decF_head (k : Nat) : ∀ n, n ≠ 0 → n < 10 ^ k → ∃ c t, decF k n = c :: t ∧ c ≠ 48 := by
  induction k with
  | zero => intro n h0 h; exact absurd (by simpa using h) h0
  | succ k ih =>
    intro n h0 h
    rw [decF, if_neg h0]
    by_cases h1 : n / 10 = 0
    · rw [h1]
      refine ⟨UInt8.ofNat (48 + n % 10), [], ?_, ?_⟩
      · cases k <;> simp [decF]
      · intro e
        have := congrArg UInt8.toNat e
        rw [digit_toNat _ (Nat.mod_lt _ (by decide))] at this
        have h48 : (48 : UInt8).toNat = 48 := by decide
        omega
    · obtain ⟨c, t, e, hc⟩ := ih (n / 10) h1 (by rw [Nat.pow_succ] at h; omega)
      exact ⟨c, t ++ [UInt8.ofNat (48 + n % 10)], by rw [e]; rfl, hc⟩
theorem dec_head (n : Nat) (h0 : n ≠ 0) (h : n < 10000000000000000000000000000000000000000) : ∃ c t, dec n = c :: t ∧ c ≠ 48 := by
  unfold dec
  rw [if_neg h0]
  exact decF_head 40 n h0 (by
    have : (10 : Nat) ^ 40 = 10000000000000000000000000000000000000000 := by decide
    omega)
theorem dec_ne (n : Nat) (h : n < 10000000000000000000000000000000000000000) : dec n ≠ [] := by
  by_cases h0 : n = 0
  · subst h0; decide
  · obtain ⟨c, t, e, _⟩ := dec_head n h0 h
    rw [e]; exact List.cons_ne_nil _ _
theorem dec_inj {m n : Nat} (h : m < 10000000000000000000000000000000000000000) (g : n < 10000000000000000000000000000000000000000) (e : dec m = dec n) : m = n := by
  rw [← valD_dec m h, ← valD_dec n g, e]

theorem inW_abs {a : Int} (h : InW a) : a.natAbs ≤ 170141183460469231731687303715884105728 := by
  obtain ⟨h1, h2⟩ := h
  omega
theorem dec_first (n : Nat) (h : n < 10000000000000000000000000000000000000000) : ∃ c t, dec n = c :: t ∧ isDig c = true := by
  have hd := dec_digits n
  cases e : dec n with
  | nil => exact absurd e (dec_ne n h)
  | cons c t =>
    rw [e, List.all_cons, Bool.and_eq_true] at hd
    exact ⟨c, t, rfl, hd.1⟩
theorem textOf_inj {a b : Int} (h : InW a) (g : InW b) (e : textOf a = textOf b) : a = b := by
  have ha := inW_abs h
  have hb := inW_abs g
  unfold textOf at e
  have no : ∀ n : Nat, n < 10000000000000000000000000000000000000000 → ∀ l : List UInt8, (45 : UInt8) :: l ≠ dec n := by
    intro n hn l e
    obtain ⟨c, t, e2, hc⟩ := dec_first n hn
    rw [e2] at e
    have := (List.cons.inj e).1
    rw [← this] at hc
    exact absurd hc (by decide)
  split at e <;> split at e
  · have := dec_inj (by omega) (by omega) (List.cons.inj e).2; omega
  · exact absurd e (no _ (by omega) _)
  · exact absurd e.symm (no _ (by omega) _)
  · have := dec_inj (by omega) (by omega) e; omega
theorem textOf_length {a : Int} (h : InW a) : 0 < (textOf a).length ∧ (textOf a).length ≤ 40 := by
  have ha := inW_abs h
  have h1 := dec_length a.natAbs (by omega)
  have h2 := List.length_pos_iff.2 (dec_ne a.natAbs (by omega))
  unfold textOf
  split
  · simp; omega
  · omega
theorem textOf_sign {a : Int} (h : InW a) : (textOf a).head? = some 45 ↔ a < 0 := by
  have ha := inW_abs h
  unfold textOf
  split
  · rename_i hn; simp [hn]
  · rename_i hn
    obtain ⟨c, t, e, hc⟩ := dec_first a.natAbs (by omega)
    rw [e]
    simp
    constructor
    · intro e2; rw [e2] at hc; exact absurd hc (by decide)
    · intro e2; exact absurd e2 hn
end Wd
end Go.Proofs.Ytipjhlabcbkgjaa

/- Rows of bytes that a call has made: kept through calls that write above, grown by the closure of Text, turned round by slices.Reverse. -/
namespace Go.Proofs.Ytipjhlabcbkgjaa
open Go.RowKit Go.Proofs.Ytipjhlabcbkgjaa.Wd

theorem winfoB : (Try.prog.info? 5).map (fun i => (i.zero, i.size, i.bytes)) = some (some (.int .u8 0), 1, 1) := by kernel_rfl

theorem wownsRow_slice {w : World} {base size n : Nat} {e : TypeId} {v : Value} {xs : List Value} (h : w.ownsRow base e size v n xs) : ∃ a m c, v = .slice a m c := by
  rcases h.2 with ⟨h, _⟩ | ⟨g, cap, cur, h, _⟩
  · exact ⟨_, _, _, h⟩
  · exact ⟨_, _, _, h⟩
theorem ownsRow_below {w w' : World} {base size n : Nat} {e : TypeId} {v : Value} {xs : List Value} (h : w.ownsRow base e size v n xs) (hb : Below w.heap.size w w') : w'.ownsRow base e size v n xs := by
  obtain ⟨h1, h2⟩ := h
  refine ⟨h1, ?_⟩
  rcases h2 with h2 | ⟨g, cap, cur, hv, hg, hh, r⟩
  · exact Or.inl h2
  · have hlt : g < w.heap.size := (Array.getElem?_eq_some_iff.1 hh).1
    exact Or.inr ⟨g, cap, cur, hv, hg, by rw [hb.block g hlt]; exact hh, r⟩

/-- A byte as a cell holds it. -/
def wbcellv (c : UInt8) : Value := .int .u8 (c.toNat : Int)

/-- The variable in block b holds a slice that the call has made, of the bytes xs. -/
structure TextAt (w : World) (b : Nat) (v : Value) (xs : List UInt8) : Prop where
  cell : w.cell? ⟨b, 0, none⟩ = some v
  free : w.frozen? ⟨b, 0, none⟩ = false
  own : w.ownsRow (b + 1) 5 1 v xs.length (xs.map wbcellv)
theorem TextAt.room {w : World} {b : Nat} {v : Value} {xs : List UInt8} (h : TextAt w b v xs) : b < w.heap.size := World.block_lt_of_cell? w _ h.cell
theorem TextAt.below {w w' : World} {b : Nat} {v : Value} {xs : List UInt8} (h : TextAt w b v xs) (hb : Below w.heap.size w w') : TextAt w' b v xs :=
  ⟨(hb.cell (p := ⟨b, 0, none⟩) h.room).trans h.cell, (hb.frozen (p := ⟨b, 0, none⟩) h.room).trans h.free, ownsRow_below h.own hb⟩

/-- What the closure of Text leaves: one byte more. -/
def PutDone (b : Nat) (xs : List UInt8) (c : UInt8) (w : World) (e : Ending) (w' : World) : Prop := e = .returned (.tuple #[]) ∧ ∃ v', TextAt w' b v' (xs ++ [c]) ∧ Below b w w'

/-- Block g holds n bytes, the p-th f p, and they may be written. -/
def BytesFn (w : World) (g n : Nat) (f : Nat → UInt8) : Prop := ∀ p, p < n → w.cell? ⟨g, p, none⟩ = some (.int .u8 ((f p).toNat : Int)) ∧ w.frozen? ⟨g, p, none⟩ = false
def upd (f : Nat → UInt8) (p : Nat) (c : UInt8) : Nat → UInt8 := fun q => if q = p then c else f q
theorem BytesFn.stored {w : World} {g n : Nat} {f : Nat → UInt8} (h : BytesFn w g n f) (p : Nat) (hp : p < n) (c : UInt8) : BytesFn (w.setCell ⟨g, p, none⟩ (.int .u8 (c.toNat : Int))) g n (upd f p c) := by
  intro q hq
  refine ⟨?_, by simp [go_sem, (h q hq).2]⟩
  unfold upd
  by_cases e : q = p
  · subst e
    rw [if_pos rfl]; simp [go_sem, (h q hq).1]
  · rw [if_neg e, World.cell?_setCell_other]
    · exact (h q hq).1
    · intro e2; exact e (congrArg Addr.off e2).symm
theorem BytesFn.drew {w : World} {g n : Nat} {f : Nat → UInt8} (h : BytesFn w g n f) : BytesFn w.drew g n f := fun p hp => h p hp
theorem BytesFn.room {w : World} {g n : Nat} {f : Nat → UInt8} (h : BytesFn w g n f) (hn : 0 < n) : g < w.heap.size := World.block_lt_of_cell? w _ (h 0 hn).1

/-- The first k and the last k bytes have changed places. -/
def Turned (f h : Nat → UInt8) (n k : Nat) : Prop := ∀ p, p < n → h p = if p < k ∨ n - 1 - k < p then f (n - 1 - p) else f p
theorem Turned.start (f : Nat → UInt8) (n : Nat) : Turned f f n 0 := fun p hp => by rw [if_neg (by omega)]
theorem Turned.next {f h : Nat → UInt8} {n k : Nat} (t : Turned f h n k) (hk : 2 * k + 1 < n) : Turned f (upd (upd h k (h (n - 1 - k))) (n - 1 - k) (h k)) n (k + 1) := by
  intro p hp
  have t1 := t k (by omega)
  have t2 := t (n - 1 - k) (by omega)
  rw [if_neg (by omega)] at t1 t2
  unfold upd
  by_cases e1 : p = n - 1 - k
  · rw [if_pos e1, if_pos (by omega), t1]; congr 1; omega
  · rw [if_neg e1]
    by_cases e2 : p = k
    · rw [if_pos e2, if_pos (by omega), t2]; congr 1; omega
    · rw [if_neg e2, t p hp]
      by_cases e3 : p < k ∨ n - 1 - k < p
      · rw [if_pos e3, if_pos (by omega)]
      · rw [if_neg e3, if_neg (by omega)]
theorem Turned.done {f h : Nat → UInt8} {n k : Nat} (t : Turned f h n k) (hk : n ≤ 2 * k + 1) (p : Nat) (hp : p < n) : h p = f (n - 1 - p) := by
  rw [t p hp]
  split
  · rfl
  · congr 1; omega

end Go.Proofs.Ytipjhlabcbkgjaa

/- The contract of package wide's Text: the decimal text of the number. -/
namespace Go.Proofs.Ytipjhlabcbkgjaa
open Go.RowKit Go.Proofs.Ytipjhlabcbkgjaa.Wd

theorem ownsRow_len {w : World} {base size n : Nat} {e : TypeId} {v : Value} {xs : List Value} (h : w.ownsRow base e size v n xs) : ∃ a c, v = .slice a n c := by
  rcases h.2 with ⟨h, h0⟩ | ⟨g, cap, cur, h, _⟩
  · exact ⟨_, _, by rw [h, h0]⟩
  · exact ⟨_, _, h⟩
def lenZero : Option Value → Nat
  | some (.slice _ n _) => if n = 0 then 1 else 0
  | _ => 0
/-- What the loop of Text lowers. -/
def meas (B : Nat) (a b : Value) (wr : World) : Nat := 2 * (intOf a * 18446744073709551616 + intOf b).toNat + lenZero (wr.cell? ⟨B, 0, none⟩)

/-- What the loop of Text has done: M is left of N, xs are the digits so far, the last one first. -/
structure TextRel (w wr : World) (B N M : Nat) (x y : Int) (a : Option Addr) (cp : Nat) (xs : List UInt8) : Prop where
  halves : URep x y (M : Int)
  at_ : TextAt wr B (.slice a xs.length cp) xs
  first : xs = [] → M = N
  later : xs ≠ [] → dec N = decz M ++ xs.reverse
  below : Below B w wr
  small : M < 10000000000000000000000000000000000000000

theorem TextRel.next {w wr w1 w2 : World} {B N M : Nat} {x y x' y' : Int} {a : Option Addr} {cp : Nat} {xs : List UInt8} {v' : Value} {c : UInt8} (R : TextRel w wr B N M x y a cp xs) (hc : c = UInt8.ofNat (48 + M % 10))
    (h0 : xs ≠ [] → M ≠ 0) (X : URep x' y' ((M : Int) / 10)) (h1 : Below wr.heap.size wr w1) (h2 : TextAt w2 B v' (xs ++ [c])) (h3 : Below B w1 w2) : ∃ a' cp', v' = .slice a' (xs.length + 1) cp' ∧ TextRel w w2 B N (M / 10) x' y' a' cp' (xs ++ [c]) := by
  obtain ⟨a', cp', rfl⟩ := ownsRow_len h2.own
  refine ⟨a', cp', by simp, ?_⟩
  refine ⟨X, h2, fun e => absurd e (by simp), fun _ => ?_, (R.below.trans (h1.mono (Nat.le_of_lt R.at_.room))).trans h3, by have := R.small; omega⟩
  rw [List.reverse_append, List.reverse_singleton, ← List.append_assoc, hc]
  by_cases hx : xs = []
  · have := R.first hx
    subst hx
    subst this
    by_cases hM : M = 0
    · subst hM; rfl
    · show dec M = _
      unfold dec
      rw [if_neg hM, decz_step M hM R.small]; simp
  · rw [R.later hx, decz_step M (h0 hx) R.small]
theorem TextRel.len {w wr : World} {B N M : Nat} {x y : Int} {a : Option Addr} {cp : Nat} {xs : List UInt8} (R : TextRel w wr B N M x y a cp xs) (hN : N < 1000000000000000000000000000000000000000) : xs.length ≤ 39 := by
  by_cases hx : xs = []
  · subst hx; simp
  · have := dec_length N hN
    rw [R.later hx] at this
    simp at this; omega

theorem meas_is {w wr : World} {B N M : Nat} {x y : Int} {a : Option Addr} {cp : Nat} {xs : List UInt8} (R : TextRel w wr B N M x y a cp xs) : meas B (.int .u64 x) (.int .u64 y) wr = 2 * M + if xs = [] then 1 else 0 := by
  unfold meas
  rw [R.at_.cell]
  have := R.halves.eq
  show 2 * (x * 18446744073709551616 + y).toNat + (if xs.length = 0 then 1 else 0) = _
  rw [← this]
  by_cases hx : xs = []
  · subst hx; simp
  · have : xs.length ≠ 0 := fun e => hx (List.eq_nil_of_length_eq_zero e)
    rw [if_neg this, if_neg hx]; simp
theorem meas_lt {w wr w' : World} {B N M : Nat} {x y x' y' : Int} {a a' : Option Addr} {cp cp' : Nat} {xs : List UInt8} {c : UInt8} (R : TextRel w wr B N M x y a cp xs) (R' : TextRel w w' B N (M / 10) x' y' a' cp' (xs ++ [c]))
    (h : xs = [] ∨ M ≠ 0) : meas B (.int .u64 x') (.int .u64 y') w' < meas B (.int .u64 x) (.int .u64 y) wr := by
  rw [meas_is R, meas_is R', if_neg (by simp)]
  rcases h with rfl | h
  · rw [if_pos rfl]; omega
  · split <;> omega
theorem urep_div {x y : Int} {M : Nat} (h : URep x y (M : Int)) : ∃ x' y', URep x' y' ((M : Int) / 10) := by
  obtain ⟨p1, p2, p3, p4, p5⟩ := h
  exact ⟨(M : Int) / 10 / 18446744073709551616, (M : Int) / 10 % 18446744073709551616, by omega, by omega, by omega, by omega, by omega⟩
theorem TextAt.bytes {w : World} {b : Nat} {v : Value} {xs : List UInt8} (h : TextAt w b v xs) (hx : xs ≠ []) (n : Nat) (hn : xs.length = n) : ∃ g cp, v = .slice (some ⟨g, 0, none⟩) n cp ∧ b + 1 ≤ g ∧ BytesFn w g n (fun p => xs.getD p 0) := by
  subst hn
  have hown := h.own
  obtain ⟨hl, h2⟩ := hown
  rcases h2 with ⟨_, h0⟩ | ⟨g, cap, cur, hv, hg, hh, hn, hm, hs, ht⟩
  · exact absurd (List.eq_nil_of_length_eq_zero h0) hx
  · subst hv
    refine ⟨g, cap, rfl, hg, fun p hp => ?_⟩
    have e1 := World.ownsRow.cellAt h.own p (by omega)
    have e2 := World.ownsRow.frozenAt h.own p
    refine ⟨?_, e2⟩
    rw [e1]
    simp [hp, wbcellv]
theorem back_run {w : World} {g n : Nat} {f : Nat → UInt8} (h : BytesFn w g n f) (cp : Nat) : (convert 92 9 (.slice (some ⟨g, 0, none⟩) n cp)).run Try.prog w = .ok (.string ⟨((List.range n).map f).toArray⟩) w := by
  have := run_convert_bytes_back (P := Try.prog) w 92 9 5 ⟨g, 0, none⟩ cp ((List.range n).map f) Try.underlying92 Try.underlying5 Try.underlying9 fun j hj => ?_
  · simpa using this
  · have hj' : j < n := by simpa using hj
    have hp : (⟨g, 0, none⟩ : Addr).add j = ⟨g, j, none⟩ := by unfold Addr.add; split <;> simp_all
    rw [hp, (h j hj').1]; simp
theorem rev_list (ys : List UInt8) : (List.range ys.length).map (fun p => ys.getD (ys.length - 1 - p) 0) = ys.reverse := by
  apply List.ext_getElem
  · simp
  · intro i h1 h2
    have hi : i < ys.length := by simpa using h1
    simp [List.getD_eq_getElem?_getD]
    rw [List.getElem?_eq_getElem (by omega)]; rfl
theorem back_rev {w : World} {g n : Nat} {ys t : List UInt8} (h : BytesFn w g n (fun p => ys.getD (n - 1 - p) 0)) (cp : Nat) (hn : ys.length = n) (ht : Hid (t = ys.reverse)) : (convert 92 9 (.slice (some ⟨g, 0, none⟩) n cp)).run Try.prog w = .ok (.string ⟨t.toArray⟩) w := by
  subst hn
  rw [back_run h cp, rev_list, ht.out]
theorem Wd.Rep.sign {h l a : Int} (A : Rep h l a) : h < 0 ↔ a < 0 := by
  obtain ⟨q1, q2, q3, q4, q5⟩ := A
  omega
theorem makeFunc_run (fn : Fn) (first cap : Array Value) (w : World) : (Instr.makeFunc fn first cap).run Try.prog w = .ok (.func fn first cap) w := rfl

end Go.Proofs.Ytipjhlabcbkgjaa

/- Contracts of package wide's isNumber, and of strings.TrimPrefix and CutPrefix by a minus sign. -/
namespace Go.Proofs.Ytipjhlabcbkgjaa
open Go.RowKit Go.Proofs.Ytipjhlabcbkgjaa.Wd

abbrev minus : ByteArray := { data := #[45] }
/-- Is a minus sign ahead? The text without it. -/
def negB (s : ByteArray) : Bool := decide (s.data.toList.head? = some 45)
def body (s : ByteArray) : ByteArray := if negB s then s.extract 1 s.size else s

theorem ret_bool {a b : Bool} (h : a = b) : Ending.returned (.bool a) = .returned (.bool b) := by rw [h]
theorem ret_str {a b : ByteArray} (h : a = b) : Ending.returned (.string a) = .returned (.string b) := by rw [h]
theorem size_list (s : ByteArray) : s.size = s.data.toList.length := by simp
theorem first_is (s : ByteArray) : ((s.extract 0 1).toList == [45]) = negB s := by
  rw [ByteArray.toList_eq]
  unfold negB
  rw [Bool.eq_iff_iff]
  cases h : s.data.toList with
  | nil => simp [ByteArray.data_extract, h]
  | cons c t => simp [ByteArray.data_extract, h]

theorem neg_size (s : ByteArray) (h : negB s = true) : 1 ≤ s.size := by
  have h := of_decide_eq_true h
  rw [size_list]
  cases e : s.data.toList with
  | nil => rw [e] at h; simp at h
  | cons c t => simp

/-- Whether a text is how some whole number is written. -/
def numB (l : List UInt8) : Bool :=
  match (if l.head? = some 45 then l.tail else l) with
  | [] => false
  | c :: t => if c = 48 then decide (l = [48]) else (c :: t).all isDig

theorem body_list (s : ByteArray) : (body s).data.toList = if s.data.toList.head? = some 45 then s.data.toList.tail else s.data.toList := by
  unfold body negB
  by_cases h : s.data.toList.head? = some 45
  · rw [if_pos (by simpa using h), if_pos h]
    simp [ByteArray.data_extract]
    rw [List.take_of_length_le (by simp)]
  · rw [if_neg (by simpa using h), if_neg h]
theorem numB_nil (s : ByteArray) (h : (body s).size = 0) : numB s.data.toList = false := by
  unfold numB
  rw [← body_list]
  have : (body s).data.toList = [] := List.eq_nil_of_length_eq_zero (by rw [← size_list]; exact h)
  rw [this]
theorem numB_cons (s : ByteArray) (h : 0 < (body s).size) : numB s.data.toList = if (body s)[0] = 48 then decide (s.data.toList = [48]) else (body s).data.toList.all isDig := by
  unfold numB
  rw [← body_list]
  cases e : (body s).data.toList with
  | nil => rw [size_list, e] at h; simp at h
  | cons c t =>
    have : (body s)[0] = c := by
      show (body s).data[0] = c
      have := List.getElem_of_eq e (i := 0) (by rw [← size_list]; exact h)
      simpa using this
    rw [this]
theorem eq_text (s : ByteArray) (l : List UInt8) : (s.toList == l) = decide (s.data.toList = l) := by
  rw [ByteArray.toList_eq, Bool.eq_iff_iff]; simp
theorem byte_eq (c : UInt8) (n : Nat) (hn : n < 256) : ((c.toNat : Int) == (n : Int)) = decide (c = UInt8.ofNat n) := by
  rw [Bool.eq_iff_iff]
  simp
  constructor
  · intro h
    have h : c.toNat = n := by omega
    rw [← h]; simp
  · intro h
    subst h
    rw [UInt8.toNat_ofNat', Nat.mod_eq_of_lt hn]
theorem byte_48 (c : UInt8) : ((c.toNat : Int) == 48) = decide (c = 48) := byte_eq c 48 (by decide)
theorem byte_45 (c : UInt8) : ((c.toNat : Int) == 45) = decide (c = 45) := byte_eq c 45 (by decide)
theorem all_snoc (s : ByteArray) (k : Nat) (h : k < s.size) : (s.data.toList.take (k + 1)).all isDig = ((s.data.toList.take k).all isDig && isDig s[k]) := by
  rw [List.take_succ_eq_append_getElem (by simpa using h), List.all_append]
  simp; rfl

end Go.Proofs.Ytipjhlabcbkgjaa

/- The contract of package wide's Parse. -/
namespace Go.Proofs.Ytipjhlabcbkgjaa
open Go.RowKit Go.Proofs.Ytipjhlabcbkgjaa.Wd

/-- The number in range that is, modulo 2^128, what the digits of s say, with its sign. -/
def digitsOf (s : ByteArray) : Int := sm (valD (body s).data.toList)
def parsed (s : ByteArray) : Int := if negB s then sm (-(digitsOf s)) else digitsOf s

/-- The cells of a number in block b. -/
structure WideAt (w : World) (b : Nat) (h l : Int) : Prop where
  c0 : w.cell? ⟨b, 0, none⟩ = some (.int .i64 h)
  c1 : w.cell? ⟨b, 1, none⟩ = some (.int .u64 l)
  f0 : w.frozen? ⟨b, 0, none⟩ = false
  f1 : w.frozen? ⟨b, 1, none⟩ = false
theorem WideAt.room {w : World} {b : Nat} {h l : Int} (k : WideAt w b h l) : b < w.heap.size := World.block_lt_of_cell? w _ k.c0
theorem WideAt.below {w w' : World} {b : Nat} {h l : Int} (k : WideAt w b h l) (hb : Below w.heap.size w w') : WideAt w' b h l :=
  ⟨(hb.cell (p := ⟨b, 0, none⟩) k.room).trans k.c0, (hb.cell (p := ⟨b, 1, none⟩) k.room).trans k.c1, (hb.frozen (p := ⟨b, 0, none⟩) k.room).trans k.f0, (hb.frozen (p := ⟨b, 1, none⟩) k.room).trans k.f1⟩

theorem take_snoc (s : ByteArray) (k : Nat) (h : k < s.size) : s.data.toList.take (k + 1) = s.data.toList.take k ++ [s[k]] := by
  rw [List.take_succ_eq_append_getElem (by simpa using h)]; rfl
theorem sm_step (v : Int) (n : Int) (d : Int) (m : Int) (h : m = sm (sm (v * 10) + d)) (hv : v = sm n) : m = sm (n * 10 + d) := by
  rw [h, hv]
  apply sm_eq
  exact (((sm_cong _).trans ((sm_cong n).mul 10)).add Cong.rfl)

theorem keep4 {b : Nat} {x y : Value} {w0 w1 w2 : World} (hb : Below w1.heap.size w1 w2) (h : w1.cell? ⟨b, 0, none⟩ = some x ∧ w1.cell? ⟨b, 1, none⟩ = some y ∧ w1.frozen? ⟨b, 0, none⟩ = false ∧ w1.frozen? ⟨b, 1, none⟩ = false ∧ Below w0.heap.size w0 w1) :
    w2.cell? ⟨b, 0, none⟩ = some x ∧ w2.cell? ⟨b, 1, none⟩ = some y ∧ w2.frozen? ⟨b, 0, none⟩ = false ∧ w2.frozen? ⟨b, 1, none⟩ = false ∧ Below w0.heap.size w0 w2 := by
  obtain ⟨h1, h2, h3, h4, h5⟩ := h
  have r1 := World.block_lt_of_cell? w1 _ h1
  exact ⟨(hb.cell (p := ⟨b, 0, none⟩) r1).trans h1, (hb.cell (p := ⟨b, 1, none⟩) r1).trans h2, (hb.frozen (p := ⟨b, 0, none⟩) r1).trans h3, (hb.frozen (p := ⟨b, 1, none⟩) r1).trans h4, h5.trans (hb.mono h5.size)⟩
theorem rep_start (l : List UInt8) : Rep 0 0 (sm (valD (l.take 0))) := by
  rw [List.take_zero, show ((valD [] : Nat) : Int) = 0 from rfl, show sm 0 = 0 from rfl]; exact rep_zero
theorem dig_at (t : ByteArray) (k : Nat) (h : k < t.size) (hd : t.data.toList.all isDig = true) : 48 ≤ t[k].toNat ∧ t[k].toNat ≤ 57 := by
  have := List.all_eq_true.1 hd t[k] (by
    show t.data[k] ∈ _
    simp)
  exact of_decide_eq_true this
theorem step_is (t : ByteArray) (k : Nat) (h : k < t.size) (hd : 48 ≤ t[k].toNat) : sm (sm (sm (valD (t.data.toList.take k)) * 10) + ((t[k].toNat : Int) - 48)) = sm (valD (t.data.toList.take (k + 1))) := by
  rw [take_snoc t k h, valD_snoc]
  rw [sm_step (sm (valD (t.data.toList.take k))) (valD (t.data.toList.take k)) _ _ rfl rfl]
  congr 1
  omega

/-- What Parse answers: the number's halves and the error. -/
def ParseIs (s : ByteArray) (x y er : Int) : Prop :=
  if numB s.data.toList = false then x = 0 ∧ y = 0 ∧ er = 10
  else if textOf (parsed s) = s.data.toList then Rep x y (parsed s) ∧ er = 0
  else x = 0 ∧ y = 0 ∧ er = 11

theorem WideAt.other {w : World} {b : Nat} {h l : Int} (k : WideAt w b h l) (a : Addr) (v : Value) (hne : b ≠ a.block) : WideAt (w.setCell a v) b h l := by
  obtain ⟨h1, h2, h3, h4⟩ := k
  have e : ∀ o, (⟨b, o, none⟩ : Addr) ≠ a := fun o e => hne (by rw [← e])
  exact ⟨by rw [World.cell?_setCell_other _ _ _ _ (fun e2 => e 0 e2.symm)]; exact h1, by rw [World.cell?_setCell_other _ _ _ _ (fun e2 => e 1 e2.symm)]; exact h2, by simp [go_sem, h3], by simp [go_sem, h4]⟩
theorem WideAt.drew {w : World} {b : Nat} {h l : Int} (k : WideAt w b h l) : WideAt w.drew b h l := ⟨k.c0, k.c1, k.f0, k.f1⟩
theorem text_ne {s t : ByteArray} (h : ¬ s = t) : (s.toList == t.toList) = false := by
  rw [ByteArray.toList_eq, ByteArray.toList_eq]
  apply Bool.eq_false_iff.2
  intro e
  exact h (ByteArray.ext (Array.toList_inj.1 (eq_of_beq e)))

theorem parse_yes {s : ByteArray} {x y er h l : Int} (H : ParseIs s x y er) (hn : numB s.data.toList = true) (ht : textOf (parsed s) = s.data.toList) (A : Rep h l (parsed s)) : h = x ∧ l = y ∧ er = 0 := by
  unfold ParseIs at H
  rw [if_neg (by rw [hn]; simp), if_pos ht] at H
  obtain ⟨H1, H2⟩ := H
  exact ⟨(A.inj H1).1, (A.inj H1).2, H2⟩
theorem parse_no {s : ByteArray} {x y er : Int} (H : ParseIs s x y er) (hn : numB s.data.toList = true) (ht : ¬ textOf (parsed s) = s.data.toList) : x = 0 ∧ y = 0 ∧ er = 11 := by
  unfold ParseIs at H
  rwa [if_neg (by rw [hn]; simp), if_neg ht] at H

theorem text_of_bytes {l : List UInt8} {s : ByteArray} (h : (⟨l.toArray⟩ : ByteArray) = s) : l = s.data.toList := by rw [← h]

theorem numB_digits {s : ByteArray} (h : numB s.data.toList = true) : (body s).data.toList.all isDig = true := by
  by_cases h0 : (body s).size = 0
  · rw [numB_nil s h0] at h; exact absurd h (by simp)
  · have hp : 0 < (body s).size := by omega
    rw [numB_cons s hp] at h
    split at h
    · have e := of_decide_eq_true h
      rw [body_list, e]; decide
    · exact h

end Go.Proofs.Ytipjhlabcbkgjaa

/- The chapter's examples, as the laws of layer 2 ask them first ('awake'): true. -/
namespace Go.Proofs.Ytipjhlabcbkgjaa
open Go.RowKit Go.Proofs.Ytipjhlabcbkgjaa.Wd

abbrev sNeg0 : ByteArray := { data := #[45, 48] }
abbrev s01 : ByteArray := { data := #[48, 49] }
abbrev sBig : ByteArray := { data := #[49, 55, 48, 49, 52, 49, 49, 56, 51, 52, 54, 48, 52, 54, 57, 50, 51, 49, 55, 51, 49, 54, 56, 55, 51, 48, 51, 55, 49, 53, 56, 56, 52, 49, 48, 53, 55, 50, 56] }
abbrev s0 : ByteArray := { data := #[48] }
abbrev sLeast : ByteArray := { data := #[45, 49, 55, 48, 49, 52, 49, 49, 56, 51, 52, 54, 48, 52, 54, 57, 50, 51, 49, 55, 51, 49, 54, 56, 55, 51, 48, 51, 55, 49, 53, 56, 56, 52, 49, 48, 53, 55, 50, 56] }

theorem parse_form {s : ByteArray} (h : numB s.data.toList = false) : Hid (ParseIs s 0 0 10) := by
  show ParseIs _ _ _ _
  unfold ParseIs; rw [if_pos h]; exact ⟨rfl, rfl, rfl⟩
theorem parse_neg0 : Hid (ParseIs sNeg0 0 0 10) := parse_form (by decide)
theorem parse_01 : Hid (ParseIs s01 0 0 10) := parse_form (by decide)
theorem body_big : body sBig = sBig := by unfold body; rw [if_neg (by decide)]
theorem digits_big : digitsOf sBig = sm 170141183460469231731687303715884105728 := by
  unfold digitsOf
  rw [body_big]
  have : valD sBig.data.toList = 170141183460469231731687303715884105728 := by decide +kernel
  rw [this]; rfl
theorem parse_big : Hid (ParseIs sBig 0 0 11) := by
  show ParseIs _ _ _ _
  unfold ParseIs
  have hn : numB sBig.data.toList = true := by decide
  have hp : parsed sBig = digitsOf sBig := by unfold parsed; rw [if_neg (by decide)]
  rw [if_neg (by rw [hn]; simp), if_neg]
  · exact ⟨rfl, rfl, rfl⟩
  · intro e
    have hin : InW (parsed sBig) := by rw [hp]; exact sm_in _
    have h1 := (textOf_sign hin).2 (by rw [hp, digits_big]; unfold sm; omega)
    rw [e] at h1
    exact absurd h1 (by decide)
theorem text_zero : textOf 0 = [48] := by decide
theorem text_least : textOf (-170141183460469231731687303715884105728) = [45, 49, 55, 48, 49, 52, 49, 49, 56, 51, 52, 54, 48, 52, 54, 57, 50, 51, 49, 55, 51, 49, 54, 56, 55, 51, 48, 51, 55, 49, 53, 56, 56, 52, 49, 48, 53, 55, 50, 56] := by decide +kernel
theorem rep_least : Rep (-9223372036854775808) 0 (-170141183460469231731687303715884105728) := ⟨by decide, by decide, by decide, by decide, by decide⟩
theorem ofMax (w : World) : Calls Try.prog 32 #[.int .i64 9223372036854775807] w fun e w' => e = .returned (.agg #[.int .i64 (0), .int .u64 (9223372036854775807)]) ∧ Below w.heap.size w w' :=
  of_any _ _ _ w (by decide) (by decide) ⟨by decide, by decide, by decide, by decide, by decide⟩
theorem ofOne (w : World) : Calls Try.prog 32 #[.int .i64 1] w fun e w' => e = .returned (.agg #[.int .i64 (0), .int .u64 (1)]) ∧ Below w.heap.size w w' :=
  of_any _ _ _ w (by decide) (by decide) ⟨by decide, by decide, by decide, by decide, by decide⟩
theorem addMax (w : World) : Calls Try.prog 35 #[.agg #[.int .i64 (0), .int .u64 (9223372036854775807)], .agg #[.int .i64 (0), .int .u64 (1)]] w fun e w' => e = .returned (.agg #[.int .i64 (0), .int .u64 (9223372036854775808)]) ∧ Below w.heap.size w w' :=
  add_any _ _ _ _ _ _ 9223372036854775807 1 9223372036854775808 w ⟨by decide, by decide, by decide, by decide, by decide⟩ ⟨by decide, by decide, by decide, by decide, by decide⟩ ⟨by decide, by decide, by decide, by decide, by decide⟩ ⟨0, by decide⟩
theorem negZero (w : World) : Calls Try.prog 60 #[.agg #[.int .i64 (0), .int .u64 (0)]] w fun e w' => e = .returned (.agg #[.int .i64 (0), .int .u64 (0)]) ∧ Below w.heap.size w w' :=
  neg_any _ _ _ _ 0 0 w rep_zero rep_zero ⟨0, by decide⟩

theorem below_add {w w1 : World} (h : Below w.heap.size w w1) (o : Obj) : Below w.heap.size w (w1.alloc o) := h.alloc h.size o
theorem WideAt.alloc {w : World} {b : Nat} {h l : Int} (k : WideAt w b h l) (o : Obj) : WideAt (w.alloc o) b h l := by
  have hr := k.room
  obtain ⟨h1, h2, h3, h4⟩ := k
  exact ⟨by simp [go_sem, hr, h1], by simp [go_sem, hr, h2], by simp [go_sem, hr, h3], by simp [go_sem, hr, h4]⟩
theorem WideAt.new (w : World) (h l : Int) (T : TypeId) : WideAt (w.alloc (.cells #[.int .i64 h, .int .u64 l] T)) w.heap.size h l :=
  ⟨by simp [go_sem], by simp [go_sem], by simp [go_sem], by simp [go_sem]⟩

end Go.Proofs.Ytipjhlabcbkgjaa

/- Three numbers in boxes side by side, and a comparison under a name of its own. -/
namespace Go.Proofs.Ytipjhlabcbkgjaa
open Go.RowKit Go.Proofs.Ytipjhlabcbkgjaa.Wd

/-- The cells of three numbers in the blocks b, b + 1, b + 1 + 1. -/
structure Tri (w : World) (b : Nat) (h1 l1 h2 l2 h3 l3 : Int) : Prop where
  a0 : w.cell? ⟨b, 0, none⟩ = some (.int .i64 h1)
  a1 : w.cell? ⟨b, 1, none⟩ = some (.int .u64 l1)
  b0 : w.cell? ⟨b + 1, 0, none⟩ = some (.int .i64 h2)
  b1 : w.cell? ⟨b + 1, 1, none⟩ = some (.int .u64 l2)
  c0 : w.cell? ⟨b + 1 + 1, 0, none⟩ = some (.int .i64 h3)
  c1 : w.cell? ⟨b + 1 + 1, 1, none⟩ = some (.int .u64 l3)
theorem Tri.below {w w' : World} {b : Nat} {h1 l1 h2 l2 h3 l3 : Int} (k : Tri w b h1 l1 h2 l2 h3 l3) (hb : Below w.heap.size w w') : Tri w' b h1 l1 h2 l2 h3 l3 := by
  have r1 := World.block_lt_of_cell? w _ k.a0
  have r2 := World.block_lt_of_cell? w _ k.b0
  have r3 := World.block_lt_of_cell? w _ k.c0
  exact ⟨(hb.cell (p := ⟨b, 0, none⟩) r1).trans k.a0, (hb.cell (p := ⟨b, 1, none⟩) r1).trans k.a1, (hb.cell (p := ⟨b + 1, 0, none⟩) r2).trans k.b0, (hb.cell (p := ⟨b + 1, 1, none⟩) r2).trans k.b1, (hb.cell (p := ⟨b + 1 + 1, 0, none⟩) r3).trans k.c0, (hb.cell (p := ⟨b + 1 + 1, 1, none⟩) r3).trans k.c1⟩
theorem Tri.room {w : World} {b : Nat} {h1 l1 h2 l2 h3 l3 : Int} (k : Tri w b h1 l1 h2 l2 h3 l3) : b < w.heap.size ∧ b + 1 < w.heap.size ∧ b + 1 + 1 < w.heap.size :=
  ⟨World.block_lt_of_cell? w _ k.a0, World.block_lt_of_cell? w _ k.b0, World.block_lt_of_cell? w _ k.c0⟩
theorem Tri.alloc {w : World} {b : Nat} {h1 l1 h2 l2 h3 l3 : Int} (k : Tri w b h1 l1 h2 l2 h3 l3) (o : Obj) : Tri (w.alloc o) b h1 l1 h2 l2 h3 l3 := by
  obtain ⟨r1, r2, r3⟩ := k.room
  obtain ⟨k1, k2, k3, k4, k5, k6⟩ := k
  exact ⟨by simp [go_sem, r1, k1], by simp [go_sem, r1, k2], by simp [go_sem, r2, k3], by simp [go_sem, r2, k4], by simp [go_sem, r3, k5], by simp [go_sem, r3, k6]⟩
theorem Tri.new (w : World) (h1 l1 h2 l2 h3 l3 : Int) : Tri (((w.alloc (.cells #[.int .i64 h1, .int .u64 l1] 24)).alloc (.cells #[.int .i64 h2, .int .u64 l2] 24)).alloc (.cells #[.int .i64 h3, .int .u64 l3] 24)) w.heap.size h1 l1 h2 l2 h3 l3 :=
  ⟨by simp [go_sem], by simp [go_sem], by simp [go_sem], by simp [go_sem], by simp [go_sem], by simp [go_sem]⟩
theorem tri_keep {w w1 w2 : World} {h1 l1 h2 l2 h3 l3 : Int} (hb : Below w1.heap.size w1 w2) (h : (fun w' => w'.cell? ⟨w.heap.size, 0, none⟩ = some (.int .i64 h1) ∧ w'.cell? ⟨w.heap.size, 1, none⟩ = some (.int .u64 l1) ∧ w'.cell? ⟨w.heap.size + 1, 0, none⟩ = some (.int .i64 h2) ∧ w'.cell? ⟨w.heap.size + 1, 1, none⟩ = some (.int .u64 l2) ∧ w'.cell? ⟨w.heap.size + 1 + 1, 0, none⟩ = some (.int .i64 h3) ∧ w'.cell? ⟨w.heap.size + 1 + 1, 1, none⟩ = some (.int .u64 l3) ∧ Below w.heap.size w w') w1) : (fun w' => w'.cell? ⟨w.heap.size, 0, none⟩ = some (.int .i64 h1) ∧ w'.cell? ⟨w.heap.size, 1, none⟩ = some (.int .u64 l1) ∧ w'.cell? ⟨w.heap.size + 1, 0, none⟩ = some (.int .i64 h2) ∧ w'.cell? ⟨w.heap.size + 1, 1, none⟩ = some (.int .u64 l2) ∧ w'.cell? ⟨w.heap.size + 1 + 1, 0, none⟩ = some (.int .i64 h3) ∧ w'.cell? ⟨w.heap.size + 1 + 1, 1, none⟩ = some (.int .u64 l3) ∧ Below w.heap.size w w') w2 := by
  obtain ⟨k1, k2, k3, k4, k5, k6, k7⟩ := h
  have T := Tri.below (b := w.heap.size) ⟨k1, k2, k3, k4, k5, k6⟩ hb
  exact ⟨T.a0, T.a1, T.b0, T.b1, T.c0, T.c1, below_on k7 hb⟩

theorem cmp_is (h1 l1 h2 l2 a b v : Int) (w : World) (A : Rep h1 l1 a) (B : Rep h2 l2 b) (hv : Hid (cmp a b = v)) :
    Calls Try.prog 73 #[.agg #[.int .i64 (h1), .int .u64 (l1)], .agg #[.int .i64 (h2), .int .u64 (l2)]] w fun e w' => e = .returned (.int .i64 v) ∧ Below w.heap.size w w' := by
  have := cmp_any h1 l1 h2 l2 a b w A B
  rwa [hv.out] at this
theorem cmp_neg {a b v : Int} (h : cmp a b = v) : v < 0 ↔ a < b := by
  unfold cmp at h
  split at h
  · omega
  · split at h <;> omega
theorem cmp_pos {a b v : Int} (h : cmp a b = v) : 0 < v ↔ b < a := by
  unfold cmp at h
  split at h
  · omega
  · split at h <;> omega
theorem cmp_zero {a b v : Int} (h : cmp a b = v) : v = 0 ↔ a = b := by
  unfold cmp at h
  split at h
  · omega
  · split at h <;> omega
theorem cmp_range {a b v : Int} (h : cmp a b = v) : -1 ≤ v ∧ v ≤ 1 := by
  unfold cmp at h
  split at h
  · omega
  · split at h <;> omega
/-- Two numbers' halves are the same just where the numbers are. -/
theorem same_is {h1 l1 h2 l2 a b : Int} (A : Rep h1 l1 a) (B : Rep h2 l2 b) : (decide (h1 = h2) && decide (l1 = l2)) = decide (a = b) := by
  obtain ⟨p1, p2, p3, p4, p5⟩ := A
  obtain ⟨q1, q2, q3, q4, q5⟩ := B
  rw [Bool.eq_iff_iff]; simp; omega

theorem weql_run (h1 l1 h2 l2 : Int) (w : World) : (binOp .eql 24 (.agg #[.int .i64 (h1), .int .u64 (l1)]) (.agg #[.int .i64 (h2), .int .u64 (l2)])).run Try.prog w = .ok (.bool (decide (h1 = h2) && decide (l1 = l2))) w := by
  by_cases e1 : h1 = h2
  · by_cases e2 : l1 = l2
    · subst e1; subst e2; simp [go_sem]
    · have e3 : (l1 == l2) = false := by simpa using e2
      subst e1; simp [go_sem, e2, e3]
  · have e3 : (h1 == h2) = false := by simpa using e1
    simp [go_sem, e1, e3]
/-- The test of two numbers under a name of its own. -/
theorem eql_is {h1 l1 h2 l2 a b : Int} (A : Rep h1 l1 a) (B : Rep h2 l2 b) (e : Bool) (he : Hid (decide (a = b) = e)) (w : World) : (binOp .eql 24 (.agg #[.int .i64 (h1), .int .u64 (l1)]) (.agg #[.int .i64 (h2), .int .u64 (l2)])).run Try.prog w = .ok (.bool e) w := by
  rw [weql_run, same_is A B, he.out]

/-- The same with a fourth number in block d. -/
theorem quad_keep {w w1 w2 : World} {d : Nat} {h1 l1 h2 l2 h3 l3 h4 l4 : Int} (hb : Below w1.heap.size w1 w2)
    (h : w1.cell? ⟨d, 0, none⟩ = some (.int .i64 h4) ∧ w1.cell? ⟨d, 1, none⟩ = some (.int .u64 l4) ∧ (fun w' => w'.cell? ⟨w.heap.size, 0, none⟩ = some (.int .i64 h1) ∧ w'.cell? ⟨w.heap.size, 1, none⟩ = some (.int .u64 l1) ∧ w'.cell? ⟨w.heap.size + 1, 0, none⟩ = some (.int .i64 h2) ∧ w'.cell? ⟨w.heap.size + 1, 1, none⟩ = some (.int .u64 l2) ∧ w'.cell? ⟨w.heap.size + 1 + 1, 0, none⟩ = some (.int .i64 h3) ∧ w'.cell? ⟨w.heap.size + 1 + 1, 1, none⟩ = some (.int .u64 l3) ∧ Below w.heap.size w w') w1) : w2.cell? ⟨d, 0, none⟩ = some (.int .i64 h4) ∧ w2.cell? ⟨d, 1, none⟩ = some (.int .u64 l4) ∧ (fun w' => w'.cell? ⟨w.heap.size, 0, none⟩ = some (.int .i64 h1) ∧ w'.cell? ⟨w.heap.size, 1, none⟩ = some (.int .u64 l1) ∧ w'.cell? ⟨w.heap.size + 1, 0, none⟩ = some (.int .i64 h2) ∧ w'.cell? ⟨w.heap.size + 1, 1, none⟩ = some (.int .u64 l2) ∧ w'.cell? ⟨w.heap.size + 1 + 1, 0, none⟩ = some (.int .i64 h3) ∧ w'.cell? ⟨w.heap.size + 1 + 1, 1, none⟩ = some (.int .u64 l3) ∧ Below w.heap.size w w') w2 := by
  obtain ⟨g1, g2, g⟩ := h
  have r := World.block_lt_of_cell? w1 _ g1
  exact ⟨(hb.cell (p := ⟨d, 0, none⟩) r).trans g1, (hb.cell (p := ⟨d, 1, none⟩) r).trans g2, tri_keep hb g⟩
end Go.Proofs.Ytipjhlabcbkgjaa
