/- Joined: WideDuo, WideRefMath, WideRefArr, WideRefNum, WideRefOps, WideRefCmp, WideRefCmp2. -/
import Derived.Test.YtipjhlabcbkgjaaWideB
import Derived.Test.YtipjhlabcbkgjaaWideA
import Derived.Laws.Rows
import Derived.Deep.MidRow
import Derived.Deep.RegionWith
/- Two numbers in boxes side by side. -/
namespace Go.Proofs.Ytipjhlabcbkgjaa
open Go.RowKit Go.Proofs.Ytipjhlabcbkgjaa.Wd

/-- The cells of two numbers in the blocks b, b + 1. -/
structure Duo (w : World) (b : Nat) (h1 l1 h2 l2 : Int) : Prop where
  a0 : w.cell? ⟨b, 0, none⟩ = some (.int .i64 h1)
  a1 : w.cell? ⟨b, 1, none⟩ = some (.int .u64 l1)
  b0 : w.cell? ⟨b + 1, 0, none⟩ = some (.int .i64 h2)
  b1 : w.cell? ⟨b + 1, 1, none⟩ = some (.int .u64 l2)
theorem Duo.below {w w' : World} {b : Nat} {h1 l1 h2 l2 : Int} (k : Duo w b h1 l1 h2 l2) (hb : Below w.heap.size w w') : Duo w' b h1 l1 h2 l2 := by
  have r1 := World.block_lt_of_cell? w _ k.a0
  have r2 := World.block_lt_of_cell? w _ k.b0
  exact ⟨(hb.cell (p := ⟨b, 0, none⟩) r1).trans k.a0, (hb.cell (p := ⟨b, 1, none⟩) r1).trans k.a1, (hb.cell (p := ⟨b + 1, 0, none⟩) r2).trans k.b0, (hb.cell (p := ⟨b + 1, 1, none⟩) r2).trans k.b1⟩
theorem Duo.room {w : World} {b : Nat} {h1 l1 h2 l2 : Int} (k : Duo w b h1 l1 h2 l2) : b < w.heap.size ∧ b + 1 < w.heap.size :=
  ⟨World.block_lt_of_cell? w _ k.a0, World.block_lt_of_cell? w _ k.b0⟩
theorem Duo.alloc {w : World} {b : Nat} {h1 l1 h2 l2 : Int} (k : Duo w b h1 l1 h2 l2) (o : Obj) : Duo (w.alloc o) b h1 l1 h2 l2 := by
  obtain ⟨r1, r2⟩ := k.room
  obtain ⟨k1, k2, k3, k4⟩ := k
  exact ⟨by simp [go_sem, r1, k1], by simp [go_sem, r1, k2], by simp [go_sem, r2, k3], by simp [go_sem, r2, k4]⟩
theorem Duo.new (w : World) (h1 l1 h2 l2 : Int) : Duo ((w.alloc (.cells #[.int .i64 h1, .int .u64 l1] 24)).alloc (.cells #[.int .i64 h2, .int .u64 l2] 24)) w.heap.size h1 l1 h2 l2 :=
  ⟨by simp [go_sem], by simp [go_sem], by simp [go_sem], by simp [go_sem]⟩
theorem duo_keep {w w1 w2 : World} {h1 l1 h2 l2 : Int} (hb : Below w1.heap.size w1 w2) (h : (fun w' => w'.cell? ⟨w.heap.size, 0, none⟩ = some (.int .i64 h1) ∧ w'.cell? ⟨w.heap.size, 1, none⟩ = some (.int .u64 l1) ∧ w'.cell? ⟨w.heap.size + 1, 0, none⟩ = some (.int .i64 h2) ∧ w'.cell? ⟨w.heap.size + 1, 1, none⟩ = some (.int .u64 l2) ∧ Below w.heap.size w w') w1) : (fun w' => w'.cell? ⟨w.heap.size, 0, none⟩ = some (.int .i64 h1) ∧ w'.cell? ⟨w.heap.size, 1, none⟩ = some (.int .u64 l1) ∧ w'.cell? ⟨w.heap.size + 1, 0, none⟩ = some (.int .i64 h2) ∧ w'.cell? ⟨w.heap.size + 1, 1, none⟩ = some (.int .u64 l2) ∧ Below w.heap.size w w') w2 := by
  obtain ⟨k1, k2, k3, k4, k5⟩ := h
  have T := Duo.below (b := w.heap.size) ⟨k1, k2, k3, k4⟩ hb
  exact ⟨T.a0, T.a1, T.b0, T.b1, below_on k5 hb⟩
/-- The same with a third number in block d. -/
theorem duo3_keep {w w1 w2 : World} {d : Nat} {h1 l1 h2 l2 h4 l4 : Int} (hb : Below w1.heap.size w1 w2)
    (h : w1.cell? ⟨d, 0, none⟩ = some (.int .i64 h4) ∧ w1.cell? ⟨d, 1, none⟩ = some (.int .u64 l4) ∧ (fun w' => w'.cell? ⟨w.heap.size, 0, none⟩ = some (.int .i64 h1) ∧ w'.cell? ⟨w.heap.size, 1, none⟩ = some (.int .u64 l1) ∧ w'.cell? ⟨w.heap.size + 1, 0, none⟩ = some (.int .i64 h2) ∧ w'.cell? ⟨w.heap.size + 1, 1, none⟩ = some (.int .u64 l2) ∧ Below w.heap.size w w') w1) : w2.cell? ⟨d, 0, none⟩ = some (.int .i64 h4) ∧ w2.cell? ⟨d, 1, none⟩ = some (.int .u64 l4) ∧ (fun w' => w'.cell? ⟨w.heap.size, 0, none⟩ = some (.int .i64 h1) ∧ w'.cell? ⟨w.heap.size, 1, none⟩ = some (.int .u64 l1) ∧ w'.cell? ⟨w.heap.size + 1, 0, none⟩ = some (.int .i64 h2) ∧ w'.cell? ⟨w.heap.size + 1, 1, none⟩ = some (.int .u64 l2) ∧ Below w.heap.size w w') w2 := by
  obtain ⟨g1, g2, g⟩ := h
  have r := World.block_lt_of_cell? w1 _ g1
  exact ⟨(hb.cell (p := ⟨d, 0, none⟩) r).trans g1, (hb.cell (p := ⟨d, 1, none⟩) r).trans g2, duo_keep hb g⟩
end Go.Proofs.Ytipjhlabcbkgjaa

/- Plain mathematics of sixteen digits to the base 256: it imports nothing of the program. -/
namespace Go.Proofs.Ytipjhlabcbkgjaa
namespace Wd

/-- What the last k of sixteen numbers say to the base 256. -/
def tailv (d : Nat → Int) : Nat → Int
  | 0 => 0
  | k + 1 => tailv d k + d (15 - k) * 256 ^ k
/-- What k numbers from o on say, the first one the greatest. -/
def horn (d : Nat → Int) (o : Nat) : Nat → Int
  | 0 => 0
  | k + 1 => horn d o k * 256 + d (o + k)
/-- The digits of a number in two halves. -/
def dg (h l : Int) (i : Nat) : Int := if i < 8 then (h % 18446744073709551616) / 256 ^ (7 - i) % 256 else l / 256 ^ (15 - i) % 256
theorem dg_range (h l : Int) (i : Nat) : 0 ≤ dg h l i ∧ dg h l i ≤ 255 := by
  unfold dg; split <;> omega

theorem tailv_congr {d e : Nat → Int} (k : Nat) (h : ∀ m, m < k → d (15 - m) = e (15 - m)) : tailv d k = tailv e k := by
  induction k with
  | zero => rfl
  | succ k ih =>
    rw [tailv, tailv, ih (fun m hm => h m (by omega)), h k (by omega)]
theorem tailv_add (d e : Nat → Int) (k : Nat) : tailv (fun i => d i + e i) k = tailv d k + tailv e k := by
  induction k with
  | zero => rfl
  | succ k ih => rw [tailv, tailv, tailv, ih, Int.add_mul]; ac_rfl
theorem tailv_mul (d : Nat → Int) (n : Int) (k : Nat) : tailv (fun i => d i * n) k = tailv d k * n := by
  induction k with
  | zero => show (0 : Int) = 0 * n; rw [Int.zero_mul]
  | succ k ih => rw [tailv, tailv, ih, Int.add_mul, Int.mul_right_comm]
theorem tailv_not (d : Nat → Int) (k : Nat) : tailv (fun i => 255 - d i) k = 256 ^ k - 1 - tailv d k := by
  induction k with
  | zero => rfl
  | succ k ih =>
    rw [tailv, tailv, ih, Int.sub_mul, Int.pow_succ]
    generalize d (15 - k) * 256 ^ k = P
    generalize (256 : Int) ^ k = Q
    omega
theorem tailv_horn (d : Nat → Int) : tailv d 16 = horn d 0 8 * 18446744073709551616 + horn d 8 8 := by
  simp only [tailv, horn, Nat.reduceSub, Nat.reduceAdd, Nat.zero_add, Nat.sub_zero, Nat.sub_self, Nat.add_zero, Int.reducePow]; omega
theorem horn_range (d : Nat → Int) (o : Nat) (h : ∀ i, o ≤ i → i < o + 8 → 0 ≤ d i ∧ d i ≤ 255) : ∀ k, k ≤ 8 → 0 ≤ horn d o k ∧ horn d o k ≤ 256 ^ k - 1
  | 0, _ => ⟨by show (0 : Int) ≤ 0; decide, by show (0 : Int) ≤ 256 ^ 0 - 1; decide⟩
  | k + 1, hk => by
    have ih := horn_range d o h k (by omega)
    have := h (o + k) (by omega) (by omega)
    rw [horn, Int.pow_succ]
    generalize (256 : Int) ^ k = Q at *
    omega
theorem horn_small {d : Nat → Int} {o : Nat} (h : ∀ i, o ≤ i → i < o + 8 → 0 ≤ d i ∧ d i ≤ 255) (k : Nat) (hk : k < 8) : 0 ≤ horn d o k ∧ horn d o k ≤ 72057594037927935 := by
  have := horn_range d o h k (by omega)
  have e : (256 : Int) ^ k ≤ 256 ^ 7 := by
    have : ∀ j : Fin 8, (256 : Int) ^ j.val ≤ 256 ^ 7 := by decide
    exact this ⟨k, hk⟩
  have e2 : (256 : Int) ^ 7 = 72057594037927936 := by decide
  omega
theorem horn_full {d : Nat → Int} {o : Nat} (h : ∀ i, o ≤ i → i < o + 8 → 0 ≤ d i ∧ d i ≤ 255) : 0 ≤ horn d o 8 ∧ horn d o 8 ≤ 18446744073709551615 := by
  have := horn_range d o h 8 (by omega)
  have e2 : (256 : Int) ^ 8 = 18446744073709551616 := by decide
  omega
/-- The halves of what sixteen digits say. -/
theorem rep_horn {d : Nat → Int} (h : ∀ i, i < 16 → 0 ≤ d i ∧ d i ≤ 255) {x y a : Int} (C : Rep x y a) (e : Cong a (tailv d 16)) : x = (horn d 0 8 + 9223372036854775808) % 18446744073709551616 - 9223372036854775808 ∧ y = horn d 8 8 := by
  have h1 := horn_full (d := d) (o := 0) (fun i _ h2 => h i (by omega))
  have h2 := horn_full (d := d) (o := 8) (fun i _ h2 => h i (by omega))
  rw [tailv_horn] at e
  obtain ⟨p1, p2, p3, p4, p5⟩ := C
  obtain ⟨k, hk⟩ := e
  omega
theorem tailv_dg {h l a : Int} (A : Rep h l a) : Cong (tailv (dg h l) 16) a := by
  obtain ⟨p1, p2, p3, p4, p5⟩ := A
  refine ⟨-(h / 18446744073709551616), ?_⟩
  have e : ∀ i, i < 8 → dg h l i = (h % 18446744073709551616) / 256 ^ (7 - i) % 256 := fun i hi => by unfold dg; rw [if_pos hi]
  have g : ∀ i, ¬ i < 8 → dg h l i = l / 256 ^ (15 - i) % 256 := fun i hi => by unfold dg; rw [if_neg hi]
  simp only [tailv]
  rw [e 0 (by decide), e 1 (by decide), e 2 (by decide), e 3 (by decide), e 4 (by decide), e 5 (by decide), e 6 (by decide), e 7 (by decide), g 8 (by decide), g 9 (by decide), g 10 (by decide), g 11 (by decide), g 12 (by decide), g 13 (by decide), g 14 (by decide), g 15 (by decide)]
  rw [p5]
  have hu : h = h / 18446744073709551616 * 18446744073709551616 + h % 18446744073709551616 := by omega
  have hu0 : 0 ≤ h % 18446744073709551616 ∧ h % 18446744073709551616 ≤ 18446744073709551615 := by omega
  generalize h % 18446744073709551616 = u at *
  generalize h / 18446744073709551616 = z at *
  simp only [Nat.reduceSub, Int.reducePow, Nat.sub_zero, Nat.sub_self]
  omega
/-- One digit put right. -/
theorem carry_step {d f : Nat → Int} {k : Nat} {c : Int} (hk : k < 16) (h : tailv d k = tailv f k + c * 256 ^ k) (x y : Int) (hx : x = (d (15 - k) + c) % 256) (hy : y = (d (15 - k) + c) / 256) (g : Nat → Int) (hg1 : g (15 - k) = x) (hg2 : ∀ i, i ≠ 15 - k → g i = f i) :
    tailv d (k + 1) = tailv g (k + 1) + y * 256 ^ (k + 1) := by
  rw [tailv, tailv, h, hg1, tailv_congr (d := g) (e := f) k (fun m hm => hg2 (15 - m) (by omega)), Int.pow_succ]
  have e : d (15 - k) + c = y * 256 + x := by omega
  have : (d (15 - k) + c) * 256 ^ k = (y * 256 + x) * 256 ^ k := by rw [e]
  rw [Int.add_mul, Int.add_mul, Int.mul_assoc y, Int.mul_comm 256] at this
  omega
end Wd
end Go.Proofs.Ytipjhlabcbkgjaa

/- Contracts of the document's answer for layer 2: arrays of sixteen digits. -/
namespace Go.Proofs.Ytipjhlabcbkgjaa
open Go.RowKit Go.Proofs.Ytipjhlabcbkgjaa.Wd

/-- Sixteen numbers as a value's cells. -/
def arrOf (f : Nat → Int) : Array Value := ((List.range 16).map fun i => Value.int .i64 (f i)).toArray
theorem arrOf_at (f : Nat → Int) (i : Nat) (h : i < 16) : (arrOf f)[i]? = some (.int .i64 (f i)) := by
  unfold arrOf; simp [h]
theorem arrOf_size (f : Nat → Int) : (arrOf f).size = 16 := by unfold arrOf; simp
/-- Block b holds sixteen numbers, the i-th f i, and they may be written. -/
def Arr (w : World) (b : Nat) (f : Nat → Int) : Prop := ∀ i, i < 16 → w.cell? ⟨b, i, none⟩ = some (.int .i64 (f i)) ∧ w.frozen? ⟨b, i, none⟩ = false
theorem Arr.new (w : World) (f : Nat → Int) (T : TypeId) : Arr (w.alloc (.cells (arrOf f) T)) w.heap.size f := by
  intro i hi
  constructor
  · rw [World.cell?_alloc_mark, arrOf_at f i hi]
  · rw [World.frozen?_alloc_mark]; simp
theorem Arr.room {w : World} {b : Nat} {f : Nat → Int} (h : Arr w b f) : b < w.heap.size := World.block_lt_of_cell? w _ (h 0 (by decide)).1
theorem Arr.below {w w' : World} {b : Nat} {f : Nat → Int} (h : Arr w b f) (hb : Below w.heap.size w w') : Arr w' b f := fun i hi =>
  ⟨(hb.cell (p := ⟨b, i, none⟩) h.room).trans (h i hi).1, (hb.frozen (p := ⟨b, i, none⟩) h.room).trans (h i hi).2⟩
def updI (f : Nat → Int) (p : Nat) (v : Int) : Nat → Int := fun q => if q = p then v else f q
theorem Arr.stored {w : World} {b : Nat} {f : Nat → Int} (h : Arr w b f) (p : Nat) (hp : p < 16) (v : Int) : Arr (w.setCell ⟨b, p, none⟩ (.int .i64 v)) b (updI f p v) := by
  intro q hq
  refine ⟨?_, by simp [go_sem, (h q hq).2]⟩
  unfold updI
  by_cases e : q = p
  · subst e
    rw [if_pos rfl]; simp [go_sem, (h q hq).1]
  · rw [if_neg e, World.cell?_setCell_other]
    · exact (h q hq).1
    · intro e2; exact e (congrArg Addr.off e2).symm
theorem Arr.drew {w : World} {b : Nat} {f : Nat → Int} (h : Arr w b f) : Arr w.drew b f := fun i hi => h i hi
theorem Arr.range {w : World} {b : Nat} {f : Nat → Int} (h : Arr w b f) : w.rangeAt b 0 (arrOf f).toList := by
  intro j v hj
  have : j < 16 := by
    have := (List.getElem?_eq_some_iff.1 hj).1
    rw [Array.length_toList, arrOf_size] at this; exact this
  rw [Array.getElem?_toList, arrOf_at f j this] at hj
  rw [Nat.zero_add, (h j this).1, hj]
theorem winfoA : (Try.prog.info? 88).map (·.size) = some 16 := by kernel_rfl

theorem mask8 (x : Int) (h0 : 0 ≤ x) (h1 : x ≤ 18446744073709551615) : bits .and .u64 x 255 = x % 256 := by
  obtain ⟨a, rfl⟩ := Int.eq_ofNat_of_zero_le h0
  have h := bits_and_u64_nat a 255 (by omega) (by omega)
  have e : a &&& 255 = a % 256 := Nat.and_two_pow_sub_one_eq_mod a 8
  rw [e] at h
  exact h
theorem wrap_small {x : Int} (h0 : 0 ≤ x) (h1 : x ≤ 255) : wrap64 x = x := by rw [wrap64_is]; omega

set_option maxHeartbeats 2000000 in
theorem digits_any (h l : Int) (x : Nat → Int) (w : World) (hl0 : 0 ≤ l) (hl1 : l ≤ 18446744073709551615) (hx : Hid (dg h l = x)) :
    Calls Try.prog 67 #[.agg #[.int .i64 (h), .int .u64 (l)]] w fun e w' => e = .returned (.agg (arrOf x)) ∧ Below w.heap.size w w' := by
  obtain ⟨u, hu⟩ : ∃ u, IntKind.u64.wrap h = u := ⟨_, rfl⟩
  have hu0 : 0 ≤ u ∧ u ≤ 18446744073709551615 := by rw [← hu, IntKind.wrap_u64]; omega
  have hum : u = h % 18446744073709551616 := by rw [← hu, IntKind.wrap_u64]
  have hw : ∀ i, wrap64 (x i) = x i := fun i => by rw [← hx.out]; exact wrap_small (dg_range h l i).1 (dg_range h l i).2
  have hd : ∀ i, i < 8 → bits .and .u64 (u / 256 ^ (7 - i)) 255 = x i := fun i hi => by
    have p : (0 : Int) < 256 ^ (7 - i) := Int.pow_pos (by decide)
    have p1 := Int.ediv_nonneg hu0.1 (Int.le_of_lt p)
    have p2 := Int.ediv_le_self (256 ^ (7 - i)) hu0.1
    rw [mask8 _ p1 (by omega), ← hx.out]; unfold dg; rw [if_pos hi, hum]
  have he : ∀ i, ¬ i < 8 → bits .and .u64 (l / 256 ^ (15 - i)) 255 = x i := fun i hi => by
    have p : (0 : Int) < 256 ^ (15 - i) := Int.pow_pos (by decide)
    have p1 := Int.ediv_nonneg hl0 (Int.le_of_lt p)
    have p2 := Int.ediv_le_self (256 ^ (15 - i)) hl0
    rw [mask8 _ p1 (by omega), ← hx.out]; unfold dg; rw [if_neg hi]
  have d0 : bits .and .u64 (u / 72057594037927936) 255 = x 0 := hd 0 (by decide)
  have d1 : bits .and .u64 (u / 281474976710656) 255 = x 1 := hd 1 (by decide)
  have d2 : bits .and .u64 (u / 1099511627776) 255 = x 2 := hd 2 (by decide)
  have d3 : bits .and .u64 (u / 4294967296) 255 = x 3 := hd 3 (by decide)
  have d4 : bits .and .u64 (u / 16777216) 255 = x 4 := hd 4 (by decide)
  have d5 : bits .and .u64 (u / 65536) 255 = x 5 := hd 5 (by decide)
  have d6 : bits .and .u64 (u / 256) 255 = x 6 := hd 6 (by decide)
  have d7 : bits .and .u64 u 255 = x 7 := by have := hd 7 (by decide); simpa using this
  have d8 : bits .and .u64 (l / 72057594037927936) 255 = x 8 := he 8 (by decide)
  have d9 : bits .and .u64 (l / 281474976710656) 255 = x 9 := he 9 (by decide)
  have d10 : bits .and .u64 (l / 1099511627776) 255 = x 10 := he 10 (by decide)
  have d11 : bits .and .u64 (l / 4294967296) 255 = x 11 := he 11 (by decide)
  have d12 : bits .and .u64 (l / 16777216) 255 = x 12 := he 12 (by decide)
  have d13 : bits .and .u64 (l / 65536) 255 = x 13 := he 13 (by decide)
  have d14 : bits .and .u64 (l / 256) 255 = x 14 := he 14 (by decide)
  have d15 : bits .and .u64 l 255 = x 15 := by have := he 15 (by decide); simpa using this
  clear hd he hum hx
  obtain ⟨hu1, hu2⟩ := hu0
  go_enter Try.func67, Try.ntmps67
  go_wp2
  go_rounds 9
  refine bodyPost_ret (v := .agg (arrOf x)) (by simp [results, Try.results67, go_sem]; rfl) rfl ⟨rfl, by (repeat (first | exact Below.refl _ _ | assumption | refine below_add ?_ _ | (refine below_on ?_ (by assumption)) | refine Below.drew ?_ | refine below_drewN ?_ _ | (refine Below.setCell ?_ (by simp; try omega) _) | (refine below_new ?_ _ (by simp; try omega)) | (refine below_next ?_ (by assumption) (by simp; try omega))))⟩
end Go.Proofs.Ytipjhlabcbkgjaa

/- Contracts of the document's answer for layer 2: a number of digits, and digits put right. -/
namespace Go.Proofs.Ytipjhlabcbkgjaa
open Go.RowKit Go.Proofs.Ytipjhlabcbkgjaa.Wd

theorem Arr.alloc {w : World} {b : Nat} {f : Nat → Int} (h : Arr w b f) (o : Obj) : Arr (w.alloc o) b f := by
  have hr := h.room
  intro i hi
  obtain ⟨h1, h2⟩ := h i hi
  exact ⟨by simp [go_sem, hr, h1], by simp [go_sem, hr, h2]⟩

set_option maxHeartbeats 1000000 in
theorem number_any (f : Nat → Int) (x y a : Int) (w : World) (hf : ∀ i, i < 16 → 0 ≤ f i ∧ f i ≤ 255) (C : Rep x y a) (E : Cong a (tailv f 16)) :
    Calls Try.prog 68 #[.agg (arrOf f)] w fun e w' => e = .returned (.agg #[.int .i64 (x), .int .u64 (y)]) ∧ Below w.heap.size w w' := by
  obtain ⟨e1, e2⟩ := rep_horn hf C E
  have h0 := horn_full (d := f) (o := 0) (fun i _ h2 => hf i (by omega))
  have h8 := horn_full (d := f) (o := 8) (fun i _ h2 => hf i (by omega))
  have hA := (Arr.new w f 88).alloc (.cells #[.int .i64 0, .int .u64 0] 24)
  have HA := Lib.hid hA
  have HF := Lib.hid hf
  have E1 := Lib.hid e1
  have E2 := Lib.hid e2
  have H0 := Lib.hid h0
  have H8 := Lib.hid h8
  clear hA hf e1 e2 h0 h8 C E
  go_enter Try.func68, Try.ntmps68
  go_wp2
  go_loop [3, 4, 5] (fun p q i => ∃ k : Nat, k ≤ 8 ∧ i = .int .i64 (k : Int) ∧ p = .int .u64 (horn f 0 k) ∧ q = .int .u64 (horn f 8 k)) (fun _ _ i => 8 - (intOf i).toNat)
  case atStart => exact ⟨0, by decide, rfl, rfl, rfl⟩
  case round =>
    obtain ⟨k, hk, rfl, rfl, rfl⟩ := hrel
    by_cases hlt : k < 8
    · have b1 := horn_small (d := f) (o := 0) (fun i _ h2 => HF.out i (by omega)) k hlt
      have b2 := horn_small (d := f) (o := 8) (fun i _ h2 => HF.out i (by omega)) k hlt
      have n1 : Hid (horn f 0 (k + 1) = horn f 0 k * 256 + f k) := by show _ = _; rw [horn, Nat.zero_add]
      have n2 : Hid (horn f 8 (k + 1) = horn f 8 k * 256 + f (8 + k)) := rfl
      have c1 := (HA.out k (by omega)).1
      have c2 := (HA.out (8 + k) (by omega)).1
      have r1 := HF.out k (by omega)
      have r2 := HF.out (8 + k) (by omega)
      generalize horn f 0 k = P at *
      generalize horn f 8 k = Q at *
      obtain ⟨u, hu⟩ : ∃ u, f k = u := ⟨_, rfl⟩
      obtain ⟨v, hv⟩ : ∃ v, f (8 + k) = v := ⟨_, rfl⟩
      rw [hu] at c1 r1 n1
      rw [hv] at c2 r2 n2
      clear hu hv
      have hk1 : (k : Int) < 8 := by omega
      have hk3 : ((8 : Int) + (k : Int)).toNat = 8 + k := by omega
      go_wp2
      go_round
      case rel => exact ⟨k + 1, by omega, by go_num, by rw [n1.out], by rw [n2.out]⟩
      case measure => simp [intOf]; omega
    · have e : k = 8 := by omega
      subst e
      clear hk hlt
      generalize horn f 0 8 = P at *
      generalize horn f 8 8 = Q at *
      have h0 := H0.out
      have h8 := H8.out
      go_wp2
      exact bodyPost_ret (v := .agg #[.int .i64 (wrap64 P), .int .u64 (Q)]) (by simp [results, Try.results68, go_sem]) rfl ⟨agg_eq (by rw [E1.out, wrap64_is]) E2.out, by (repeat (first | exact Below.refl _ _ | assumption | refine below_add ?_ _ | (refine below_on ?_ (by assumption)) | refine Below.drew ?_ | refine below_drewN ?_ _ | (refine Below.setCell ?_ (by simp; try omega) _) | (refine below_new ?_ _ (by simp; try omega)) | (refine below_next ?_ (by assumption) (by simp; try omega))))⟩

/-- The sixteen cells as they are loaded; stored in a row of the call's own, and read there. -/
theorem Arr.wloadVar {w : World} {b : Nat} {f : Nat → Int} (h : Arr w b f) : (Go.loadVar 88 ⟨b, 0, none⟩).run Try.prog w = .ok (.agg (arrOf f)) w := by
  have := run_loadVar_mid (P := Try.prog) w b 0 88 (arrOf f).toList _ h.range Try.underlying88 rfl (by rw [winfoA, Array.length_toList, arrOf_size])
  simpa using this
theorem below_setCells {B : Nat} {w0 : World} (b : Nat) (hb : B ≤ b) : ∀ (vs : List Value) (o : Nat) (w : World), Below B w0 w → Below B w0 (w.setCells b o vs)
  | [], _, _, h => h
  | v :: r, o, _, h => below_setCells b hb r (o + 1) _ (h.setCell hb v)
theorem Arr.stored16 {w : World} {b : Nat} {f0 : Nat → Int} (h : Arr w b f0) (f : Nat → Int) : Arr (w.setCells b 0 (arrOf f).toList) b f := by
  intro i hi
  refine ⟨?_, ?_⟩
  · have := World.cell?_setCells_in b (arrOf f).toList 0 w (fun j hj => by
      rw [Array.length_toList, arrOf_size] at hj
      rw [Nat.zero_add, (h j hj).1]; rfl) i (by rw [Array.length_toList, arrOf_size]; exact hi)
    rw [Nat.zero_add] at this
    rw [this]
    have e := arrOf_at f i hi
    rw [Array.getElem?_eq_getElem (by rw [arrOf_size]; exact hi)] at e
    simpa using e
  · rw [World.frozen?_setCells]; exact (h i hi).2
/-- The laws of the load and of the store, at these cells. -/
theorem wwpList_load_arr {ops : Array Oper} {rest : List Oper} {op : Oper} {a : Act} {w : World} {Q : Exit → Act → World → Prop} {b : Nat} {f : Nat → Int} (h : Arr w b f) (hgd : op.guard = none) (x : Operand) (ho : op.op = .load 88 x)
    (hx : a.eval x = .pointer (some ⟨b, 0, none⟩)) (k : wpList Try.prog ops Q rest (a.put op.dst (.agg (arrOf f))) w) : wpList Try.prog ops Q (op :: rest) a w := by
  refine wpList_load_mid hgd 88 x ho b 0 hx (arrOf f).toList _ h.range Try.underlying88 rfl (by rw [winfoA, Array.length_toList, arrOf_size]) ?_
  simpa using k
theorem wwpList_store_arr {ops : Array Oper} {rest : List Oper} {op : Oper} {a : Act} {w : World} {Q : Exit → Act → World → Prop} {b : Nat} {f0 f : Nat → Int} (h : Arr w b f0) (hgd : op.guard = none) (x y : Operand) (ho : op.op = .store 88 x y)
    (hx : a.eval x = .pointer (some ⟨b, 0, none⟩)) (hy : a.eval y = .agg (arrOf f))
    (k : ∀ w', Arr w' b f → (∀ B w0, B ≤ b → Below B w0 w → Below B w0 w') → wpList Try.prog ops Q rest (a.put op.dst undef) w') : wpList Try.prog ops Q (op :: rest) a w := by
  refine wpList_store_mid hgd 88 x y ho b 0 (arrOf f) hx hy (fun j hj => ?_) (by rw [winfoA, arrOf_size]) ?_ (k _ (h.stored16 f) fun B w0 hB hw => below_setCells b hB _ _ _ hw)
  · rw [arrOf_size] at hj
    rw [Nat.zero_add, (h j hj).1]
    exact ⟨rfl, (h j hj).2⟩
  · rw [Array.all_eq_true_iff_forall_mem]
    intro v hv
    unfold arrOf at hv
    simp at hv
    obtain ⟨i, _, rfl⟩ := hv
    rfl

/-- What the loop of carry has done: the last k digits are put right. -/
structure CarryRel (w wr : World) (b : Nat) (d : Nat → Int) (k : Nat) (c : Int) (g : Nat → Int) : Prop where
  arr : Arr wr b g
  out : Arr wr (b + 1) (fun _ => 0)
  sum : tailv d k = tailv g k + c * 256 ^ k
  old : ∀ i, i < 16 - k → g i = d i
  new : ∀ i, 16 - k ≤ i → i < 16 → 0 ≤ g i ∧ g i ≤ 255
  c0 : 0 ≤ c
  c1 : c ≤ 1099511627776
  below : Below w.heap.size w wr
  room : w.heap.size ≤ b

theorem CarryRel.next {w wr : World} {b k : Nat} {d g : Nat → Int} {c : Int} (R : CarryRel w wr b d k c g) (hk : k < 16) (hd : 0 ≤ d (15 - k) ∧ d (15 - k) ≤ 1099511627776) :
    CarryRel w (wr.setCell ⟨b, 15 - k, none⟩ (.int .i64 ((d (15 - k) + c) % 256))) b d (k + 1) ((d (15 - k) + c) / 256) (updI g (15 - k) ((d (15 - k) + c) % 256)) := by
  have h0 := R.c0
  have h1 := R.c1
  refine ⟨R.arr.stored (15 - k) (by omega) _, ?_, carry_step hk R.sum _ _ rfl rfl _ (by unfold updI; rw [if_pos rfl]) (fun i hi => by unfold updI; rw [if_neg hi]), fun i hi => ?_, fun i h2 h3 => ?_, by omega, by omega, R.below.setCell R.room _, R.room⟩
  · intro i hi
    obtain ⟨k1, k2⟩ := R.out i hi
    refine ⟨?_, by simp [go_sem, k2]⟩
    rw [World.cell?_setCell_other]
    · exact k1
    · intro e; have := congrArg Addr.block e; simp at this
  · unfold updI; rw [if_neg (by omega)]; exact R.old i (by omega)
  · unfold updI
    split
    · omega
    · exact R.new i (by omega) h3

set_option maxHeartbeats 1000000 in
theorem carry_any (d : Nat → Int) (w : World) (hd : ∀ i, i < 16 → 0 ≤ d i ∧ d i ≤ 1099511627776) :
    Calls Try.prog 69 #[.agg (arrOf d)] w fun e w' => ∃ g, e = .returned (.agg (arrOf g)) ∧ (∀ i, i < 16 → 0 ≤ g i ∧ g i ≤ 255) ∧ Cong (tailv d 16) (tailv g 16) ∧ Below w.heap.size w w' := by
  have hA := (Arr.new w d 88).alloc (.cells (arrOf fun _ => 0) 88)
  have hB := Arr.new (w.alloc (.cells (arrOf d) 88)) (fun _ => 0) 88
  have HD := Lib.hid hd
  have HA := Lib.hid hA
  have HB := Lib.hid hB
  clear hd hA hB
  go_enter Try.func69, Try.ntmps69
  go_wp2
  go_loopw [3, 4] (fun p i wr => ∃ (k : Nat) (c : Int) (g : Nat → Int), k ≤ 16 ∧ i = .int .i64 (15 - (k : Int)) ∧ p = .int .i64 c ∧ CarryRel w wr w.heap.size d k c g) (fun _ i _ => (intOf i + 1).toNat)
  case atStart => exact ⟨0, 0, d, by decide, rfl, rfl, HA.out, by have := HB.out; simp at this; exact this, by simp [tailv], fun _ _ => rfl, fun i h1 h2 => by omega, by decide, by decide, by (repeat (first | exact Below.refl _ _ | assumption | refine below_add ?_ _ | (refine below_on ?_ (by assumption)) | refine Below.drew ?_ | refine below_drewN ?_ _ | (refine Below.setCell ?_ (by simp; try omega) _) | (refine below_new ?_ _ (by simp; try omega)) | (refine below_next ?_ (by assumption) (by simp; try omega)))), Nat.le_refl _⟩
  case round =>
    obtain ⟨k, c, g, hk, rfl, rfl, R⟩ := hrel
    by_cases hlt : k < 16
    · have hold := R.old (15 - k) (by omega)
      have hc1 := (R.arr (15 - k) (by omega)).1
      have hc2 := (R.arr (15 - k) (by omega)).2
      rw [hold] at hc1
      have hdk := HD.out (15 - k) (by omega)
      have N := Lib.hid (R.next hlt hdk)
      have h0 := R.c0
      have h1 := R.c1
      obtain ⟨u, hu⟩ : ∃ u, d (15 - k) = u := ⟨_, rfl⟩
      rw [hu] at hc1 hdk N
      have HR := Lib.hid R
      clear R hold hu
      have hi1 : (15 - (k : Int)).toNat = 15 - k := by omega
      have hi2 : (0 : Int) ≤ 15 - (k : Int) := by omega
      have hi3 : (15 : Int) - (k : Int) < 16 := by omega
      go_wp2
      go_roundw
      case rel => exact ⟨k + 1, _, _, by omega, by go_num, rfl, N.out⟩
      case measure => simp [intOf]; omega
    · have e : k = 16 := by omega
      subst e
      have hr := R.room
      have hA1 := R.arr
      have hA2 := R.out
      have hb1 := R.below
      have hnew : Hid (∀ i, i < 16 → 0 ≤ g i ∧ g i ≤ 255) := fun i hi => R.new i (by omega) hi
      have hcong : Hid (Cong (tailv d 16) (tailv g 16)) := ⟨c, by
        have := R.sum
        have e : (256 : Int) ^ 16 = 340282366920938463463374607431768211456 := by decide
        rw [e] at this; exact this⟩
      clear R
      go_wp2_with (first
        | (refine wwpList_load_arr hA1 rfl _ rfl rfl ?_)
        | (refine wwpList_store_arr (f := g) hA2 rfl _ _ rfl rfl rfl ?_; intro w2 hA3 hB3))
      have k3 := hA3.wloadVar
      exact bodyPost_ret (v := .agg (arrOf g)) (by simp [results, Try.results69, asAddr, Act.put, k3]) rfl ⟨g, rfl, hnew.out, hcong.out, hB3 _ _ (by omega) hb1⟩
end Go.Proofs.Ytipjhlabcbkgjaa

/- Contracts of the document's answer for layer 2: its sums, differences, products. -/
set_option maxRecDepth 20000
namespace Go.Proofs.Ytipjhlabcbkgjaa
open Go.RowKit Go.Proofs.Ytipjhlabcbkgjaa.Wd

theorem Arr.wzero (w : World) : Arr (w.alloc (.cells (arrOf fun _ => 0) 88)) w.heap.size (fun _ => 0) := Arr.new w _ _
theorem Arr.other {w : World} {b : Nat} {f : Nat → Int} (k : Arr w b f) (a : Addr) (v : Value) (hne : b ≠ a.block) : Arr (w.setCell a v) b f := fun i hi => by
  obtain ⟨h1, h2⟩ := k i hi
  refine ⟨?_, by simp [go_sem, h2]⟩
  rw [World.cell?_setCell_other]
  · exact h1
  · intro e; exact hne (by rw [e])
theorem WideAt.under {w w' : World} {b B : Nat} {h l : Int} (k : WideAt w b h l) (hb : Below B w w') (hB : b < B) : WideAt w' b h l :=
  ⟨(hb.cell (p := ⟨b, 0, none⟩) hB).trans k.c0, (hb.cell (p := ⟨b, 1, none⟩) hB).trans k.c1, (hb.frozen (p := ⟨b, 0, none⟩) hB).trans k.f0, (hb.frozen (p := ⟨b, 1, none⟩) hB).trans k.f1⟩
theorem Arr.under {w w' : World} {b B : Nat} {f : Nat → Int} (k : Arr w b f) (hb : Below B w w') (hB : b < B) : Arr w' b f := fun i hi =>
  ⟨(hb.cell (p := ⟨b, i, none⟩) hB).trans (k i hi).1, (hb.frozen (p := ⟨b, i, none⟩) hB).trans (k i hi).2⟩

/-- A new variable of sixteen numbers, and what is stored into it. -/
theorem wwpList_new_arr {ops : Array Oper} {rest : List Oper} {op : Oper} {a : Act} {w : World} {Q : Exit → Act → World → Prop} {f : Nat → Int} (hgd : op.guard = none) (x y : Operand) (ho : op.op = .store 88 x y)
    (hx : a.eval x = .pointer (some ⟨w.heap.size, 0, none⟩)) (hy : a.eval y = .agg (arrOf f))
    (k : ∀ w', Arr w' w.heap.size f → Below w.heap.size w w' → wpList Try.prog ops Q rest (a.put op.dst undef) w') : wpList Try.prog ops Q (op :: rest) a (w.alloc (.cells (arrOf fun _ => 0) 88)) :=
  wwpList_store_arr (Arr.wzero w) hgd x y ho hx hy fun w' h1 h2 => k w' h1 (h2 _ _ (Nat.le_refl _) ((Below.refl _ _).alloc (Nat.le_refl _) _))

/-- What the loop of a sum has done: k digits are taken together. -/
structure OpRel (w wr : World) (b o : Nat) (f x z : Nat → Int) (k : Nat) : Prop where
  arr : Arr wr b f
  done : ∀ i, i < k → f i = z i
  rest : ∀ i, k ≤ i → f i = x i
  out : WideAt wr o 0 0
  below : Below w.heap.size w wr
  ob : o < b
  room : w.heap.size ≤ b
theorem OpRel.next {w wr : World} {b o k : Nat} {f x z : Nat → Int} (R : OpRel w wr b o f x z k) (hk : k < 16) : OpRel w (wr.setCell ⟨b, k, none⟩ (.int .i64 (z k))) b o (updI f k (z k)) x z (k + 1) := by
  have := R.ob
  refine ⟨R.arr.stored k hk _, fun i hi => ?_, fun i hi => ?_, R.out.other _ _ (by show o ≠ b; omega), R.below.setCell R.room _, R.ob, R.room⟩
  · unfold updI
    split
    · rename_i e; rw [e]
    · exact R.done i (by omega)
  · unfold updI; rw [if_neg (by omega)]; exact R.rest i (by omega)
theorem OpRel.drew {w wr : World} {b o k : Nat} {f x z : Nat → Int} (R : OpRel w wr b o f x z k) : OpRel w wr.drew b o f x z k := ⟨R.arr.drew, R.done, R.rest, R.out.drew, R.below.drew, R.ob, R.room⟩
theorem OpRel.all {w wr : World} {b o : Nat} {f x z : Nat → Int} (R : OpRel w wr b o f x z 16) : Arr wr b z := fun i hi => by rw [← R.done i hi]; exact R.arr i hi

/-- carry and number under one name each. -/
def CarryDone (d : Nat → Int) (w : World) (e : Ending) (w' : World) : Prop := ∃ g, e = .returned (.agg (arrOf g)) ∧ (∀ i, i < 16 → 0 ≤ g i ∧ g i ≤ 255) ∧ Cong (tailv d 16) (tailv g 16) ∧ Below w.heap.size w w'

set_option maxHeartbeats 1000000 in
theorem refAdd_any (h1 l1 h2 l2 h l a b c : Int) (w : World) (A : Rep h1 l1 a) (B : Rep h2 l2 b) (C : Rep h l c) (E : Cong c (a + b)) :
    Calls Try.prog 37 #[.agg #[.int .i64 (h1), .int .u64 (l1)], .agg #[.int .i64 (h2), .int .u64 (l2)]] w fun e w' => e = .returned (.agg #[.int .i64 (h), .int .u64 (l)]) ∧ Below w.heap.size w w' := by
  obtain ⟨x, hx⟩ : ∃ x, dg h1 l1 = x := ⟨_, rfl⟩
  obtain ⟨y, hy⟩ : ∃ y, dg h2 l2 = y := ⟨_, rfl⟩
  have k1 := fun w => digits_any h1 l1 x w A.l0 A.l1 hx
  have k2 := fun w => digits_any h2 l2 y w B.l0 B.l1 hy
  have hx8 : Hid (∀ i, 0 ≤ x i ∧ x i ≤ 255) := fun i => by rw [← hx]; exact dg_range h1 l1 i
  have hy8 : Hid (∀ i, 0 ≤ y i ∧ y i ≤ 255) := fun i => by rw [← hy]; exact dg_range h2 l2 i
  have k3 : ∀ w, Calls Try.prog 69 #[.agg (arrOf fun i => x i + y i)] w (CarryDone (fun i => x i + y i) w) := fun w =>
    carry_any (fun i => x i + y i) w (fun i _ => by have := hx8.out i; have := hy8.out i; omega)
  have hsum : Hid (Cong c (tailv (fun i => x i + y i) 16)) := by
    show Cong _ _
    rw [tailv_add, ← hx, ← hy]
    exact E.trans ((tailv_dg A).add (tailv_dg B)).symm
  have k4 : ∀ g w, (∀ i, i < 16 → 0 ≤ g i ∧ g i ≤ 255) → Cong (tailv (fun i => x i + y i) 16) (tailv g 16) → Calls Try.prog 68 #[.agg (arrOf g)] w fun e w' => e = .returned (.agg #[.int .i64 (h), .int .u64 (l)]) ∧ Below w.heap.size w w' := fun g w hg hc => number_any g h l c w hg C (hsum.out.trans hc)
  have hO := WideAt.new ((w.alloc (.cells #[.int .i64 h1, .int .u64 l1] 24)).alloc (.cells #[.int .i64 h2, .int .u64 l2] 24)) 0 0 24
  have hP := (WideAt.new (w.alloc (.cells #[.int .i64 h1, .int .u64 l1] 24)) h2 l2 24).alloc (.cells #[.int .i64 0, .int .u64 0] 24)
  simp only [World.size_alloc] at hO hP
  clear hx hy A B C E
  go_enter Try.func37, Try.ntmps37
  go_wp2_with (first
    | (go_at_call 67; (with_reducible refine (k1 _).mono ?_); rintro e wz ⟨rfl, hbz⟩; have hOz := hO.below hbz; have hPz := hP.below hbz)
    | (refine wwpList_new_arr (f := x) rfl _ _ rfl rfl rfl ?_; intro wy hAy hby; have hOy := hOz.below hby; have hPy := hPz.below hby; have p0 := hPy.c0; have p1 := hPy.c1)
    | (go_at_call 67; (with_reducible refine (k2 _).mono ?_); rintro e wx ⟨rfl, hbx⟩; have hOx := hOy.below hbx; have hAx := hAy.below hbx)
    | (refine wwpList_new_arr (f := y) rfl _ _ rfl rfl rfl ?_; intro wv hAv hbv; have hOv := hOx.below hbv; have hA1 := hAx.below hbv))
  have hbel : Below w.heap.size w wv := by (repeat (first | exact Below.refl _ _ | assumption | refine below_add ?_ _ | (refine below_on ?_ (by assumption)) | refine Below.drew ?_ | refine below_drewN ?_ _ | (refine Below.setCell ?_ (by simp; try omega) _) | (refine below_new ?_ _ (by simp; try omega)) | (refine below_next ?_ (by assumption) (by simp; try omega))))
  have hroom := hOz.room
  have hlt2 := hAx.room
  have HR0 : Hid (OpRel w wv wz.heap.size (w.heap.size + 1 + 1) x x (fun i => x i + y i) 0) := ⟨hA1, fun i hi => absurd hi (by omega), fun _ _ => rfl, hOv, hbel, hroom, by omega⟩
  have HY0 := Lib.hid hAv
  clear hO hP hOz hPz hOy hPy p0 p1 hAy hAx hOx hA1 hAv hOv k1 k2 hbel
  go_loopw [7] (fun i wr => ∃ (k : Nat) (f : Nat → Int), k ≤ 16 ∧ i = .int .i64 (k : Int) ∧ OpRel w wr wz.heap.size (w.heap.size + 1 + 1) f x (fun i => x i + y i) k ∧ Arr wr wx.heap.size y) (fun i _ => 16 - (intOf i).toNat)
  case atStart => exact ⟨0, x, by decide, rfl, HR0.out, HY0.out⟩
  case round =>
    obtain ⟨k, f, hk, rfl, R, hY⟩ := hrel
    by_cases hlt : k < 16
    · have c1 := (R.arr k hlt).1
      have f1 := (R.arr k hlt).2
      have c2 := (hY k hlt).1
      rw [R.rest k (Nat.le_refl _)] at c1
      have r1 := hx8.out k
      have r2 := hy8.out k
      have N := Lib.hid (R.next hlt)
      have HYN := Lib.hid (hY.other ⟨wz.heap.size, k, none⟩ (.int .i64 (x k + y k)) (by show wx.heap.size ≠ wz.heap.size; omega))
      obtain ⟨u, hu⟩ : ∃ u, x k = u := ⟨_, rfl⟩
      obtain ⟨v, hv⟩ : ∃ v, y k = v := ⟨_, rfl⟩
      rw [hu] at c1 r1 N HYN
      rw [hv] at c2 r2 N HYN
      have hk1 : (k : Int) < 16 := by omega
      have hk2 : (0 : Int) ≤ (k : Int) := by omega
      have hw : IntKind.i64.wrap (u + v) = u + v := by rw [IntKind.wrap_i64]; omega
      clear R hY hu hv HR0 HY0 k3 k4
      go_wp2_with fail
      go_region
      all_goals
        go_wp2
        go_roundw
        case rel => exact ⟨k + 1, _, by omega, by go_num, N.out.drew, HYN.out.drew⟩
        case measure => simp [intOf]; omega
    · have e : k = 16 := by omega
      subst e
      have hall := R.all
      have hO1 := R.out
      have hb1 := R.below
      clear R hY hx8 hy8 hsum HR0 HY0
      go_wp2_with (first
        | (refine wwpList_load_arr hall rfl _ rfl rfl ?_)
        | (go_at_call 69; (with_reducible refine (k3 _).mono ?_); rintro e wc ⟨g, rfl, hg, hgc, hbc⟩; have hO2 := hO1.below hbc; have k5 := fun w => k4 g w hg hgc; clear hg hgc k4)
        | (go_at_call 68; (with_reducible refine (k5 _).mono ?_); rintro e wn ⟨rfl, hbn⟩; have hO3 := hO2.below hbn; have o0 := hO3.c0; have o1 := hO3.c1; have o2 := hO3.f0; have o3 := hO3.f1))
      exact bodyPost_ret (v := .agg #[.int .i64 (h), .int .u64 (l)]) (by simp [results, Try.results37, go_sem, o0, o1]) rfl ⟨rfl, by (repeat (first | exact Below.refl _ _ | assumption | refine below_add ?_ _ | (refine below_on ?_ (by assumption)) | refine Below.drew ?_ | refine below_drewN ?_ _ | (refine Below.setCell ?_ (by simp; try omega) _) | (refine below_new ?_ _ (by simp; try omega)) | (refine below_next ?_ (by assumption) (by simp; try omega))))⟩

set_option maxHeartbeats 1000000 in
theorem refTimes_any (h1 l1 n h l a c : Int) (w : World) (hn : 0 ≤ n) (hn1 : n ≤ 4294967295) (A : Rep h1 l1 a) (C : Rep h l c) (E : Cong c (a * n)) :
    Calls Try.prog 64 #[.agg #[.int .i64 (h1), .int .u64 (l1)], .int .u32 n] w fun e w' => e = .returned (.agg #[.int .i64 (h), .int .u64 (l)]) ∧ Below w.heap.size w w' := by
  obtain ⟨x, hx⟩ : ∃ x, dg h1 l1 = x := ⟨_, rfl⟩
  have k1 := fun w => digits_any h1 l1 x w A.l0 A.l1 hx
  have hx8 : Hid (∀ i, 0 ≤ x i ∧ x i ≤ 255) := fun i => by rw [← hx]; exact dg_range h1 l1 i
  have hp8 : Hid (∀ i, 0 ≤ x i * n ∧ x i * n ≤ 255 * 4294967295) := fun i => mul_le _ _ _ _ (hx8.out i).1 (hx8.out i).2 hn hn1
  have k3 : ∀ w, Calls Try.prog 69 #[.agg (arrOf fun i => x i * n)] w (CarryDone (fun i => x i * n) w) := fun w =>
    carry_any (fun i => x i * n) w (fun i _ => by have := hp8.out i; omega)
  have hsum : Hid (Cong c (tailv (fun i => x i * n) 16)) := by
    show Cong _ _
    rw [tailv_mul, ← hx]
    exact E.trans ((tailv_dg A).mul n).symm
  have k4 : ∀ g w, (∀ i, i < 16 → 0 ≤ g i ∧ g i ≤ 255) → Cong (tailv (fun i => x i * n) 16) (tailv g 16) → Calls Try.prog 68 #[.agg (arrOf g)] w fun e w' => e = .returned (.agg #[.int .i64 (h), .int .u64 (l)]) ∧ Below w.heap.size w w' := fun g w hg hc => number_any g h l c w hg C (hsum.out.trans hc)
  have hO := WideAt.new (w.alloc (.cells #[.int .i64 h1, .int .u64 l1] 24)) 0 0 24
  simp only [World.size_alloc] at hO
  clear hx A C E
  go_enter Try.func64, Try.ntmps64
  go_wp2_with (first
    | (go_at_call 67; (with_reducible refine (k1 _).mono ?_); rintro e wz ⟨rfl, hbz⟩; have hOz := hO.below hbz)
    | (refine wwpList_new_arr (f := x) rfl _ _ rfl rfl rfl ?_; intro wy hAy hby; have hOy := hOz.below hby))
  have hbel : Below w.heap.size w wy := by (repeat (first | exact Below.refl _ _ | assumption | refine below_add ?_ _ | (refine below_on ?_ (by assumption)) | refine Below.drew ?_ | refine below_drewN ?_ _ | (refine Below.setCell ?_ (by simp; try omega) _) | (refine below_new ?_ _ (by simp; try omega)) | (refine below_next ?_ (by assumption) (by simp; try omega))))
  have hroom := hOz.room
  have HR0 : Hid (OpRel w wy wz.heap.size (w.heap.size + 1) x x (fun i => x i * n) 0) := ⟨hAy, fun i hi => absurd hi (by omega), fun _ _ => rfl, hOy, hbel, hroom, by omega⟩
  clear hO hOz hOy hAy k1 hbel
  go_loopw [6] (fun i wr => ∃ (k : Nat) (f : Nat → Int), k ≤ 16 ∧ i = .int .i64 (k : Int) ∧ OpRel w wr wz.heap.size (w.heap.size + 1) f x (fun i => x i * n) k) (fun i _ => 16 - (intOf i).toNat)
  case atStart => exact ⟨0, x, by decide, rfl, HR0.out⟩
  case round =>
    obtain ⟨k, f, hk, rfl, R⟩ := hrel
    by_cases hlt : k < 16
    · have c1 := (R.arr k hlt).1
      have f1 := (R.arr k hlt).2
      rw [R.rest k (Nat.le_refl _)] at c1
      have r1 := hx8.out k
      have r2 := hp8.out k
      have N := Lib.hid (R.next hlt)
      obtain ⟨u, hu⟩ : ∃ u, x k = u := ⟨_, rfl⟩
      rw [hu] at c1 r1 r2 N
      obtain ⟨r21, r22⟩ := r2
      have r23 : u * n ≤ 1095216660225 := by omega
      clear r22
      have hk1 : (k : Int) < 16 := by omega
      have hk2 : (0 : Int) ≤ (k : Int) := by omega
      clear R hu HR0 k3 k4
      go_wp2
      go_roundw
      case rel => exact ⟨k + 1, _, by omega, by go_num, N.out⟩
      case measure => simp [intOf]; omega
    · have e : k = 16 := by omega
      subst e
      have hall := R.all
      have hO1 := R.out
      have hb1 := R.below
      clear R hx8 hp8 hsum HR0
      go_wp2_with (first
        | (refine wwpList_load_arr hall rfl _ rfl rfl ?_)
        | (go_at_call 69; (with_reducible refine (k3 _).mono ?_); rintro e wc ⟨g, rfl, hg, hgc, hbc⟩; have hO2 := hO1.below hbc; have k5 := fun w => k4 g w hg hgc; clear hg hgc k4)
        | (go_at_call 68; (with_reducible refine (k5 _).mono ?_); rintro e wn ⟨rfl, hbn⟩; have hO3 := hO2.below hbn; have o0 := hO3.c0; have o1 := hO3.c1; have o2 := hO3.f0; have o3 := hO3.f1))
      exact bodyPost_ret (v := .agg #[.int .i64 (h), .int .u64 (l)]) (by simp [results, Try.results64, go_sem, o0, o1]) rfl ⟨rfl, by (repeat (first | exact Below.refl _ _ | assumption | refine below_add ?_ _ | (refine below_on ?_ (by assumption)) | refine Below.drew ?_ | refine below_drewN ?_ _ | (refine Below.setCell ?_ (by simp; try omega) _) | (refine below_new ?_ _ (by simp; try omega)) | (refine below_next ?_ (by assumption) (by simp; try omega))))⟩

theorem rep_one : Rep 0 1 1 := ⟨by decide, by decide, by decide, by decide, by decide⟩
set_option maxHeartbeats 1000000 in
theorem refNeg_any (h1 l1 h l a c : Int) (w : World) (A : Rep h1 l1 a) (C : Rep h l c) (E : Cong c (-a)) :
    Calls Try.prog 63 #[.agg #[.int .i64 (h1), .int .u64 (l1)]] w fun e w' => e = .returned (.agg #[.int .i64 (h), .int .u64 (l)]) ∧ Below w.heap.size w w' := by
  obtain ⟨x, hx⟩ : ∃ x, dg h1 l1 = x := ⟨_, rfl⟩
  have k1 := fun w => digits_any h1 l1 x w A.l0 A.l1 hx
  have hx8 : Hid (∀ i, 0 ≤ x i ∧ x i ≤ 255) := fun i => by rw [← hx]; exact dg_range h1 l1 i
  obtain ⟨h2, l2, B⟩ := rep_sm (tailv (fun i => 255 - x i) 16)
  have k4 : ∀ w, Calls Try.prog 68 #[.agg (arrOf fun i => 255 - x i)] w fun e w' => e = .returned (.agg #[.int .i64 (h2), .int .u64 (l2)]) ∧ Below w.heap.size w w' := fun w =>
    number_any (fun i => 255 - x i) h2 l2 _ w (fun i _ => by have := hx8.out i; omega) B (sm_cong _)
  have k6 : ∀ w, Calls Try.prog 37 #[.agg #[.int .i64 (h2), .int .u64 (l2)], .agg #[.int .i64 (0), .int .u64 (1)]] w fun e w' => e = .returned (.agg #[.int .i64 (h), .int .u64 (l)]) ∧ Below w.heap.size w w' := fun w => by
    refine refAdd_any h2 l2 0 1 h l _ 1 c w B rep_one C ?_
    refine E.trans ?_
    have g1 := (sm_cong (tailv (fun i => 255 - x i) 16)).symm
    rw [tailv_not] at g1
    have g2 := tailv_dg A
    rw [hx] at g2
    rw [tailv_not]
    have e : (256 : Int) ^ 16 = 340282366920938463463374607431768211456 := by decide
    rw [e] at g1 ⊢
    obtain ⟨p, hp⟩ := g1
    obtain ⟨q, hq⟩ := g2
    exact ⟨q - 1 + p, by omega⟩
  have hO := WideAt.new (w.alloc (.cells #[.int .i64 h1, .int .u64 l1] 24)) 0 0 24
  simp only [World.size_alloc] at hO
  clear hx A C E B
  go_enter Try.func63, Try.ntmps63
  go_wp2_with (first
    | (go_at_call 67; (with_reducible refine (k1 _).mono ?_); rintro e wz ⟨rfl, hbz⟩; have hOz := hO.below hbz)
    | (refine wwpList_new_arr (f := x) rfl _ _ rfl rfl rfl ?_; intro wy hAy hby; have hOy := hOz.below hby))
  have hbel : Below w.heap.size w wy := by (repeat (first | exact Below.refl _ _ | assumption | refine below_add ?_ _ | (refine below_on ?_ (by assumption)) | refine Below.drew ?_ | refine below_drewN ?_ _ | (refine Below.setCell ?_ (by simp; try omega) _) | (refine below_new ?_ _ (by simp; try omega)) | (refine below_next ?_ (by assumption) (by simp; try omega))))
  have hroom := hOz.room
  have HR0 : Hid (OpRel w wy wz.heap.size (w.heap.size + 1) x x (fun i => 255 - x i) 0) := ⟨hAy, fun i hi => absurd hi (by omega), fun _ _ => rfl, hOy, hbel, hroom, by omega⟩
  clear hO hOz hOy hAy k1 hbel
  go_loopw [4] (fun i wr => ∃ (k : Nat) (f : Nat → Int), k ≤ 16 ∧ i = .int .i64 (k : Int) ∧ OpRel w wr wz.heap.size (w.heap.size + 1) f x (fun i => 255 - x i) k) (fun i _ => 16 - (intOf i).toNat)
  case atStart => exact ⟨0, x, by decide, rfl, HR0.out⟩
  case round =>
    obtain ⟨k, f, hk, rfl, R⟩ := hrel
    by_cases hlt : k < 16
    · have c1 := (R.arr k hlt).1
      have f1 := (R.arr k hlt).2
      rw [R.rest k (Nat.le_refl _)] at c1
      have r1 := hx8.out k
      have N := Lib.hid (R.next hlt)
      obtain ⟨u, hu⟩ : ∃ u, x k = u := ⟨_, rfl⟩
      rw [hu] at c1 r1 N
      have hk1 : (k : Int) < 16 := by omega
      have hk2 : (0 : Int) ≤ (k : Int) := by omega
      clear R hu HR0 k4 k6
      go_wp2
      go_roundw
      case rel => exact ⟨k + 1, _, by omega, by go_num, N.out⟩
      case measure => simp [intOf]; omega
    · have e : k = 16 := by omega
      subst e
      have hall := R.all
      have hO1 := R.out
      have hb1 := R.below
      clear R hx8 HR0
      go_wp2_with (first
        | (refine wwpList_load_arr hall rfl _ rfl rfl ?_)
        | (go_at_call 68; (with_reducible refine (k4 _).mono ?_); rintro e wn ⟨rfl, hbn⟩; have hO2 := hO1.below hbn)
        | (go_at_call 37; (with_reducible refine (k6 _).mono ?_); rintro e wa ⟨rfl, hba⟩; have hO3 := hO2.below hba; have o0 := hO3.c0; have o1 := hO3.c1; have o2 := hO3.f0; have o3 := hO3.f1))
      exact bodyPost_ret (v := .agg #[.int .i64 (h), .int .u64 (l)]) (by simp [results, Try.results63, go_sem, o0, o1]) rfl ⟨rfl, by (repeat (first | exact Below.refl _ _ | assumption | refine below_add ?_ _ | (refine below_on ?_ (by assumption)) | refine Below.drew ?_ | refine below_drewN ?_ _ | (refine Below.setCell ?_ (by simp; try omega) _) | (refine below_new ?_ _ (by simp; try omega)) | (refine below_next ?_ (by assumption) (by simp; try omega))))⟩
end Go.Proofs.Ytipjhlabcbkgjaa

/- Contracts of the document's answer for layer 2: differences, orders, small numbers. -/
namespace Go.Proofs.Ytipjhlabcbkgjaa
open Go.RowKit Go.Proofs.Ytipjhlabcbkgjaa.Wd

namespace Wd
theorem tailv_dg_eq {h l : Int} (p3 : 0 ≤ l) (p4 : l ≤ 18446744073709551615) : tailv (dg h l) 16 = h % 18446744073709551616 * 18446744073709551616 + l := by
  have e : ∀ i, i < 8 → dg h l i = (h % 18446744073709551616) / 256 ^ (7 - i) % 256 := fun i hi => by unfold dg; rw [if_pos hi]
  have g : ∀ i, ¬ i < 8 → dg h l i = l / 256 ^ (15 - i) % 256 := fun i hi => by unfold dg; rw [if_neg hi]
  simp only [tailv]
  rw [e 0 (by decide), e 1 (by decide), e 2 (by decide), e 3 (by decide), e 4 (by decide), e 5 (by decide), e 6 (by decide), e 7 (by decide), g 8 (by decide), g 9 (by decide), g 10 (by decide), g 11 (by decide), g 12 (by decide), g 13 (by decide), g 14 (by decide), g 15 (by decide)]
  have hu0 : 0 ≤ h % 18446744073709551616 ∧ h % 18446744073709551616 ≤ 18446744073709551615 := by omega
  generalize h % 18446744073709551616 = u at *
  simp only [Nat.reduceSub, Int.reducePow, Nat.sub_zero, Nat.sub_self]
  omega
theorem dg_first (h l : Int) : dg h l 0 = h % 18446744073709551616 / 72057594037927936 % 256 := by
  unfold dg; rw [if_pos (by decide), show (256 : Int) ^ (7 - 0) = 72057594037927936 by decide]
/-- The first digit of a number below 0 is 128 or more. -/
theorem dg_sign {h l a : Int} (A : Rep h l a) : 128 ≤ dg h l 0 ↔ a < 0 := by
  rw [dg_first]
  obtain ⟨p1, p2, p3, p4, p5⟩ := A
  omega
/-- The digits, the first one turned by 128: ordered as the numbers are. -/
def turn (d : Nat → Int) : Nat → Int := fun i => if i = 0 then (d 0 + 128) % 256 else d i
theorem tailv_turn {h l a : Int} (A : Rep h l a) : tailv (turn (dg h l)) 16 = a + 170141183460469231731687303715884105728 := by
  have e1 : tailv (turn (dg h l)) 15 = tailv (dg h l) 15 := tailv_congr 15 (fun m hm => by unfold turn; rw [if_neg (by omega)])
  have e2 : tailv (turn (dg h l)) 16 = tailv (dg h l) 15 + (dg h l 0 + 128) % 256 * 256 ^ 15 := by
    rw [tailv, e1]; rfl
  have e3 : tailv (dg h l) 16 = tailv (dg h l) 15 + dg h l 0 * 256 ^ 15 := by rw [tailv]
  have e4 := tailv_dg_eq (h := h) A.l0 A.l1
  have e5 := dg_first h l
  have e6 : (256 : Int) ^ 15 = 1329227995784915872903807060280344576 := by decide
  rw [e6] at e2 e3
  obtain ⟨p1, p2, p3, p4, p5⟩ := A
  omega
theorem turn_range (h l : Int) (i : Nat) : 0 ≤ turn (dg h l) i ∧ turn (dg h l) i ≤ 255 := by
  unfold turn
  split
  · omega
  · exact dg_range h l i
theorem tailv_range {d : Nat → Int} (h : ∀ i, 0 ≤ d i ∧ d i ≤ 255) : ∀ k, 0 ≤ tailv d k ∧ tailv d k ≤ 256 ^ k - 1
  | 0 => ⟨by show (0 : Int) ≤ 0; decide, by show (0 : Int) ≤ 256 ^ 0 - 1; decide⟩
  | k + 1 => by
    have ih := tailv_range h k
    have hq : (0 : Int) < 256 ^ k := Int.pow_pos (by decide)
    have h1 := Int.mul_nonneg (h (15 - k)).1 (Int.le_of_lt hq)
    have h2 := Int.mul_le_mul_of_nonneg_right (h (15 - k)).2 (Int.le_of_lt hq)
    rw [tailv, Int.pow_succ]
    generalize d (15 - k) * 256 ^ k = P at *
    generalize (256 : Int) ^ k = Q at *
    omega
theorem tailv_lt {d e : Nat → Int} (hd : ∀ i, 0 ≤ d i ∧ d i ≤ 255) (he : ∀ i, 0 ≤ e i ∧ e i ≤ 255) (j : Nat) (hlt : d (15 - j) < e (15 - j)) : ∀ r, (∀ m, j < m → m < j + 1 + r → d (15 - m) = e (15 - m)) → tailv d (j + 1 + r) < tailv e (j + 1 + r)
  | 0, _ => by
    have h1 := tailv_range hd j
    have h2 := tailv_range he j
    have hq : (0 : Int) < 256 ^ j := Int.pow_pos (by decide)
    have h3 := Int.mul_le_mul_of_nonneg_right (show d (15 - j) + 1 ≤ e (15 - j) by omega) (Int.le_of_lt hq)
    rw [Int.add_mul, Int.one_mul] at h3
    rw [Nat.add_zero, tailv, tailv]
    generalize d (15 - j) * 256 ^ j = P at *
    generalize e (15 - j) * 256 ^ j = R at *
    generalize (256 : Int) ^ j = Q at *
    omega
  | r + 1, h => by
    have ih := tailv_lt hd he j hlt r (fun m h1 h2 => h m h1 (by omega))
    rw [← Nat.add_assoc, tailv, tailv, h (j + 1 + r) (by omega) (by omega)]
    omega
/-- The first digit that is unlike decides. -/
theorem first_lt {d e : Nat → Int} (hd : ∀ i, 0 ≤ d i ∧ d i ≤ 255) (he : ∀ i, 0 ≤ e i ∧ e i ≤ 255) (k : Nat) (hk : k < 16) (heq : ∀ i, i < k → d i = e i) (hlt : d k < e k) : tailv d 16 < tailv e 16 := by
  have := tailv_lt hd he (15 - k) (by rw [show 15 - (15 - k) = k by omega]; exact hlt) k (fun m h1 h2 => heq (15 - m) (by omega))
  rwa [show 15 - k + 1 + k = 16 by omega] at this
end Wd

set_option maxHeartbeats 400000 in
theorem refOf_any (n h l : Int) (w : World) (h0 : -9223372036854775808 ≤ n) (h1 : n ≤ 9223372036854775807) (r : Rep h l n) :
    Calls Try.prog 33 #[.int .i64 n] w fun e w' => e = .returned (.agg #[.int .i64 (h), .int .u64 (l)]) ∧ Below w.heap.size w w' := by
  obtain ⟨r1, r2, r3, r4, r5⟩ := r
  by_cases hn : n < 0
  · have e1 : h = -1 := by omega
    have e2 : l = IntKind.u64.wrap n := by rw [IntKind.wrap_u64]; omega
    clear r1 r2 r3 r4 r5
    subst e1
    have E2 := Lib.hid e2
    clear e2
    go_enter Try.func33, Try.ntmps33
    go_wp2
    exact bodyPost_ret (v := .agg #[.int .i64 (-1), .int .u64 (IntKind.u64.wrap n)]) (by simp [results, Try.results33, go_sem]) rfl ⟨agg_eq rfl E2.out, by (repeat (first | exact Below.refl _ _ | assumption | refine below_add ?_ _ | (refine below_on ?_ (by assumption)) | refine Below.drew ?_ | refine below_drewN ?_ _ | (refine Below.setCell ?_ (by simp; try omega) _) | (refine below_new ?_ _ (by simp; try omega)) | (refine below_next ?_ (by assumption) (by simp; try omega))))⟩
  · have e1 : h = 0 := by omega
    have e2 : l = n := by omega
    clear r1 r2 r3 r4 r5
    subst e1
    have E2 := Lib.hid e2
    clear e2
    go_enter Try.func33, Try.ntmps33
    go_wp2
    exact bodyPost_ret (v := .agg #[.int .i64 (0), .int .u64 (n)]) (by simp [results, Try.results33, go_sem]) rfl ⟨agg_eq rfl E2.out, by (repeat (first | exact Below.refl _ _ | assumption | refine below_add ?_ _ | (refine below_on ?_ (by assumption)) | refine Below.drew ?_ | refine below_drewN ?_ _ | (refine Below.setCell ?_ (by simp; try omega) _) | (refine below_new ?_ _ (by simp; try omega)) | (refine below_next ?_ (by assumption) (by simp; try omega))))⟩

set_option maxHeartbeats 400000 in
theorem refSmall_yes (h l a : Int) (w : World) (A : Rep h l a) (hs : isSmall a = true) :
    Calls Try.prog 65 #[.agg #[.int .i64 (h), .int .u64 (l)]] w fun e w' => e = .returned (.tuple #[.int .i64 a, .bool true]) ∧ Below w.heap.size w w' := by
  have hb := of_decide_eq_true hs
  have hw : wrap64 l = a := by
    obtain ⟨p1, p2, p3, p4, p5⟩ := A
    rw [wrap64_is]; omega
  go_enter Try.func65, Try.ntmps65
  go_wp2_with fail
  go_region_held3 (fun w' => w'.cell? ⟨w.heap.size, 0, none⟩ = some (.int .i64 h) ∧ w'.cell? ⟨w.heap.size, 1, none⟩ = some (.int .u64 l) ∧ Below w.heap.size w w') ((first | exact ⟨by simp [go_sem], by simp [go_sem], by (repeat (first | exact Below.refl _ _ | assumption | refine below_add ?_ _ | (refine below_on ?_ (by assumption)) | refine Below.drew ?_ | refine below_drewN ?_ _ | (refine Below.setCell ?_ (by simp; try omega) _) | (refine below_new ?_ _ (by simp; try omega)) | (refine below_next ?_ (by assumption) (by simp; try omega))))⟩ | exact keep2 (by assumption) (by assumption)))
    ((first | (go_at_call 33; refine (refOf_any a h l _ hb.1 hb.2 A).mono ?_; rintro e w' ⟨rfl, hb'⟩)))
  all_goals
    rename_i hS
    have hbel := hS.2.2
    go_wp2
    go_ret2
    exact ⟨rfl, hbel⟩

set_option maxHeartbeats 400000 in
theorem refSmall_no (h l a : Int) (w : World) (A : Rep h l a) (hs : isSmall a = false) :
    Calls Try.prog 65 #[.agg #[.int .i64 (h), .int .u64 (l)]] w fun e w' => e = .returned (.tuple #[.int .i64 0, .bool false]) ∧ Below w.heap.size w w' := by
  have hb := of_decide_eq_false hs
  obtain ⟨n, hn⟩ : ∃ n, wrap64 l = n := ⟨_, rfl⟩
  have hn1 : -9223372036854775808 ≤ n ∧ n ≤ 9223372036854775807 := by rw [← hn, wrap64_is]; omega
  obtain ⟨x, y, X⟩ := rep_small hn1.1 hn1.2
  have hyl : y = l := by
    obtain ⟨p1, p2, p3, p4, p5⟩ := A
    obtain ⟨q1, q2, q3, q4, q5⟩ := X
    rw [wrap64_is] at hn
    omega
  rw [hyl] at X
  have hne : (x == h) = false := by
    obtain ⟨p1, p2, p3, p4, p5⟩ := A
    obtain ⟨q1, q2, q3, q4, q5⟩ := X
    rw [wrap64_is] at hn
    simp; omega
  clear hyl
  go_enter Try.func65, Try.ntmps65
  go_wp2_with fail
  go_region_held3 (fun w' => w'.cell? ⟨w.heap.size, 0, none⟩ = some (.int .i64 h) ∧ w'.cell? ⟨w.heap.size, 1, none⟩ = some (.int .u64 l) ∧ Below w.heap.size w w') ((first | exact ⟨by simp [go_sem], by simp [go_sem], by (repeat (first | exact Below.refl _ _ | assumption | refine below_add ?_ _ | (refine below_on ?_ (by assumption)) | refine Below.drew ?_ | refine below_drewN ?_ _ | (refine Below.setCell ?_ (by simp; try omega) _) | (refine below_new ?_ _ (by simp; try omega)) | (refine below_next ?_ (by assumption) (by simp; try omega))))⟩ | exact keep2 (by assumption) (by assumption)))
    ((first | (go_at_call 33; refine (refOf_any n x l _ hn1.1 hn1.2 X).mono ?_; rintro e w' ⟨rfl, hb'⟩)))
  all_goals
    rename_i hS
    have hbel := hS.2.2
    go_wp2
    go_ret2
    exact ⟨rfl, hbel⟩

end Go.Proofs.Ytipjhlabcbkgjaa

/- The contract of the document's answer for layer 2: how two numbers compare. -/
set_option maxRecDepth 20000
namespace Go.Proofs.Ytipjhlabcbkgjaa
open Go.RowKit Go.Proofs.Ytipjhlabcbkgjaa.Wd

theorem turn_upd (d : Nat → Int) (v : Int) (hv : v = (d 0 + 128) % 256) : updI d 0 v = turn d := by
  funext i
  unfold updI turn
  by_cases h : i = 0
  · rw [if_pos h, if_pos h, hv]
  · rw [if_neg h, if_neg h]

set_option maxHeartbeats 2000000 in
theorem refCmp_any (h1 l1 h2 l2 a b v : Int) (w : World) (A : Rep h1 l1 a) (B : Rep h2 l2 b) (hv : Hid (cmp a b = v)) :
    Calls Try.prog 51 #[.agg #[.int .i64 (h1), .int .u64 (l1)], .agg #[.int .i64 (h2), .int .u64 (l2)]] w fun e w' => e = .returned (.int .i64 v) ∧ Below w.heap.size w w' := by
  obtain ⟨x, hx⟩ : ∃ x, dg h1 l1 = x := ⟨_, rfl⟩
  obtain ⟨y, hy⟩ : ∃ y, dg h2 l2 = y := ⟨_, rfl⟩
  have k1 := fun w => digits_any h1 l1 x w A.l0 A.l1 hx
  have k2 := fun w => digits_any h2 l2 y w B.l0 B.l1 hy
  have hx8 : 0 ≤ x 0 ∧ x 0 ≤ 255 := by rw [← hx]; exact dg_range h1 l1 0
  have hy8 : 0 ≤ y 0 ∧ y 0 ≤ 255 := by rw [← hy]; exact dg_range h2 l2 0
  obtain ⟨X, hX⟩ : ∃ X, turn x = X := ⟨_, rfl⟩
  obtain ⟨Y, hY⟩ : ∃ Y, turn y = Y := ⟨_, rfl⟩
  have hXr : Hid (∀ i, 0 ≤ X i ∧ X i ≤ 255) := fun i => by rw [← hX, ← hx]; exact turn_range h1 l1 i
  have hYr : Hid (∀ i, 0 ≤ Y i ∧ Y i ≤ 255) := fun i => by rw [← hY, ← hy]; exact turn_range h2 l2 i
  have hXv : Hid (tailv X 16 = a + 170141183460469231731687303715884105728) := by show _ = _; rw [← hX, ← hx]; exact tailv_turn A
  have hYv : Hid (tailv Y 16 = b + 170141183460469231731687303715884105728) := by show _ = _; rw [← hY, ← hy]; exact tailv_turn B
  have uX : Hid (updI x 0 ((x 0 + 128) % 256) = X) := by show _ = _; rw [← hX]; exact turn_upd x _ rfl
  have uY : Hid (updI y 0 ((y 0 + 128) % 256) = Y) := by show _ = _; rw [← hY]; exact turn_upd y _ rfl
  have hP := WideAt.new (w.alloc (.cells #[.int .i64 h1, .int .u64 l1] 24)) h2 l2 24
  simp only [World.size_alloc] at hP
  have HVV := Lib.hid hv.out
  clear hx hy hX hY A B hv
  go_enter Try.func51, Try.ntmps51
  go_upto_region 3 with (first
    | (go_at_call 67; (with_reducible refine (k1 _).mono ?_); rintro e wz ⟨rfl, hbz⟩; have hPz := hP.below hbz)
    | (refine wwpList_new_arr (f := x) rfl _ _ rfl rfl rfl ?_; intro wy hAy hby; have hPy := hPz.below hby; have p0 := hPy.c0; have p1 := hPy.c1)
    | (go_at_call 67; (with_reducible refine (k2 _).mono ?_); rintro e wx ⟨rfl, hbx⟩; have hAx := hAy.below hbx)
    | (refine wwpList_new_arr (f := y) rfl _ _ rfl rfl rfl ?_; intro wv hAv hbv; have hA1 := hAx.below hbv))
  have hbel : Below w.heap.size w wv := by (repeat (first | exact Below.refl _ _ | assumption | refine below_add ?_ _ | (refine below_on ?_ (by assumption)) | refine Below.drew ?_ | refine below_drewN ?_ _ | (refine Below.setCell ?_ (by simp; try omega) _) | (refine below_new ?_ _ (by simp; try omega)) | (refine below_next ?_ (by assumption) (by simp; try omega))))
  have hlt2 := hAx.room
  have hr0 := hPz.room
  have N1 := (hA1.stored 0 (by decide) ((x 0 + 128) % 256)).other ⟨wx.heap.size, 0, none⟩ (.int .i64 ((y 0 + 128) % 256)) (by show wz.heap.size ≠ wx.heap.size; omega)
  have N2 := (hAv.other ⟨wz.heap.size, 0, none⟩ (.int .i64 ((x 0 + 128) % 256)) (by show wx.heap.size ≠ wz.heap.size; omega)).stored 0 (by decide) ((y 0 + 128) % 256)
  rw [uX.out] at N1
  rw [uY.out] at N2
  have M1 := Lib.hid N1
  have M2 := Lib.hid N2
  have c1 := (hA1 0 (by decide)).1
  have f1 := (hA1 0 (by decide)).2
  have c2 := (hAv 0 (by decide)).1
  have f2 := (hAv 0 (by decide)).2
  have hb3 : Below w.heap.size w ((wv.setCell ⟨wz.heap.size, 0, none⟩ (.int .i64 ((x 0 + 128) % 256))).setCell ⟨wx.heap.size, 0, none⟩ (.int .i64 ((y 0 + 128) % 256))) :=
    (hbel.setCell (by show w.heap.size ≤ wz.heap.size; omega) _).setCell (by show w.heap.size ≤ wx.heap.size; omega) _
  have hne : ¬ wx.heap.size = wz.heap.size := by omega
  have hne2 : ¬ wz.heap.size = wx.heap.size := by omega
  obtain ⟨x0, hx0⟩ : ∃ x0, x 0 = x0 := ⟨_, rfl⟩
  obtain ⟨y0, hy0⟩ : ∃ y0, y 0 = y0 := ⟨_, rfl⟩
  rw [hx0] at c1 hx8 M1 M2 hb3
  rw [hy0] at c2 hy8 M1 M2 hb3
  clear N1 N2 hP hPz hPy p0 p1 hAy hAx hA1 hAv k1 k2 hbel uX uY hx0 hy0
  go_wp2
  go_loopw [7] (fun i wr => ∃ k : Nat, k ≤ 16 ∧ i = .int .i64 (k : Int) ∧ (∀ i, i < k → X i = Y i) ∧ Arr wr wz.heap.size X ∧ Arr wr wx.heap.size Y ∧ Below w.heap.size w wr) (fun i _ => 16 - (intOf i).toNat)
  case atStart => exact ⟨0, by decide, rfl, fun i hi => absurd hi (by omega), M1.out, M2.out, hb3⟩
  case round =>
    obtain ⟨k, hk, rfl, hpre, R1, R2, hbr⟩ := hrel
    have HP := Lib.hid hpre
    have HR1 := Lib.hid R1
    have HR2 := Lib.hid R2
    clear hpre R1 R2 M1 M2 hb3 c1 f1 c2 f2
    by_cases hlt : k < 16
    · have c1 := (HR1.out k hlt).1
      have c2 := (HR2.out k hlt).1
      have hk1 : (k : Int) < 16 := by omega
      have hk2 : (0 : Int) ≤ (k : Int) := by omega
      obtain ⟨p, hp⟩ : ∃ p, X k = p := ⟨_, rfl⟩
      obtain ⟨q, hq⟩ : ∃ q, Y k = q := ⟨_, rfl⟩
      rw [hp] at c1
      rw [hq] at c2
      have HPK := Lib.hid hp
      have HQK := Lib.hid hq
      clear hp hq
      rcases Int.lt_trichotomy p q with h | h | h
      · have hr : Hid (v = -1) := by
          show _ = _
          have := first_lt hXr.out hYr.out k hlt HP.out (by rw [HPK.out, HQK.out]; exact h)
          rw [hXv.out, hYv.out] at this
          rw [← HVV.out]; unfold cmp; rw [if_neg (by omega), if_pos (by omega)]
        go_wp2_with fail
        go_quiet (fail)
        go_wp2
        go_ret
        exact ⟨ret_int hr.out.symm, by (repeat (first | exact Below.refl _ _ | assumption | refine below_add ?_ _ | (refine below_on ?_ (by assumption)) | refine Below.drew ?_ | refine below_drewN ?_ _ | (refine Below.setCell ?_ (by simp; try omega) _) | (refine below_new ?_ _ (by simp; try omega)) | (refine below_next ?_ (by assumption) (by simp; try omega))))⟩
      · have h3 : decide (p < q) = false := decide_eq_false (by omega)
        have h4 : decide (q < p) = false := decide_eq_false (by omega)
        have HE := Lib.hid h
        clear h
        go_wp2_with fail
        go_quiet (fail)
        go_wp2_with fail
        go_quiet (fail)
        go_wp2
        go_roundw
        case rel => exact ⟨k + 1, by omega, by go_num, fun i hi => by
          by_cases e : i = k
          · rw [e, HPK.out, HQK.out, HE.out]
          · exact HP.out i (by omega), fun i hi => HR1.out i hi, fun i hi => HR2.out i hi, by (repeat (first | exact Below.refl _ _ | assumption | refine below_add ?_ _ | (refine below_on ?_ (by assumption)) | refine Below.drew ?_ | refine below_drewN ?_ _ | (refine Below.setCell ?_ (by simp; try omega) _) | (refine below_new ?_ _ (by simp; try omega)) | (refine below_next ?_ (by assumption) (by simp; try omega))))⟩
        case measure => simp [intOf]; omega
      · have hr : Hid (v = 1) := by
          show _ = _
          have := first_lt hYr.out hXr.out k hlt (fun i hi => (HP.out i hi).symm) (by rw [HPK.out, HQK.out]; exact h)
          rw [hXv.out, hYv.out] at this
          rw [← HVV.out]; unfold cmp; rw [if_neg (by omega), if_neg (by omega)]
        have h3 : decide (p < q) = false := decide_eq_false (by omega)
        go_wp2_with fail
        go_quiet (fail)
        go_wp2_with fail
        go_quiet (fail)
        go_wp2
        go_ret
        exact ⟨ret_int hr.out.symm, by (repeat (first | exact Below.refl _ _ | assumption | refine below_add ?_ _ | (refine below_on ?_ (by assumption)) | refine Below.drew ?_ | refine below_drewN ?_ _ | (refine Below.setCell ?_ (by simp; try omega) _) | (refine below_new ?_ _ (by simp; try omega)) | (refine below_next ?_ (by assumption) (by simp; try omega))))⟩
    · have e : k = 16 := by omega
      subst e
      have hr : Hid (v = 0) := by
        show _ = _
        have := tailv_congr (d := X) (e := Y) 16 (fun m hm => HP.out (15 - m) (by omega))
        rw [hXv.out, hYv.out] at this
        rw [← HVV.out]; unfold cmp; rw [if_pos (by omega)]
      go_wp2
      go_ret
      exact ⟨ret_int hr.out.symm, hbr⟩
end Go.Proofs.Ytipjhlabcbkgjaa
