/- Contracts of the document's answer for layer 2: arrays of sixteen digits. -/
import Derived.Test.YtafgfpppemdedaaWideDuo
import Derived.Test.YtafgfpppemdedaaWideRefMath
import Derived.Laws.Rows
import Derived.Deep.MidRow
namespace Go.Proofs.Ytafgfpppemdedaa
open Go.RowKit Go.Proofs.Ytafgfpppemdedaa.Wd

/-- Sixteen numbers as a value's cells. -/
def arrOf (f : Nat → Int) : Array Value := ((List.range 16).map fun i => Value.int .i64 (f i)).toArray
theorem arrOf_at (f : Nat → Int) (i : Nat) (h : i < 16) : (arrOf f)[i]? = some (.int .i64 (f i)) := by
  unfold arrOf; simp [h]
theorem arrOf_size (f : Nat → Int) : (arrOf f).size = 16 := by unfold arrOf; simp
/-- Block b holds sixteen numbers, the i-th f i, and they may be written. -/
def Arr (w : World) (b : Nat) (f : Nat → Int) : Prop := ∀ i, i < 16 → w.cell? ⟨b, i, none⟩ = some (.int .i64 (f i)) ∧ w.frozen? ⟨b, i, none⟩ = false
theorem Arr.new (w : World) (f : Nat → Int) (T : TypeId) : Arr (w.alloc (.cells (arrOf f) T)) w.heap.size f := by
  intro i hi
  constructor
  · rw [World.cell?_alloc_mark, arrOf_at f i hi]
  · rw [World.frozen?_alloc_mark]; simp
theorem Arr.room {w : World} {b : Nat} {f : Nat → Int} (h : Arr w b f) : b < w.heap.size := World.block_lt_of_cell? w _ (h 0 (by decide)).1
theorem Arr.below {w w' : World} {b : Nat} {f : Nat → Int} (h : Arr w b f) (hb : Below w.heap.size w w') : Arr w' b f := fun i hi =>
  ⟨(hb.cell (p := ⟨b, i, none⟩) h.room).trans (h i hi).1, (hb.frozen (p := ⟨b, i, none⟩) h.room).trans (h i hi).2⟩
def updI (f : Nat → Int) (p : Nat) (v : Int) : Nat → Int := fun q => if q = p then v else f q
theorem Arr.stored {w : World} {b : Nat} {f : Nat → Int} (h : Arr w b f) (p : Nat) (hp : p < 16) (v : Int) : Arr (w.setCell ⟨b, p, none⟩ (.int .i64 v)) b (updI f p v) := by
  intro q hq
  refine ⟨?_, by simp [go_sem, (h q hq).2]⟩
  unfold updI
  by_cases e : q = p
  · subst e
    rw [if_pos rfl]; simp [go_sem, (h q hq).1]
  · rw [if_neg e, World.cell?_setCell_other]
    · exact (h q hq).1
    · intro e2; exact e (congrArg Addr.off e2).symm
theorem Arr.drew {w : World} {b : Nat} {f : Nat → Int} (h : Arr w b f) : Arr w.drew b f := fun i hi => h i hi
theorem Arr.range {w : World} {b : Nat} {f : Nat → Int} (h : Arr w b f) : w.rangeAt b 0 (arrOf f).toList := by
  intro j v hj
  have : j < 16 := by
    have := (List.getElem?_eq_some_iff.1 hj).1
    rw [Array.length_toList, arrOf_size] at this; exact this
  rw [Array.getElem?_toList, arrOf_at f j this] at hj
  rw [Nat.zero_add, (h j this).1, hj]
theorem infoA : (Try.prog.info? 44).map (·.size) = some 16 := by kernel_rfl

theorem mask8 (x : Int) (h0 : 0 ≤ x) (h1 : x ≤ 18446744073709551615) : bits .and .u64 x 255 = x % 256 := by
  obtain ⟨a, rfl⟩ := Int.eq_ofNat_of_zero_le h0
  have h := bits_and_u64_nat a 255 (by omega) (by omega)
  have e : a &&& 255 = a % 256 := Nat.and_two_pow_sub_one_eq_mod a 8
  rw [e] at h
  exact h
theorem wrap_small {x : Int} (h0 : 0 ≤ x) (h1 : x ≤ 255) : wrap64 x = x := by rw [wrap64_is]; omega

set_option maxHeartbeats 2000000 in
theorem digits_any (h l : Int) (x : Nat → Int) (w : World) (hl0 : 0 ≤ l) (hl1 : l ≤ 18446744073709551615) (hx : Hid (dg h l = x)) :
    Calls Try.prog 33 #[.agg #[.int .i64 (h), .int .u64 (l)]] w fun e w' => e = .returned (.agg (arrOf x)) ∧ Below w.heap.size w w' := by
  obtain ⟨u, hu⟩ : ∃ u, IntKind.u64.wrap h = u := ⟨_, rfl⟩
  have hu0 : 0 ≤ u ∧ u ≤ 18446744073709551615 := by rw [← hu, IntKind.wrap_u64]; omega
  have hum : u = h % 18446744073709551616 := by rw [← hu, IntKind.wrap_u64]
  have hw : ∀ i, wrap64 (x i) = x i := fun i => by rw [← hx.out]; exact wrap_small (dg_range h l i).1 (dg_range h l i).2
  have hd : ∀ i, i < 8 → bits .and .u64 (u / 256 ^ (7 - i)) 255 = x i := fun i hi => by
    have p : (0 : Int) < 256 ^ (7 - i) := Int.pow_pos (by decide)
    have p1 := Int.ediv_nonneg hu0.1 (Int.le_of_lt p)
    have p2 := Int.ediv_le_self (256 ^ (7 - i)) hu0.1
    rw [mask8 _ p1 (by omega), ← hx.out]; unfold dg; rw [if_pos hi, hum]
  have he : ∀ i, ¬ i < 8 → bits .and .u64 (l / 256 ^ (15 - i)) 255 = x i := fun i hi => by
    have p : (0 : Int) < 256 ^ (15 - i) := Int.pow_pos (by decide)
    have p1 := Int.ediv_nonneg hl0 (Int.le_of_lt p)
    have p2 := Int.ediv_le_self (256 ^ (15 - i)) hl0
    rw [mask8 _ p1 (by omega), ← hx.out]; unfold dg; rw [if_neg hi]
  have d0 : bits .and .u64 (u / 72057594037927936) 255 = x 0 := hd 0 (by decide)
  have d1 : bits .and .u64 (u / 281474976710656) 255 = x 1 := hd 1 (by decide)
  have d2 : bits .and .u64 (u / 1099511627776) 255 = x 2 := hd 2 (by decide)
  have d3 : bits .and .u64 (u / 4294967296) 255 = x 3 := hd 3 (by decide)
  have d4 : bits .and .u64 (u / 16777216) 255 = x 4 := hd 4 (by decide)
  have d5 : bits .and .u64 (u / 65536) 255 = x 5 := hd 5 (by decide)
  have d6 : bits .and .u64 (u / 256) 255 = x 6 := hd 6 (by decide)
  have d7 : bits .and .u64 u 255 = x 7 := by have := hd 7 (by decide); simpa using this
  have d8 : bits .and .u64 (l / 72057594037927936) 255 = x 8 := he 8 (by decide)
  have d9 : bits .and .u64 (l / 281474976710656) 255 = x 9 := he 9 (by decide)
  have d10 : bits .and .u64 (l / 1099511627776) 255 = x 10 := he 10 (by decide)
  have d11 : bits .and .u64 (l / 4294967296) 255 = x 11 := he 11 (by decide)
  have d12 : bits .and .u64 (l / 16777216) 255 = x 12 := he 12 (by decide)
  have d13 : bits .and .u64 (l / 65536) 255 = x 13 := he 13 (by decide)
  have d14 : bits .and .u64 (l / 256) 255 = x 14 := he 14 (by decide)
  have d15 : bits .and .u64 l 255 = x 15 := by have := he 15 (by decide); simpa using this
  clear hd he hum hx
  obtain ⟨hu1, hu2⟩ := hu0
  go_enter Try.func33, Try.ntmps33
  go_wp2
  go_rounds 9
  refine bodyPost_ret (v := .agg (arrOf x)) (by simp [results, Try.results33, go_sem]; rfl) rfl ⟨rfl, by (repeat (first | exact Below.refl _ _ | assumption | refine below_add ?_ _ | (refine below_on ?_ (by assumption)) | refine Below.drew ?_ | refine below_drewN ?_ _ | (refine Below.setCell ?_ (by simp; try omega) _) | (refine below_new ?_ _ (by simp; try omega)) | (refine below_next ?_ (by assumption) (by simp; try omega))))⟩
end Go.Proofs.Ytafgfpppemdedaa
