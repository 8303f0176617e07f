/- Joined: MarkArr, MarkRefA, MarkLatMath, MarkRefB. -/
import Derived.Test.YtolmhlfegllfoaaMarkB
import Derived.Test.YtolmhlfegllfoaaMarkA
import Derived.Laws.Rows
import Derived.Deep.MidRow
import Derived.Laws.IdiomCopy
/- Arrays of eight numbers. -/
namespace Go.Proofs.Ytolmhlfegllfoaa
open Go.RowKit Go.Proofs.Ytolmhlfegllfoaa.Vi Go.Proofs.Ytolmhlfegllfoaa.Mk

/-- Eight numbers as a value's cells. -/
def arrOf (f : Nat → Int) : Array Value := ((List.range 8).map fun i => Value.int .i64 (f i)).toArray
theorem arrOf_at (f : Nat → Int) (i : Nat) (h : i < 8) : (arrOf f)[i]? = some (.int .i64 (f i)) := by
  unfold arrOf; simp [h]
theorem arrOf_size (f : Nat → Int) : (arrOf f).size = 8 := by unfold arrOf; simp
/-- Block b holds eight numbers, the i-th f i, and they may be written. -/
def Arr (w : World) (b : Nat) (f : Nat → Int) : Prop := ∀ i, i < 8 → w.cell? ⟨b, i, none⟩ = some (.int .i64 (f i)) ∧ w.frozen? ⟨b, i, none⟩ = false
theorem Arr.new (w : World) (f : Nat → Int) (T : TypeId) : Arr (w.alloc (.cells (arrOf f) T)) w.heap.size f := by
  intro i hi
  constructor
  · rw [World.cell?_alloc_mark, arrOf_at f i hi]
  · rw [World.frozen?_alloc_mark]; simp
theorem Arr.room {w : World} {b : Nat} {f : Nat → Int} (h : Arr w b f) : b < w.heap.size := World.block_lt_of_cell? w _ (h 0 (by decide)).1
theorem Arr.below {w w' : World} {b : Nat} {f : Nat → Int} (h : Arr w b f) (hb : Below w.heap.size w w') : Arr w' b f := fun i hi =>
  ⟨(hb.cell (p := ⟨b, i, none⟩) h.room).trans (h i hi).1, (hb.frozen (p := ⟨b, i, none⟩) h.room).trans (h i hi).2⟩
def updI (f : Nat → Int) (p : Nat) (v : Int) : Nat → Int := fun q => if q = p then v else f q
theorem Arr.stored {w : World} {b : Nat} {f : Nat → Int} (h : Arr w b f) (p : Nat) (hp : p < 8) (v : Int) : Arr (w.setCell ⟨b, p, none⟩ (.int .i64 v)) b (updI f p v) := by
  intro q hq
  refine ⟨?_, by simp [go_sem, (h q hq).2]⟩
  unfold updI
  by_cases e : q = p
  · subst e
    rw [if_pos rfl]; simp [go_sem, (h q hq).1]
  · rw [if_neg e, World.cell?_setCell_other]
    · exact (h q hq).1
    · intro e2; exact e (congrArg Addr.off e2).symm
theorem Arr.drew {w : World} {b : Nat} {f : Nat → Int} (h : Arr w b f) : Arr w.drew b f := fun i hi => h i hi
theorem Arr.range {w : World} {b : Nat} {f : Nat → Int} (h : Arr w b f) : w.rangeAt b 0 (arrOf f).toList := by
  intro j v hj
  have : j < 8 := by
    have := (List.getElem?_eq_some_iff.1 hj).1
    rw [Array.length_toList, arrOf_size] at this; exact this
  rw [Array.getElem?_toList, arrOf_at f j this] at hj
  rw [Nat.zero_add, (h j this).1, hj]
theorem Arr.alloc {w : World} {b : Nat} {f : Nat → Int} (h : Arr w b f) (o : Obj) : Arr (w.alloc o) b f := by
  have hr := h.room
  intro i hi
  obtain ⟨h1, h2⟩ := h i hi
  exact ⟨by simp [go_sem, hr, h1], by simp [go_sem, hr, h2]⟩

theorem below_setCells {B : Nat} {w0 : World} (b : Nat) (hb : B ≤ b) : ∀ (vs : List Value) (o : Nat) (w : World), Below B w0 w → Below B w0 (w.setCells b o vs)
  | [], _, _, h => h
  | v :: r, o, _, h => below_setCells b hb r (o + 1) _ (h.setCell hb v)
theorem Arr.stored8 {w : World} {b : Nat} {f0 : Nat → Int} (h : Arr w b f0) (f : Nat → Int) : Arr (w.setCells b 0 (arrOf f).toList) b f := by
  intro i hi
  refine ⟨?_, ?_⟩
  · have := World.cell?_setCells_in b (arrOf f).toList 0 w (fun j hj => by
      rw [Array.length_toList, arrOf_size] at hj
      rw [Nat.zero_add, (h j hj).1]; rfl) i (by rw [Array.length_toList, arrOf_size]; exact hi)
    rw [Nat.zero_add] at this
    rw [this]
    have e := arrOf_at f i hi
    rw [Array.getElem?_eq_getElem (by rw [arrOf_size]; exact hi)] at e
    simpa using e
  · rw [World.frozen?_setCells]; exact (h i hi).2
theorem Arr.other {w : World} {b : Nat} {f : Nat → Int} (k : Arr w b f) (a : Addr) (v : Value) (hne : b ≠ a.block) : Arr (w.setCell a v) b f := fun i hi => by
  obtain ⟨h1, h2⟩ := k i hi
  refine ⟨?_, by simp [go_sem, h2]⟩
  rw [World.cell?_setCell_other]
  · exact h1
  · intro e; exact hne (by rw [e])
theorem Arr.under {w w' : World} {b B : Nat} {f : Nat → Int} (k : Arr w b f) (hb : Below B w w') (hB : b < B) : Arr w' b f := fun i hi =>
  ⟨(hb.cell (p := ⟨b, i, none⟩) hB).trans (k i hi).1, (hb.frozen (p := ⟨b, i, none⟩) hB).trans (k i hi).2⟩

end Go.Proofs.Ytolmhlfegllfoaa

/- Contracts of the document's all and vector. -/
namespace Go.Proofs.Ytolmhlfegllfoaa
open Go.RowKit Go.Proofs.Ytolmhlfegllfoaa.Vi Go.Proofs.Ytolmhlfegllfoaa.Mk

theorem arrOf_congr {f g : Nat → Int} (h : ∀ i, i < 8 → f i = g i) : arrOf f = arrOf g := by
  unfold arrOf
  congr 1
  apply List.map_congr_left
  intro i hi
  rw [h i (List.mem_range.1 hi)]
theorem Arr.congr {w : World} {b : Nat} {f g : Nat → Int} (h : Arr w b f) (e : ∀ i, i < 8 → f i = g i) : Arr w b g := fun i hi => by rw [← e i hi]; exact h i hi
/-- The first k numbers. -/
def firstk (f : Nat → Int) (k : Nat) : Nat → Int := fun j => if j < k then f j else 0
theorem firstk_step {f : Nat → Int} {k : Nat} (j : Nat) : updI (firstk f k) k (f k) j = firstk f (k + 1) j := by
  unfold updI firstk
  by_cases h : j = k
  · subst h; rw [if_pos rfl, if_pos (by omega)]
  · rw [if_neg h]
    by_cases h2 : j < k
    · rw [if_pos h2, if_pos (by omega)]
    · rw [if_neg h2, if_neg (by omega)]
/-- What the loop of all has done. -/
structure AllRel (w wr : World) (f : Nat → Int) (k : Nat) : Prop where
  x : Arr wr (w.heap.size + 1) (firstk f k)
  o : Arr wr w.heap.size (fun _ => 0)
  bel : Below w.heap.size w wr
theorem AllRel.next {w wr : World} {f : Nat → Int} {k : Nat} (R : AllRel w wr f k) (hk : k < 8) (z : Int) (hz : f k = z) : AllRel w (wr.setCell ⟨w.heap.size + 1, k, none⟩ (.int .i64 z)) f (k + 1) := by
  subst hz
  exact ⟨(R.x.stored k hk _).congr fun i _ => firstk_step i, R.o.other _ _ (by show w.heap.size ≠ w.heap.size + 1; omega), R.bel.setCell (by show w.heap.size ≤ w.heap.size + 1; omega) _⟩

theorem infoI : (Try.prog.info? 3).map (fun i => (i.zero, i.size, i.bytes)) = some (some (.int .i64 0), 1, 8) := by kernel_rfl
def icell (n : Int) : Value := .int .i64 n
/-- v is a slice that the call has made above B, of the numbers xs. -/
def IRow (w : World) (B : Nat) (v : Value) (xs : List Int) : Prop := w.ownsRow B 3 1 v xs.length (xs.map icell)
theorem IRow.slice {w : World} {B : Nat} {v : Value} {xs : List Int} (h : IRow w B v xs) : ∃ a c, v = .slice a xs.length c := ownsRow_slice h
theorem IRow.nil (w : World) (B : Nat) : IRow w B (.slice none 0 0) [] := World.ownsRow_nil _ _ _ _
theorem IRow.ns {w : World} {B : Nat} {v : Value} {xs : List Int} (h : IRow w B v xs) (hw : ∀ n ∈ xs, -9223372036854775808 ≤ n ∧ n ≤ 9223372036854775807) (hl : xs.length ≤ 100) : Ns w v xs := by
  have h0 := h
  rcases h.2 with ⟨hv, h0⟩ | ⟨g, cap, cur, hv, hg, hh, hn, hm, hs, ht⟩
  · obtain rfl := List.eq_nil_of_length_eq_zero h0
    subst hv
    exact (Nums.nil w none 0).mono (Nat.zero_le _) (Nat.le_refl _)
  · subst hv
    have e1 := World.ownsRow.cellAt (show w.ownsRow B 3 1 _ xs.length (xs.map icell) from h0)
    by_cases hz : xs.length = 0
    · obtain rfl := List.eq_nil_of_length_eq_zero hz
      exact (Nums.nil w _ _).mono (Nat.zero_le _) (Nat.le_refl _)
    · have c : ∀ j (hj : j < xs.length), w.cell? ⟨g, 0 + j, none⟩ = some (.int .i64 xs[j]) := fun j hj => by
        rw [Nat.zero_add, e1 j (by omega)]; simp [hj, icell]
      exact ⟨⟨_, _, rfl, Or.inr ⟨g, 0, rfl, World.block_lt_of_cell? w _ (c 0 (by omega)), c⟩⟩, hw, by omega, Nat.le_refl _⟩
theorem upto_zero {f : Nat → Int} (hf : Fit f) {k j : Nat} (h : upto f k ≤ j) (hj : j < k) (hk : k ≤ 8) : f j = 0 := by
  have := upto_past h hj
  have := hf j (by omega)
  omega

end Go.Proofs.Ytolmhlfegllfoaa

/- Vectors are a lattice: it imports nothing of the program. -/
namespace Go.Proofs.Ytolmhlfegllfoaa.Mk

theorem cov_join_left (a b : List Int) : covL (joinL a b) a = true := covL_iff.2 fun i hi => by rw [atL_join a b hi]; omega
theorem cov_join_right (a b : List Int) : covL (joinL a b) b = true := covL_iff.2 fun i hi => by rw [atL_join a b hi]; omega
theorem cov_meet_left (a b : List Int) : covL a (meetL a b) = true := covL_iff.2 fun i hi => by rw [atL_meet a b hi]; omega
theorem cov_meet_right (a b : List Int) : covL b (meetL a b) = true := covL_iff.2 fun i hi => by rw [atL_meet a b hi]; omega
theorem cov_join (a b c : List Int) : covL c (joinL a b) = (covL c a && covL c b) := by
  rw [Bool.eq_iff_iff, Bool.and_eq_true, covL_iff, covL_iff, covL_iff]
  constructor
  · intro h
    refine ⟨fun i hi => ?_, fun i hi => ?_⟩ <;> (have := h i hi; rw [atL_join a b hi] at this; omega)
  · intro ⟨h1, h2⟩ i hi
    have := h1 i hi; have := h2 i hi
    rw [atL_join a b hi]; omega
theorem cov_meet (a b c : List Int) : covL (meetL a b) c = (covL a c && covL b c) := by
  rw [Bool.eq_iff_iff, Bool.and_eq_true, covL_iff, covL_iff, covL_iff]
  constructor
  · intro h
    refine ⟨fun i hi => ?_, fun i hi => ?_⟩ <;> (have := h i hi; rw [atL_meet a b hi] at this; omega)
  · intro ⟨h1, h2⟩ i hi
    have := h1 i hi; have := h2 i hi
    rw [atL_meet a b hi]; omega
theorem join_comm (a b : List Int) : joinL a b = joinL b a := vec_congr fun i _ => by show max _ _ = max _ _; omega
theorem meet_comm (a b : List Int) : meetL a b = meetL b a := vec_congr fun i _ => by show min _ _ = min _ _; omega
theorem join_again (a b : List Int) : joinL (joinL a b) a = joinL a b := vec_congr fun i hi => by
  show max (atL (joinL a b) (i : Int)) (atL a (i : Int)) = max _ _
  rw [atL_join a b hi]; omega
theorem join_assoc (a b c : List Int) : joinL (joinL a b) c = joinL a (joinL b c) := vec_congr fun i hi => by
  show max (atL (joinL a b) (i : Int)) (atL c (i : Int)) = max (atL a (i : Int)) (atL (joinL b c) (i : Int))
  rw [atL_join a b hi, atL_join b c hi]; omega
theorem plain_join (a b : List Int) : plainL (joinL a b) = joinL a b := plain_vec (join_fit a b)
theorem plain_meet (a b : List Int) : plainL (meetL a b) = meetL a b := plain_vec (meet_fit a b)
theorem plain_with (a : List Int) (s n : Int) : plainL (withL a s n) = withL a s n := plain_vec (with_fit a s n)
theorem cov_self (a : List Int) : covL a a = true := covL_iff.2 fun _ _ => Int.le_refl _
/-- A step at site k: what each site has then. -/
theorem step_at (l : List Int) (k : Nat) (hk : k < 8) (x : Int) (n : Int) (hn : atL l (k : Int) = n) : atL (withL l (k : Int) (n + 1)) x = if x = (k : Int) ∧ n < 1099511627776 then n + 1 else atL l x := by
  have hb := atL_bounds l (k : Int)
  rw [hn] at hb
  by_cases ho : x < 0 ∨ 7 < x
  · rw [atL_out ho, atL_out ho, if_neg (by omega)]
  · obtain ⟨i, rfl⟩ := Int.eq_ofNat_of_zero_le (show 0 ≤ x by omega)
    rw [atL_with l (k : Int) (n + 1) (show i < 8 by omega)]
    by_cases he : (i : Int) = (k : Int)
    · rw [if_pos he]
      by_cases hm : n < 1099511627776
      · rw [if_pos ⟨he, hm⟩, cl_in (by omega) (by omega)]
      · rw [if_neg (by omega), he, hn]
        unfold cl; rw [if_neg (by omega), if_pos (by omega)]; omega
    · rw [if_neg he, if_neg (by omega)]
theorem step_cmp (l : List Int) (k : Nat) (hk : k < 8) (n : Int) (hn : atL l (k : Int) = n) : cmpL (withL l (k : Int) (n + 1)) l = if n < 1099511627776 then 1 else 0 := by
  have h1 : covL (withL l (k : Int) (n + 1)) l = true := covL_iff.2 fun i hi => by
    rw [step_at l k hk _ n hn]
    split
    · rename_i h; rw [h.1, hn]; omega
    · exact Int.le_refl _
  unfold cmpL
  rw [h1]
  by_cases hm : n < 1099511627776
  · have h2 : covL l (withL l (k : Int) (n + 1)) = false := cov_no hk (by rw [step_at l k hk _ n hn, if_pos ⟨rfl, hm⟩, hn]; omega)
    rw [h2, if_pos hm]; rfl
  · have h2 : covL l (withL l (k : Int) (n + 1)) = true := covL_iff.2 fun i hi => by
      rw [step_at l k hk _ n hn, if_neg (by omega)]; exact Int.le_refl _
    rw [h2, if_neg hm]; rfl
end Go.Proofs.Ytolmhlfegllfoaa.Mk

/- Contracts of the document's Plain, Right, At, With, Join, Meet, Covers, Compare, Text. -/
set_option maxRecDepth 20000
namespace Go.Proofs.Ytolmhlfegllfoaa
open Go.RowKit Go.Proofs.Ytolmhlfegllfoaa.Vi Go.Proofs.Ytolmhlfegllfoaa.Mk

/-- The first k of z, the others of x. -/
def mix (x z : Nat → Int) (k : Nat) : Nat → Int := fun j => if j < k then z j else x j
theorem mix_at (x z : Nat → Int) (k : Nat) : mix x z k k = x k := by unfold mix; rw [if_neg (by omega)]
theorem mix_step {x z : Nat → Int} {k : Nat} (j : Nat) : updI (mix x z k) k (z k) j = mix x z (k + 1) j := by
  unfold updI mix
  by_cases h : j = k
  · subst h; rw [if_pos rfl, if_pos (by omega)]
  · rw [if_neg h]
    by_cases h2 : j < k
    · rw [if_pos h2, if_pos (by omega)]
    · rw [if_neg h2, if_neg (by omega)]
theorem mix_same {x z : Nat → Int} {k : Nat} (hk : x k = z k) (j : Nat) : mix x z k j = mix x z (k + 1) j := by
  unfold mix
  by_cases h : j = k
  · subst h; rw [if_neg (by omega), if_pos (by omega), hk]
  · by_cases h2 : j < k
    · rw [if_pos h2, if_pos (by omega)]
    · rw [if_neg h2, if_neg (by omega)]
/-- What the loop of Join or Meet has done. -/
structure TwoRel (w wr : World) (b d : Nat) (x y z : Nat → Int) (k : Nat) : Prop where
  x : Arr wr b (mix x z k)
  y : Arr wr d y
  bel : Below w.heap.size w wr
theorem TwoRel.next {w wr : World} {b d : Nat} {x y z : Nat → Int} {k : Nat} (R : TwoRel w wr b d x y z k) (hk : k < 8) (hb : w.heap.size ≤ b) (hd : d ≠ b) (v : Int) (hv : z k = v) : TwoRel w (wr.setCell ⟨b, k, none⟩ (.int .i64 v)) b d x y z (k + 1) := by
  subst hv
  exact ⟨(R.x.stored k hk _).congr fun i _ => mix_step i, R.y.other _ _ hd, R.bel.setCell hb _⟩
theorem TwoRel.pass {w wr : World} {b d : Nat} {x y z : Nat → Int} {k : Nat} (R : TwoRel w wr b d x y z k) (hk : x k = z k) : TwoRel w wr b d x y z (k + 1) := ⟨R.x.congr fun i _ => mix_same hk i, R.y, R.bel⟩
theorem TwoRel.drewN {w wr : World} {b d : Nat} {x y z : Nat → Int} {k : Nat} (R : TwoRel w wr b d x y z k) (n : Nat) : TwoRel w (wr.drewN n) b d x y z k := ⟨R.x.below (below_drawn _ _), R.y.below (below_drawn _ _), below_drewN R.bel n⟩

theorem one_ns (w : World) (b : Nat) (x : Int) (hc : w.cell? ⟨b, 0, none⟩ = some (.int .i64 x)) (hx : -9223372036854775808 ≤ x ∧ x ≤ 9223372036854775807) : Ns w (.slice (some ⟨b, 0, none⟩) 1 1) [x] :=
  ⟨⟨_, _, rfl, Or.inr ⟨b, 0, rfl, World.block_lt_of_cell? w _ hc, fun j hj => by
    match j, hj with
    | 0, _ => exact hc⟩⟩, fun n hn => by simp at hn; subst hn; exact hx, by simp, Nat.le_refl _⟩
end Go.Proofs.Ytolmhlfegllfoaa
