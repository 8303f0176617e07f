/- Joined: MarkArr, MarkRefA, MarkLatMath, MarkRefB. -/
import Derived.Test.YthifmfgnblecbaaMarkB
import Derived.Test.YthifmfgnblecbaaMarkA
import Derived.Laws.Rows
import Derived.Deep.MidRow
import Derived.Laws.IdiomCopy
/- Arrays of eight numbers. -/
namespace Go.Proofs.Ythifmfgnblecbaa
open Go.RowKit Go.Proofs.Ythifmfgnblecbaa.Vi Go.Proofs.Ythifmfgnblecbaa.Mk

/-- Eight numbers as a value's cells. -/
def arrOf (f : Nat → Int) : Array Value := ((List.range 8).map fun i => Value.int .i64 (f i)).toArray
theorem arrOf_at (f : Nat → Int) (i : Nat) (h : i < 8) : (arrOf f)[i]? = some (.int .i64 (f i)) := by
  unfold arrOf; simp [h]
theorem arrOf_size (f : Nat → Int) : (arrOf f).size = 8 := by unfold arrOf; simp
/-- Block b holds eight numbers, the i-th f i, and they may be written. -/
def Arr (w : World) (b : Nat) (f : Nat → Int) : Prop := ∀ i, i < 8 → w.cell? ⟨b, i, none⟩ = some (.int .i64 (f i)) ∧ w.frozen? ⟨b, i, none⟩ = false
theorem Arr.new (w : World) (f : Nat → Int) (T : TypeId) : Arr (w.alloc (.cells (arrOf f) T)) w.heap.size f := by
  intro i hi
  constructor
  · rw [World.cell?_alloc_mark, arrOf_at f i hi]
  · rw [World.frozen?_alloc_mark]; simp
theorem Arr.room {w : World} {b : Nat} {f : Nat → Int} (h : Arr w b f) : b < w.heap.size := World.block_lt_of_cell? w _ (h 0 (by decide)).1
theorem Arr.below {w w' : World} {b : Nat} {f : Nat → Int} (h : Arr w b f) (hb : Below w.heap.size w w') : Arr w' b f := fun i hi =>
  ⟨(hb.cell (p := ⟨b, i, none⟩) h.room).trans (h i hi).1, (hb.frozen (p := ⟨b, i, none⟩) h.room).trans (h i hi).2⟩
def updI (f : Nat → Int) (p : Nat) (v : Int) : Nat → Int := fun q => if q = p then v else f q
theorem Arr.stored {w : World} {b : Nat} {f : Nat → Int} (h : Arr w b f) (p : Nat) (hp : p < 8) (v : Int) : Arr (w.setCell ⟨b, p, none⟩ (.int .i64 v)) b (updI f p v) := by
  intro q hq
  refine ⟨?_, by simp [go_sem, (h q hq).2]⟩
  unfold updI
  by_cases e : q = p
  · subst e
    rw [if_pos rfl]; simp [go_sem, (h q hq).1]
  · rw [if_neg e, World.cell?_setCell_other]
    · exact (h q hq).1
    · intro e2; exact e (congrArg Addr.off e2).symm
theorem Arr.drew {w : World} {b : Nat} {f : Nat → Int} (h : Arr w b f) : Arr w.drew b f := fun i hi => h i hi
theorem Arr.range {w : World} {b : Nat} {f : Nat → Int} (h : Arr w b f) : w.rangeAt b 0 (arrOf f).toList := by
  intro j v hj
  have : j < 8 := by
    have := (List.getElem?_eq_some_iff.1 hj).1
    rw [Array.length_toList, arrOf_size] at this; exact this
  rw [Array.getElem?_toList, arrOf_at f j this] at hj
  rw [Nat.zero_add, (h j this).1, hj]
theorem infoA : (Try.prog.info? 74).map (·.size) = some 8 := by kernel_rfl

theorem Arr.alloc {w : World} {b : Nat} {f : Nat → Int} (h : Arr w b f) (o : Obj) : Arr (w.alloc o) b f := by
  have hr := h.room
  intro i hi
  obtain ⟨h1, h2⟩ := h i hi
  exact ⟨by simp [go_sem, hr, h1], by simp [go_sem, hr, h2]⟩

theorem below_setCells {B : Nat} {w0 : World} (b : Nat) (hb : B ≤ b) : ∀ (vs : List Value) (o : Nat) (w : World), Below B w0 w → Below B w0 (w.setCells b o vs)
  | [], _, _, h => h
  | v :: r, o, _, h => below_setCells b hb r (o + 1) _ (h.setCell hb v)
theorem Arr.stored8 {w : World} {b : Nat} {f0 : Nat → Int} (h : Arr w b f0) (f : Nat → Int) : Arr (w.setCells b 0 (arrOf f).toList) b f := by
  intro i hi
  refine ⟨?_, ?_⟩
  · have := World.cell?_setCells_in b (arrOf f).toList 0 w (fun j hj => by
      rw [Array.length_toList, arrOf_size] at hj
      rw [Nat.zero_add, (h j hj).1]; rfl) i (by rw [Array.length_toList, arrOf_size]; exact hi)
    rw [Nat.zero_add] at this
    rw [this]
    have e := arrOf_at f i hi
    rw [Array.getElem?_eq_getElem (by rw [arrOf_size]; exact hi)] at e
    simpa using e
  · rw [World.frozen?_setCells]; exact (h i hi).2
/-- The laws of the load and of the store, at these cells. -/
theorem wpList_load_arr {ops : Array Oper} {rest : List Oper} {op : Oper} {a : Act} {w : World} {Q : Exit → Act → World → Prop} {b : Nat} {f : Nat → Int} (h : Arr w b f) (hgd : op.guard = none) (x : Operand) (ho : op.op = .load 74 x)
    (hx : a.eval x = .pointer (some ⟨b, 0, none⟩)) (k : wpList Try.prog ops Q rest (a.put op.dst (.agg (arrOf f))) w) : wpList Try.prog ops Q (op :: rest) a w := by
  refine wpList_load_mid hgd 74 x ho b 0 hx (arrOf f).toList _ h.range Try.underlying74 rfl (by rw [infoA, Array.length_toList, arrOf_size]) ?_
  simpa using k
theorem wpList_store_arr {ops : Array Oper} {rest : List Oper} {op : Oper} {a : Act} {w : World} {Q : Exit → Act → World → Prop} {b : Nat} {f0 f : Nat → Int} (h : Arr w b f0) (hgd : op.guard = none) (x y : Operand) (ho : op.op = .store 74 x y)
    (hx : a.eval x = .pointer (some ⟨b, 0, none⟩)) (hy : a.eval y = .agg (arrOf f))
    (k : ∀ w', Arr w' b f → (∀ B w0, B ≤ b → Below B w0 w → Below B w0 w') → wpList Try.prog ops Q rest (a.put op.dst undef) w') : wpList Try.prog ops Q (op :: rest) a w := by
  refine wpList_store_mid hgd 74 x y ho b 0 (arrOf f) hx hy (fun j hj => ?_) (by rw [infoA, arrOf_size]) ?_ (k _ (h.stored8 f) fun B w0 hB hw => below_setCells b hB _ _ _ hw)
  · rw [arrOf_size] at hj
    rw [Nat.zero_add, (h j hj).1]
    exact ⟨rfl, (h j hj).2⟩
  · rw [Array.all_eq_true_iff_forall_mem]
    intro v hv
    unfold arrOf at hv
    simp at hv
    obtain ⟨i, _, rfl⟩ := hv
    rfl

/-- The eight cells as they are loaded; stored in a row of the call's own, and read there. -/
theorem Arr.loadVar {w : World} {b : Nat} {f : Nat → Int} (h : Arr w b f) : (Go.loadVar 74 ⟨b, 0, none⟩).run Try.prog w = .ok (.agg (arrOf f)) w := by
  have := run_loadVar_mid (P := Try.prog) w b 0 74 (arrOf f).toList _ h.range Try.underlying74 rfl (by rw [infoA, Array.length_toList, arrOf_size])
  simpa using this
theorem Arr.zero (w : World) : Arr (w.alloc (.cells (arrOf fun _ => 0) 74)) w.heap.size (fun _ => 0) := Arr.new w _ _
theorem Arr.other {w : World} {b : Nat} {f : Nat → Int} (k : Arr w b f) (a : Addr) (v : Value) (hne : b ≠ a.block) : Arr (w.setCell a v) b f := fun i hi => by
  obtain ⟨h1, h2⟩ := k i hi
  refine ⟨?_, by simp [go_sem, h2]⟩
  rw [World.cell?_setCell_other]
  · exact h1
  · intro e; exact hne (by rw [e])
theorem Arr.under {w w' : World} {b B : Nat} {f : Nat → Int} (k : Arr w b f) (hb : Below B w w') (hB : b < B) : Arr w' b f := fun i hi =>
  ⟨(hb.cell (p := ⟨b, i, none⟩) hB).trans (k i hi).1, (hb.frozen (p := ⟨b, i, none⟩) hB).trans (k i hi).2⟩

/-- A new variable of eight numbers, and what is stored into it. -/
theorem wpList_new_arr {ops : Array Oper} {rest : List Oper} {op : Oper} {a : Act} {w : World} {Q : Exit → Act → World → Prop} {f : Nat → Int} (hgd : op.guard = none) (x y : Operand) (ho : op.op = .store 74 x y)
    (hx : a.eval x = .pointer (some ⟨w.heap.size, 0, none⟩)) (hy : a.eval y = .agg (arrOf f))
    (k : ∀ w', Arr w' w.heap.size f → Below w.heap.size w w' → wpList Try.prog ops Q rest (a.put op.dst undef) w') : wpList Try.prog ops Q (op :: rest) a (w.alloc (.cells (arrOf fun _ => 0) 74)) :=
  wpList_store_arr (Arr.zero w) hgd x y ho hx hy fun w' h1 h2 => k w' h1 (h2 _ _ (Nat.le_refl _) ((Below.refl _ _).alloc (Nat.le_refl _) _))

end Go.Proofs.Ythifmfgnblecbaa

/- Contracts of the document's all and vector. -/
namespace Go.Proofs.Ythifmfgnblecbaa
open Go.RowKit Go.Proofs.Ythifmfgnblecbaa.Vi Go.Proofs.Ythifmfgnblecbaa.Mk

theorem arrOf_congr {f g : Nat → Int} (h : ∀ i, i < 8 → f i = g i) : arrOf f = arrOf g := by
  unfold arrOf
  congr 1
  apply List.map_congr_left
  intro i hi
  rw [h i (List.mem_range.1 hi)]
theorem Arr.congr {w : World} {b : Nat} {f g : Nat → Int} (h : Arr w b f) (e : ∀ i, i < 8 → f i = g i) : Arr w b g := fun i hi => by rw [← e i hi]; exact h i hi
/-- The first k numbers. -/
def firstk (f : Nat → Int) (k : Nat) : Nat → Int := fun j => if j < k then f j else 0
theorem firstk_step {f : Nat → Int} {k : Nat} (j : Nat) : updI (firstk f k) k (f k) j = firstk f (k + 1) j := by
  unfold updI firstk
  by_cases h : j = k
  · subst h; rw [if_pos rfl, if_pos (by omega)]
  · rw [if_neg h]
    by_cases h2 : j < k
    · rw [if_pos h2, if_pos (by omega)]
    · rw [if_neg h2, if_neg (by omega)]
/-- What the loop of all has done. -/
structure AllRel (w wr : World) (f : Nat → Int) (k : Nat) : Prop where
  x : Arr wr (w.heap.size + 1) (firstk f k)
  o : Arr wr w.heap.size (fun _ => 0)
  bel : Below w.heap.size w wr
theorem AllRel.next {w wr : World} {f : Nat → Int} {k : Nat} (R : AllRel w wr f k) (hk : k < 8) (z : Int) (hz : f k = z) : AllRel w (wr.setCell ⟨w.heap.size + 1, k, none⟩ (.int .i64 z)) f (k + 1) := by
  subst hz
  exact ⟨(R.x.stored k hk _).congr fun i _ => firstk_step i, R.o.other _ _ (by show w.heap.size ≠ w.heap.size + 1; omega), R.bel.setCell (by show w.heap.size ≤ w.heap.size + 1; omega) _⟩

set_option maxHeartbeats 2000000 in
theorem rall_is (v : Value) (l : List Int) (w : World) (h : Ns w v l) : Calls Try.prog 46 #[v] w fun e w' => e = .returned (.agg (arrOf fun i => atL l (i : Int))) ∧ Below w.heap.size w w' := by
  obtain ⟨f, hf⟩ : ∃ f : Nat → Int, (fun i : Nat => atL l (i : Int)) = f := ⟨_, rfl⟩
  rw [hf]
  have HF := Lib.hid (fun i : Nat => congrFun hf i)
  clear hf
  obtain ⟨a, cap, rfl⟩ := h.slice
  have hsz := h.size
  have HN := Lib.hid h
  have hO := (Arr.zero w).alloc (.cells (arrOf fun _ => 0) 74)
  have hX := Arr.zero (w.alloc (.cells (arrOf fun _ => 0) 74))
  simp only [World.size_alloc] at hX
  have HR0 := Lib.hid (show AllRel w ((w.alloc (.cells (arrOf fun _ => 0) 74)).alloc (.cells (arrOf fun _ => 0) 74)) f 0 from ⟨hX.congr fun i _ => rfl, hO, by (repeat (first | exact Below.refl _ _ | refine below_drewN ?_ _ | refine Below.drew ?_ | (refine Below.setCell ?_ (by simp; try omega) _) | refine bel_new ?_ _ | (refine bel_next ?_ (by assumption))))⟩)
  clear h hO hX
  go_enter Try.func46, Try.ntmps46
  go_wp2
  go_loopw [4] (fun i wr => ∃ k : Nat, k ≤ 8 ∧ k ≤ l.length ∧ i = .int .i64 (k : Int) ∧ AllRel w wr f k) (fun i _ => 8 - (intOf i).toNat)
  case atStart => exact ⟨0, by omega, by omega, rfl, HR0.out⟩
  case round =>
    obtain ⟨k, hk8, hkl, rfl, R⟩ := hrel
    by_cases hgo : k < l.length ∧ k < 8
    · obtain ⟨g1, g2⟩ := hgo
      obtain ⟨-, b, off, rfl, hc⟩ := (HN.out.later R.bel).cell (by omega)
      have c0 := hc k g1
      have hz := HF.out k
      rw [atL_get g2 g1] at hz
      have hi1 : (k : Int) < (l.length : Int) := by omega
      have hi2 : (k : Int) < 8 := by omega
      have c1 := (R.x k g2).1
      have c2 := (R.x k g2).2
      obtain ⟨y, hy⟩ : ∃ y, firstk f k k = y := ⟨_, rfl⟩
      rw [hy] at c1
      obtain ⟨x, hx⟩ : ∃ x, l[k] = x := ⟨_, rfl⟩
      rw [hx] at c0 hz
      have HX := Lib.hid hz
      have RR := Lib.hid R
      clear hc hz hy hx R hkl hk8
      by_cases x0 : x < 0
      · have e := HX.out
        unfold cl at e
        rw [if_pos x0] at e
        have N := Lib.hid (RR.out.next g2 0 e.symm)
        clear e
        go_wp2
        go_roundw
        case rel => exact ⟨k + 1, by omega, by omega, by go_num, N.out⟩
        case measure => simp [intOf]; omega
      · by_cases x1 : 1099511627776 < x
        · have e := HX.out
          unfold cl at e
          rw [if_neg x0, if_pos x1] at e
          have N := Lib.hid (RR.out.next g2 1099511627776 e.symm)
          clear e
          go_wp2
          go_roundw
          case rel => exact ⟨k + 1, by omega, by omega, by go_num, N.out⟩
          case measure => simp [intOf]; omega
        · have e := HX.out
          unfold cl at e
          rw [if_neg x0, if_neg x1] at e
          have N := Lib.hid (RR.out.next g2 x e.symm)
          clear e
          go_wp2
          go_roundw
          case rel => exact ⟨k + 1, by omega, by omega, by go_num, N.out⟩
          case measure => simp [intOf]; omega
    · have hX : Arr wr (w.heap.size + 1) f := R.x.congr fun i hi => by
        unfold firstk
        by_cases hik : i < k
        · rw [if_pos hik]
        · rw [if_neg hik, ← HF.out i, atL_past (by omega)]
      have hO := R.o
      have hB := R.bel
      have hg : ¬ ((k : Int) < (l.length : Int)) ∨ ((k : Int) < (l.length : Int) ∧ ¬ (k : Int) < 8) := by omega
      clear R hgo HR0
      rcases hg with hg | ⟨hg, hg2⟩
      all_goals
        go_wp2_with (first
          | (refine wpList_load_arr hX rfl _ rfl rfl ?_)
          | (refine wpList_store_arr (f := f) hO rfl _ _ rfl rfl rfl ?_; intro w2 hA3 hB3))
        have k3 := hA3.loadVar
        exact bodyPost_ret (v := .agg (arrOf f)) (by simp [results, Try.results46, asAddr, k3]) rfl ⟨rfl, hB3 _ _ (Nat.le_refl _) hB⟩

theorem infoI : (Try.prog.info? 3).map (fun i => (i.zero, i.size, i.bytes)) = some (some (.int .i64 0), 1, 8) := by kernel_rfl
def icell (n : Int) : Value := .int .i64 n
/-- v is a slice that the call has made above B, of the numbers xs. -/
def IRow (w : World) (B : Nat) (v : Value) (xs : List Int) : Prop := w.ownsRow B 3 1 v xs.length (xs.map icell)
theorem IRow.slice {w : World} {B : Nat} {v : Value} {xs : List Int} (h : IRow w B v xs) : ∃ a c, v = .slice a xs.length c := ownsRow_slice h
theorem IRow.nil (w : World) (B : Nat) : IRow w B (.slice none 0 0) [] := World.ownsRow_nil _ _ _ _
theorem IRow.ns {w : World} {B : Nat} {v : Value} {xs : List Int} (h : IRow w B v xs) (hw : ∀ n ∈ xs, -9223372036854775808 ≤ n ∧ n ≤ 9223372036854775807) (hl : xs.length ≤ 100) : Ns w v xs := by
  have h0 := h
  rcases h.2 with ⟨hv, h0⟩ | ⟨g, cap, cur, hv, hg, hh, hn, hm, hs, ht⟩
  · obtain rfl := List.eq_nil_of_length_eq_zero h0
    subst hv
    exact (Nums.nil w none 0).mono (Nat.zero_le _) (Nat.le_refl _)
  · subst hv
    have e1 := World.ownsRow.cellAt (show w.ownsRow B 3 1 _ xs.length (xs.map icell) from h0)
    by_cases hz : xs.length = 0
    · obtain rfl := List.eq_nil_of_length_eq_zero hz
      exact (Nums.nil w _ _).mono (Nat.zero_le _) (Nat.le_refl _)
    · have c : ∀ j (hj : j < xs.length), w.cell? ⟨g, 0 + j, none⟩ = some (.int .i64 xs[j]) := fun j hj => by
        rw [Nat.zero_add, e1 j (by omega)]; simp [hj, icell]
      exact ⟨⟨_, _, rfl, Or.inr ⟨g, 0, rfl, World.block_lt_of_cell? w _ (c 0 (by omega)), c⟩⟩, hw, by omega, Nat.le_refl _⟩
/-- What the loops of vector have put out: the first m numbers. -/
structure VecRel (w wr : World) (f : Nat → Int) (o : Value) (m : Nat) : Prop where
  x : Arr wr w.heap.size f
  row : IRow wr (w.heap.size + 1) o ((List.range m).map f)
  bel : Below (w.heap.size + 1) (w.alloc (.cells (arrOf f) 74)) wr
theorem VecRel.len {w wr : World} {f : Nat → Int} {o : Value} {m : Nat} (R : VecRel w wr f o m) : ∃ a c, o = .slice a m c := by
  have := R.row.slice; simpa using this

theorem upto_zero {f : Nat → Int} (hf : Fit f) {k j : Nat} (h : upto f k ≤ j) (hj : j < k) (hk : k ≤ 8) : f j = 0 := by
  have := upto_past h hj
  have := hf j (by omega)
  omega

set_option maxHeartbeats 4000000 in
theorem rvector_is (f : Nat → Int) (w : World) (hf : Fit f) : Calls Try.prog 47 #[.agg (arrOf f)] w (VDone (vec f) w) := by
  obtain ⟨i0, hi, hz0, hz1, hz2⟩ := info_parts infoI
  have HF := Lib.hid hf
  have hX0 := Arr.new w f 74
  have HR0 := Lib.hid (show VecRel w (w.alloc (.cells (arrOf f) 74)) f (.slice none 0 0) 0 from ⟨hX0, IRow.nil _ _, Below.refl _ _⟩)
  have hs0 : (w.alloc (.cells (arrOf f) 74)).heap.size = w.heap.size + 1 := by simp
  have HS := Lib.hid hs0
  clear hf hX0 hs0
  go_enter Try.func47, Try.ntmps47
  go_wp2
  go_loopw [3, 4] (fun o i wr => ∃ k : Nat, k ≤ 8 ∧ i = .int .i64 (k : Int) ∧ VecRel w wr f o (upto f k)) (fun _ i _ => 8 - (intOf i).toNat)
  case atStart => exact ⟨0, by omega, rfl, HR0.out⟩
  case round =>
    obtain ⟨k, hk, rfl, R⟩ := hrel
    clear HR0
    by_cases hk8 : k < 8
    · have hk2 : (k : Int) < 8 := by omega
      obtain ⟨c0, -⟩ := R.x k hk8
      by_cases hpos : 0 < f k
      · obtain ⟨x, hx⟩ : ∃ x, f k = x := ⟨_, rfl⟩
        rw [hx] at c0 hpos
        have hle := upto_le f k
        have HX := Lib.hid hx
        have HZ := Lib.hid (fun j (h1 : upto f k ≤ j) (h2 : j < k) => upto_zero HF.out h1 h2 hk)
        have HU := Lib.hid (upto_yes (g := f) (k := k) (by rw [hx]; exact hpos))
        clear hx
        go_wp2
        obtain ⟨a1, cc1, rfl⟩ := R.len
        have RR := Lib.hid R
        clear R
        go_loopw [3] (fun o wr => ∃ m : Nat, upto f k ≤ m ∧ m ≤ k ∧ VecRel w wr f o m) (fun o _ => k - (match o with | .slice _ n _ => n | _ => 0))
        case atStart => exact ⟨upto f k, Nat.le_refl _, hle, RR.out⟩
        case round =>
          obtain ⟨m, hm1, hm2, R⟩ := hrel
          clear RR
          obtain ⟨a2, cc2, rfl⟩ := R.len
          obtain ⟨hX, hR, hbel⟩ := R
          have hBr : w.heap.size + 1 ≤ wr.heap.size := by have := hbel.size; have := HS.out; omega
          have hne : ∀ q, (Value.slice a2 m cc2).ownBlock = some q → w.heap.size + 1 ≤ q := fun q hq => (World.ownsRow.lt hR q hq).1
          obtain ⟨c0, -⟩ := hX k hk8
          rw [HX.out] at c0
          by_cases hmk : m < k
          · have hmk2 : (m : Int) < (k : Int) := by omega
            have hzero := HZ.out m hm1 hmk
            go_wp2_with (first | (at_builtin; refine wpList_append_own _ rfl _ _ 22 rfl (w.heap.size + 1) 3 i0 (.int .i64 0) 1 8 Try.underlying22 hi hz0 hz1 hz2 rfl (by decide) _ _ _ rfl (hR.alloc _) ⟨wr.heap.size, 0, none⟩ 1 1 [icell 0] rfl rfl ?c1 ?c2 ?c3 ?c4 ?c5 ?_))
            case c1 =>
              intro j u hj
              match j, hj with
              | 0, hj => simp at hj; subst hj; first | (simp [icell]; done) | (simp [icell, Addr.add]; done)
            case c2 => first | rfl | (intro u hu; simp at hu; subst hu; rfl)
            case c3 => unfold maxLen; (try simp); omega
            case c4 => (try simp); omega
            case c5 => (try simp); omega
            intro v' w3 hown3 hgrow _
            have hB3 : Below (w.heap.size + 1) wr w3 := ((Below.refl (w.heap.size + 1) wr).alloc hBr _).grown hgrow (by simp; omega) hne
            have hR3 : IRow w3 (w.heap.size + 1) v' ((List.range (m + 1)).map f) := by
              unfold IRow
              rw [List.range_succ, List.map_append]
              simp only [List.length_append, List.map_append, List.length_cons, List.length_nil, List.map_cons, List.map_nil]
              rw [hzero]
              simpa using hown3
            have hX3 := Lib.hid (hX.under hB3 (by omega))
            have HR3 := Lib.hid hR3
            have HB3 := Lib.hid (hbel.trans hB3)
            clear hown3 hgrow hR3 hB3 hR hbel hne
            go_wp2
            go_roundw
            case rel => exact ⟨m + 1, by omega, by omega, hX3.out, HR3.out, HB3.out⟩
            case measure =>
              obtain ⟨a3, cc3, rfl⟩ := HR3.out.slice
              simp; omega
          · obtain rfl : m = k := by omega
            have hmk2 : ¬ (m : Int) < (m : Int) := by omega
            clear hmk
            go_wp2_with (first | (at_builtin; refine wpList_append_own _ rfl _ _ 22 rfl (w.heap.size + 1) 3 i0 (.int .i64 0) 1 8 Try.underlying22 hi hz0 hz1 hz2 rfl (by decide) _ _ _ rfl (hR.alloc _) ⟨wr.heap.size, 0, none⟩ 1 1 [icell x] rfl rfl ?c1 ?c2 ?c3 ?c4 ?c5 ?_))
            case c1 =>
              intro j u hj
              match j, hj with
              | 0, hj => simp at hj; subst hj; first | (simp [icell]; done) | (simp [icell, Addr.add]; done)
            case c2 => first | rfl | (intro u hu; simp at hu; subst hu; rfl)
            case c3 => unfold maxLen; (try simp); omega
            case c4 => (try simp); omega
            case c5 => (try simp); omega
            intro v' w3 hown3 hgrow _
            have hB3 : Below (w.heap.size + 1) wr w3 := ((Below.refl (w.heap.size + 1) wr).alloc hBr _).grown hgrow (by simp; omega) hne
            have hR3 : IRow w3 (w.heap.size + 1) v' ((List.range (m + 1)).map f) := by
              unfold IRow
              rw [List.range_succ, List.map_append]
              simp only [List.length_append, List.map_append, List.length_cons, List.length_nil, List.map_cons, List.map_nil]
              rw [HX.out]
              simpa using hown3
            have hX3 := Lib.hid (hX.under hB3 (by omega))
            have HR3 := Lib.hid hR3
            have HB3 := Lib.hid (hbel.trans hB3)
            clear hown3 hgrow hR3 hB3 hR hbel hne
            go_wp2
            go_roundw
            case rel => exact ⟨m + 1, by omega, by go_num, by rw [HU.out]; exact ⟨hX3.out, HR3.out, HB3.out⟩⟩
            case measure => simp [intOf]; omega
      · have HU := Lib.hid (upto_no (g := f) (k := k) hpos)
        obtain ⟨x, hx⟩ : ∃ x, f k = x := ⟨_, rfl⟩
        rw [hx] at c0 hpos
        have RR := Lib.hid R
        clear hx R
        go_wp2
        go_roundw
        case rel => exact ⟨k + 1, by omega, by go_num, by rw [HU.out]; exact RR.out⟩
        case measure => simp [intOf]; omega
    · obtain rfl : k = 8 := by omega
      have hB := R.bel
      have hns := R.row.ns (fun n hn => by have := vec_fit HF.out n hn; omega) (by have := upto_le f 8; simp; omega)
      clear R hk8 hk
      go_wp2
      go_ret
      exact ⟨_, rfl, hns, ((Below.refl _ _).alloc (Nat.le_refl _) _).trans (hB.mono (by omega))⟩
end Go.Proofs.Ythifmfgnblecbaa

/- Vectors are a lattice: it imports nothing of the program. -/
namespace Go.Proofs.Ythifmfgnblecbaa.Mk

theorem cov_join_left (a b : List Int) : covL (joinL a b) a = true := covL_iff.2 fun i hi => by rw [atL_join a b hi]; omega
theorem cov_join_right (a b : List Int) : covL (joinL a b) b = true := covL_iff.2 fun i hi => by rw [atL_join a b hi]; omega
theorem cov_meet_left (a b : List Int) : covL a (meetL a b) = true := covL_iff.2 fun i hi => by rw [atL_meet a b hi]; omega
theorem cov_meet_right (a b : List Int) : covL b (meetL a b) = true := covL_iff.2 fun i hi => by rw [atL_meet a b hi]; omega
theorem cov_join (a b c : List Int) : covL c (joinL a b) = (covL c a && covL c b) := by
  rw [Bool.eq_iff_iff, Bool.and_eq_true, covL_iff, covL_iff, covL_iff]
  constructor
  · intro h
    refine ⟨fun i hi => ?_, fun i hi => ?_⟩ <;> (have := h i hi; rw [atL_join a b hi] at this; omega)
  · intro ⟨h1, h2⟩ i hi
    have := h1 i hi; have := h2 i hi
    rw [atL_join a b hi]; omega
theorem cov_meet (a b c : List Int) : covL (meetL a b) c = (covL a c && covL b c) := by
  rw [Bool.eq_iff_iff, Bool.and_eq_true, covL_iff, covL_iff, covL_iff]
  constructor
  · intro h
    refine ⟨fun i hi => ?_, fun i hi => ?_⟩ <;> (have := h i hi; rw [atL_meet a b hi] at this; omega)
  · intro ⟨h1, h2⟩ i hi
    have := h1 i hi; have := h2 i hi
    rw [atL_meet a b hi]; omega
theorem join_comm (a b : List Int) : joinL a b = joinL b a := vec_congr fun i _ => by show max _ _ = max _ _; omega
theorem meet_comm (a b : List Int) : meetL a b = meetL b a := vec_congr fun i _ => by show min _ _ = min _ _; omega
theorem join_again (a b : List Int) : joinL (joinL a b) a = joinL a b := vec_congr fun i hi => by
  show max (atL (joinL a b) (i : Int)) (atL a (i : Int)) = max _ _
  rw [atL_join a b hi]; omega
theorem join_assoc (a b c : List Int) : joinL (joinL a b) c = joinL a (joinL b c) := vec_congr fun i hi => by
  show max (atL (joinL a b) (i : Int)) (atL c (i : Int)) = max (atL a (i : Int)) (atL (joinL b c) (i : Int))
  rw [atL_join a b hi, atL_join b c hi]; omega
theorem plain_join (a b : List Int) : plainL (joinL a b) = joinL a b := plain_vec (join_fit a b)
theorem plain_meet (a b : List Int) : plainL (meetL a b) = meetL a b := plain_vec (meet_fit a b)
theorem plain_with (a : List Int) (s n : Int) : plainL (withL a s n) = withL a s n := plain_vec (with_fit a s n)
theorem cov_self (a : List Int) : covL a a = true := covL_iff.2 fun _ _ => Int.le_refl _
/-- A step at site k: what each site has then. -/
theorem step_at (l : List Int) (k : Nat) (hk : k < 8) (x : Int) (n : Int) (hn : atL l (k : Int) = n) : atL (withL l (k : Int) (n + 1)) x = if x = (k : Int) ∧ n < 1099511627776 then n + 1 else atL l x := by
  have hb := atL_bounds l (k : Int)
  rw [hn] at hb
  by_cases ho : x < 0 ∨ 7 < x
  · rw [atL_out ho, atL_out ho, if_neg (by omega)]
  · obtain ⟨i, rfl⟩ := Int.eq_ofNat_of_zero_le (show 0 ≤ x by omega)
    rw [atL_with l (k : Int) (n + 1) (show i < 8 by omega)]
    by_cases he : (i : Int) = (k : Int)
    · rw [if_pos he]
      by_cases hm : n < 1099511627776
      · rw [if_pos ⟨he, hm⟩, cl_in (by omega) (by omega)]
      · rw [if_neg (by omega), he, hn]
        unfold cl; rw [if_neg (by omega), if_pos (by omega)]; omega
    · rw [if_neg he, if_neg (by omega)]
theorem step_cmp (l : List Int) (k : Nat) (hk : k < 8) (n : Int) (hn : atL l (k : Int) = n) : cmpL (withL l (k : Int) (n + 1)) l = if n < 1099511627776 then 1 else 0 := by
  have h1 : covL (withL l (k : Int) (n + 1)) l = true := covL_iff.2 fun i hi => by
    rw [step_at l k hk _ n hn]
    split
    · rename_i h; rw [h.1, hn]; omega
    · exact Int.le_refl _
  unfold cmpL
  rw [h1]
  by_cases hm : n < 1099511627776
  · have h2 : covL l (withL l (k : Int) (n + 1)) = false := cov_no hk (by rw [step_at l k hk _ n hn, if_pos ⟨rfl, hm⟩, hn]; omega)
    rw [h2, if_pos hm]; rfl
  · have h2 : covL l (withL l (k : Int) (n + 1)) = true := covL_iff.2 fun i hi => by
      rw [step_at l k hk _ n hn, if_neg (by omega)]; exact Int.le_refl _
    rw [h2, if_neg hm]; rfl
end Go.Proofs.Ythifmfgnblecbaa.Mk

/- Contracts of the document's Plain, Right, At, With, Join, Meet, Covers, Compare, Text. -/
set_option maxRecDepth 20000
namespace Go.Proofs.Ythifmfgnblecbaa
open Go.RowKit Go.Proofs.Ythifmfgnblecbaa.Vi Go.Proofs.Ythifmfgnblecbaa.Mk

theorem rplain_is (v : Value) (l : List Int) (w : World) (h : Ns w v l) : Calls Try.prog 31 #[v] w (VDone (plainL l) w) := by
  have k1 := rall_is v l w h
  have k2 := fun w => rvector_is (fun i => atL l (i : Int)) w (atL_fit l)
  clear h
  go_enter Try.func31, Try.ntmps31
  go_wp2_with (first
    | (go_at_call 46; (with_reducible refine k1.mono ?_); rintro e w1 ⟨rfl, hb1⟩)
    | (go_at_call 47; (with_reducible refine (k2 _).mono ?_); rintro e w2 ⟨v2, rfl, hN, hb2⟩))
  go_ret
  exact ⟨_, rfl, hN, bel_next hb1 hb2⟩
theorem rright_is (v : Value) (l : List Int) (w : World) (h : Ns w v l) : Calls Try.prog 59 #[v] w fun e w' => e = .returned (.bool (sameL l (plainL l))) ∧ Below w.heap.size w w' := by
  have hn := rplain_is v l w h
  obtain ⟨z, hz⟩ : ∃ z, sameL l (plainL l) = z := ⟨_, rfl⟩
  have hq := fun v' w' (h' : Ns w' v' (plainL l)) (hb : Below w.heap.size w w') => rsameN v v' l (plainL l) w' (h.later hb) h'
  rw [hz] at hq ⊢
  clear h hz
  go_enter Try.func59, Try.ntmps59
  go_wp2_with (first
    | (go_at_call 31; (with_reducible refine hn.mono ?_); rintro e w1 ⟨v1, rfl, hN1, hb1⟩)
    | (go_at_call 18; (with_reducible refine (hq _ _ hN1 hb1).mono ?_); rintro e w2 ⟨rfl, hb2⟩))
  go_ret
  exact ⟨rfl, bel_next hb1 hb2⟩
theorem index_arr (f : Nat → Int) (k : Nat) (hk : k < 8) (w : World) : (Instr.index 74 (.agg (arrOf f)) (.int .i64 (k : Int))).run Try.prog w = .ok (.int .i64 (f k)) w := by
  match k, hk with
  | 0, _ | 1, _ | 2, _ | 3, _ | 4, _ | 5, _ | 6, _ | 7, _ => rfl
theorem rat_is (v : Value) (l : List Int) (s : Int) (w : World) (h : Ns w v l) : Calls Try.prog 27 #[v, .int .i64 s] w fun e w' => e = .returned (.int .i64 (atL l s)) ∧ Below w.heap.size w w' := by
  have k1 := rall_is v l w h
  clear h
  by_cases c1 : s < 0
  · rw [atL_out (Or.inl c1)]
    go_enter Try.func27, Try.ntmps27
    go_wp2
    go_ret
    exact ⟨rfl, Below.refl _ _⟩
  · by_cases c2 : 7 < s
    · rw [atL_out (Or.inr c2)]
      go_enter Try.func27, Try.ntmps27
      go_wp2
      go_ret
      exact ⟨rfl, Below.refl _ _⟩
    · obtain ⟨k, rfl⟩ := Int.eq_ofNat_of_zero_le (show 0 ≤ s by omega)
      have hix := fun w => index_arr (fun i => atL l (i : Int)) k (by omega) w
      clear c1
      go_enter Try.func27, Try.ntmps27
      go_wp2_with (go_at_call 46; (with_reducible refine k1.mono ?_); rintro e w1 ⟨rfl, hb1⟩)
      go_ret
      exact ⟨rfl, hb1⟩

/-- The first k of z, the others of x. -/
def mix (x z : Nat → Int) (k : Nat) : Nat → Int := fun j => if j < k then z j else x j
theorem mix_at (x z : Nat → Int) (k : Nat) : mix x z k k = x k := by unfold mix; rw [if_neg (by omega)]
theorem mix_step {x z : Nat → Int} {k : Nat} (j : Nat) : updI (mix x z k) k (z k) j = mix x z (k + 1) j := by
  unfold updI mix
  by_cases h : j = k
  · subst h; rw [if_pos rfl, if_pos (by omega)]
  · rw [if_neg h]
    by_cases h2 : j < k
    · rw [if_pos h2, if_pos (by omega)]
    · rw [if_neg h2, if_neg (by omega)]
theorem mix_same {x z : Nat → Int} {k : Nat} (hk : x k = z k) (j : Nat) : mix x z k j = mix x z (k + 1) j := by
  unfold mix
  by_cases h : j = k
  · subst h; rw [if_neg (by omega), if_pos (by omega), hk]
  · by_cases h2 : j < k
    · rw [if_pos h2, if_pos (by omega)]
    · rw [if_neg h2, if_neg (by omega)]
/-- What the loop of Join or Meet has done. -/
structure TwoRel (w wr : World) (b d : Nat) (x y z : Nat → Int) (k : Nat) : Prop where
  x : Arr wr b (mix x z k)
  y : Arr wr d y
  bel : Below w.heap.size w wr
theorem TwoRel.next {w wr : World} {b d : Nat} {x y z : Nat → Int} {k : Nat} (R : TwoRel w wr b d x y z k) (hk : k < 8) (hb : w.heap.size ≤ b) (hd : d ≠ b) (v : Int) (hv : z k = v) : TwoRel w (wr.setCell ⟨b, k, none⟩ (.int .i64 v)) b d x y z (k + 1) := by
  subst hv
  exact ⟨(R.x.stored k hk _).congr fun i _ => mix_step i, R.y.other _ _ hd, R.bel.setCell hb _⟩
theorem TwoRel.pass {w wr : World} {b d : Nat} {x y z : Nat → Int} {k : Nat} (R : TwoRel w wr b d x y z k) (hk : x k = z k) : TwoRel w wr b d x y z (k + 1) := ⟨R.x.congr fun i _ => mix_same hk i, R.y, R.bel⟩
theorem TwoRel.drewN {w wr : World} {b d : Nat} {x y z : Nat → Int} {k : Nat} (R : TwoRel w wr b d x y z k) (n : Nat) : TwoRel w (wr.drewN n) b d x y z k := ⟨R.x.below (below_drawn _ _), R.y.below (below_drawn _ _), below_drewN R.bel n⟩

set_option maxHeartbeats 4000000 in
theorem rcovers_is (v1 v2 : Value) (l1 l2 : List Int) (w : World) (h1 : Ns w v1 l1) (h2 : Ns w v2 l2) : Calls Try.prog 26 #[v1, v2] w fun e w' => e = .returned (.bool (covL l1 l2)) ∧ Below w.heap.size w w' := by
  obtain ⟨x, hx⟩ : ∃ x : Nat → Int, (fun i : Nat => atL l1 (i : Int)) = x := ⟨_, rfl⟩
  obtain ⟨y, hy⟩ : ∃ y : Nat → Int, (fun i : Nat => atL l2 (i : Int)) = y := ⟨_, rfl⟩
  have k1 := rall_is v1 l1 w h1
  have k2 := fun w h => rall_is v2 l2 w h
  rw [hx] at k1
  rw [hy] at k2
  obtain ⟨z, hz⟩ : ∃ z, covL l1 l2 = z := ⟨_, rfl⟩
  have HZ := Lib.hid hz
  have HX := Lib.hid (fun i : Nat => congrFun hx i)
  have HY := Lib.hid (fun i : Nat => congrFun hy i)
  rw [hz]
  clear hz
  clear hx hy h1
  go_enter Try.func26, Try.ntmps26
  go_wp2_with (first
    | (go_at_call 46; (with_reducible refine k1.mono ?_); rintro e wz ⟨rfl, hbz⟩; have G2 := h2.later hbz)
    | (refine wpList_new_arr (f := x) rfl _ _ rfl rfl rfl ?_; intro wy hAy hby; have G3 := G2.later hby)
    | (go_at_call 46; (with_reducible refine (k2 _ G3).mono ?_); rintro e wx ⟨rfl, hbx⟩; have hAx := hAy.below hbx)
    | (refine wpList_new_arr (f := y) rfl _ _ rfl rfl rfl ?_; intro wv hAv hbv; have hA1 := hAx.below hbv))
  have hbel : Below w.heap.size w wv := bel_next (bel_next (bel_next hbz hby) hbx) hbv
  have r1 := hAy.room
  have r2 := hbz.size
  have r3 := hbx.size
  obtain ⟨b, hb⟩ : ∃ b, wz.heap.size = b := ⟨_, rfl⟩
  obtain ⟨d, hd⟩ : ∃ d, wx.heap.size = d := ⟨_, rfl⟩
  rw [hb] at hA1 r1 r2 ⊢
  rw [hd] at hAv r3 ⊢
  clear k1 k2 G2 G3 hAy hAx hbz hby hbx hbv h2 hb hd
  have HA := Lib.hid hA1
  have HB := Lib.hid hAv
  have HBEL := Lib.hid hbel
  clear hA1 hAv hbel
  go_loopw [7] (fun i wr => ∃ k : Nat, k ≤ 8 ∧ i = .int .i64 (k : Int) ∧ Arr wr b x ∧ Arr wr d y ∧ Below w.heap.size w wr ∧ ∀ j, j < k → y j ≤ x j) (fun i _ => 8 - (intOf i).toNat)
  case atStart => exact ⟨0, by omega, rfl, HA.out, HB.out, HBEL.out, fun j hj => absurd hj (Nat.not_lt_zero _)⟩
  case round =>
    obtain ⟨k, hk, rfl, hX, hY, hbel, hall⟩ := hrel
    clear HA HB HBEL
    by_cases hlt : k < 8
    · have c1 := (hX k hlt).1
      have c2 := (hY k hlt).1
      obtain ⟨p, hp⟩ : ∃ p, x k = p := ⟨_, rfl⟩
      obtain ⟨q, hq⟩ : ∃ q, y k = q := ⟨_, rfl⟩
      rw [hp] at c1
      rw [hq] at c2
      have HP := Lib.hid hp
      have HQ := Lib.hid hq
      have HA := Lib.hid hX
      have HB := Lib.hid hY
      have HL := Lib.hid hbel
      have HALL := Lib.hid hall
      have hk1 : (k : Int) < 8 := by omega
      clear hp hq hX hY hbel hall
      by_cases hc : p < q
      · go_wp2_with fail
        go_quiet (fail)
        go_wp2
        go_ret
        exact ⟨by rw [← HZ.out, cov_no hlt (by have e1 := HX.out k; have e2 := HY.out k; rw [e1, e2, HP.out, HQ.out]; exact hc)]; rfl, below_drewN HL.out _⟩
      · go_wp2_with fail
        go_quiet (fail)
        go_wp2
        go_roundw
        case rel =>
          refine ⟨k + 1, by omega, by go_num, HA.out.below (below_drawn _ _), HB.out.below (below_drawn _ _), below_drewN HL.out _, fun j hj => ?_⟩
          by_cases e : j = k
          · subst e; rw [HP.out, HQ.out]; omega
          · exact HALL.out j (by omega)
        case measure => simp [intOf]; omega
    · obtain rfl : k = 8 := by omega
      have HALL := Lib.hid hall
      clear hall hlt hX hY
      go_wp2
      go_ret
      exact ⟨by rw [← HZ.out, cov_all (k := 8) (fun i hi => by have e1 := HX.out i; have e2 := HY.out i; rw [e1, e2]; exact HALL.out i hi) (Nat.le_refl _)]; rfl, hbel⟩

theorem one_ns (w : World) (b : Nat) (x : Int) (hc : w.cell? ⟨b, 0, none⟩ = some (.int .i64 x)) (hx : -9223372036854775808 ≤ x ∧ x ≤ 9223372036854775807) : Ns w (.slice (some ⟨b, 0, none⟩) 1 1) [x] :=
  ⟨⟨_, _, rfl, Or.inr ⟨b, 0, rfl, World.block_lt_of_cell? w _ hc, fun j hj => by
    match j, hj with
    | 0, _ => exact hc⟩⟩, fun n hn => by simp at hn; subst hn; exact hx, by simp, Nat.le_refl _⟩
set_option maxHeartbeats 4000000 in
theorem rwith_is (v : Value) (l : List Int) (s n : Int) (w : World) (h : Ns w v l) (hn : -9223372036854775808 ≤ n ∧ n ≤ 9223372036854775807) : Calls Try.prog 28 #[v, .int .i64 s, .int .i64 n] w (VDone (withL l s n) w) := by
  obtain ⟨x, hx⟩ : ∃ x : Nat → Int, (fun i : Nat => atL l (i : Int)) = x := ⟨_, rfl⟩
  have k1 := rall_is v l w h
  have k2 := fun a w h => rall_is a [n] w h
  rw [hx] at k1
  have hfit : Fit x := by rw [← hx]; exact atL_fit l
  clear h
  by_cases ho : s < 0 ∨ 7 < s
  · have hz : withL l s n = vec x := by
      rw [← hx]
      exact vec_congr fun i hi => if_neg (by omega)
    have k5 := fun w => rvector_is x w hfit
    rw [hz]
    have hs : s < 0 ∨ (0 ≤ s ∧ 7 < s) := by omega
    clear hx hz hfit k2 ho
    rcases hs with hs | ⟨hs1, hs2⟩
    all_goals
      go_enter Try.func28, Try.ntmps28
      go_wp2_with (first
        | (go_at_call 46; (with_reducible refine k1.mono ?_); rintro e wz ⟨rfl, hbz⟩)
        | (refine wpList_new_arr (f := x) rfl _ _ rfl rfl rfl ?_; intro wy hAy hby)
        | (refine wpList_load_arr hAy rfl _ rfl rfl ?_)
        | (go_at_call 47; (with_reducible refine (k5 _).mono ?_); rintro e wn ⟨v5, rfl, hN, hbn⟩))
      go_ret
      exact ⟨_, rfl, hN, bel_next (bel_next hbz hby) hbn⟩
  · obtain ⟨k, rfl⟩ := Int.eq_ofNat_of_zero_le (show 0 ≤ s by omega)
    have hk8 : k < 8 := by omega
    have hfz : Fit (updI x k (cl n)) := fun i hi => by
      unfold updI
      by_cases e : i = k
      · rw [if_pos e]; exact cl_bounds n
      · rw [if_neg e]; exact hfit i hi
    have hz : withL l (k : Int) n = vec (updI x k (cl n)) := by
      rw [← hx]
      refine vec_congr fun i hi => ?_
      unfold updI
      by_cases e : i = k
      · subst e; rw [if_pos rfl, if_pos rfl]
      · rw [if_neg e, if_neg (by omega)]
    have k5 := fun w => rvector_is (updI x k (cl n)) w hfz
    have hix : ∀ w, (Instr.index 74 (.agg (arrOf fun i => atL [n] (i : Int))) (.int .i64 0)).run Try.prog w = .ok (.int .i64 (cl n)) w := fun w => by
      have := index_arr (fun i => atL [n] (i : Int)) 0 (by omega) w
      have e0 : atL [n] ((0 : Nat) : Int) = cl n := atL_get (l := [n]) (by omega) (by simp)
      rw [e0] at this
      exact this
    rw [hz]
    have hk1 : (k : Int) ≤ 7 := by omega
    have hk2 : (0 : Int) ≤ (k : Int) := by omega
    have hk3 : (k : Int) < 8 := by omega
    clear hx hz hfit hfz ho
    go_enter Try.func28, Try.ntmps28
    go_wp2_with (first
      | (go_at_call 46; (with_reducible refine k1.mono ?_); rintro e wz ⟨rfl, hbz⟩)
      | (refine wpList_new_arr (f := x) rfl _ _ rfl rfl rfl ?_; intro wy hAy hby)
      | (go_at_call 46; (with_reducible refine (k2 _ _ (one_ns _ _ n ?hc hn)).mono ?_); (case hc => simp [go_sem]; done); rintro e wx ⟨rfl, hbx⟩; have hAx := (hAy.alloc _).below hbx; obtain ⟨c1, f1⟩ := hAx k hk8; have hAs := hAx.stored k hk8 (cl n); have hrz := hbz.size)
      | (refine wpList_load_arr hAs rfl _ rfl rfl ?_)
      | (go_at_call 47; (with_reducible refine (k5 _).mono ?_); rintro e wn ⟨v5, rfl, hN, hbn⟩))
    go_ret
    exact ⟨_, rfl, hN, bel_next ((bel_next (bel_new (bel_next hbz hby) _) hbx).setCell hrz _) hbn⟩

end Go.Proofs.Ythifmfgnblecbaa
