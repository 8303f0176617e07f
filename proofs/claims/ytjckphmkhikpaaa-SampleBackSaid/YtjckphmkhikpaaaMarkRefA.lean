/- Contracts of the document's all and vector. -/
import Derived.Test.YtjckphmkhikpaaaMarkArr
namespace Go.Proofs.Ytjckphmkhikpaaa
open Go.RowKit Go.Proofs.Ytjckphmkhikpaaa.Vi Go.Proofs.Ytjckphmkhikpaaa.Mk

theorem arrOf_congr {f g : Nat → Int} (h : ∀ i, i < 8 → f i = g i) : arrOf f = arrOf g := by
  unfold arrOf
  congr 1
  apply List.map_congr_left
  intro i hi
  rw [h i (List.mem_range.1 hi)]
theorem Arr.congr {w : World} {b : Nat} {f g : Nat → Int} (h : Arr w b f) (e : ∀ i, i < 8 → f i = g i) : Arr w b g := fun i hi => by rw [← e i hi]; exact h i hi
/-- The first k numbers. -/
def firstk (f : Nat → Int) (k : Nat) : Nat → Int := fun j => if j < k then f j else 0
theorem firstk_step {f : Nat → Int} {k : Nat} (j : Nat) : updI (firstk f k) k (f k) j = firstk f (k + 1) j := by
  unfold updI firstk
  by_cases h : j = k
  · subst h; rw [if_pos rfl, if_pos (by omega)]
  · rw [if_neg h]
    by_cases h2 : j < k
    · rw [if_pos h2, if_pos (by omega)]
    · rw [if_neg h2, if_neg (by omega)]
/-- What the loop of all has done. -/
structure AllRel (w wr : World) (f : Nat → Int) (k : Nat) : Prop where
  x : Arr wr (w.heap.size + 1) (firstk f k)
  o : Arr wr w.heap.size (fun _ => 0)
  bel : Below w.heap.size w wr
theorem AllRel.next {w wr : World} {f : Nat → Int} {k : Nat} (R : AllRel w wr f k) (hk : k < 8) (z : Int) (hz : f k = z) : AllRel w (wr.setCell ⟨w.heap.size + 1, k, none⟩ (.int .i64 z)) f (k + 1) := by
  subst hz
  exact ⟨(R.x.stored k hk _).congr fun i _ => firstk_step i, R.o.other _ _ (by show w.heap.size ≠ w.heap.size + 1; omega), R.bel.setCell (by show w.heap.size ≤ w.heap.size + 1; omega) _⟩

set_option maxHeartbeats 2000000 in
theorem rall_is (v : Value) (l : List Int) (w : World) (h : Ns w v l) : Calls Try.prog 83 #[v] w fun e w' => e = .returned (.agg (arrOf fun i => atL l (i : Int))) ∧ Below w.heap.size w w' := by
  obtain ⟨f, hf⟩ : ∃ f : Nat → Int, (fun i : Nat => atL l (i : Int)) = f := ⟨_, rfl⟩
  rw [hf]
  have HF := Lib.hid (fun i : Nat => congrFun hf i)
  clear hf
  obtain ⟨a, cap, rfl⟩ := h.slice
  have hsz := h.size
  have HN := Lib.hid h
  have hO := (Arr.zero w).alloc (.cells (arrOf fun _ => 0) 90)
  have hX := Arr.zero (w.alloc (.cells (arrOf fun _ => 0) 90))
  simp only [World.size_alloc] at hX
  have HR0 := Lib.hid (show AllRel w ((w.alloc (.cells (arrOf fun _ => 0) 90)).alloc (.cells (arrOf fun _ => 0) 90)) f 0 from ⟨hX.congr fun i _ => rfl, hO, by (repeat (first | exact Below.refl _ _ | refine below_drewN ?_ _ | refine Below.drew ?_ | (refine Below.setCell ?_ (by simp; try omega) _) | refine bel_new ?_ _ | (refine bel_next ?_ (by assumption))))⟩)
  clear h hO hX
  go_enter Try.func83, Try.ntmps83
  go_wp2
  go_loopw [4] (fun i wr => ∃ k : Nat, k ≤ 8 ∧ k ≤ l.length ∧ i = .int .i64 (k : Int) ∧ AllRel w wr f k) (fun i _ => 8 - (intOf i).toNat)
  case atStart => exact ⟨0, by omega, by omega, rfl, HR0.out⟩
  case round =>
    obtain ⟨k, hk8, hkl, rfl, R⟩ := hrel
    by_cases hgo : k < l.length ∧ k < 8
    · obtain ⟨g1, g2⟩ := hgo
      obtain ⟨-, b, off, rfl, hc⟩ := (HN.out.later R.bel).cell (by omega)
      have c0 := hc k g1
      have hz := HF.out k
      rw [atL_get g2 g1] at hz
      have hi1 : (k : Int) < (l.length : Int) := by omega
      have hi2 : (k : Int) < 8 := by omega
      have c1 := (R.x k g2).1
      have c2 := (R.x k g2).2
      obtain ⟨y, hy⟩ : ∃ y, firstk f k k = y := ⟨_, rfl⟩
      rw [hy] at c1
      obtain ⟨x, hx⟩ : ∃ x, l[k] = x := ⟨_, rfl⟩
      rw [hx] at c0 hz
      have HX := Lib.hid hz
      have RR := Lib.hid R
      clear hc hz hy hx R hkl hk8
      by_cases x0 : x < 0
      · have e := HX.out
        unfold cl at e
        rw [if_pos x0] at e
        have N := Lib.hid (RR.out.next g2 0 e.symm)
        clear e
        go_wp2
        go_roundw
        case rel => exact ⟨k + 1, by omega, by omega, by go_num, N.out⟩
        case measure => simp [intOf]; omega
      · by_cases x1 : 1099511627776 < x
        · have e := HX.out
          unfold cl at e
          rw [if_neg x0, if_pos x1] at e
          have N := Lib.hid (RR.out.next g2 1099511627776 e.symm)
          clear e
          go_wp2
          go_roundw
          case rel => exact ⟨k + 1, by omega, by omega, by go_num, N.out⟩
          case measure => simp [intOf]; omega
        · have e := HX.out
          unfold cl at e
          rw [if_neg x0, if_neg x1] at e
          have N := Lib.hid (RR.out.next g2 x e.symm)
          clear e
          go_wp2
          go_roundw
          case rel => exact ⟨k + 1, by omega, by omega, by go_num, N.out⟩
          case measure => simp [intOf]; omega
    · have hX : Arr wr (w.heap.size + 1) f := R.x.congr fun i hi => by
        unfold firstk
        by_cases hik : i < k
        · rw [if_pos hik]
        · rw [if_neg hik, ← HF.out i, atL_past (by omega)]
      have hO := R.o
      have hB := R.bel
      have hg : ¬ ((k : Int) < (l.length : Int)) ∨ ((k : Int) < (l.length : Int) ∧ ¬ (k : Int) < 8) := by omega
      clear R hgo HR0
      rcases hg with hg | ⟨hg, hg2⟩
      all_goals
        go_wp2_with (first
          | (refine wpList_load_arr hX rfl _ rfl rfl ?_)
          | (refine wpList_store_arr (f := f) hO rfl _ _ rfl rfl rfl ?_; intro w2 hA3 hB3))
        have k3 := hA3.loadVar
        exact bodyPost_ret (v := .agg (arrOf f)) (by simp [results, Try.results83, asAddr, k3]) rfl ⟨rfl, hB3 _ _ (Nat.le_refl _) hB⟩

theorem infoI : (Try.prog.info? 3).map (fun i => (i.zero, i.size, i.bytes)) = some (some (.int .i64 0), 1, 8) := by kernel_rfl
def icell (n : Int) : Value := .int .i64 n
/-- v is a slice that the call has made above B, of the numbers xs. -/
def IRow (w : World) (B : Nat) (v : Value) (xs : List Int) : Prop := w.ownsRow B 3 1 v xs.length (xs.map icell)
theorem IRow.slice {w : World} {B : Nat} {v : Value} {xs : List Int} (h : IRow w B v xs) : ∃ a c, v = .slice a xs.length c := ownsRow_slice h
theorem IRow.nil (w : World) (B : Nat) : IRow w B (.slice none 0 0) [] := World.ownsRow_nil _ _ _ _
theorem IRow.ns {w : World} {B : Nat} {v : Value} {xs : List Int} (h : IRow w B v xs) (hw : ∀ n ∈ xs, -9223372036854775808 ≤ n ∧ n ≤ 9223372036854775807) (hl : xs.length ≤ 100) : Ns w v xs := by
  have h0 := h
  rcases h.2 with ⟨hv, h0⟩ | ⟨g, cap, cur, hv, hg, hh, hn, hm, hs, ht⟩
  · obtain rfl := List.eq_nil_of_length_eq_zero h0
    subst hv
    exact (Nums.nil w none 0).mono (Nat.zero_le _) (Nat.le_refl _)
  · subst hv
    have e1 := World.ownsRow.cellAt (show w.ownsRow B 3 1 _ xs.length (xs.map icell) from h0)
    by_cases hz : xs.length = 0
    · obtain rfl := List.eq_nil_of_length_eq_zero hz
      exact (Nums.nil w _ _).mono (Nat.zero_le _) (Nat.le_refl _)
    · have c : ∀ j (hj : j < xs.length), w.cell? ⟨g, 0 + j, none⟩ = some (.int .i64 xs[j]) := fun j hj => by
        rw [Nat.zero_add, e1 j (by omega)]; simp [hj, icell]
      exact ⟨⟨_, _, rfl, Or.inr ⟨g, 0, rfl, World.block_lt_of_cell? w _ (c 0 (by omega)), c⟩⟩, hw, by omega, Nat.le_refl _⟩
/-- What the loops of vector have put out: the first m numbers. -/
structure VecRel (w wr : World) (f : Nat → Int) (o : Value) (m : Nat) : Prop where
  x : Arr wr w.heap.size f
  row : IRow wr (w.heap.size + 1) o ((List.range m).map f)
  bel : Below (w.heap.size + 1) (w.alloc (.cells (arrOf f) 90)) wr
theorem VecRel.len {w wr : World} {f : Nat → Int} {o : Value} {m : Nat} (R : VecRel w wr f o m) : ∃ a c, o = .slice a m c := by
  have := R.row.slice; simpa using this

theorem upto_zero {f : Nat → Int} (hf : Fit f) {k j : Nat} (h : upto f k ≤ j) (hj : j < k) (hk : k ≤ 8) : f j = 0 := by
  have := upto_past h hj
  have := hf j (by omega)
  omega

set_option maxHeartbeats 4000000 in
theorem rvector_is (f : Nat → Int) (w : World) (hf : Fit f) : Calls Try.prog 93 #[.agg (arrOf f)] w (VDone (vec f) w) := by
  obtain ⟨i0, hi, hz0, hz1, hz2⟩ := info_parts infoI
  have HF := Lib.hid hf
  have hX0 := Arr.new w f 90
  have HR0 := Lib.hid (show VecRel w (w.alloc (.cells (arrOf f) 90)) f (.slice none 0 0) 0 from ⟨hX0, IRow.nil _ _, Below.refl _ _⟩)
  have hs0 : (w.alloc (.cells (arrOf f) 90)).heap.size = w.heap.size + 1 := by simp
  have HS := Lib.hid hs0
  clear hf hX0 hs0
  go_enter Try.func93, Try.ntmps93
  go_wp2
  go_loopw [3, 4] (fun o i wr => ∃ k : Nat, k ≤ 8 ∧ i = .int .i64 (k : Int) ∧ VecRel w wr f o (upto f k)) (fun _ i _ => 8 - (intOf i).toNat)
  case atStart => exact ⟨0, by omega, rfl, HR0.out⟩
  case round =>
    obtain ⟨k, hk, rfl, R⟩ := hrel
    clear HR0
    by_cases hk8 : k < 8
    · have hk2 : (k : Int) < 8 := by omega
      obtain ⟨c0, -⟩ := R.x k hk8
      by_cases hpos : 0 < f k
      · obtain ⟨x, hx⟩ : ∃ x, f k = x := ⟨_, rfl⟩
        rw [hx] at c0 hpos
        have hle := upto_le f k
        have HX := Lib.hid hx
        have HZ := Lib.hid (fun j (h1 : upto f k ≤ j) (h2 : j < k) => upto_zero HF.out h1 h2 hk)
        have HU := Lib.hid (upto_yes (g := f) (k := k) (by rw [hx]; exact hpos))
        clear hx
        go_wp2
        obtain ⟨a1, cc1, rfl⟩ := R.len
        have RR := Lib.hid R
        clear R
        go_loopw [3] (fun o wr => ∃ m : Nat, upto f k ≤ m ∧ m ≤ k ∧ VecRel w wr f o m) (fun o _ => k - (match o with | .slice _ n _ => n | _ => 0))
        case atStart => exact ⟨upto f k, Nat.le_refl _, hle, RR.out⟩
        case round =>
          obtain ⟨m, hm1, hm2, R⟩ := hrel
          clear RR
          obtain ⟨a2, cc2, rfl⟩ := R.len
          obtain ⟨hX, hR, hbel⟩ := R
          have hBr : w.heap.size + 1 ≤ wr.heap.size := by have := hbel.size; have := HS.out; omega
          have hne : ∀ q, (Value.slice a2 m cc2).ownBlock = some q → w.heap.size + 1 ≤ q := fun q hq => (World.ownsRow.lt hR q hq).1
          obtain ⟨c0, -⟩ := hX k hk8
          rw [HX.out] at c0
          by_cases hmk : m < k
          · have hmk2 : (m : Int) < (k : Int) := by omega
            have hzero := HZ.out m hm1 hmk
            go_wp2_with (first | (at_builtin; refine wpList_append_own _ rfl _ _ 24 rfl (w.heap.size + 1) 3 i0 (.int .i64 0) 1 8 Try.underlying24 hi hz0 hz1 hz2 rfl (by decide) _ _ _ rfl (hR.alloc _) ⟨wr.heap.size, 0, none⟩ 1 1 [icell 0] rfl rfl ?c1 ?c2 ?c3 ?c4 ?c5 ?_))
            case c1 =>
              intro j u hj
              match j, hj with
              | 0, hj => simp at hj; subst hj; first | (simp [icell]; done) | (simp [icell, Addr.add]; done)
            case c2 => first | rfl | (intro u hu; simp at hu; subst hu; rfl)
            case c3 => unfold maxLen; (try simp); omega
            case c4 => (try simp); omega
            case c5 => (try simp); omega
            intro v' w3 hown3 hgrow _
            have hB3 : Below (w.heap.size + 1) wr w3 := ((Below.refl (w.heap.size + 1) wr).alloc hBr _).grown hgrow (by simp; omega) hne
            have hR3 : IRow w3 (w.heap.size + 1) v' ((List.range (m + 1)).map f) := by
              unfold IRow
              rw [List.range_succ, List.map_append]
              simp only [List.length_append, List.map_append, List.length_cons, List.length_nil, List.map_cons, List.map_nil]
              rw [hzero]
              simpa using hown3
            have hX3 := Lib.hid (hX.under hB3 (by omega))
            have HR3 := Lib.hid hR3
            have HB3 := Lib.hid (hbel.trans hB3)
            clear hown3 hgrow hR3 hB3 hR hbel hne
            go_wp2
            go_roundw
            case rel => exact ⟨m + 1, by omega, by omega, hX3.out, HR3.out, HB3.out⟩
            case measure =>
              obtain ⟨a3, cc3, rfl⟩ := HR3.out.slice
              simp; omega
          · obtain rfl : m = k := by omega
            have hmk2 : ¬ (m : Int) < (m : Int) := by omega
            clear hmk
            go_wp2_with (first | (at_builtin; refine wpList_append_own _ rfl _ _ 24 rfl (w.heap.size + 1) 3 i0 (.int .i64 0) 1 8 Try.underlying24 hi hz0 hz1 hz2 rfl (by decide) _ _ _ rfl (hR.alloc _) ⟨wr.heap.size, 0, none⟩ 1 1 [icell x] rfl rfl ?c1 ?c2 ?c3 ?c4 ?c5 ?_))
            case c1 =>
              intro j u hj
              match j, hj with
              | 0, hj => simp at hj; subst hj; first | (simp [icell]; done) | (simp [icell, Addr.add]; done)
            case c2 => first | rfl | (intro u hu; simp at hu; subst hu; rfl)
            case c3 => unfold maxLen; (try simp); omega
            case c4 => (try simp); omega
            case c5 => (try simp); omega
            intro v' w3 hown3 hgrow _
            have hB3 : Below (w.heap.size + 1) wr w3 := ((Below.refl (w.heap.size + 1) wr).alloc hBr _).grown hgrow (by simp; omega) hne
            have hR3 : IRow w3 (w.heap.size + 1) v' ((List.range (m + 1)).map f) := by
              unfold IRow
              rw [List.range_succ, List.map_append]
              simp only [List.length_append, List.map_append, List.length_cons, List.length_nil, List.map_cons, List.map_nil]
              rw [HX.out]
              simpa using hown3
            have hX3 := Lib.hid (hX.under hB3 (by omega))
            have HR3 := Lib.hid hR3
            have HB3 := Lib.hid (hbel.trans hB3)
            clear hown3 hgrow hR3 hB3 hR hbel hne
            go_wp2
            go_roundw
            case rel => exact ⟨m + 1, by omega, by go_num, by rw [HU.out]; exact ⟨hX3.out, HR3.out, HB3.out⟩⟩
            case measure => simp [intOf]; omega
      · have HU := Lib.hid (upto_no (g := f) (k := k) hpos)
        obtain ⟨x, hx⟩ : ∃ x, f k = x := ⟨_, rfl⟩
        rw [hx] at c0 hpos
        have RR := Lib.hid R
        clear hx R
        go_wp2
        go_roundw
        case rel => exact ⟨k + 1, by omega, by go_num, by rw [HU.out]; exact RR.out⟩
        case measure => simp [intOf]; omega
    · obtain rfl : k = 8 := by omega
      have hB := R.bel
      have hns := R.row.ns (fun n hn => by have := vec_fit HF.out n hn; omega) (by have := upto_le f 8; simp; omega)
      clear R hk8 hk
      go_wp2
      go_ret
      exact ⟨_, rfl, hns, ((Below.refl _ _).alloc (Nat.le_refl _) _).trans (hB.mono (by omega))⟩
end Go.Proofs.Ytjckphmkhikpaaa
