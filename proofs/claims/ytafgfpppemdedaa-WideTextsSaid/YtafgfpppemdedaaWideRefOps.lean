/- Contracts of the document's answer for layer 2: its sums, differences, products. -/
import Derived.Test.YtafgfpppemdedaaWideRefNum
import Derived.Deep.RegionWith
namespace Go.Proofs.Ytafgfpppemdedaa
open Go.RowKit Go.Proofs.Ytafgfpppemdedaa.Wd

theorem Arr.zero (w : World) : Arr (w.alloc (.cells (arrOf fun _ => 0) 44)) w.heap.size (fun _ => 0) := Arr.new w _ _
theorem Arr.other {w : World} {b : Nat} {f : Nat → Int} (k : Arr w b f) (a : Addr) (v : Value) (hne : b ≠ a.block) : Arr (w.setCell a v) b f := fun i hi => by
  obtain ⟨h1, h2⟩ := k i hi
  refine ⟨?_, by simp [go_sem, h2]⟩
  rw [World.cell?_setCell_other]
  · exact h1
  · intro e; exact hne (by rw [e])
theorem WideAt.under {w w' : World} {b B : Nat} {h l : Int} (k : WideAt w b h l) (hb : Below B w w') (hB : b < B) : WideAt w' b h l :=
  ⟨(hb.cell (p := ⟨b, 0, none⟩) hB).trans k.c0, (hb.cell (p := ⟨b, 1, none⟩) hB).trans k.c1, (hb.frozen (p := ⟨b, 0, none⟩) hB).trans k.f0, (hb.frozen (p := ⟨b, 1, none⟩) hB).trans k.f1⟩
theorem Arr.under {w w' : World} {b B : Nat} {f : Nat → Int} (k : Arr w b f) (hb : Below B w w') (hB : b < B) : Arr w' b f := fun i hi =>
  ⟨(hb.cell (p := ⟨b, i, none⟩) hB).trans (k i hi).1, (hb.frozen (p := ⟨b, i, none⟩) hB).trans (k i hi).2⟩

/-- A new variable of sixteen numbers, and what is stored into it. -/
theorem wpList_new_arr {ops : Array Oper} {rest : List Oper} {op : Oper} {a : Act} {w : World} {Q : Exit → Act → World → Prop} {f : Nat → Int} (hgd : op.guard = none) (x y : Operand) (ho : op.op = .store 44 x y)
    (hx : a.eval x = .pointer (some ⟨w.heap.size, 0, none⟩)) (hy : a.eval y = .agg (arrOf f))
    (k : ∀ w', Arr w' w.heap.size f → Below w.heap.size w w' → wpList Try.prog ops Q rest (a.put op.dst undef) w') : wpList Try.prog ops Q (op :: rest) a (w.alloc (.cells (arrOf fun _ => 0) 44)) :=
  wpList_store_arr (Arr.zero w) hgd x y ho hx hy fun w' h1 h2 => k w' h1 (h2 _ _ (Nat.le_refl _) ((Below.refl _ _).alloc (Nat.le_refl _) _))

/-- What the loop of a sum has done: k digits are taken together. -/
structure OpRel (w wr : World) (b o : Nat) (f x z : Nat → Int) (k : Nat) : Prop where
  arr : Arr wr b f
  done : ∀ i, i < k → f i = z i
  rest : ∀ i, k ≤ i → f i = x i
  out : WideAt wr o 0 0
  below : Below w.heap.size w wr
  ob : o < b
  room : w.heap.size ≤ b
theorem OpRel.next {w wr : World} {b o k : Nat} {f x z : Nat → Int} (R : OpRel w wr b o f x z k) (hk : k < 16) : OpRel w (wr.setCell ⟨b, k, none⟩ (.int .i64 (z k))) b o (updI f k (z k)) x z (k + 1) := by
  have := R.ob
  refine ⟨R.arr.stored k hk _, fun i hi => ?_, fun i hi => ?_, R.out.other _ _ (by show o ≠ b; omega), R.below.setCell R.room _, R.ob, R.room⟩
  · unfold updI
    split
    · rename_i e; rw [e]
    · exact R.done i (by omega)
  · unfold updI; rw [if_neg (by omega)]; exact R.rest i (by omega)
theorem OpRel.drew {w wr : World} {b o k : Nat} {f x z : Nat → Int} (R : OpRel w wr b o f x z k) : OpRel w wr.drew b o f x z k := ⟨R.arr.drew, R.done, R.rest, R.out.drew, R.below.drew, R.ob, R.room⟩
theorem OpRel.all {w wr : World} {b o : Nat} {f x z : Nat → Int} (R : OpRel w wr b o f x z 16) : Arr wr b z := fun i hi => by rw [← R.done i hi]; exact R.arr i hi

/-- carry and number under one name each. -/
def CarryDone (d : Nat → Int) (w : World) (e : Ending) (w' : World) : Prop := ∃ g, e = .returned (.agg (arrOf g)) ∧ (∀ i, i < 16 → 0 ≤ g i ∧ g i ≤ 255) ∧ Cong (tailv d 16) (tailv g 16) ∧ Below w.heap.size w w'

set_option maxHeartbeats 1000000 in
theorem refAdd_any (h1 l1 h2 l2 h l a b c : Int) (w : World) (A : Rep h1 l1 a) (B : Rep h2 l2 b) (C : Rep h l c) (E : Cong c (a + b)) :
    Calls Try.prog 15 #[.agg #[.int .i64 (h1), .int .u64 (l1)], .agg #[.int .i64 (h2), .int .u64 (l2)]] w fun e w' => e = .returned (.agg #[.int .i64 (h), .int .u64 (l)]) ∧ Below w.heap.size w w' := by
  obtain ⟨x, hx⟩ : ∃ x, dg h1 l1 = x := ⟨_, rfl⟩
  obtain ⟨y, hy⟩ : ∃ y, dg h2 l2 = y := ⟨_, rfl⟩
  have k1 := fun w => digits_any h1 l1 x w A.l0 A.l1 hx
  have k2 := fun w => digits_any h2 l2 y w B.l0 B.l1 hy
  have hx8 : Hid (∀ i, 0 ≤ x i ∧ x i ≤ 255) := fun i => by rw [← hx]; exact dg_range h1 l1 i
  have hy8 : Hid (∀ i, 0 ≤ y i ∧ y i ≤ 255) := fun i => by rw [← hy]; exact dg_range h2 l2 i
  have k3 : ∀ w, Calls Try.prog 36 #[.agg (arrOf fun i => x i + y i)] w (CarryDone (fun i => x i + y i) w) := fun w =>
    carry_any (fun i => x i + y i) w (fun i _ => by have := hx8.out i; have := hy8.out i; omega)
  have hsum : Hid (Cong c (tailv (fun i => x i + y i) 16)) := by
    show Cong _ _
    rw [tailv_add, ← hx, ← hy]
    exact E.trans ((tailv_dg A).add (tailv_dg B)).symm
  have k4 : ∀ g w, (∀ i, i < 16 → 0 ≤ g i ∧ g i ≤ 255) → Cong (tailv (fun i => x i + y i) 16) (tailv g 16) → Calls Try.prog 35 #[.agg (arrOf g)] w fun e w' => e = .returned (.agg #[.int .i64 (h), .int .u64 (l)]) ∧ Below w.heap.size w w' := fun g w hg hc => number_any g h l c w hg C (hsum.out.trans hc)
  have hO := WideAt.new ((w.alloc (.cells #[.int .i64 h1, .int .u64 l1] 24)).alloc (.cells #[.int .i64 h2, .int .u64 l2] 24)) 0 0 24
  have hP := (WideAt.new (w.alloc (.cells #[.int .i64 h1, .int .u64 l1] 24)) h2 l2 24).alloc (.cells #[.int .i64 0, .int .u64 0] 24)
  simp only [World.size_alloc] at hO hP
  clear hx hy A B C E
  go_enter Try.func15, Try.ntmps15
  go_wp2_with (first
    | (go_at_call 33; (with_reducible refine (k1 _).mono ?_); rintro e wz ⟨rfl, hbz⟩; have hOz := hO.below hbz; have hPz := hP.below hbz)
    | (refine wpList_new_arr (f := x) rfl _ _ rfl rfl rfl ?_; intro wy hAy hby; have hOy := hOz.below hby; have hPy := hPz.below hby; have p0 := hPy.c0; have p1 := hPy.c1)
    | (go_at_call 33; (with_reducible refine (k2 _).mono ?_); rintro e wx ⟨rfl, hbx⟩; have hOx := hOy.below hbx; have hAx := hAy.below hbx)
    | (refine wpList_new_arr (f := y) rfl _ _ rfl rfl rfl ?_; intro wv hAv hbv; have hOv := hOx.below hbv; have hA1 := hAx.below hbv))
  have hbel : Below w.heap.size w wv := by (repeat (first | exact Below.refl _ _ | assumption | refine below_add ?_ _ | (refine below_on ?_ (by assumption)) | refine Below.drew ?_ | refine below_drewN ?_ _ | (refine Below.setCell ?_ (by simp; try omega) _) | (refine below_new ?_ _ (by simp; try omega)) | (refine below_next ?_ (by assumption) (by simp; try omega))))
  have hroom := hOz.room
  have hlt2 := hAx.room
  have HR0 : Hid (OpRel w wv wz.heap.size (w.heap.size + 1 + 1) x x (fun i => x i + y i) 0) := ⟨hA1, fun i hi => absurd hi (by omega), fun _ _ => rfl, hOv, hbel, hroom, by omega⟩
  have HY0 := Lib.hid hAv
  clear hO hP hOz hPz hOy hPy p0 p1 hAy hAx hOx hA1 hAv hOv k1 k2 hbel
  go_loopw [7] (fun i wr => ∃ (k : Nat) (f : Nat → Int), k ≤ 16 ∧ i = .int .i64 (k : Int) ∧ OpRel w wr wz.heap.size (w.heap.size + 1 + 1) f x (fun i => x i + y i) k ∧ Arr wr wx.heap.size y) (fun i _ => 16 - (intOf i).toNat)
  case atStart => exact ⟨0, x, by decide, rfl, HR0.out, HY0.out⟩
  case round =>
    obtain ⟨k, f, hk, rfl, R, hY⟩ := hrel
    by_cases hlt : k < 16
    · have c1 := (R.arr k hlt).1
      have f1 := (R.arr k hlt).2
      have c2 := (hY k hlt).1
      rw [R.rest k (Nat.le_refl _)] at c1
      have r1 := hx8.out k
      have r2 := hy8.out k
      have N := Lib.hid (R.next hlt)
      have HYN := Lib.hid (hY.other ⟨wz.heap.size, k, none⟩ (.int .i64 (x k + y k)) (by show wx.heap.size ≠ wz.heap.size; omega))
      obtain ⟨u, hu⟩ : ∃ u, x k = u := ⟨_, rfl⟩
      obtain ⟨v, hv⟩ : ∃ v, y k = v := ⟨_, rfl⟩
      rw [hu] at c1 r1 N HYN
      rw [hv] at c2 r2 N HYN
      have hk1 : (k : Int) < 16 := by omega
      have hk2 : (0 : Int) ≤ (k : Int) := by omega
      have hw : IntKind.i64.wrap (u + v) = u + v := by rw [IntKind.wrap_i64]; omega
      clear R hY hu hv HR0 HY0 k3 k4
      go_wp2_with fail
      go_region
      all_goals
        go_wp2
        go_roundw
        case rel => exact ⟨k + 1, _, by omega, by go_num, N.out.drew, HYN.out.drew⟩
        case measure => simp [intOf]; omega
    · have e : k = 16 := by omega
      subst e
      have hall := R.all
      have hO1 := R.out
      have hb1 := R.below
      clear R hY hx8 hy8 hsum HR0 HY0
      go_wp2_with (first
        | (refine wpList_load_arr hall rfl _ rfl rfl ?_)
        | (go_at_call 36; (with_reducible refine (k3 _).mono ?_); rintro e wc ⟨g, rfl, hg, hgc, hbc⟩; have hO2 := hO1.below hbc; have k5 := fun w => k4 g w hg hgc; clear hg hgc k4)
        | (go_at_call 35; (with_reducible refine (k5 _).mono ?_); rintro e wn ⟨rfl, hbn⟩; have hO3 := hO2.below hbn; have o0 := hO3.c0; have o1 := hO3.c1; have o2 := hO3.f0; have o3 := hO3.f1))
      exact bodyPost_ret (v := .agg #[.int .i64 (h), .int .u64 (l)]) (by simp [results, Try.results15, go_sem, o0, o1]) rfl ⟨rfl, by (repeat (first | exact Below.refl _ _ | assumption | refine below_add ?_ _ | (refine below_on ?_ (by assumption)) | refine Below.drew ?_ | refine below_drewN ?_ _ | (refine Below.setCell ?_ (by simp; try omega) _) | (refine below_new ?_ _ (by simp; try omega)) | (refine below_next ?_ (by assumption) (by simp; try omega))))⟩

set_option maxHeartbeats 1000000 in
theorem refTimes_any (h1 l1 n h l a c : Int) (w : World) (hn : 0 ≤ n) (hn1 : n ≤ 4294967295) (A : Rep h1 l1 a) (C : Rep h l c) (E : Cong c (a * n)) :
    Calls Try.prog 21 #[.agg #[.int .i64 (h1), .int .u64 (l1)], .int .u32 n] w fun e w' => e = .returned (.agg #[.int .i64 (h), .int .u64 (l)]) ∧ Below w.heap.size w w' := by
  obtain ⟨x, hx⟩ : ∃ x, dg h1 l1 = x := ⟨_, rfl⟩
  have k1 := fun w => digits_any h1 l1 x w A.l0 A.l1 hx
  have hx8 : Hid (∀ i, 0 ≤ x i ∧ x i ≤ 255) := fun i => by rw [← hx]; exact dg_range h1 l1 i
  have hp8 : Hid (∀ i, 0 ≤ x i * n ∧ x i * n ≤ 255 * 4294967295) := fun i => mul_le _ _ _ _ (hx8.out i).1 (hx8.out i).2 hn hn1
  have k3 : ∀ w, Calls Try.prog 36 #[.agg (arrOf fun i => x i * n)] w (CarryDone (fun i => x i * n) w) := fun w =>
    carry_any (fun i => x i * n) w (fun i _ => by have := hp8.out i; omega)
  have hsum : Hid (Cong c (tailv (fun i => x i * n) 16)) := by
    show Cong _ _
    rw [tailv_mul, ← hx]
    exact E.trans ((tailv_dg A).mul n).symm
  have k4 : ∀ g w, (∀ i, i < 16 → 0 ≤ g i ∧ g i ≤ 255) → Cong (tailv (fun i => x i * n) 16) (tailv g 16) → Calls Try.prog 35 #[.agg (arrOf g)] w fun e w' => e = .returned (.agg #[.int .i64 (h), .int .u64 (l)]) ∧ Below w.heap.size w w' := fun g w hg hc => number_any g h l c w hg C (hsum.out.trans hc)
  have hO := WideAt.new (w.alloc (.cells #[.int .i64 h1, .int .u64 l1] 24)) 0 0 24
  simp only [World.size_alloc] at hO
  clear hx A C E
  go_enter Try.func21, Try.ntmps21
  go_wp2_with (first
    | (go_at_call 33; (with_reducible refine (k1 _).mono ?_); rintro e wz ⟨rfl, hbz⟩; have hOz := hO.below hbz)
    | (refine wpList_new_arr (f := x) rfl _ _ rfl rfl rfl ?_; intro wy hAy hby; have hOy := hOz.below hby))
  have hbel : Below w.heap.size w wy := by (repeat (first | exact Below.refl _ _ | assumption | refine below_add ?_ _ | (refine below_on ?_ (by assumption)) | refine Below.drew ?_ | refine below_drewN ?_ _ | (refine Below.setCell ?_ (by simp; try omega) _) | (refine below_new ?_ _ (by simp; try omega)) | (refine below_next ?_ (by assumption) (by simp; try omega))))
  have hroom := hOz.room
  have HR0 : Hid (OpRel w wy wz.heap.size (w.heap.size + 1) x x (fun i => x i * n) 0) := ⟨hAy, fun i hi => absurd hi (by omega), fun _ _ => rfl, hOy, hbel, hroom, by omega⟩
  clear hO hOz hOy hAy k1 hbel
  go_loopw [6] (fun i wr => ∃ (k : Nat) (f : Nat → Int), k ≤ 16 ∧ i = .int .i64 (k : Int) ∧ OpRel w wr wz.heap.size (w.heap.size + 1) f x (fun i => x i * n) k) (fun i _ => 16 - (intOf i).toNat)
  case atStart => exact ⟨0, x, by decide, rfl, HR0.out⟩
  case round =>
    obtain ⟨k, f, hk, rfl, R⟩ := hrel
    by_cases hlt : k < 16
    · have c1 := (R.arr k hlt).1
      have f1 := (R.arr k hlt).2
      rw [R.rest k (Nat.le_refl _)] at c1
      have r1 := hx8.out k
      have r2 := hp8.out k
      have N := Lib.hid (R.next hlt)
      obtain ⟨u, hu⟩ : ∃ u, x k = u := ⟨_, rfl⟩
      rw [hu] at c1 r1 r2 N
      obtain ⟨r21, r22⟩ := r2
      have r23 : u * n ≤ 1095216660225 := by omega
      clear r22
      have hk1 : (k : Int) < 16 := by omega
      have hk2 : (0 : Int) ≤ (k : Int) := by omega
      clear R hu HR0 k3 k4
      go_wp2
      go_roundw
      case rel => exact ⟨k + 1, _, by omega, by go_num, N.out⟩
      case measure => simp [intOf]; omega
    · have e : k = 16 := by omega
      subst e
      have hall := R.all
      have hO1 := R.out
      have hb1 := R.below
      clear R hx8 hp8 hsum HR0
      go_wp2_with (first
        | (refine wpList_load_arr hall rfl _ rfl rfl ?_)
        | (go_at_call 36; (with_reducible refine (k3 _).mono ?_); rintro e wc ⟨g, rfl, hg, hgc, hbc⟩; have hO2 := hO1.below hbc; have k5 := fun w => k4 g w hg hgc; clear hg hgc k4)
        | (go_at_call 35; (with_reducible refine (k5 _).mono ?_); rintro e wn ⟨rfl, hbn⟩; have hO3 := hO2.below hbn; have o0 := hO3.c0; have o1 := hO3.c1; have o2 := hO3.f0; have o3 := hO3.f1))
      exact bodyPost_ret (v := .agg #[.int .i64 (h), .int .u64 (l)]) (by simp [results, Try.results21, go_sem, o0, o1]) rfl ⟨rfl, by (repeat (first | exact Below.refl _ _ | assumption | refine below_add ?_ _ | (refine below_on ?_ (by assumption)) | refine Below.drew ?_ | refine below_drewN ?_ _ | (refine Below.setCell ?_ (by simp; try omega) _) | (refine below_new ?_ _ (by simp; try omega)) | (refine below_next ?_ (by assumption) (by simp; try omega))))⟩

theorem rep_one : Rep 0 1 1 := ⟨by decide, by decide, by decide, by decide, by decide⟩
set_option maxHeartbeats 1000000 in
theorem refNeg_any (h1 l1 h l a c : Int) (w : World) (A : Rep h1 l1 a) (C : Rep h l c) (E : Cong c (-a)) :
    Calls Try.prog 17 #[.agg #[.int .i64 (h1), .int .u64 (l1)]] w fun e w' => e = .returned (.agg #[.int .i64 (h), .int .u64 (l)]) ∧ Below w.heap.size w w' := by
  obtain ⟨x, hx⟩ : ∃ x, dg h1 l1 = x := ⟨_, rfl⟩
  have k1 := fun w => digits_any h1 l1 x w A.l0 A.l1 hx
  have hx8 : Hid (∀ i, 0 ≤ x i ∧ x i ≤ 255) := fun i => by rw [← hx]; exact dg_range h1 l1 i
  obtain ⟨h2, l2, B⟩ := rep_sm (tailv (fun i => 255 - x i) 16)
  have k4 : ∀ w, Calls Try.prog 35 #[.agg (arrOf fun i => 255 - x i)] w fun e w' => e = .returned (.agg #[.int .i64 (h2), .int .u64 (l2)]) ∧ Below w.heap.size w w' := fun w =>
    number_any (fun i => 255 - x i) h2 l2 _ w (fun i _ => by have := hx8.out i; omega) B (sm_cong _)
  have k6 : ∀ w, Calls Try.prog 15 #[.agg #[.int .i64 (h2), .int .u64 (l2)], .agg #[.int .i64 (0), .int .u64 (1)]] w fun e w' => e = .returned (.agg #[.int .i64 (h), .int .u64 (l)]) ∧ Below w.heap.size w w' := fun w => by
    refine refAdd_any h2 l2 0 1 h l _ 1 c w B rep_one C ?_
    refine E.trans ?_
    have g1 := (sm_cong (tailv (fun i => 255 - x i) 16)).symm
    rw [tailv_not] at g1
    have g2 := tailv_dg A
    rw [hx] at g2
    rw [tailv_not]
    have e : (256 : Int) ^ 16 = 340282366920938463463374607431768211456 := by decide
    rw [e] at g1 ⊢
    obtain ⟨p, hp⟩ := g1
    obtain ⟨q, hq⟩ := g2
    exact ⟨q - 1 + p, by omega⟩
  have hO := WideAt.new (w.alloc (.cells #[.int .i64 h1, .int .u64 l1] 24)) 0 0 24
  simp only [World.size_alloc] at hO
  clear hx A C E B
  go_enter Try.func17, Try.ntmps17
  go_wp2_with (first
    | (go_at_call 33; (with_reducible refine (k1 _).mono ?_); rintro e wz ⟨rfl, hbz⟩; have hOz := hO.below hbz)
    | (refine wpList_new_arr (f := x) rfl _ _ rfl rfl rfl ?_; intro wy hAy hby; have hOy := hOz.below hby))
  have hbel : Below w.heap.size w wy := by (repeat (first | exact Below.refl _ _ | assumption | refine below_add ?_ _ | (refine below_on ?_ (by assumption)) | refine Below.drew ?_ | refine below_drewN ?_ _ | (refine Below.setCell ?_ (by simp; try omega) _) | (refine below_new ?_ _ (by simp; try omega)) | (refine below_next ?_ (by assumption) (by simp; try omega))))
  have hroom := hOz.room
  have HR0 : Hid (OpRel w wy wz.heap.size (w.heap.size + 1) x x (fun i => 255 - x i) 0) := ⟨hAy, fun i hi => absurd hi (by omega), fun _ _ => rfl, hOy, hbel, hroom, by omega⟩
  clear hO hOz hOy hAy k1 hbel
  go_loopw [4] (fun i wr => ∃ (k : Nat) (f : Nat → Int), k ≤ 16 ∧ i = .int .i64 (k : Int) ∧ OpRel w wr wz.heap.size (w.heap.size + 1) f x (fun i => 255 - x i) k) (fun i _ => 16 - (intOf i).toNat)
  case atStart => exact ⟨0, x, by decide, rfl, HR0.out⟩
  case round =>
    obtain ⟨k, f, hk, rfl, R⟩ := hrel
    by_cases hlt : k < 16
    · have c1 := (R.arr k hlt).1
      have f1 := (R.arr k hlt).2
      rw [R.rest k (Nat.le_refl _)] at c1
      have r1 := hx8.out k
      have N := Lib.hid (R.next hlt)
      obtain ⟨u, hu⟩ : ∃ u, x k = u := ⟨_, rfl⟩
      rw [hu] at c1 r1 N
      have hk1 : (k : Int) < 16 := by omega
      have hk2 : (0 : Int) ≤ (k : Int) := by omega
      clear R hu HR0 k4 k6
      go_wp2
      go_roundw
      case rel => exact ⟨k + 1, _, by omega, by go_num, N.out⟩
      case measure => simp [intOf]; omega
    · have e : k = 16 := by omega
      subst e
      have hall := R.all
      have hO1 := R.out
      have hb1 := R.below
      clear R hx8 HR0
      go_wp2_with (first
        | (refine wpList_load_arr hall rfl _ rfl rfl ?_)
        | (go_at_call 35; (with_reducible refine (k4 _).mono ?_); rintro e wn ⟨rfl, hbn⟩; have hO2 := hO1.below hbn)
        | (go_at_call 15; (with_reducible refine (k6 _).mono ?_); rintro e wa ⟨rfl, hba⟩; have hO3 := hO2.below hba; have o0 := hO3.c0; have o1 := hO3.c1; have o2 := hO3.f0; have o3 := hO3.f1))
      exact bodyPost_ret (v := .agg #[.int .i64 (h), .int .u64 (l)]) (by simp [results, Try.results17, go_sem, o0, o1]) rfl ⟨rfl, by (repeat (first | exact Below.refl _ _ | assumption | refine below_add ?_ _ | (refine below_on ?_ (by assumption)) | refine Below.drew ?_ | refine below_drewN ?_ _ | (refine Below.setCell ?_ (by simp; try omega) _) | (refine below_new ?_ _ (by simp; try omega)) | (refine below_next ?_ (by assumption) (by simp; try omega))))⟩
end Go.Proofs.Ytafgfpppemdedaa
