/- Contracts: One. -/
import Derived.Test.YtipjhlabcbkgjaaAggAt
import Derived.Test.YtipjhlabcbkgjaaAggBucket
import Derived.Test.YtipjhlabcbkgjaaWideC
import Derived.Test.YtipjhlabcbkgjaaWideA
import Derived.Deep.RegionHeld
import Derived.Deep.CutRange
set_option maxRecDepth 20000
namespace Go.Proofs.Ytipjhlabcbkgjaa.Ag
open Go.RowKit Go.Proofs.Ytipjhlabcbkgjaa Go.Proofs.Ytipjhlabcbkgjaa.Wd Go.Proofs.Ytipjhlabcbkgjaa.Vi Go.Proofs.Ytipjhlabcbkgjaa.Mk

/-- Held: the point's number and stamp, the result's block. -/
structure OH (w : World) (v : Int) (st : St) (W : World) : Prop where
  c2 : W.cell? ⟨w.heap.size, 2, none⟩ = some (.int .i64 v)
  c3 : W.cell? ⟨w.heap.size, 3, none⟩ = some (.int .i64 st.c)
  c4 : W.cell? ⟨w.heap.size, 4, none⟩ = some (.int .i64 st.s)
  c5 : W.cell? ⟨w.heap.size, 5, none⟩ = some (.int .i64 st.q)
  r : AgW W (w.heap.size + 1) Ag.zero
  bel : Below w.heap.size w W
theorem OH.keep {w : World} {v : Int} {st : St} {W W' : World} (h : OH w v st W) (k : Below W.heap.size W W') : OH w v st W' :=
  have hr : w.heap.size < W.heap.size := World.block_lt_of_cell? W _ h.c2
  ⟨(k.cell (p := ⟨w.heap.size, 2, none⟩) hr).trans h.c2, (k.cell (p := ⟨w.heap.size, 3, none⟩) hr).trans h.c3, (k.cell (p := ⟨w.heap.size, 4, none⟩) hr).trans h.c4, (k.cell (p := ⟨w.heap.size, 5, none⟩) hr).trans h.c5, h.r.below k, bel_next h.bel k⟩
theorem OH.drew {w : World} {v : Int} {st : St} {W : World} (h : OH w v st W) : OH w v st W.drew := h.keep ((Below.refl _ _).drew)
theorem OH.alloc {w : World} {v : Int} {st : St} {W : World} (h : OH w v st W) (o : Obj) : OH w v st (W.alloc o) := h.keep ((Below.refl _ _).alloc (Nat.le_refl _) o)
theorem OH.upto {w : World} {v : Int} {st : St} {W W' : World} (h : OH w v st W) (hb : Below (w.heap.size + 2) W W') : OH w v st W' :=
  ⟨(hb.cell (p := ⟨w.heap.size, 2, none⟩) (by show w.heap.size < _; omega)).trans h.c2, (hb.cell (p := ⟨w.heap.size, 3, none⟩) (by show w.heap.size < _; omega)).trans h.c3, (hb.cell (p := ⟨w.heap.size, 4, none⟩) (by show w.heap.size < _; omega)).trans h.c4, (hb.cell (p := ⟨w.heap.size, 5, none⟩) (by show w.heap.size < _; omega)).trans h.c5,
    h.r.upto hb (by omega), h.bel.trans (hb.mono (by omega))⟩
theorem OH.st {w : World} {v : Int} {st : St} {W : World} (h : OH w v st W) (q : Nat) (a : Ag) (h1 : w.heap.size + 2 ≤ q) : OH w v st (stA W q a) := h.upto (stA_below a (Below.refl _ _) h1)
theorem fin_name {w W : World} {b : Nat} {a : Ag} (h : AgAt W b a) (hb : Below w.heap.size w W) : ∃ x, x = W ∧ AgAt x b a ∧ Below w.heap.size w x := ⟨W, rfl, h, hb⟩
theorem OH.name {w : World} {v : Int} {st : St} {W : World} (h : OH w v st W) {q : Nat} {a : Ag} (hW : AgW W q a) : ∃ x, x = W ∧ OH w v st x ∧ AgW x q a := ⟨W, rfl, h, hW⟩
/-- A sample alone, its bucket not counted yet. -/
def preA (v : Int) (st : St) : Ag := ⟨1, v, v, v, v, st, fun _ => 0⟩
theorem preA_n (v : Int) (st : St) : (preA v st).n = 1 := rfl
theorem preA_s (v : Int) (st : St) : (preA v st).s = v := rfl
theorem preA_mn (v : Int) (st : St) : (preA v st).mn = v := rfl
theorem preA_mx (v : Int) (st : St) : (preA v st).mx = v := rfl
theorem preA_la (v : Int) (st : St) : (preA v st).la = v := rfl
theorem preA_st (v : Int) (st : St) : (preA v st).st = st := rfl
theorem preA_b (v : Int) (st : St) (i : Nat) : (preA v st).b i = 0 := rfl
theorem AgW.count {w : World} {q : Nat} {v : Int} {st : St} {k : Nat} (h : AgW w q (preA v st)) (hk : bk v = k) : AgAt (w.setCell ⟨q, 9 + k, none⟩ (.int .i64 1)) q (oneA v st) ∧ w.cell? ⟨q, 9 + k, none⟩ = some (.int .i64 0) ∧ w.frozen? ⟨q, 9 + k, none⟩ = false := by
  have hk8 := bk_le v
  rw [hk] at hk8
  obtain ⟨c0, c1, c2, c3, c4, c5, c6, c7, c8, c9, c10, c11, c12, c13, c14, c15, c16, c17⟩ := h.at_.all
  have ht := fun i (hi : i < 18) => (h.t i hi).2
  simp only [preA] at c0 c1 c2 c3 c4 c5 c6 c7 c8 c9 c10 c11 c12 c13 c14 c15 c16 c17
  have hc : k = 0 ∨ k = 1 ∨ k = 2 ∨ k = 3 ∨ k = 4 ∨ k = 5 ∨ k = 6 ∨ k = 7 ∨ k = 8 := by omega
  refine ⟨AgAt.of_all ?_, ?_, by have := ht (9 + k) (by omega); rwa [Nat.zero_add] at this⟩
  · clear ht h
    rcases hc with rfl | rfl | rfl | rfl | rfl | rfl | rfl | rfl | rfl <;> (refine ⟨?_, ?_, ?_, ?_, ?_, ?_, ?_, ?_, ?_, ?_, ?_, ?_, ?_, ?_, ?_, ?_, ?_, ?_⟩ <;> simp [go_sem, oneA, *])
  · rcases hc with rfl | rfl | rfl | rfl | rfl | rfl | rfl | rfl | rfl <;> assumption

set_option maxHeartbeats 1000000 in
theorem one_is (s : ByteArray) (tm v : Int) (st : St) (w : World) (hv : -9223372036854775808 ≤ v ∧ v ≤ 9223372036854775807) : Calls Try.prog 14 #[.agg #[.string s, .int .i64 tm, .int .i64 v, .int .i64 st.c, .int .i64 st.s, .int .i64 st.q]] w fun e w' => e = .returned (agV (oneA v st)) ∧ Below w.heap.size w w' := by
  have kof := fun w => of_any v (wh v) (wl v) w hv.1 hv.2 (wrep (inW_small hv))
  obtain ⟨k, hk⟩ : ∃ k, bk v = k := ⟨_, rfl⟩
  have kbk := fun w => bucket_is v w hv k (Lib.hid hk)
  have HK := Lib.hid hk
  have HOH := Lib.hid (show OH w v st ((w.alloc (.cells #[.string s, .int .i64 tm, .int .i64 v, .int .i64 st.c, .int .i64 st.s, .int .i64 st.q] 31)).alloc (.cells #[.int .i64 0, .int .i64 0, .int .u64 0, .int .i64 0, .int .i64 0, .int .i64 0, .int .i64 0, .int .i64 0, .int .i64 0, .int .i64 0, .int .i64 0, .int .i64 0, .int .i64 0, .int .i64 0, .int .i64 0, .int .i64 0, .int .i64 0, .int .i64 0] 29)) by
    have h0 := AgW.zero (w.alloc (.cells #[.string s, .int .i64 tm, .int .i64 v, .int .i64 st.c, .int .i64 st.s, .int .i64 st.q] 31)) 29
    have hb := bel_new (bel_new (Below.refl w.heap.size w) (.cells #[.string s, .int .i64 tm, .int .i64 v, .int .i64 st.c, .int .i64 st.s, .int .i64 st.q] 31)) (.cells #[.int .i64 0, .int .i64 0, .int .u64 0, .int .i64 0, .int .i64 0, .int .i64 0, .int .i64 0, .int .i64 0, .int .i64 0, .int .i64 0, .int .i64 0, .int .i64 0, .int .i64 0, .int .i64 0, .int .i64 0, .int .i64 0, .int .i64 0, .int .i64 0] 29)
    rw [World.size_alloc] at h0
    exact ⟨by simp [go_sem], by simp [go_sem], by simp [go_sem], by simp [go_sem], h0, hb⟩)
  clear hk
  go_enter Try.func14, Try.ntmps14
  go_wp2_with fail
  refine wp_region_held_drew (S := (OH w v st)) (by kernel_rfl) HOH.out.drew (fun hHeld => ?_)
  refine wpAnyH_take (i := 0) (oi := ?oagg1o) (v := ?oagg1v) ?oagg1h (by kernel_rfl) (by kernel_rfl) (by kernel_rfl) ?oagg1q ?oagg1y hHeld ?oagg1r
  case oagg1h => (simp only [List.getElem?_toArray, List.getElem?_cons_zero]; rfl)
  case oagg1q => exact fun _ _ _ h => h
  case oagg1y => (refine Or.inl ⟨by first | kernel_rfl | rfl, ?_⟩; intro w hSw; (try dsimp only at hSw); obtain ⟨x2, x3, x4, x5, -, -⟩ := hSw; go_simp <;> (try with_reducible rfl))
  try simp only [Act.put, List.setIfInBounds_toArray, List.set_cons_zero, List.set_cons_succ]
  refine wpAnyH_take (i := 1) (oi := ?oagg2o) (v := ?oagg2v) ?oagg2h (by kernel_rfl) (by kernel_rfl) (by kernel_rfl) ?oagg2q ?oagg2y hHeld ?oagg2r
  case oagg2h => (simp only [List.getElem?_toArray, List.getElem?_cons_succ, List.getElem?_cons_zero]; rfl)
  case oagg2q => exact fun _ _ _ h => h
  case oagg2y => (refine Or.inl ⟨by first | kernel_rfl | rfl, ?_⟩; intro w hSw; (try dsimp only at hSw); obtain ⟨x2, x3, x4, x5, -, -⟩ := hSw; go_simp <;> (try with_reducible rfl))
  try simp only [Act.put, List.setIfInBounds_toArray, List.set_cons_zero, List.set_cons_succ]
  refine wpAnyH_take (i := 3) (oi := ?oagg3o) (v := ?oagg3v) ?oagg3h (by kernel_rfl) (by kernel_rfl) (by kernel_rfl) ?oagg3q ?oagg3y hHeld ?oagg3r
  case oagg3h => (simp only [List.getElem?_toArray, List.getElem?_cons_succ, List.getElem?_cons_zero]; rfl)
  case oagg3q => exact fun _ _ _ h => h
  case oagg3y => (refine Or.inl ⟨by first | kernel_rfl | rfl, ?_⟩; intro w hSw; (try dsimp only at hSw); obtain ⟨x2, x3, x4, x5, -, -⟩ := hSw; go_simp <;> (try with_reducible rfl))
  try simp only [Act.put, List.setIfInBounds_toArray, List.set_cons_zero, List.set_cons_succ]
  refine wpAnyH_take (i := 4) (oi := ?oagg4o) (v := ?oagg4v) ?oagg4h (by kernel_rfl) (by kernel_rfl) (by kernel_rfl) ?oagg4q ?oagg4y hHeld ?oagg4r
  case oagg4h => (simp only [List.getElem?_toArray, List.getElem?_cons_succ, List.getElem?_cons_zero]; rfl)
  case oagg4q => exact fun _ _ _ h => h
  case oagg4y => (refine Or.inl ⟨by first | kernel_rfl | rfl, ?_⟩; intro w hSw; (try dsimp only at hSw); obtain ⟨x2, x3, x4, x5, -, -⟩ := hSw; go_simp <;> (try with_reducible rfl))
  try simp only [Act.put, List.setIfInBounds_toArray, List.set_cons_zero, List.set_cons_succ]
  refine wpAnyH_take (i := 5) (oi := ?oagg5o) (v := ?oagg5v) ?oagg5h (by kernel_rfl) (by kernel_rfl) (by kernel_rfl) ?oagg5q ?oagg5y hHeld ?oagg5r
  case oagg5h => (simp only [List.getElem?_toArray, List.getElem?_cons_succ, List.getElem?_cons_zero]; rfl)
  case oagg5q => exact fun _ _ _ h => h
  case oagg5y => (refine Or.inl ⟨by first | kernel_rfl | rfl, ?_⟩; intro w hSw; (try dsimp only at hSw); obtain ⟨x2, x3, x4, x5, -, -⟩ := hSw; go_simp <;> (try with_reducible rfl))
  try simp only [Act.put, List.setIfInBounds_toArray, List.set_cons_zero, List.set_cons_succ]
  refine wpAnyH_take (i := 6) (oi := ?oagg6o) (v := ?oagg6v) ?oagg6h (by kernel_rfl) (by kernel_rfl) (by kernel_rfl) ?oagg6q ?oagg6y hHeld ?oagg6r
  case oagg6h => (simp only [List.getElem?_toArray, List.getElem?_cons_succ, List.getElem?_cons_zero]; rfl)
  case oagg6q => exact fun _ _ _ h => h
  case oagg6y => (refine Or.inl ⟨by first | kernel_rfl | rfl, ?_⟩; intro w hSw; (try dsimp only at hSw); obtain ⟨x2, x3, x4, x5, -, -⟩ := hSw; go_simp <;> (try with_reducible rfl))
  try simp only [Act.put, List.setIfInBounds_toArray, List.set_cons_zero, List.set_cons_succ]
  refine wpAnyH_take (i := 7) (oi := ?oagg7o) (v := ?oagg7v) ?oagg7h (by kernel_rfl) (by kernel_rfl) (by kernel_rfl) ?oagg7q ?oagg7y hHeld ?oagg7r
  case oagg7h => (simp only [List.getElem?_toArray, List.getElem?_cons_succ, List.getElem?_cons_zero]; rfl)
  case oagg7q => exact fun _ _ _ h => h
  case oagg7y => (refine Or.inl ⟨by first | kernel_rfl | rfl, ?_⟩; intro w hSw; (try dsimp only at hSw); obtain ⟨x2, x3, x4, x5, -, -⟩ := hSw; go_simp <;> (try with_reducible rfl))
  try simp only [Act.put, List.setIfInBounds_toArray, List.set_cons_zero, List.set_cons_succ]
  refine wpAnyH_take (i := 8) (oi := ?oagg8o) (v := ?oagg8v) ?oagg8h (by kernel_rfl) (by kernel_rfl) (by kernel_rfl) ?oagg8q ?oagg8y hHeld ?oagg8r
  case oagg8h => (simp only [List.getElem?_toArray, List.getElem?_cons_succ, List.getElem?_cons_zero]; rfl)
  case oagg8q => exact fun _ _ _ h => h
  case oagg8y => (refine Or.inl ⟨by first | kernel_rfl | rfl, ?_⟩; intro w hSw; (try dsimp only at hSw); obtain ⟨x2, x3, x4, x5, -, -⟩ := hSw; go_simp <;> (try with_reducible rfl))
  try simp only [Act.put, List.setIfInBounds_toArray, List.set_cons_zero, List.set_cons_succ]
  refine wpAnyH_take (i := 9) (oi := ?oagg9o) (v := ?oagg9v) ?oagg9h (by kernel_rfl) (by kernel_rfl) (by kernel_rfl) ?oagg9q ?oagg9y hHeld ?oagg9r
  case oagg9h => (simp only [List.getElem?_toArray, List.getElem?_cons_succ, List.getElem?_cons_zero]; rfl)
  case oagg9q => exact fun _ _ _ h => h
  case oagg9y => (refine Or.inl ⟨by first | kernel_rfl | rfl, ?_⟩; intro w hSw; (try dsimp only at hSw); obtain ⟨x2, x3, x4, x5, -, -⟩ := hSw; go_simp <;> (try with_reducible rfl))
  try simp only [Act.put, List.setIfInBounds_toArray, List.set_cons_zero, List.set_cons_succ]
  refine wpAnyH_take (i := 10) (oi := ?oagg10o) (v := ?oagg10v) ?oagg10h (by kernel_rfl) (by kernel_rfl) (by kernel_rfl) ?oagg10q ?oagg10y hHeld ?oagg10r
  case oagg10h => (simp only [List.getElem?_toArray, List.getElem?_cons_succ, List.getElem?_cons_zero]; rfl)
  case oagg10q => exact fun _ _ _ h => h
  case oagg10y => (refine Or.inl ⟨by first | kernel_rfl | rfl, ?_⟩; intro w hSw; (try dsimp only at hSw); obtain ⟨x2, x3, x4, x5, -, -⟩ := hSw; go_simp <;> (try with_reducible rfl))
  try simp only [Act.put, List.setIfInBounds_toArray, List.set_cons_zero, List.set_cons_succ]
  refine wpAnyH_ready (rs := [2, 12]) (by kernel_rfl) (by simp) ?_
  refine (AllReadyH.cons rfl (fun K hK => ?_) (AllReadyH.cons rfl (fun K hK => ?_) AllReadyH.nil))
  ·
    go_simp
    ((with_reducible refine (kof _).mono ?_); rintro e w1 ⟨rfl, hb1⟩; (try (have hz0 := ((AgW.zero _ _).below (Below.drew (Below.refl _ _))).below hb1; simp at hz0; have HZ := Lib.hid hz0; clear hz0)))
    refine hK.out _ _ (hHeld.keep hb1) (fun hHeld => ?_)
    clear hK K
    try simp only [Act.put, List.setIfInBounds_toArray, List.set_cons_zero, List.set_cons_succ]
    refine wpAnyH_take (i := 11) (oi := ?oagg11o) (v := ?oagg11v) ?oagg11h (by kernel_rfl) (by kernel_rfl) (by kernel_rfl) ?oagg11q ?oagg11y hHeld ?oagg11r
    case oagg11h => (simp only [List.getElem?_toArray, List.getElem?_cons_succ, List.getElem?_cons_zero]; rfl)
    case oagg11q => exact fun _ _ _ h => h
    case oagg11y => (refine Or.inl ⟨by first | kernel_rfl | rfl, ?_⟩; intro w hSw; (try dsimp only at hSw); obtain ⟨x2, x3, x4, x5, -, -⟩ := hSw; go_simp <;> (try with_reducible rfl))
    try simp only [Act.put, List.setIfInBounds_toArray, List.set_cons_zero, List.set_cons_succ]
    refine wpAnyH_ready (rs := [12]) (by kernel_rfl) (by simp) ?_
    refine (AllReadyH.cons rfl (fun K hK => ?_) AllReadyH.nil)
    go_simp
    have HB0 := Lib.hid hHeld
    refine hK.out _ _ (hHeld.alloc _) (fun hHeld => ?_)
    clear hK K
    try simp only [Act.put, List.setIfInBounds_toArray, List.set_cons_zero, List.set_cons_succ]
    refine wpAnyH_ready (rs := [13]) (by kernel_rfl) (by simp) ?_
    refine (AllReadyH.cons rfl (fun K hK => ?_) AllReadyH.nil)
    refine (if_pos (by kernel_rfl)).mpr ?_
    first | refine store_ag _ _ rfl (w.heap.size + 1 + 1) Ag.zero (preA v st) rfl rfl HZ.out ?_ | refine store_ag _ _ rfl w1.heap.size Ag.zero (preA v st) rfl rfl (AgW.zero w1 _) ?_
    refine hK.out _ _ (by first | (with_reducible exact hHeld.st (w.heap.size + 1 + 1) (preA v st) (by omega)) | exact hHeld.st w1.heap.size (preA v st) (by (have := hb1.size; simp at this; omega))) (fun hHeld => ?_)
    clear hK K
    try simp only [Act.put]
    refine wpAnyH_done (by kernel_rfl) ?_ _
    first
    | (obtain ⟨w5, hw5, h5, hW5⟩ := (by with_reducible exact hHeld.name (q := w1.heap.size) ((AgW.zero w1 _).st (preA v st))); rw [← hw5]; obtain ⟨q, hq⟩ : ∃ q, w1.heap.size = q := ⟨_, rfl⟩; rw [hq] at hW5 ⊢; have hq5 : w.heap.size + 2 ≤ q := by (have := hb1.size; simp at this; omega))
    | (obtain ⟨w5, hw5, h5, hW5⟩ := hHeld.name (q := w.heap.size + 1 + 1) (HZ.out.st (preA v st)); rw [← hw5]; obtain ⟨q, hq⟩ : ∃ q, w.heap.size + 1 + 1 = q := ⟨_, rfl⟩; rw [hq] at hW5 ⊢; have hq5 : w.heap.size + 2 ≤ q := by omega)
    obtain ⟨hAt, hc, hf⟩ := hW5.count HK.out
    have hv2 := h5.c2
    have hk9n : k < 9 := by have := bk_le v; have := HK.out; omega
    have hk9 : (k : Int) < 9 := by omega
    have H6 := Lib.hid (h5.upto (Below.setCell (p := ⟨q, 9 + k, none⟩) (Below.refl _ _) hq5 (.int .i64 1)))
    have HAT := Lib.hid hAt
    clear hAt h5 hW5 hw5 hHeld hb1
    go_upto_region 3 with (go_at_call 12; (with_reducible refine (kbk _).mono ?_); rintro e w6 ⟨rfl, rfl⟩)
    refine wp_region_lit ?_
    refine list_load_ag rfl _ rfl q (oneA v st) rfl HAT.out ?_
    refine list_store_ag rfl _ _ rfl (w.heap.size + 1) Ag.zero (oneA v st) rfl rfl H6.out.r ?_
    obtain ⟨w9, hw9, hfin, hbel⟩ := fin_name (H6.out.r.st (oneA v st)).at_ (stA_below (oneA v st) H6.out.bel (Nat.le_succ _))
    rw [← hw9]
    refine wpList_nil ?_
    go_wp2
    refine bodyPost_ret (v := agV (oneA v st)) (results_ag Try.results14 _ _ (w.heap.size + 1) _ rfl hfin) rfl ⟨rfl, hbel⟩
  ·
    go_simp
    have HB0 := Lib.hid hHeld
    refine hK.out _ _ (hHeld.alloc _) (fun hHeld => ?_)
    clear hK K
    try simp only [Act.put, List.setIfInBounds_toArray, List.set_cons_zero, List.set_cons_succ]
    refine wpAnyH_ready (rs := [2]) (by kernel_rfl) (by simp) ?_
    refine (AllReadyH.cons rfl (fun K hK => ?_) AllReadyH.nil)
    go_simp
    ((with_reducible refine (kof _).mono ?_); rintro e w1 ⟨rfl, hb1⟩; (try (have hz0 := ((AgW.zero _ _).below (Below.drew (Below.refl _ _))).below hb1; simp at hz0; have HZ := Lib.hid hz0; clear hz0)))
    refine hK.out _ _ (hHeld.keep hb1) (fun hHeld => ?_)
    clear hK K
    try simp only [Act.put, List.setIfInBounds_toArray, List.set_cons_zero, List.set_cons_succ]
    refine wpAnyH_take (i := 11) (oi := ?oagg12o) (v := ?oagg12v) ?oagg12h (by kernel_rfl) (by kernel_rfl) (by kernel_rfl) ?oagg12q ?oagg12y hHeld ?oagg12r
    case oagg12h => (simp only [List.getElem?_toArray, List.getElem?_cons_succ, List.getElem?_cons_zero]; rfl)
    case oagg12q => exact fun _ _ _ h => h
    case oagg12y => (refine Or.inl ⟨by first | kernel_rfl | rfl, ?_⟩; intro w hSw; (try dsimp only at hSw); obtain ⟨x2, x3, x4, x5, -, -⟩ := hSw; go_simp <;> (try with_reducible rfl))
    try simp only [Act.put, List.setIfInBounds_toArray, List.set_cons_zero, List.set_cons_succ]
    refine wpAnyH_ready (rs := [13]) (by kernel_rfl) (by simp) ?_
    refine (AllReadyH.cons rfl (fun K hK => ?_) AllReadyH.nil)
    refine (if_pos (by kernel_rfl)).mpr ?_
    first | refine store_ag _ _ rfl (w.heap.size + 1 + 1) Ag.zero (preA v st) rfl rfl HZ.out ?_ | refine store_ag _ _ rfl w1.heap.size Ag.zero (preA v st) rfl rfl (AgW.zero w1 _) ?_
    refine hK.out _ _ (by first | (with_reducible exact hHeld.st (w.heap.size + 1 + 1) (preA v st) (by omega)) | exact hHeld.st w1.heap.size (preA v st) (by (have := hb1.size; simp at this; omega))) (fun hHeld => ?_)
    clear hK K
    try simp only [Act.put]
    refine wpAnyH_done (by kernel_rfl) ?_ _
    first
    | (obtain ⟨w5, hw5, h5, hW5⟩ := (by with_reducible exact hHeld.name (q := w1.heap.size) ((AgW.zero w1 _).st (preA v st))); rw [← hw5]; obtain ⟨q, hq⟩ : ∃ q, w1.heap.size = q := ⟨_, rfl⟩; rw [hq] at hW5 ⊢; have hq5 : w.heap.size + 2 ≤ q := by (have := hb1.size; simp at this; omega))
    | (obtain ⟨w5, hw5, h5, hW5⟩ := hHeld.name (q := w.heap.size + 1 + 1) (HZ.out.st (preA v st)); rw [← hw5]; obtain ⟨q, hq⟩ : ∃ q, w.heap.size + 1 + 1 = q := ⟨_, rfl⟩; rw [hq] at hW5 ⊢; have hq5 : w.heap.size + 2 ≤ q := by omega)
    obtain ⟨hAt, hc, hf⟩ := hW5.count HK.out
    have hv2 := h5.c2
    have hk9n : k < 9 := by have := bk_le v; have := HK.out; omega
    have hk9 : (k : Int) < 9 := by omega
    have H6 := Lib.hid (h5.upto (Below.setCell (p := ⟨q, 9 + k, none⟩) (Below.refl _ _) hq5 (.int .i64 1)))
    have HAT := Lib.hid hAt
    clear hAt h5 hW5 hw5 hHeld hb1
    go_upto_region 3 with (go_at_call 12; (with_reducible refine (kbk _).mono ?_); rintro e w6 ⟨rfl, rfl⟩)
    refine wp_region_lit ?_
    refine list_load_ag rfl _ rfl q (oneA v st) rfl HAT.out ?_
    refine list_store_ag rfl _ _ rfl (w.heap.size + 1) Ag.zero (oneA v st) rfl rfl H6.out.r ?_
    obtain ⟨w9, hw9, hfin, hbel⟩ := fin_name (H6.out.r.st (oneA v st)).at_ (stA_below (oneA v st) H6.out.bel (Nat.le_succ _))
    rw [← hw9]
    refine wpList_nil ?_
    go_wp2
    refine bodyPost_ret (v := agV (oneA v st)) (results_ag Try.results14 _ _ (w.heap.size + 1) _ rfl hfin) rfl ⟨rfl, hbel⟩

set_option maxHeartbeats 1000000 in
theorem rone_is (s : ByteArray) (tm v : Int) (st : St) (w : World) (hv : -9223372036854775808 ≤ v ∧ v ≤ 9223372036854775807) : Calls Try.prog 15 #[.agg #[.string s, .int .i64 tm, .int .i64 v, .int .i64 st.c, .int .i64 st.s, .int .i64 st.q]] w fun e w' => e = .returned (agV (oneA v st)) ∧ Below w.heap.size w w' := by
  have kof := fun w => refOf_any v (wh v) (wl v) w hv.1 hv.2 (wrep (inW_small hv))
  obtain ⟨k, hk⟩ : ∃ k, bk v = k := ⟨_, rfl⟩
  have kbk := fun w => rbucket_is v w hv k (Lib.hid hk)
  have HK := Lib.hid hk
  have HOH := Lib.hid (show OH w v st ((w.alloc (.cells #[.string s, .int .i64 tm, .int .i64 v, .int .i64 st.c, .int .i64 st.s, .int .i64 st.q] 31)).alloc (.cells #[.int .i64 0, .int .i64 0, .int .u64 0, .int .i64 0, .int .i64 0, .int .i64 0, .int .i64 0, .int .i64 0, .int .i64 0, .int .i64 0, .int .i64 0, .int .i64 0, .int .i64 0, .int .i64 0, .int .i64 0, .int .i64 0, .int .i64 0, .int .i64 0] 29)) by
    have h0 := AgW.zero (w.alloc (.cells #[.string s, .int .i64 tm, .int .i64 v, .int .i64 st.c, .int .i64 st.s, .int .i64 st.q] 31)) 29
    have hb := bel_new (bel_new (Below.refl w.heap.size w) (.cells #[.string s, .int .i64 tm, .int .i64 v, .int .i64 st.c, .int .i64 st.s, .int .i64 st.q] 31)) (.cells #[.int .i64 0, .int .i64 0, .int .u64 0, .int .i64 0, .int .i64 0, .int .i64 0, .int .i64 0, .int .i64 0, .int .i64 0, .int .i64 0, .int .i64 0, .int .i64 0, .int .i64 0, .int .i64 0, .int .i64 0, .int .i64 0, .int .i64 0, .int .i64 0] 29)
    rw [World.size_alloc] at h0
    exact ⟨by simp [go_sem], by simp [go_sem], by simp [go_sem], by simp [go_sem], h0, hb⟩)
  clear hk
  go_enter Try.func15, Try.ntmps15
  go_wp2_with fail
  refine wp_region_held_drew (S := (OH w v st)) (by kernel_rfl) HOH.out.drew (fun hHeld => ?_)
  refine wpAnyH_take (i := 0) (oi := ?oref1o) (v := ?oref1v) ?oref1h (by kernel_rfl) (by kernel_rfl) (by kernel_rfl) ?oref1q ?oref1y hHeld ?oref1r
  case oref1h => (simp only [List.getElem?_toArray, List.getElem?_cons_zero]; rfl)
  case oref1q => exact fun _ _ _ h => h
  case oref1y => (refine Or.inl ⟨by first | kernel_rfl | rfl, ?_⟩; intro w hSw; (try dsimp only at hSw); obtain ⟨x2, x3, x4, x5, -, -⟩ := hSw; go_simp <;> (try with_reducible rfl))
  try simp only [Act.put, List.setIfInBounds_toArray, List.set_cons_zero, List.set_cons_succ]
  refine wpAnyH_take (i := 1) (oi := ?oref2o) (v := ?oref2v) ?oref2h (by kernel_rfl) (by kernel_rfl) (by kernel_rfl) ?oref2q ?oref2y hHeld ?oref2r
  case oref2h => (simp only [List.getElem?_toArray, List.getElem?_cons_succ, List.getElem?_cons_zero]; rfl)
  case oref2q => exact fun _ _ _ h => h
  case oref2y => (refine Or.inl ⟨by first | kernel_rfl | rfl, ?_⟩; intro w hSw; (try dsimp only at hSw); obtain ⟨x2, x3, x4, x5, -, -⟩ := hSw; go_simp <;> (try with_reducible rfl))
  try simp only [Act.put, List.setIfInBounds_toArray, List.set_cons_zero, List.set_cons_succ]
  refine wpAnyH_take (i := 3) (oi := ?oref3o) (v := ?oref3v) ?oref3h (by kernel_rfl) (by kernel_rfl) (by kernel_rfl) ?oref3q ?oref3y hHeld ?oref3r
  case oref3h => (simp only [List.getElem?_toArray, List.getElem?_cons_succ, List.getElem?_cons_zero]; rfl)
  case oref3q => exact fun _ _ _ h => h
  case oref3y => (refine Or.inl ⟨by first | kernel_rfl | rfl, ?_⟩; intro w hSw; (try dsimp only at hSw); obtain ⟨x2, x3, x4, x5, -, -⟩ := hSw; go_simp <;> (try with_reducible rfl))
  try simp only [Act.put, List.setIfInBounds_toArray, List.set_cons_zero, List.set_cons_succ]
  refine wpAnyH_take (i := 4) (oi := ?oref4o) (v := ?oref4v) ?oref4h (by kernel_rfl) (by kernel_rfl) (by kernel_rfl) ?oref4q ?oref4y hHeld ?oref4r
  case oref4h => (simp only [List.getElem?_toArray, List.getElem?_cons_succ, List.getElem?_cons_zero]; rfl)
  case oref4q => exact fun _ _ _ h => h
  case oref4y => (refine Or.inl ⟨by first | kernel_rfl | rfl, ?_⟩; intro w hSw; (try dsimp only at hSw); obtain ⟨x2, x3, x4, x5, -, -⟩ := hSw; go_simp <;> (try with_reducible rfl))
  try simp only [Act.put, List.setIfInBounds_toArray, List.set_cons_zero, List.set_cons_succ]
  refine wpAnyH_take (i := 5) (oi := ?oref5o) (v := ?oref5v) ?oref5h (by kernel_rfl) (by kernel_rfl) (by kernel_rfl) ?oref5q ?oref5y hHeld ?oref5r
  case oref5h => (simp only [List.getElem?_toArray, List.getElem?_cons_succ, List.getElem?_cons_zero]; rfl)
  case oref5q => exact fun _ _ _ h => h
  case oref5y => (refine Or.inl ⟨by first | kernel_rfl | rfl, ?_⟩; intro w hSw; (try dsimp only at hSw); obtain ⟨x2, x3, x4, x5, -, -⟩ := hSw; go_simp <;> (try with_reducible rfl))
  try simp only [Act.put, List.setIfInBounds_toArray, List.set_cons_zero, List.set_cons_succ]
  refine wpAnyH_take (i := 6) (oi := ?oref6o) (v := ?oref6v) ?oref6h (by kernel_rfl) (by kernel_rfl) (by kernel_rfl) ?oref6q ?oref6y hHeld ?oref6r
  case oref6h => (simp only [List.getElem?_toArray, List.getElem?_cons_succ, List.getElem?_cons_zero]; rfl)
  case oref6q => exact fun _ _ _ h => h
  case oref6y => (refine Or.inl ⟨by first | kernel_rfl | rfl, ?_⟩; intro w hSw; (try dsimp only at hSw); obtain ⟨x2, x3, x4, x5, -, -⟩ := hSw; go_simp <;> (try with_reducible rfl))
  try simp only [Act.put, List.setIfInBounds_toArray, List.set_cons_zero, List.set_cons_succ]
  refine wpAnyH_take (i := 7) (oi := ?oref7o) (v := ?oref7v) ?oref7h (by kernel_rfl) (by kernel_rfl) (by kernel_rfl) ?oref7q ?oref7y hHeld ?oref7r
  case oref7h => (simp only [List.getElem?_toArray, List.getElem?_cons_succ, List.getElem?_cons_zero]; rfl)
  case oref7q => exact fun _ _ _ h => h
  case oref7y => (refine Or.inl ⟨by first | kernel_rfl | rfl, ?_⟩; intro w hSw; (try dsimp only at hSw); obtain ⟨x2, x3, x4, x5, -, -⟩ := hSw; go_simp <;> (try with_reducible rfl))
  try simp only [Act.put, List.setIfInBounds_toArray, List.set_cons_zero, List.set_cons_succ]
  refine wpAnyH_take (i := 8) (oi := ?oref8o) (v := ?oref8v) ?oref8h (by kernel_rfl) (by kernel_rfl) (by kernel_rfl) ?oref8q ?oref8y hHeld ?oref8r
  case oref8h => (simp only [List.getElem?_toArray, List.getElem?_cons_succ, List.getElem?_cons_zero]; rfl)
  case oref8q => exact fun _ _ _ h => h
  case oref8y => (refine Or.inl ⟨by first | kernel_rfl | rfl, ?_⟩; intro w hSw; (try dsimp only at hSw); obtain ⟨x2, x3, x4, x5, -, -⟩ := hSw; go_simp <;> (try with_reducible rfl))
  try simp only [Act.put, List.setIfInBounds_toArray, List.set_cons_zero, List.set_cons_succ]
  refine wpAnyH_take (i := 9) (oi := ?oref9o) (v := ?oref9v) ?oref9h (by kernel_rfl) (by kernel_rfl) (by kernel_rfl) ?oref9q ?oref9y hHeld ?oref9r
  case oref9h => (simp only [List.getElem?_toArray, List.getElem?_cons_succ, List.getElem?_cons_zero]; rfl)
  case oref9q => exact fun _ _ _ h => h
  case oref9y => (refine Or.inl ⟨by first | kernel_rfl | rfl, ?_⟩; intro w hSw; (try dsimp only at hSw); obtain ⟨x2, x3, x4, x5, -, -⟩ := hSw; go_simp <;> (try with_reducible rfl))
  try simp only [Act.put, List.setIfInBounds_toArray, List.set_cons_zero, List.set_cons_succ]
  refine wpAnyH_take (i := 10) (oi := ?oref10o) (v := ?oref10v) ?oref10h (by kernel_rfl) (by kernel_rfl) (by kernel_rfl) ?oref10q ?oref10y hHeld ?oref10r
  case oref10h => (simp only [List.getElem?_toArray, List.getElem?_cons_succ, List.getElem?_cons_zero]; rfl)
  case oref10q => exact fun _ _ _ h => h
  case oref10y => (refine Or.inl ⟨by first | kernel_rfl | rfl, ?_⟩; intro w hSw; (try dsimp only at hSw); obtain ⟨x2, x3, x4, x5, -, -⟩ := hSw; go_simp <;> (try with_reducible rfl))
  try simp only [Act.put, List.setIfInBounds_toArray, List.set_cons_zero, List.set_cons_succ]
  refine wpAnyH_ready (rs := [2, 12]) (by kernel_rfl) (by simp) ?_
  refine (AllReadyH.cons rfl (fun K hK => ?_) (AllReadyH.cons rfl (fun K hK => ?_) AllReadyH.nil))
  ·
    go_simp
    ((with_reducible refine (kof _).mono ?_); rintro e w1 ⟨rfl, hb1⟩; (try (have hz0 := ((AgW.zero _ _).below (Below.drew (Below.refl _ _))).below hb1; simp at hz0; have HZ := Lib.hid hz0; clear hz0)))
    refine hK.out _ _ (hHeld.keep hb1) (fun hHeld => ?_)
    clear hK K
    try simp only [Act.put, List.setIfInBounds_toArray, List.set_cons_zero, List.set_cons_succ]
    refine wpAnyH_take (i := 11) (oi := ?oref11o) (v := ?oref11v) ?oref11h (by kernel_rfl) (by kernel_rfl) (by kernel_rfl) ?oref11q ?oref11y hHeld ?oref11r
    case oref11h => (simp only [List.getElem?_toArray, List.getElem?_cons_succ, List.getElem?_cons_zero]; rfl)
    case oref11q => exact fun _ _ _ h => h
    case oref11y => (refine Or.inl ⟨by first | kernel_rfl | rfl, ?_⟩; intro w hSw; (try dsimp only at hSw); obtain ⟨x2, x3, x4, x5, -, -⟩ := hSw; go_simp <;> (try with_reducible rfl))
    try simp only [Act.put, List.setIfInBounds_toArray, List.set_cons_zero, List.set_cons_succ]
    refine wpAnyH_ready (rs := [12]) (by kernel_rfl) (by simp) ?_
    refine (AllReadyH.cons rfl (fun K hK => ?_) AllReadyH.nil)
    go_simp
    have HB0 := Lib.hid hHeld
    refine hK.out _ _ (hHeld.alloc _) (fun hHeld => ?_)
    clear hK K
    try simp only [Act.put, List.setIfInBounds_toArray, List.set_cons_zero, List.set_cons_succ]
    refine wpAnyH_ready (rs := [13]) (by kernel_rfl) (by simp) ?_
    refine (AllReadyH.cons rfl (fun K hK => ?_) AllReadyH.nil)
    refine (if_pos (by kernel_rfl)).mpr ?_
    first | refine store_ag _ _ rfl (w.heap.size + 1 + 1) Ag.zero (preA v st) rfl rfl HZ.out ?_ | refine store_ag _ _ rfl w1.heap.size Ag.zero (preA v st) rfl rfl (AgW.zero w1 _) ?_
    refine hK.out _ _ (by first | (with_reducible exact hHeld.st (w.heap.size + 1 + 1) (preA v st) (by omega)) | exact hHeld.st w1.heap.size (preA v st) (by (have := hb1.size; simp at this; omega))) (fun hHeld => ?_)
    clear hK K
    try simp only [Act.put]
    refine wpAnyH_done (by kernel_rfl) ?_ _
    first
    | (obtain ⟨w5, hw5, h5, hW5⟩ := (by with_reducible exact hHeld.name (q := w1.heap.size) ((AgW.zero w1 _).st (preA v st))); rw [← hw5]; obtain ⟨q, hq⟩ : ∃ q, w1.heap.size = q := ⟨_, rfl⟩; rw [hq] at hW5 ⊢; have hq5 : w.heap.size + 2 ≤ q := by (have := hb1.size; simp at this; omega))
    | (obtain ⟨w5, hw5, h5, hW5⟩ := hHeld.name (q := w.heap.size + 1 + 1) (HZ.out.st (preA v st)); rw [← hw5]; obtain ⟨q, hq⟩ : ∃ q, w.heap.size + 1 + 1 = q := ⟨_, rfl⟩; rw [hq] at hW5 ⊢; have hq5 : w.heap.size + 2 ≤ q := by omega)
    obtain ⟨hAt, hc, hf⟩ := hW5.count HK.out
    have hv2 := h5.c2
    have hk9n : k < 9 := by have := bk_le v; have := HK.out; omega
    have hk9 : (k : Int) < 9 := by omega
    have H6 := Lib.hid (h5.upto (Below.setCell (p := ⟨q, 9 + k, none⟩) (Below.refl _ _) hq5 (.int .i64 1)))
    have HAT := Lib.hid hAt
    clear hAt h5 hW5 hw5 hHeld hb1
    go_upto_region 3 with (go_at_call 13; (with_reducible refine (kbk _).mono ?_); rintro e w6 ⟨rfl, rfl⟩)
    refine wp_region_lit ?_
    refine list_load_ag rfl _ rfl q (oneA v st) rfl HAT.out ?_
    refine list_store_ag rfl _ _ rfl (w.heap.size + 1) Ag.zero (oneA v st) rfl rfl H6.out.r ?_
    obtain ⟨w9, hw9, hfin, hbel⟩ := fin_name (H6.out.r.st (oneA v st)).at_ (stA_below (oneA v st) H6.out.bel (Nat.le_succ _))
    rw [← hw9]
    refine wpList_nil ?_
    go_wp2
    refine bodyPost_ret (v := agV (oneA v st)) (results_ag Try.results15 _ _ (w.heap.size + 1) _ rfl hfin) rfl ⟨rfl, hbel⟩
  ·
    go_simp
    have HB0 := Lib.hid hHeld
    refine hK.out _ _ (hHeld.alloc _) (fun hHeld => ?_)
    clear hK K
    try simp only [Act.put, List.setIfInBounds_toArray, List.set_cons_zero, List.set_cons_succ]
    refine wpAnyH_ready (rs := [2]) (by kernel_rfl) (by simp) ?_
    refine (AllReadyH.cons rfl (fun K hK => ?_) AllReadyH.nil)
    go_simp
    ((with_reducible refine (kof _).mono ?_); rintro e w1 ⟨rfl, hb1⟩; (try (have hz0 := ((AgW.zero _ _).below (Below.drew (Below.refl _ _))).below hb1; simp at hz0; have HZ := Lib.hid hz0; clear hz0)))
    refine hK.out _ _ (hHeld.keep hb1) (fun hHeld => ?_)
    clear hK K
    try simp only [Act.put, List.setIfInBounds_toArray, List.set_cons_zero, List.set_cons_succ]
    refine wpAnyH_take (i := 11) (oi := ?oref12o) (v := ?oref12v) ?oref12h (by kernel_rfl) (by kernel_rfl) (by kernel_rfl) ?oref12q ?oref12y hHeld ?oref12r
    case oref12h => (simp only [List.getElem?_toArray, List.getElem?_cons_succ, List.getElem?_cons_zero]; rfl)
    case oref12q => exact fun _ _ _ h => h
    case oref12y => (refine Or.inl ⟨by first | kernel_rfl | rfl, ?_⟩; intro w hSw; (try dsimp only at hSw); obtain ⟨x2, x3, x4, x5, -, -⟩ := hSw; go_simp <;> (try with_reducible rfl))
    try simp only [Act.put, List.setIfInBounds_toArray, List.set_cons_zero, List.set_cons_succ]
    refine wpAnyH_ready (rs := [13]) (by kernel_rfl) (by simp) ?_
    refine (AllReadyH.cons rfl (fun K hK => ?_) AllReadyH.nil)
    refine (if_pos (by kernel_rfl)).mpr ?_
    first | refine store_ag _ _ rfl (w.heap.size + 1 + 1) Ag.zero (preA v st) rfl rfl HZ.out ?_ | refine store_ag _ _ rfl w1.heap.size Ag.zero (preA v st) rfl rfl (AgW.zero w1 _) ?_
    refine hK.out _ _ (by first | (with_reducible exact hHeld.st (w.heap.size + 1 + 1) (preA v st) (by omega)) | exact hHeld.st w1.heap.size (preA v st) (by (have := hb1.size; simp at this; omega))) (fun hHeld => ?_)
    clear hK K
    try simp only [Act.put]
    refine wpAnyH_done (by kernel_rfl) ?_ _
    first
    | (obtain ⟨w5, hw5, h5, hW5⟩ := (by with_reducible exact hHeld.name (q := w1.heap.size) ((AgW.zero w1 _).st (preA v st))); rw [← hw5]; obtain ⟨q, hq⟩ : ∃ q, w1.heap.size = q := ⟨_, rfl⟩; rw [hq] at hW5 ⊢; have hq5 : w.heap.size + 2 ≤ q := by (have := hb1.size; simp at this; omega))
    | (obtain ⟨w5, hw5, h5, hW5⟩ := hHeld.name (q := w.heap.size + 1 + 1) (HZ.out.st (preA v st)); rw [← hw5]; obtain ⟨q, hq⟩ : ∃ q, w.heap.size + 1 + 1 = q := ⟨_, rfl⟩; rw [hq] at hW5 ⊢; have hq5 : w.heap.size + 2 ≤ q := by omega)
    obtain ⟨hAt, hc, hf⟩ := hW5.count HK.out
    have hv2 := h5.c2
    have hk9n : k < 9 := by have := bk_le v; have := HK.out; omega
    have hk9 : (k : Int) < 9 := by omega
    have H6 := Lib.hid (h5.upto (Below.setCell (p := ⟨q, 9 + k, none⟩) (Below.refl _ _) hq5 (.int .i64 1)))
    have HAT := Lib.hid hAt
    clear hAt h5 hW5 hw5 hHeld hb1
    go_upto_region 3 with (go_at_call 13; (with_reducible refine (kbk _).mono ?_); rintro e w6 ⟨rfl, rfl⟩)
    refine wp_region_lit ?_
    refine list_load_ag rfl _ rfl q (oneA v st) rfl HAT.out ?_
    refine list_store_ag rfl _ _ rfl (w.heap.size + 1) Ag.zero (oneA v st) rfl rfl H6.out.r ?_
    obtain ⟨w9, hw9, hfin, hbel⟩ := fin_name (H6.out.r.st (oneA v st)).at_ (stA_below (oneA v st) H6.out.bel (Nat.le_succ _))
    rw [← hw9]
    refine wpList_nil ?_
    go_wp2
    refine bodyPost_ret (v := agV (oneA v st)) (results_ag Try.results15 _ _ (w.heap.size + 1) _ rfl hfin) rfl ⟨rfl, hbel⟩
end Go.Proofs.Ytipjhlabcbkgjaa.Ag
