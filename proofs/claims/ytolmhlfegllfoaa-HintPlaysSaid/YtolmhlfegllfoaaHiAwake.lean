/- The law's point and small; the chapter's examples. -/
import Derived.Test.YtolmhlfegllfoaaHiNodes
set_option maxRecDepth 20000
set_option linter.unusedSimpArgs false
set_option linter.unusedVariables false
namespace Go.Proofs.Ytolmhlfegllfoaa.Qu.Hi
open Go.RowKit Go.Maps Go.Proofs.Ytolmhlfegllfoaa.Vi Go.Proofs.Ytolmhlfegllfoaa.Mk

def PP (t : Int) : Pt := ⟨⟨#[97]⟩, t, 0, ⟨1, 0, 1⟩⟩
set_option maxHeartbeats 4000000 in
theorem pp_is (t : Int) (w : World) : Calls Try.prog 29 #[.int .i64 t] w fun e w' => e = .returned (ptV (PP t)) ∧ Below w.heap.size w w' := by
  unfold ptV PP
  dsimp only
  go_enter Try.func29, Try.ntmps29
  go_wp2
  refine bodyPost_ret (v := .agg #[.string ⟨#[97]⟩, .int .i64 t, .int .i64 0, .int .i64 1, .int .i64 0, .int .i64 1]) (by simp [results, Try.results29, go_sem]; try rfl) rfl ⟨rfl, ?_⟩
  exact (Below.refl _ _).alloc (Nat.le_refl _) _
set_option maxHeartbeats 4000000 in
theorem small_is (p : Pt) (w : World) (hp : p.s.size ≤ 9223372036854775807) : Calls Try.prog 11 #[ptV p] w fun e w' => e = .returned (ptV (Pt.short p)) ∧ Below w.heap.size w w' := by
  unfold ptV
  by_cases hs : 60 < p.s.size
  · obtain ⟨y, hy⟩ : ∃ y, p.s.extract 0 60 = y := ⟨_, rfl⟩
    have hsh : Pt.short p = ⟨y, p.t, p.v, p.st⟩ := by
      unfold Pt.short; congr 1; unfold cutB; rw [if_pos hs]; exact hy
    rw [hsh]
    have hsi : (60 : Int) < (p.s.size : Int) := by omega
    clear hsh
    dsimp only
    go_enter Try.func11, Try.ntmps11
    go_wp2
    refine bodyPost_ret (v := .agg #[.string y, .int .i64 p.t, .int .i64 p.v, .int .i64 p.st.c, .int .i64 p.st.s, .int .i64 p.st.q]) (by simp [results, Try.results11, go_sem]; try rfl) rfl ⟨rfl, ?_⟩
    exact bel_new ((Below.refl _ _).alloc (Nat.le_refl _) _) _
  · have hsi : ¬ (60 : Int) < (p.s.size : Int) := by omega
    have hsh : Pt.short p = p := by unfold Pt.short cutB; rw [if_neg hs]
    rw [hsh]
    clear hsh
    go_enter Try.func11, Try.ntmps11
    go_wp2
    refine bodyPost_ret (v := .agg #[.string p.s, .int .i64 p.t, .int .i64 p.v, .int .i64 p.st.c, .int .i64 p.st.s, .int .i64 p.st.q]) (by simp [results, Try.results11, go_sem]; try rfl) rfl ⟨rfl, ?_⟩
    exact bel_new ((Below.refl _ _).alloc (Nat.le_refl _) _) _
theorem pp_err (t : Int) (h : 0 ≤ t ∧ t ≤ 1099511627776) : (PP t).err = 0 := by
  have : (PP t).ok = true := by
    unfold Pt.ok PP
    rw [decide_eq_true h]
    show (nameB ⟨#[97]⟩ && true && St.ok ⟨1, 0, 1⟩) = true
    decide +kernel
  unfold Pt.err; rw [this]; rfl
theorem pp_fits (t : Int) (h : I64 t) : (PP t).fits := ⟨by show (1 : Nat) ≤ _; decide, h, by show (-9223372036854775808 : Int) ≤ 0 ∧ (0 : Int) ≤ 9223372036854775807; omega⟩
theorem grow_bel {w a b : World} {B : Nat} {m : Nat} (h : Below B w a) (hB : B ≤ a.heap.size) (hm : B ≤ m) (k : a.grownBy b (some m)) : Below B w b := h.grown k hB fun j hj => by rw [← Option.some.inj hj]; exact hm
theorem ns_lit {w : World} {b : Nat} {l : List Int} (hc : ∀ j (h : j < l.length), w.cell? ⟨b, j, none⟩ = some (.int .i64 l[j])) (hb : b < w.heap.size) (hw : ∀ n ∈ l, -9223372036854775808 ≤ n ∧ n ≤ 9223372036854775807) (hl : l.length ≤ 100) : Ns w (.slice (some ⟨b, 0, none⟩) l.length l.length) l :=
  ⟨⟨_, _, rfl, Or.inr ⟨b, 0, rfl, hb, fun j hj => by rw [Nat.zero_add]; exact hc j hj⟩⟩, hw, by omega, Nat.le_refl _⟩
theorem ns_two (w : World) (x y : Int) (hx : I64 x) (hy : I64 y) : Ns (w.alloc (.cells #[.int .i64 x, .int .i64 y] 3)) (.slice (some ⟨w.heap.size, 0, none⟩) 2 2) [x, y] :=
  ns_lit (l := [x, y]) (fun j hj => by
    match j, hj with
    | 0, _ | 1, _ => simp [go_sem]) (by simp) (fun n hn => by
    simp at hn
    rcases hn with rfl | rfl
    · exact hx
    · exact hy) (by simp)
theorem ns_one (w : World) (x : Int) (hx : I64 x) : Ns (w.alloc (.cells #[.int .i64 x] 3)) (.slice (some ⟨w.heap.size, 0, none⟩) 1 1) [x] :=
  ns_lit (l := [x]) (fun j hj => by
    match j, hj with
    | 0, _ => simp [go_sem]) (by simp) (fun n hn => by
    simp at hn
    rw [hn]; exact hx) (by simp)
theorem pts_one (w : World) (p : Pt) : Pts (w.alloc (.cells #[.string p.s, .int .i64 p.t, .int .i64 p.v, .int .i64 p.st.c, .int .i64 p.st.s, .int .i64 p.st.q] 31)) (w.alloc (.cells #[.string p.s, .int .i64 p.t, .int .i64 p.v, .int .i64 p.st.c, .int .i64 p.st.s, .int .i64 p.st.q] 31)).heap.size (some ⟨w.heap.size, 0, none⟩) [p] := by
  refine ⟨Or.inr ⟨w.heap.size, 0, rfl, by simp, fun j hj => ?_⟩⟩
  simp at hj
  subst hj
  constructor <;> simp [go_sem]
def AL1 : List Hk := [⟨PP 5, 1⟩, ⟨PP 5, 2⟩]
def AL2 : List Hk := [⟨PP 5, 2⟩]
theorem aw1 : addOk [] (capH 2) (PP 5) [1, 2] = true ∧ addL [] (capH 2) (PP 5) [1, 2] = AL1 := by constructor <;> decide +kernel
theorem aw2 : addOk AL1 (capH 2) (PP 6) [1] = false ∧ addL AL1 (capH 2) (PP 6) [1] = AL1 := by constructor <;> decide +kernel
theorem aw3 : ackL AL1 1 [PP 5] = AL2 := by decide +kernel
theorem aw4 : owedL AL2 (PP 5) = [2] := by decide +kernel
theorem aw5 : forL AL2 2 5 = [PP 5] := by
  unfold forL
  rw [show ofL AL2 2 = [PP 5] by decide +kernel]
  simp [srtO]
theorem pp_big (t n : Int) (ht : I64 t) (hn : I64 n) : Hk.big ⟨PP t, n⟩ := ⟨by show (1 : Nat) ≤ _; decide, ht, by show I64 0; unfold I64; omega, by show I64 1; unfold I64; omega, by show I64 0; unfold I64; omega, by show I64 1; unfold I64; omega, hn⟩
theorem i64_of {n : Int} (h1 : -1000 ≤ n) (h2 : n ≤ 1000000) : I64 n := by unfold I64; omega
theorem HiAt.after {w w' : World} {B b m : Nat} {room : Int} {L L' : List Hk} (h : HiAt w B b (some m) room L) {W0 : World} (hB : Below B W0 w) (k : w.grownBy w' (some m)) : Below B W0 w' := hB.grown k (Nat.le_trans h.lo (Nat.le_of_lt h.lt)) fun j hj => by rw [← Option.some.inj hj]; exact (h.some_ m rfl).1
set_option maxHeartbeats 16000000 in
theorem awake_is (w : World) : Calls Try.prog 8 #[] w fun e w' => e = .returned (.bool true) ∧ Below w.heap.size w w' := by
  have kn := fun W => new_is 2 W
  have kp : ∀ (t : Int) (W : World), Calls Try.prog 29 #[.int .i64 t] W fun e w' => e = .returned (.agg #[.string ⟨#[97]⟩, .int .i64 t, .int .i64 0, .int .i64 1, .int .i64 0, .int .i64 1]) ∧ Below W.heap.size W w' := fun t W => pp_is t W
  have kadd : ∀ (t : Int) (_ : 0 ≤ t ∧ t ≤ 1000) (b m : Nat) (L : List Hk) (W : World) (_ : HiAt W w.heap.size b (some m) (capH 2) L) (v : Value) (l : List Int) (_ : Ns W v l), Calls Try.prog 16 #[.pointer (some ⟨b, 0, none⟩), .agg #[.string ⟨#[97]⟩, .int .i64 t, .int .i64 0, .int .i64 1, .int .i64 0, .int .i64 1], v] W (AddDone W w.heap.size b (some m) (capH 2) L (PP t) l) := fun t ht b m L W h v l hN => add_is h (PP t) (pp_fits t (i64_of (by omega) (by omega))) (by show (1 : Nat) ≤ _; decide) v l hN
  have kack : ∀ (b m : Nat) (L : List Hk) (W : World) (_ : HiAt W w.heap.size b (some m) (capH 2) L) (g : Nat) (_ : Pts W W.heap.size (some ⟨g, 0, none⟩) [PP 5]), Calls Try.prog 12 #[.pointer (some ⟨b, 0, none⟩), .int .i64 1, .slice (some ⟨g, 0, none⟩) 1 1] W (AckDone W w.heap.size b (some m) (capH 2) L 1 [PP 5]) := fun b m L W h g hS => ack_is h 1 _ 1 [PP 5] hS (by decide) (fun p hp => by rw [List.mem_singleton] at hp; subst hp; exact pp_big 5 1 (i64_of (by omega) (by omega)) (i64_of (by omega) (by omega)))
  have kow : ∀ (b m : Nat) (L : List Hk) (W : World) (_ : HiAt W w.heap.size b (some m) (capH 2) L), Calls Try.prog 22 #[.pointer (some ⟨b, 0, none⟩), .agg #[.string ⟨#[97]⟩, .int .i64 5, .int .i64 0, .int .i64 1, .int .i64 0, .int .i64 1]] W (IDone (owedL L (PP 5)) W) := fun b m L W h => owed_is h (PP 5) fun k hk => pp_big 5 k (i64_of (by omega) (by omega)) (i64_of (by omega) (by omega))
  have hqq : ∀ W, (binOp .eql 31 (.agg #[.string ⟨#[97]⟩, .int .i64 5, .int .i64 0, .int .i64 1, .int .i64 0, .int .i64 1]) (.agg #[.string ⟨#[97]⟩, .int .i64 5, .int .i64 0, .int .i64 1, .int .i64 0, .int .i64 1])).run Try.prog W = .ok (.bool true) W := fun W => (eql_run6 (PP 5) (PP 5) W).trans (by rw [Pt.same_iff.2 rfl])
  have k1 := i64_of (n := 1) (by omega) (by omega)
  have k2 := i64_of (n := 2) (by omega) (by omega)
  go_enter Try.func8, Try.ntmps8
  go_wp2_with (first
    | (go_at_call 19; (have kk := for_some H10.out 2 5); (with_reducible refine kk.mono ?_); rintro e w11 ⟨v11, rfl, hR11, hb11⟩; (rw [aw5] at hR11); (have HB11 := Lib.hid (bel_next HB10.out hb11)); (obtain ⟨a11, c11, rfl⟩ := hR11.slice); (have HR11 := Lib.hid hR11); clear hb11 hR11 kk)
    | (go_at_call 21; (have h1 : Nums (w9.alloc (.cells #[.int .i64 2] 3)) (w9.alloc (.cells #[.int .i64 2] 3)).heap.size (.slice a9 1 c9) [2] := irow_ns (HR9.out.later ((Below.refl _ _).alloc (Nat.le_refl _) _)) (fun n hn => by (rw [List.mem_singleton] at hn; omega)) (by simp)); (have kk := rsame_is _ _ [2] [2] _ _ _ h1 (ns_one w9 2 k2)); (rw [show sameL [2] [2] = true from rfl] at kk); (with_reducible refine kk.mono ?_); rintro e w10 ⟨rfl, hb10⟩; (have H10 := Lib.hid ((H9.out.alloc (.cells #[.int .i64 2] 3)).later hb10)); (have HB10 := Lib.hid (bel_next (bel_new HB9.out (.cells #[.int .i64 2] 3)) hb10)); clear hb10 h1 kk)
    | (go_at_call 22; (have kk := kow _ _ _ _ H8.out); (rw [aw4] at kk); (with_reducible refine kk.mono ?_); rintro e w9 ⟨v9, rfl, hR9, hb9⟩; (have H9 := Lib.hid (H8.out.later hb9)); (have HB9 := Lib.hid (bel_next HB8.out hb9)); (obtain ⟨a9, c9, rfl⟩ := hR9.slice); (have HR9 := Lib.hid hR9); clear hb9 hR9 kk)
    | (go_at_call 29; (have H7c := H7.out); (with_reducible refine (kp 5 _).mono ?_); rintro e w8 ⟨rfl, hb8⟩; (have H8 := Lib.hid (H7.out.later hb8)); (have HB8 := Lib.hid (bel_next HB7.out hb8)); clear hb8 H7c)
    | (go_at_call 12; (have kk := kack _ _ _ _ (H6.out.alloc (.cells #[.string ⟨#[97]⟩, .int .i64 5, .int .i64 0, .int .i64 1, .int .i64 0, .int .i64 1] 31)) _ (pts_one w6 (PP 5))); (with_reducible refine kk.mono ?_); rintro e w7 ⟨he, hH7, hg7⟩; (rw [aw3, show ((AL1.length : Int) - (AL2.length : Int)) = 1 from rfl] at he); subst he; (rw [aw3] at hH7); (have H7 := Lib.hid hH7); (have HB7 := Lib.hid ((H6.out.alloc (.cells #[.string ⟨#[97]⟩, .int .i64 5, .int .i64 0, .int .i64 1, .int .i64 0, .int .i64 1] 31)).after (L' := []) (bel_new HB6.out (.cells #[.string ⟨#[97]⟩, .int .i64 5, .int .i64 0, .int .i64 1, .int .i64 0, .int .i64 1] 31)) hg7)); clear hH7 hg7 kk)
    | (go_at_call 29; (have H5c := H5.out); (with_reducible refine (kp 5 _).mono ?_); rintro e w6 ⟨rfl, hb6⟩; (have H6 := Lib.hid (H5.out.later hb6)); (have HB6 := Lib.hid (bel_next HB5.out hb6)); clear hb6 H5c)
    | (go_at_call 16; (have kk := kadd 6 (by omega) _ _ _ _ (H4.out.alloc (.cells #[.int .i64 1] 3)) _ [1] (ns_one w4 1 k1)); (with_reducible refine kk.mono ?_); rintro e w5 ⟨he, hH5, hg5⟩; (rw [aw2.1] at he); subst he; (rw [aw2.2] at hH5); (have H5 := Lib.hid hH5); (have HB5 := Lib.hid ((H4.out.alloc (.cells #[.int .i64 1] 3)).after (L' := []) (bel_new HB4.out (.cells #[.int .i64 1] 3)) hg5)); clear hH5 hg5 kk)
    | (go_at_call 29; (have H3c := H3.out); (with_reducible refine (kp 6 _).mono ?_); rintro e w4 ⟨rfl, hb4⟩; (have H4 := Lib.hid (H3.out.later hb4)); (have HB4 := Lib.hid (bel_next HB3.out hb4)); clear hb4 H3c)
    | (go_at_call 16; (have kk := kadd 5 (by omega) _ _ _ _ (H2.out.alloc (.cells #[.int .i64 1, .int .i64 2] 3)) _ [1, 2] (ns_two w2 1 2 k1 k2)); (with_reducible refine kk.mono ?_); rintro e w3 ⟨he, hH3, hg3⟩; (rw [aw1.1] at he); subst he; (rw [aw1.2] at hH3); (have H3 := Lib.hid hH3); (have HB3 := Lib.hid ((H2.out.alloc (.cells #[.int .i64 1, .int .i64 2] 3)).after (L' := []) (bel_new HB2.out (.cells #[.int .i64 1, .int .i64 2] 3)) hg3)); clear hH3 hg3 kk)
    | (go_at_call 29; (have H1c := H1.out); (with_reducible refine (kp 5 _).mono ?_); rintro e w2 ⟨rfl, hb2⟩; (have H2 := Lib.hid (H1.out.later hb2)); (have HB2 := Lib.hid (bel_next HB1.out hb2)); clear hb2 H1c)
    | (go_at_call 9; (with_reducible refine (kn _).mono ?_); rintro e w1 ⟨b, m, rfl, hH1, hb1⟩; (have H1 := Lib.hid hH1); (have HB1 := Lib.hid hb1); clear hb1 hH1))
  have hp11 := HR11.out.pts
  rcases hp11.at_ with he | ⟨g9, off9, rfl, hg9, hc9⟩
  · simp at he
  · have hx9 := hc9 0 (by decide)
    rw [Nat.zero_mul, Nat.add_zero] at hx9
    have hS9 : PtO w11.drew g9 off9 (PP 5) ∧ Below w.heap.size w w11.drew := ⟨hx9.below (Below.refl _ _).drew hx9.room, HB11.out.drew⟩
    clear hp11 hc9
    refine wp_region_held_drew (S := (fun X : World => PtO X g9 off9 (PP 5) ∧ Below w.heap.size w X)) (by kernel_rfl) hS9 (fun hHeld => ?_)
    refine wpAnyH_take (i := 0) (oi := ?n1o) (v := ?n1v) ?n1h (by kernel_rfl) (by kernel_rfl) (by kernel_rfl) ?n1q ?n1y hHeld ?n1r
    case n1h => (simp only [List.getElem?_toArray, List.getElem?_cons_zero]; rfl)
    case n1q => exact fun _ _ _ h => h
    case n1y => (refine Or.inl ⟨by first | kernel_rfl | rfl, ?_⟩; intro w hSw; (try dsimp only at hSw); obtain ⟨⟨x0, x1, x2, x3, x4, x5⟩, -⟩ := hSw; unfold PP at x0 x1 x2 x3 x4 x5; dsimp only at x0 x1 x2 x3 x4 x5; go_simp <;> (try with_reducible rfl))
    try simp only [Act.put, List.setIfInBounds_toArray, List.set_cons_zero, List.set_cons_succ]
    refine wpAnyH_take (i := 1) (oi := ?n2o) (v := ?n2v) ?n2h (by kernel_rfl) (by kernel_rfl) (by kernel_rfl) ?n2q ?n2y hHeld ?n2r
    case n2h => (simp only [List.getElem?_toArray, List.getElem?_cons_succ, List.getElem?_cons_zero]; rfl)
    case n2q => exact fun _ _ _ h => h
    case n2y => (refine Or.inl ⟨by first | kernel_rfl | rfl, ?_⟩; intro w hSw; (try dsimp only at hSw); obtain ⟨⟨x0, x1, x2, x3, x4, x5⟩, -⟩ := hSw; unfold PP at x0 x1 x2 x3 x4 x5; dsimp only at x0 x1 x2 x3 x4 x5; go_simp <;> (try with_reducible rfl))
    try simp only [Act.put, List.setIfInBounds_toArray, List.set_cons_zero, List.set_cons_succ]
    refine wpAnyH_take (i := 2) (oi := ?n3o) (v := ?n3v) ?n3h (by kernel_rfl) (by kernel_rfl) (by kernel_rfl) ?n3q ?n3y hHeld ?n3r
    case n3h => (simp only [List.getElem?_toArray, List.getElem?_cons_succ, List.getElem?_cons_zero]; rfl)
    case n3q => exact fun _ _ _ h => h
    case n3y => (refine Or.inl ⟨by first | kernel_rfl | rfl, ?_⟩; intro w hSw; (try dsimp only at hSw); obtain ⟨⟨x0, x1, x2, x3, x4, x5⟩, -⟩ := hSw; unfold PP at x0 x1 x2 x3 x4 x5; dsimp only at x0 x1 x2 x3 x4 x5; go_simp <;> (try with_reducible rfl))
    try simp only [Act.put, List.setIfInBounds_toArray, List.set_cons_zero, List.set_cons_succ]
    refine wpAnyH_take (i := 3) (oi := ?n4o) (v := ?n4v) ?n4h (by kernel_rfl) (by kernel_rfl) (by kernel_rfl) ?n4q ?n4y hHeld ?n4r
    case n4h => (simp only [List.getElem?_toArray, List.getElem?_cons_succ, List.getElem?_cons_zero]; rfl)
    case n4q => exact fun _ _ _ h => h
    case n4y => (refine Or.inl ⟨by first | kernel_rfl | rfl, ?_⟩; intro w hSw; (try dsimp only at hSw); obtain ⟨⟨x0, x1, x2, x3, x4, x5⟩, -⟩ := hSw; unfold PP at x0 x1 x2 x3 x4 x5; dsimp only at x0 x1 x2 x3 x4 x5; go_simp <;> (try with_reducible rfl))
    try simp only [Act.put, List.setIfInBounds_toArray, List.set_cons_zero, List.set_cons_succ]
    refine wpAnyH_take (i := 4) (oi := ?n5o) (v := ?n5v) ?n5h (by kernel_rfl) (by kernel_rfl) (by kernel_rfl) ?n5q ?n5y hHeld ?n5r
    case n5h => (simp only [List.getElem?_toArray, List.getElem?_cons_succ, List.getElem?_cons_zero]; rfl)
    case n5q => exact fun _ _ _ h => h
    case n5y => (refine Or.inl ⟨by first | kernel_rfl | rfl, ?_⟩; intro w hSw; (try dsimp only at hSw); obtain ⟨⟨x0, x1, x2, x3, x4, x5⟩, -⟩ := hSw; unfold PP at x0 x1 x2 x3 x4 x5; dsimp only at x0 x1 x2 x3 x4 x5; go_simp <;> (try with_reducible rfl))
    try simp only [Act.put, List.setIfInBounds_toArray, List.set_cons_zero, List.set_cons_succ]
    refine wpAnyH_take (i := 5) (oi := ?n6o) (v := ?n6v) ?n6h (by kernel_rfl) (by kernel_rfl) (by kernel_rfl) ?n6q ?n6y hHeld ?n6r
    case n6h => (simp only [List.getElem?_toArray, List.getElem?_cons_succ, List.getElem?_cons_zero]; rfl)
    case n6q => exact fun _ _ _ h => h
    case n6y => (refine Or.inl ⟨by first | kernel_rfl | rfl, ?_⟩; intro w hSw; (try dsimp only at hSw); obtain ⟨⟨x0, x1, x2, x3, x4, x5⟩, -⟩ := hSw; unfold PP at x0 x1 x2 x3 x4 x5; dsimp only at x0 x1 x2 x3 x4 x5; go_simp <;> (try with_reducible rfl))
    try simp only [Act.put, List.setIfInBounds_toArray, List.set_cons_zero, List.set_cons_succ]
    refine wpAnyH_take (i := 6) (oi := ?n7o) (v := ?n7v) ?n7h (by kernel_rfl) (by kernel_rfl) (by kernel_rfl) ?n7q ?n7y hHeld ?n7r
    case n7h => (simp only [List.getElem?_toArray, List.getElem?_cons_succ, List.getElem?_cons_zero]; rfl)
    case n7q => exact fun _ _ _ h => h
    case n7y => (refine Or.inl ⟨by first | kernel_rfl | rfl, ?_⟩; intro w hSw; (try dsimp only at hSw); obtain ⟨⟨x0, x1, x2, x3, x4, x5⟩, -⟩ := hSw; unfold PP at x0 x1 x2 x3 x4 x5; dsimp only at x0 x1 x2 x3 x4 x5; go_simp <;> (try with_reducible rfl))
    try simp only [Act.put, List.setIfInBounds_toArray, List.set_cons_zero, List.set_cons_succ]
    refine wpAnyH_take (i := 7) (oi := ?n8o) (v := ?n8v) ?n8h (by kernel_rfl) (by kernel_rfl) (by kernel_rfl) ?n8q ?n8y hHeld ?n8r
    case n8h => (simp only [List.getElem?_toArray, List.getElem?_cons_succ, List.getElem?_cons_zero]; rfl)
    case n8q => exact fun _ _ _ h => h
    case n8y => (refine Or.inl ⟨by first | kernel_rfl | rfl, ?_⟩; intro w hSw; (try dsimp only at hSw); obtain ⟨⟨x0, x1, x2, x3, x4, x5⟩, -⟩ := hSw; unfold PP at x0 x1 x2 x3 x4 x5; dsimp only at x0 x1 x2 x3 x4 x5; go_simp <;> (try with_reducible rfl))
    try simp only [Act.put, List.setIfInBounds_toArray, List.set_cons_zero, List.set_cons_succ]
    refine wpAnyH_take (i := 8) (oi := ?n9o) (v := ?n9v) ?n9h (by kernel_rfl) (by kernel_rfl) (by kernel_rfl) ?n9q ?n9y hHeld ?n9r
    case n9h => (simp only [List.getElem?_toArray, List.getElem?_cons_succ, List.getElem?_cons_zero]; rfl)
    case n9q => exact fun _ _ _ h => h
    case n9y => (refine Or.inl ⟨by first | kernel_rfl | rfl, ?_⟩; intro w hSw; (try dsimp only at hSw); obtain ⟨⟨x0, x1, x2, x3, x4, x5⟩, -⟩ := hSw; unfold PP at x0 x1 x2 x3 x4 x5; dsimp only at x0 x1 x2 x3 x4 x5; go_simp <;> (try with_reducible rfl))
    try simp only [Act.put, List.setIfInBounds_toArray, List.set_cons_zero, List.set_cons_succ]
    refine wpAnyH_take (i := 9) (oi := ?n10o) (v := ?n10v) ?n10h (by kernel_rfl) (by kernel_rfl) (by kernel_rfl) ?n10q ?n10y hHeld ?n10r
    case n10h => (simp only [List.getElem?_toArray, List.getElem?_cons_succ, List.getElem?_cons_zero]; rfl)
    case n10q => exact fun _ _ _ h => h
    case n10y => (refine Or.inl ⟨by first | kernel_rfl | rfl, ?_⟩; intro w hSw; (try dsimp only at hSw); obtain ⟨⟨x0, x1, x2, x3, x4, x5⟩, -⟩ := hSw; unfold PP at x0 x1 x2 x3 x4 x5; dsimp only at x0 x1 x2 x3 x4 x5; go_simp <;> (try with_reducible rfl))
    try simp only [Act.put, List.setIfInBounds_toArray, List.set_cons_zero, List.set_cons_succ]
    refine wpAnyH_take (i := 10) (oi := ?n11o) (v := ?n11v) ?n11h (by kernel_rfl) (by kernel_rfl) (by kernel_rfl) ?n11q ?n11y hHeld ?n11r
    case n11h => (simp only [List.getElem?_toArray, List.getElem?_cons_succ, List.getElem?_cons_zero]; rfl)
    case n11q => exact fun _ _ _ h => h
    case n11y => (refine Or.inl ⟨by first | kernel_rfl | rfl, ?_⟩; intro w hSw; (try dsimp only at hSw); obtain ⟨⟨x0, x1, x2, x3, x4, x5⟩, -⟩ := hSw; unfold PP at x0 x1 x2 x3 x4 x5; dsimp only at x0 x1 x2 x3 x4 x5; go_simp <;> (try with_reducible rfl))
    try simp only [Act.put, List.setIfInBounds_toArray, List.set_cons_zero, List.set_cons_succ]
    refine wpAnyH_take (i := 11) (oi := ?n12o) (v := ?n12v) ?n12h (by kernel_rfl) (by kernel_rfl) (by kernel_rfl) ?n12q ?n12y hHeld ?n12r
    case n12h => (simp only [List.getElem?_toArray, List.getElem?_cons_succ, List.getElem?_cons_zero]; rfl)
    case n12q => exact fun _ _ _ h => h
    case n12y => (refine Or.inl ⟨by first | kernel_rfl | rfl, ?_⟩; intro w hSw; (try dsimp only at hSw); obtain ⟨⟨x0, x1, x2, x3, x4, x5⟩, -⟩ := hSw; unfold PP at x0 x1 x2 x3 x4 x5; dsimp only at x0 x1 x2 x3 x4 x5; go_simp <;> (try with_reducible rfl))
    try simp only [Act.put, List.setIfInBounds_toArray, List.set_cons_zero, List.set_cons_succ]
    refine wpAnyH_take (i := 12) (oi := ?n13o) (v := ?n13v) ?n13h (by kernel_rfl) (by kernel_rfl) (by kernel_rfl) ?n13q ?n13y hHeld ?n13r
    case n13h => (simp only [List.getElem?_toArray, List.getElem?_cons_succ, List.getElem?_cons_zero]; rfl)
    case n13q => exact fun _ _ _ h => h
    case n13y => (refine Or.inl ⟨by first | kernel_rfl | rfl, ?_⟩; intro w hSw; (try dsimp only at hSw); obtain ⟨⟨x0, x1, x2, x3, x4, x5⟩, -⟩ := hSw; unfold PP at x0 x1 x2 x3 x4 x5; dsimp only at x0 x1 x2 x3 x4 x5; go_simp <;> (try with_reducible rfl))
    try simp only [Act.put, List.setIfInBounds_toArray, List.set_cons_zero, List.set_cons_succ]
    refine wpAnyH_take (i := 13) (oi := ?n14o) (v := ?n14v) ?n14h (by kernel_rfl) (by kernel_rfl) (by kernel_rfl) ?n14q ?n14y hHeld ?n14r
    case n14h => (simp only [List.getElem?_toArray, List.getElem?_cons_succ, List.getElem?_cons_zero]; rfl)
    case n14q => exact fun _ _ _ h => h
    case n14y => (refine Or.inl ⟨by first | kernel_rfl | rfl, ?_⟩; intro w hSw; (try dsimp only at hSw); obtain ⟨⟨x0, x1, x2, x3, x4, x5⟩, -⟩ := hSw; unfold PP at x0 x1 x2 x3 x4 x5; dsimp only at x0 x1 x2 x3 x4 x5; go_simp <;> (try with_reducible rfl))
    try simp only [Act.put, List.setIfInBounds_toArray, List.set_cons_zero, List.set_cons_succ]
    refine wpAnyH_take (i := 14) (oi := ?n15o) (v := ?n15v) ?n15h (by kernel_rfl) (by kernel_rfl) (by kernel_rfl) ?n15q ?n15y hHeld ?n15r
    case n15h => (simp only [List.getElem?_toArray, List.getElem?_cons_succ, List.getElem?_cons_zero]; rfl)
    case n15q => exact fun _ _ _ h => h
    case n15y => (refine Or.inl ⟨by first | kernel_rfl | rfl, ?_⟩; intro w hSw; (try dsimp only at hSw); obtain ⟨⟨x0, x1, x2, x3, x4, x5⟩, -⟩ := hSw; unfold PP at x0 x1 x2 x3 x4 x5; dsimp only at x0 x1 x2 x3 x4 x5; go_simp <;> (try with_reducible rfl))
    try simp only [Act.put, List.setIfInBounds_toArray, List.set_cons_zero, List.set_cons_succ]
    refine wpAnyH_take (i := 15) (oi := ?n16o) (v := ?n16v) ?n16h (by kernel_rfl) (by kernel_rfl) (by kernel_rfl) ?n16q ?n16y hHeld ?n16r
    case n16h => (simp only [List.getElem?_toArray, List.getElem?_cons_succ, List.getElem?_cons_zero]; rfl)
    case n16q => exact fun _ _ _ h => h
    case n16y => (refine Or.inl ⟨by first | kernel_rfl | rfl, ?_⟩; intro w hSw; (try dsimp only at hSw); obtain ⟨⟨x0, x1, x2, x3, x4, x5⟩, -⟩ := hSw; unfold PP at x0 x1 x2 x3 x4 x5; dsimp only at x0 x1 x2 x3 x4 x5; go_simp <;> (try with_reducible rfl))
    try simp only [Act.put, List.setIfInBounds_toArray, List.set_cons_zero, List.set_cons_succ]
    refine wpAnyH_take (i := 16) (oi := ?n17o) (v := ?n17v) ?n17h (by kernel_rfl) (by kernel_rfl) (by kernel_rfl) ?n17q ?n17y hHeld ?n17r
    case n17h => (simp only [List.getElem?_toArray, List.getElem?_cons_succ, List.getElem?_cons_zero]; rfl)
    case n17q => exact fun _ _ _ h => h
    case n17y => (refine Or.inl ⟨by first | kernel_rfl | rfl, ?_⟩; intro w hSw; (try dsimp only at hSw); obtain ⟨⟨x0, x1, x2, x3, x4, x5⟩, -⟩ := hSw; unfold PP at x0 x1 x2 x3 x4 x5; dsimp only at x0 x1 x2 x3 x4 x5; go_simp <;> (try with_reducible rfl))
    try simp only [Act.put, List.setIfInBounds_toArray, List.set_cons_zero, List.set_cons_succ]
    refine wpAnyH_take (i := 17) (oi := ?n18o) (v := ?n18v) ?n18h (by kernel_rfl) (by kernel_rfl) (by kernel_rfl) ?n18q ?n18y hHeld ?n18r
    case n18h => (simp only [List.getElem?_toArray, List.getElem?_cons_succ, List.getElem?_cons_zero]; rfl)
    case n18q => exact fun _ _ _ h => h
    case n18y => (refine Or.inl ⟨by first | kernel_rfl | rfl, ?_⟩; intro w hSw; (try dsimp only at hSw); obtain ⟨⟨x0, x1, x2, x3, x4, x5⟩, -⟩ := hSw; unfold PP at x0 x1 x2 x3 x4 x5; dsimp only at x0 x1 x2 x3 x4 x5; go_simp <;> (try with_reducible rfl))
    try simp only [Act.put, List.setIfInBounds_toArray, List.set_cons_zero, List.set_cons_succ]
    refine wpAnyH_take (i := 18) (oi := ?n19o) (v := ?n19v) ?n19h (by kernel_rfl) (by kernel_rfl) (by kernel_rfl) ?n19q ?n19y hHeld ?n19r
    case n19h => (simp only [List.getElem?_toArray, List.getElem?_cons_succ, List.getElem?_cons_zero]; rfl)
    case n19q => exact fun _ _ _ h => h
    case n19y => (refine Or.inl ⟨by first | kernel_rfl | rfl, ?_⟩; intro w hSw; (try dsimp only at hSw); obtain ⟨⟨x0, x1, x2, x3, x4, x5⟩, -⟩ := hSw; unfold PP at x0 x1 x2 x3 x4 x5; dsimp only at x0 x1 x2 x3 x4 x5; go_simp <;> (try with_reducible rfl))
    try simp only [Act.put, List.setIfInBounds_toArray, List.set_cons_zero, List.set_cons_succ]
    refine wpAnyH_take (i := 19) (oi := ?n20o) (v := ?n20v) ?n20h (by kernel_rfl) (by kernel_rfl) (by kernel_rfl) ?n20q ?n20y hHeld ?n20r
    case n20h => (simp only [List.getElem?_toArray, List.getElem?_cons_succ, List.getElem?_cons_zero]; rfl)
    case n20q => exact fun _ _ _ h => h
    case n20y => (refine Or.inl ⟨by first | kernel_rfl | rfl, ?_⟩; intro w hSw; (try dsimp only at hSw); obtain ⟨⟨x0, x1, x2, x3, x4, x5⟩, -⟩ := hSw; unfold PP at x0 x1 x2 x3 x4 x5; dsimp only at x0 x1 x2 x3 x4 x5; go_simp <;> (try with_reducible rfl))
    try simp only [Act.put, List.setIfInBounds_toArray, List.set_cons_zero, List.set_cons_succ]
    refine wpAnyH_take (i := 20) (oi := ?n21o) (v := ?n21v) ?n21h (by kernel_rfl) (by kernel_rfl) (by kernel_rfl) ?n21q ?n21y hHeld ?n21r
    case n21h => (simp only [List.getElem?_toArray, List.getElem?_cons_succ, List.getElem?_cons_zero]; rfl)
    case n21q => exact fun _ _ _ h => h
    case n21y => (refine Or.inl ⟨by first | kernel_rfl | rfl, ?_⟩; intro w hSw; (try dsimp only at hSw); obtain ⟨⟨x0, x1, x2, x3, x4, x5⟩, -⟩ := hSw; unfold PP at x0 x1 x2 x3 x4 x5; dsimp only at x0 x1 x2 x3 x4 x5; go_simp <;> (try with_reducible rfl))
    try simp only [Act.put, List.setIfInBounds_toArray, List.set_cons_zero, List.set_cons_succ]
    refine wpAnyH_ready (rs := [21]) (by kernel_rfl) (by simp) ?_
    refine (AllReadyH.cons rfl (fun K hK => ?_) AllReadyH.nil)
    go_simp
    (go_at_call 29; (with_reducible refine (kp 5 _).mono ?_); rintro e w30 ⟨rfl, hb30⟩)
    refine hK.out _ _ (⟨hHeld.1.below hb30 hHeld.1.room, bel_next hHeld.2 hb30⟩) (fun hHeld => ?_)
    clear hK K
    try simp only [Act.put, List.setIfInBounds_toArray, List.set_cons_zero, List.set_cons_succ]
    refine wpAnyH_take (i := 22) (oi := ?n22o) (v := ?n22v) ?n22h (by kernel_rfl) (by kernel_rfl) (by kernel_rfl) ?n22q ?n22y hHeld ?n22r
    case n22h => (simp only [List.getElem?_toArray, List.getElem?_cons_succ, List.getElem?_cons_zero]; rfl)
    case n22q => exact fun _ _ _ h => h
    case n22y => (refine Or.inl ⟨by first | kernel_rfl | rfl, ?_⟩; intro w hSw; (try dsimp only at hSw); obtain ⟨⟨x0, x1, x2, x3, x4, x5⟩, -⟩ := hSw; unfold PP at x0 x1 x2 x3 x4 x5; dsimp only at x0 x1 x2 x3 x4 x5; go_simp <;> (try with_reducible rfl))
    try simp only [Act.put, List.setIfInBounds_toArray, List.set_cons_zero, List.set_cons_succ]
    refine wpAnyH_take (i := 23) (oi := ?n23o) (v := ?n23v) ?n23h (by kernel_rfl) (by kernel_rfl) (by kernel_rfl) ?n23q ?n23y hHeld ?n23r
    case n23h => (simp only [List.getElem?_toArray, List.getElem?_cons_succ, List.getElem?_cons_zero]; rfl)
    case n23q => exact fun _ _ _ h => h
    case n23y => (refine Or.inl ⟨by first | kernel_rfl | rfl, ?_⟩; intro w hSw; (try dsimp only at hSw); obtain ⟨⟨x0, x1, x2, x3, x4, x5⟩, -⟩ := hSw; unfold PP at x0 x1 x2 x3 x4 x5; dsimp only at x0 x1 x2 x3 x4 x5; go_simp <;> (try with_reducible rfl))
    try simp only [Act.put, List.setIfInBounds_toArray, List.set_cons_zero, List.set_cons_succ]
    refine wpAnyH_take (i := 24) (oi := ?n24o) (v := ?n24v) ?n24h (by kernel_rfl) (by kernel_rfl) (by kernel_rfl) ?n24q ?n24y hHeld ?n24r
    case n24h => (simp only [List.getElem?_toArray, List.getElem?_cons_succ, List.getElem?_cons_zero]; rfl)
    case n24q => exact fun _ _ _ h => h
    case n24y => (refine Or.inl ⟨by first | kernel_rfl | rfl, ?_⟩; intro w hSw; (try dsimp only at hSw); obtain ⟨⟨x0, x1, x2, x3, x4, x5⟩, -⟩ := hSw; unfold PP at x0 x1 x2 x3 x4 x5; dsimp only at x0 x1 x2 x3 x4 x5; go_simp <;> (try with_reducible rfl))
    try simp only [Act.put, List.setIfInBounds_toArray, List.set_cons_zero, List.set_cons_succ]
    refine wpAnyH_done (by kernel_rfl) ?_ _
    have hbf := hHeld.2
    go_wp2
    go_ret
    exact ⟨rfl, hbf⟩
end Go.Proofs.Ytolmhlfegllfoaa.Qu.Hi
