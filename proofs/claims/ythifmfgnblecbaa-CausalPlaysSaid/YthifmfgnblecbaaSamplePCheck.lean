/- The contract of the program's Check of records. -/
import Derived.Test.YthifmfgnblecbaaSampleG
set_option maxRecDepth 20000
namespace Go.Proofs.Ythifmfgnblecbaa
open Go.RowKit Go.Proofs.Ythifmfgnblecbaa.Vi Go.Proofs.Ythifmfgnblecbaa.Mk

theorem Rec.err_no {r : Rec} (h : r.ok = false) : r.err = 1 := by unfold Rec.err; rw [h]; rfl
theorem Rec.err_yes {r : Rec} (h : r.ok = true) : r.err = 0 := by unfold Rec.err; rw [h]; rfl
theorem str0y {s : ByteArray} (c1 : s = ⟨#[]⟩) : (s.toList == []) = true := by rw [c1, ByteArray.toList_eq]; rfl
theorem str0 {s : ByteArray} (c1 : s ≠ ⟨#[]⟩) : (s.toList == []) = false := by
  apply Bool.eq_false_iff.2
  intro e
  have e := eq_of_beq e
  rw [ByteArray.toList_eq] at e
  exact c1 (ByteArray.ext (Array.toList_inj.1 e))

set_option maxHeartbeats 4000000 in
theorem pck_nokind (r : Rec) (dv : Value) (w : World) (h : Ns w dv r.d) (_hf : r.fits) (k1 : r.k ≠ 1) (k2 : r.k ≠ 2) : Calls Try.prog 38 #[recV r dv] w fun e w' => e = .returned (.int .i64 r.err) ∧ Below w.heap.size w w' := by
  have kk1 : (r.k == 1) = false := by simpa using k1
  have kk2 : (r.k == 2) = false := by simpa using k2
  have HE := Lib.hid (Rec.err_no (Rec.ok_none k1 k2))
  have H0 := RHeld.new (r := r) h
  have hat := H0.at_
  obtain ⟨x0, x1, x2, x3, x4, x5, x6, x7, x8⟩ := hat
  unfold recV
  clear k1 k2
  clear h _hf
  go_enter Try.func38, Try.ntmps38
  go_wp2_with (first
    | fail)
  go_ret
  exact ⟨by rw [HE.out]; rfl, H0.bel⟩

set_option maxHeartbeats 4000000 in
theorem pck_noname (r : Rec) (dv : Value) (w : World) (h : Ns w dv r.d) (hf : r.fits) (hk : r.k = 1) (hn : nameB r.s = false) : Calls Try.prog 38 #[recV r dv] w fun e w' => e = .returned (.int .i64 r.err) ∧ Below w.heap.size w w' := by
  have kk1 : (r.k == 1) = true := by simpa using hk
  have kn := fun w => name_is r.s _ w hf.s (Lib.hid rfl)
  rw [hn] at kn
  have HE := Lib.hid (Rec.err_no (r := r) (by rw [Rec.ok_sample hk, hn]; simp))
  have H0 := RHeld.new (r := r) h
  have hat := H0.at_
  obtain ⟨x0, x1, x2, x3, x4, x5, x6, x7, x8⟩ := hat
  unfold recV
  clear hk hn
  clear h hf
  go_enter Try.func38, Try.ntmps38
  go_wp2_with (first
    | (go_at_call 53; (with_reducible refine (kn _).mono ?_); rintro e w0 ⟨rfl, rfl⟩))
  go_ret
  exact ⟨by rw [HE.out]; rfl, H0.bel⟩

set_option maxHeartbeats 4000000 in
theorem pck_nozero (r : Rec) (dv : Value) (w : World) (h : Ns w dv r.d) (hf : r.fits) (hk : r.k = 1) (hn : nameB r.s = true) (ht : r.tier ≠ 0) : Calls Try.prog 38 #[recV r dv] w fun e w' => e = .returned (.int .i64 r.err) ∧ Below w.heap.size w w' := by
  have kk1 : (r.k == 1) = true := by simpa using hk
  have tt : (r.tier == 0) = false := by simpa using ht
  have kn := fun w => name_is r.s _ w hf.s (Lib.hid rfl)
  rw [hn] at kn
  have HE := Lib.hid (Rec.err_no (r := r) (by rw [Rec.ok_sample hk, decide_eq_false ht]; simp))
  have H0 := RHeld.new (r := r) h
  have hat := H0.at_
  obtain ⟨x0, x1, x2, x3, x4, x5, x6, x7, x8⟩ := hat
  unfold recV
  clear hk hn ht
  clear h hf
  go_enter Try.func38, Try.ntmps38
  go_wp2_with (first
    | (go_at_call 53; (with_reducible refine (kn _).mono ?_); rintro e w0 ⟨rfl, rfl⟩))
  go_ret
  exact ⟨by rw [HE.out]; rfl, H0.bel⟩

set_option maxHeartbeats 4000000 in
theorem pck_noempty (r : Rec) (dv : Value) (w : World) (h : Ns w dv r.d) (_hf : r.fits) (hk : r.k = 2) (c1 : r.s ≠ ⟨#[]⟩) : Calls Try.prog 38 #[recV r dv] w fun e w' => e = .returned (.int .i64 r.err) ∧ Below w.heap.size w w' := by
  have kk1 : (r.k == 1) = false := by simp; omega
  have kk2 : (r.k == 2) = true := by simpa using hk
  have hs := str0 c1
  have HE := Lib.hid (Rec.err_no (r := r) (by rw [Rec.ok_cut hk, decide_eq_false c1]; simp))
  have H0 := RHeld.new (r := r) h
  have hat := H0.at_
  obtain ⟨x0, x1, x2, x3, x4, x5, x6, x7, x8⟩ := hat
  unfold recV
  clear hk c1
  clear h _hf
  go_enter Try.func38, Try.ntmps38
  go_wp2_with (first
    | fail)
  go_ret
  exact ⟨by rw [HE.out]; rfl, H0.bel⟩

set_option maxHeartbeats 4000000 in
theorem pck_novalue (r : Rec) (dv : Value) (w : World) (h : Ns w dv r.d) (_hf : r.fits) (hk : r.k = 2) (c1 : r.s = ⟨#[]⟩) (c2 : r.v ≠ 0) : Calls Try.prog 38 #[recV r dv] w fun e w' => e = .returned (.int .i64 r.err) ∧ Below w.heap.size w w' := by
  have kk1 : (r.k == 1) = false := by simp; omega
  have kk2 : (r.k == 2) = true := by simpa using hk
  have hs := str0y c1
  have hv : (r.v == 0) = false := by simpa using c2
  have HE := Lib.hid (Rec.err_no (r := r) (by rw [Rec.ok_cut hk, decide_eq_false c2]; simp))
  have H0 := RHeld.new (r := r) h
  have hat := H0.at_
  obtain ⟨x0, x1, x2, x3, x4, x5, x6, x7, x8⟩ := hat
  unfold recV
  clear hk c1 c2
  clear h _hf
  go_enter Try.func38, Try.ntmps38
  go_wp2_with (first
    | fail)
  go_ret
  exact ⟨by rw [HE.out]; rfl, H0.bel⟩

set_option maxHeartbeats 4000000 in
theorem pck_nolow (r : Rec) (dv : Value) (w : World) (h : Ns w dv r.d) (_hf : r.fits) (hk : r.k = 2) (c1 : r.s = ⟨#[]⟩) (c2 : r.v = 0) (c3 : ¬ 0 ≤ r.tier) : Calls Try.prog 38 #[recV r dv] w fun e w' => e = .returned (.int .i64 r.err) ∧ Below w.heap.size w w' := by
  have kk1 : (r.k == 1) = false := by simp; omega
  have kk2 : (r.k == 2) = true := by simpa using hk
  have hs := str0y c1
  have hv : (r.v == 0) = true := by simpa using c2
  have HE := Lib.hid (Rec.err_no (r := r) (by rw [Rec.ok_cut hk, decide_eq_false (show ¬ (0 ≤ r.tier ∧ r.tier ≤ 3) by omega)]; simp))
  have H0 := RHeld.new (r := r) h
  have hat := H0.at_
  obtain ⟨x0, x1, x2, x3, x4, x5, x6, x7, x8⟩ := hat
  unfold recV
  clear hk c1 c2
  clear h _hf
  go_enter Try.func38, Try.ntmps38
  go_wp2_with (first
    | fail)
  go_ret
  exact ⟨by rw [HE.out]; rfl, H0.bel⟩

set_option maxHeartbeats 4000000 in
theorem pck_nohigh (r : Rec) (dv : Value) (w : World) (h : Ns w dv r.d) (_hf : r.fits) (hk : r.k = 2) (c1 : r.s = ⟨#[]⟩) (c2 : r.v = 0) (c3 : 0 ≤ r.tier) (c4 : ¬ r.tier ≤ 3) : Calls Try.prog 38 #[recV r dv] w fun e w' => e = .returned (.int .i64 r.err) ∧ Below w.heap.size w w' := by
  have kk1 : (r.k == 1) = false := by simp; omega
  have kk2 : (r.k == 2) = true := by simpa using hk
  have hs := str0y c1
  have hv : (r.v == 0) = true := by simpa using c2
  have HE := Lib.hid (Rec.err_no (r := r) (by rw [Rec.ok_cut hk, decide_eq_false (show ¬ (0 ≤ r.tier ∧ r.tier ≤ 3) by omega)]; simp))
  have H0 := RHeld.new (r := r) h
  have hat := H0.at_
  obtain ⟨x0, x1, x2, x3, x4, x5, x6, x7, x8⟩ := hat
  unfold recV
  clear hk c1 c2
  clear h _hf
  go_enter Try.func38, Try.ntmps38
  go_wp2_with (first
    | fail)
  go_ret
  exact ⟨by rw [HE.out]; rfl, H0.bel⟩

set_option maxHeartbeats 4000000 in
theorem pck_s_time (r : Rec) (dv : Value) (w : World) (h : Ns w dv r.d) (hf : r.fits) (hk : r.k = 1) (hn : nameB r.s = true) (ht : r.tier = 0) (h1 : decide (0 ≤ r.t ∧ r.t ≤ 1099511627776) = false) : Calls Try.prog 38 #[recV r dv] w fun e w' => e = .returned (.int .i64 r.err) ∧ Below w.heap.size w w' := by
  have kk1 : (r.k == 1) = true := by simpa using hk
  have tt : (r.tier == 0) = true := by simpa using ht
  have kn := fun w => name_is r.s _ w hf.s (Lib.hid rfl)
  rw [hn] at kn
  have kt := fun w => time_is r.t false w (Lib.hid h1)
  have HE := Lib.hid (Rec.err_head (Rec.head_time h1))
  have H0 := RHeld.new (r := r) h
  have hat := H0.at_
  obtain ⟨x0, x1, x2, x3, x4, x5, x6, x7, x8⟩ := hat
  unfold recV
  clear hk hn ht
  clear h1
  clear h hf
  go_enter Try.func38, Try.ntmps38
  go_wp2_with (first
    | (go_at_call 53; (with_reducible refine (kn _).mono ?_); rintro e w0 ⟨rfl, rfl⟩)
    | (go_at_call 54; (with_reducible refine (kt _).mono ?_); rintro e w0 ⟨rfl, rfl⟩))
  go_ret
  exact ⟨by rw [HE.out]; rfl, H0.bel⟩

set_option maxHeartbeats 4000000 in
theorem pck_s_st (r : Rec) (dv : Value) (w : World) (h : Ns w dv r.d) (hf : r.fits) (hk : r.k = 1) (hn : nameB r.s = true) (ht : r.tier = 0) (h1 : decide (0 ≤ r.t ∧ r.t ≤ 1099511627776) = true) (h3 : r.st.ok = false) : Calls Try.prog 38 #[recV r dv] w fun e w' => e = .returned (.int .i64 r.err) ∧ Below w.heap.size w w' := by
  have kk1 : (r.k == 1) = true := by simpa using hk
  have tt : (r.tier == 0) = true := by simpa using ht
  have kn := fun w => name_is r.s _ w hf.s (Lib.hid rfl)
  rw [hn] at kn
  have kt := fun w => time_is r.t true w (Lib.hid h1)
  have kc := fun w => checkV r.st 1 (Lib.hid (by rw [St.err_eq, h3]; rfl)) w
  have HE := Lib.hid (Rec.err_head (Rec.head_st h3))
  have H0 := RHeld.new (r := r) h
  have hat := H0.at_
  obtain ⟨x0, x1, x2, x3, x4, x5, x6, x7, x8⟩ := hat
  unfold recV
  clear hk hn ht
  clear h1 h3
  clear h hf
  go_enter Try.func38, Try.ntmps38
  go_wp2_with (first
    | (go_at_call 53; (with_reducible refine (kn _).mono ?_); rintro e w0 ⟨rfl, rfl⟩)
    | (go_at_call 54; (with_reducible refine (kt _).mono ?_); rintro e w0 ⟨rfl, rfl⟩)
    | (go_at_call 55; (with_reducible refine (kc _).mono ?_); rintro e w1 ⟨rfl, hb1⟩; have H1 := H0.keep hb1; have hat := H1.at_; obtain ⟨x0, x1, x2, x3, x4, x5, x6, x7, x8⟩ := hat))
  go_ret
  exact ⟨by rw [HE.out]; rfl, H1.bel⟩

set_option maxHeartbeats 4000000 in
theorem pck_s_deps (r : Rec) (dv : Value) (w : World) (h : Ns w dv r.d) (hf : r.fits) (hk : r.k = 1) (hn : nameB r.s = true) (ht : r.tier = 0) (h1 : decide (0 ≤ r.t ∧ r.t ≤ 1099511627776) = true) (h3 : r.st.ok = true) (h2 : sameL r.d (plainL r.d) = false) : Calls Try.prog 38 #[recV r dv] w fun e w' => e = .returned (.int .i64 r.err) ∧ Below w.heap.size w w' := by
  have kk1 : (r.k == 1) = true := by simpa using hk
  have tt : (r.tier == 0) = true := by simpa using ht
  have kn := fun w => name_is r.s _ w hf.s (Lib.hid rfl)
  rw [hn] at kn
  have kt := fun w => time_is r.t true w (Lib.hid h1)
  have kc := fun w => checkV r.st 0 (Lib.hid (by rw [St.err_eq, h3]; rfl)) w
  have kr := fun w h => rightN dv r.d w h
  rw [h2] at kr
  have HE := Lib.hid (Rec.err_head (Rec.head_deps h2))
  have H0 := RHeld.new (r := r) h
  have hat := H0.at_
  obtain ⟨x0, x1, x2, x3, x4, x5, x6, x7, x8⟩ := hat
  unfold recV
  clear hk hn ht
  clear h1 h2 h3
  clear h hf
  go_enter Try.func38, Try.ntmps38
  go_wp2_with (first
    | (go_at_call 53; (with_reducible refine (kn _).mono ?_); rintro e w0 ⟨rfl, rfl⟩)
    | (go_at_call 54; (with_reducible refine (kt _).mono ?_); rintro e w0 ⟨rfl, rfl⟩)
    | (go_at_call 55; (with_reducible refine (kc _).mono ?_); rintro e w1 ⟨rfl, hb1⟩; have H1 := H0.keep hb1; have hat := H1.at_; obtain ⟨x0, x1, x2, x3, x4, x5, x6, x7, x8⟩ := hat)
    | (go_at_call 56; (with_reducible refine (kr _ H1.ns).mono ?_); rintro e w2 ⟨rfl, hb2⟩; have H2 := H1.keep hb2; have hat := H2.at_; obtain ⟨x0, x1, x2, x3, x4, x5, x6, x7, x8⟩ := hat))
  go_ret
  exact ⟨by rw [HE.out]; rfl, H2.bel⟩

set_option maxHeartbeats 4000000 in
theorem pck_s_at (r : Rec) (dv : Value) (w : World) (h : Ns w dv r.d) (hf : r.fits) (hk : r.k = 1) (hn : nameB r.s = true) (ht : r.tier = 0) (h1 : decide (0 ≤ r.t ∧ r.t ≤ 1099511627776) = true) (h3 : r.st.ok = true) (h2 : sameL r.d (plainL r.d) = true) (h4 : atL r.d r.st.s ≠ r.st.q - 1) : Calls Try.prog 38 #[recV r dv] w fun e w' => e = .returned (.int .i64 r.err) ∧ Below w.heap.size w w' := by
  have kk1 : (r.k == 1) = true := by simpa using hk
  have tt : (r.tier == 0) = true := by simpa using ht
  have kn := fun w => name_is r.s _ w hf.s (Lib.hid rfl)
  rw [hn] at kn
  have kt := fun w => time_is r.t true w (Lib.hid h1)
  have kc := fun w => checkV r.st 0 (Lib.hid (by rw [St.err_eq, h3]; rfl)) w
  have kr := fun w h => rightN dv r.d w h
  rw [h2] at kr
  obtain ⟨q1, q2, q3, q4, q5, q6⟩ := St.ok_iff.1 h3
  have hwq : IntKind.i64.wrap (r.st.q - 1) = r.st.q - 1 := by rw [IntKind.wrap_i64]; omega
  have ka := fun w h => atN dv r.d r.st.s w h hf.ss
  have HE := Lib.hid (Rec.err_head (Rec.head_at h4))
  have hq : (atL r.d r.st.s == r.st.q - 1) = false := by simpa using h4
  have hqn : (atL r.d r.st.s != r.st.q - 1) = true := by simpa using h4
  generalize atL r.d r.st.s = aa at *
  have H0 := RHeld.new (r := r) h
  have hat := H0.at_
  obtain ⟨x0, x1, x2, x3, x4, x5, x6, x7, x8⟩ := hat
  unfold recV
  clear hk hn ht
  clear h1 h2 h3 h4
  clear h hf
  go_enter Try.func38, Try.ntmps38
  go_wp2_with (first
    | (go_at_call 53; (with_reducible refine (kn _).mono ?_); rintro e w0 ⟨rfl, rfl⟩)
    | (go_at_call 54; (with_reducible refine (kt _).mono ?_); rintro e w0 ⟨rfl, rfl⟩)
    | (go_at_call 55; (with_reducible refine (kc _).mono ?_); rintro e w1 ⟨rfl, hb1⟩; have H1 := H0.keep hb1; have hat := H1.at_; obtain ⟨x0, x1, x2, x3, x4, x5, x6, x7, x8⟩ := hat)
    | (go_at_call 56; (with_reducible refine (kr _ H1.ns).mono ?_); rintro e w2 ⟨rfl, hb2⟩; have H2 := H1.keep hb2; have hat := H2.at_; obtain ⟨x0, x1, x2, x3, x4, x5, x6, x7, x8⟩ := hat))
  refine wp_region_held_drew (S := (RHeld w w.heap.size r dv)) (by kernel_rfl) H2.drew (fun hHeld => ?_)
  refine wpAnyH_take (i := 0) (oi := ?opcksat1o) (v := ?opcksat1v) ?opcksat1h (by kernel_rfl) (by kernel_rfl) (by kernel_rfl) ?opcksat1q ?opcksat1y hHeld ?opcksat1r
  case opcksat1h => (simp only [List.getElem?_toArray, List.getElem?_cons_zero]; rfl)
  case opcksat1q => exact fun _ _ _ h => h
  case opcksat1y => (refine Or.inl ⟨by first | kernel_rfl | rfl, ?_⟩; intro w hSw; (try dsimp only at hSw); obtain ⟨⟨x0, x1, x2, x3, x4, x5, x6, x7, x8⟩, -, -⟩ := hSw; go_simp <;> (try with_reducible rfl))
  try simp only [Act.put, List.setIfInBounds_toArray, List.set_cons_zero, List.set_cons_succ]
  refine wpAnyH_take (i := 1) (oi := ?opcksat2o) (v := ?opcksat2v) ?opcksat2h (by kernel_rfl) (by kernel_rfl) (by kernel_rfl) ?opcksat2q ?opcksat2y hHeld ?opcksat2r
  case opcksat2h => (simp only [List.getElem?_toArray, List.getElem?_cons_succ, List.getElem?_cons_zero]; rfl)
  case opcksat2q => exact fun _ _ _ h => h
  case opcksat2y => (refine Or.inl ⟨by first | kernel_rfl | rfl, ?_⟩; intro w hSw; (try dsimp only at hSw); obtain ⟨⟨x0, x1, x2, x3, x4, x5, x6, x7, x8⟩, -, -⟩ := hSw; go_simp <;> (try with_reducible rfl))
  try simp only [Act.put, List.setIfInBounds_toArray, List.set_cons_zero, List.set_cons_succ]
  refine wpAnyH_take (i := 2) (oi := ?opcksat3o) (v := ?opcksat3v) ?opcksat3h (by kernel_rfl) (by kernel_rfl) (by kernel_rfl) ?opcksat3q ?opcksat3y hHeld ?opcksat3r
  case opcksat3h => (simp only [List.getElem?_toArray, List.getElem?_cons_succ, List.getElem?_cons_zero]; rfl)
  case opcksat3q => exact fun _ _ _ h => h
  case opcksat3y => (refine Or.inl ⟨by first | kernel_rfl | rfl, ?_⟩; intro w hSw; (try dsimp only at hSw); obtain ⟨⟨x0, x1, x2, x3, x4, x5, x6, x7, x8⟩, -, -⟩ := hSw; go_simp <;> (try with_reducible rfl))
  try simp only [Act.put, List.setIfInBounds_toArray, List.set_cons_zero, List.set_cons_succ]
  refine wpAnyH_take (i := 3) (oi := ?opcksat4o) (v := ?opcksat4v) ?opcksat4h (by kernel_rfl) (by kernel_rfl) (by kernel_rfl) ?opcksat4q ?opcksat4y hHeld ?opcksat4r
  case opcksat4h => (simp only [List.getElem?_toArray, List.getElem?_cons_succ, List.getElem?_cons_zero]; rfl)
  case opcksat4q => exact fun _ _ _ h => h
  case opcksat4y => (refine Or.inl ⟨by first | kernel_rfl | rfl, ?_⟩; intro w hSw; (try dsimp only at hSw); obtain ⟨⟨x0, x1, x2, x3, x4, x5, x6, x7, x8⟩, -, -⟩ := hSw; go_simp <;> (try with_reducible rfl))
  try simp only [Act.put, List.setIfInBounds_toArray, List.set_cons_zero, List.set_cons_succ]
  refine wpAnyH_take (i := 4) (oi := ?opcksat5o) (v := ?opcksat5v) ?opcksat5h (by kernel_rfl) (by kernel_rfl) (by kernel_rfl) ?opcksat5q ?opcksat5y hHeld ?opcksat5r
  case opcksat5h => (simp only [List.getElem?_toArray, List.getElem?_cons_succ, List.getElem?_cons_zero]; rfl)
  case opcksat5q => exact fun _ _ _ h => h
  case opcksat5y => (refine Or.inl ⟨by first | kernel_rfl | rfl, ?_⟩; intro w hSw; (try dsimp only at hSw); obtain ⟨⟨x0, x1, x2, x3, x4, x5, x6, x7, x8⟩, -, -⟩ := hSw; go_simp <;> (try with_reducible rfl))
  try simp only [Act.put, List.setIfInBounds_toArray, List.set_cons_zero, List.set_cons_succ]
  refine wpAnyH_take (i := 6) (oi := ?opcksat6o) (v := ?opcksat6v) ?opcksat6h (by kernel_rfl) (by kernel_rfl) (by kernel_rfl) ?opcksat6q ?opcksat6y hHeld ?opcksat6r
  case opcksat6h => (simp only [List.getElem?_toArray, List.getElem?_cons_succ, List.getElem?_cons_zero]; rfl)
  case opcksat6q => exact fun _ _ _ h => h
  case opcksat6y => (refine Or.inl ⟨by first | kernel_rfl | rfl, ?_⟩; intro w hSw; (try dsimp only at hSw); obtain ⟨⟨x0, x1, x2, x3, x4, x5, x6, x7, x8⟩, -, -⟩ := hSw; go_simp <;> (try with_reducible rfl))
  try simp only [Act.put, List.setIfInBounds_toArray, List.set_cons_zero, List.set_cons_succ]
  refine wpAnyH_take (i := 7) (oi := ?opcksat7o) (v := ?opcksat7v) ?opcksat7h (by kernel_rfl) (by kernel_rfl) (by kernel_rfl) ?opcksat7q ?opcksat7y hHeld ?opcksat7r
  case opcksat7h => (simp only [List.getElem?_toArray, List.getElem?_cons_succ, List.getElem?_cons_zero]; rfl)
  case opcksat7q => exact fun _ _ _ h => h
  case opcksat7y => (refine Or.inl ⟨by first | kernel_rfl | rfl, ?_⟩; intro w hSw; (try dsimp only at hSw); obtain ⟨⟨x0, x1, x2, x3, x4, x5, x6, x7, x8⟩, -, -⟩ := hSw; go_simp <;> (try with_reducible rfl))
  try simp only [Act.put, List.setIfInBounds_toArray, List.set_cons_zero, List.set_cons_succ]
  refine wpAnyH_take (i := 8) (oi := ?opcksat8o) (v := ?opcksat8v) ?opcksat8h (by kernel_rfl) (by kernel_rfl) (by kernel_rfl) ?opcksat8q ?opcksat8y hHeld ?opcksat8r
  case opcksat8h => (simp only [List.getElem?_toArray, List.getElem?_cons_succ, List.getElem?_cons_zero]; rfl)
  case opcksat8q => exact fun _ _ _ h => h
  case opcksat8y => (refine Or.inl ⟨by first | kernel_rfl | rfl, ?_⟩; intro w hSw; (try dsimp only at hSw); obtain ⟨⟨x0, x1, x2, x3, x4, x5, x6, x7, x8⟩, -, -⟩ := hSw; go_simp <;> (try with_reducible rfl))
  try simp only [Act.put, List.setIfInBounds_toArray, List.set_cons_zero, List.set_cons_succ]
  refine wpAnyH_take (i := 9) (oi := ?opcksat9o) (v := ?opcksat9v) ?opcksat9h (by kernel_rfl) (by kernel_rfl) (by kernel_rfl) ?opcksat9q ?opcksat9y hHeld ?opcksat9r
  case opcksat9h => (simp only [List.getElem?_toArray, List.getElem?_cons_succ, List.getElem?_cons_zero]; rfl)
  case opcksat9q => exact fun _ _ _ h => h
  case opcksat9y => (refine Or.inl ⟨by first | kernel_rfl | rfl, ?_⟩; intro w hSw; (try dsimp only at hSw); obtain ⟨⟨x0, x1, x2, x3, x4, x5, x6, x7, x8⟩, -, -⟩ := hSw; go_simp <;> (try with_reducible rfl))
  try simp only [Act.put, List.setIfInBounds_toArray, List.set_cons_zero, List.set_cons_succ]
  refine wpAnyH_ready (rs := [5]) (by kernel_rfl) (by simp) ?_
  refine (AllReadyH.cons rfl (fun K hK => ?_) AllReadyH.nil)
  go_simp
  ((with_reducible refine (ka _ hHeld.ns).mono ?_); rintro e w' ⟨rfl, rfl⟩)
  refine hK.out _ _ (hHeld) (fun hHeld => ?_)
  clear hK K
  try simp only [Act.put, List.setIfInBounds_toArray, List.set_cons_zero, List.set_cons_succ]
  refine wpAnyH_take (i := 10) (oi := ?opcksat10o) (v := ?opcksat10v) ?opcksat10h (by kernel_rfl) (by kernel_rfl) (by kernel_rfl) ?opcksat10q ?opcksat10y hHeld ?opcksat10r
  case opcksat10h => (simp only [List.getElem?_toArray, List.getElem?_cons_succ, List.getElem?_cons_zero]; rfl)
  case opcksat10q => exact fun _ _ _ h => h
  case opcksat10y => (refine Or.inl ⟨by first | kernel_rfl | rfl, ?_⟩; intro w hSw; (try dsimp only at hSw); obtain ⟨⟨x0, x1, x2, x3, x4, x5, x6, x7, x8⟩, -, -⟩ := hSw; go_simp <;> (try with_reducible rfl))
  try simp only [Act.put, List.setIfInBounds_toArray, List.set_cons_zero, List.set_cons_succ]
  refine wpAnyH_done (by kernel_rfl) ?_ _
  have hbel := hHeld.bel
  go_wp2
  go_ret
  exact ⟨by rw [HE.out]; rfl, hbel⟩

set_option maxHeartbeats 4000000 in
theorem pck_s_yes (r : Rec) (dv : Value) (w : World) (h : Ns w dv r.d) (hf : r.fits) (hk : r.k = 1) (hn : nameB r.s = true) (ht : r.tier = 0) (h1 : decide (0 ≤ r.t ∧ r.t ≤ 1099511627776) = true) (h3 : r.st.ok = true) (h2 : sameL r.d (plainL r.d) = true) (h4 : atL r.d r.st.s = r.st.q - 1) : Calls Try.prog 38 #[recV r dv] w fun e w' => e = .returned (.int .i64 r.err) ∧ Below w.heap.size w w' := by
  have kk1 : (r.k == 1) = true := by simpa using hk
  have tt : (r.tier == 0) = true := by simpa using ht
  have kn := fun w => name_is r.s _ w hf.s (Lib.hid rfl)
  rw [hn] at kn
  have kt := fun w => time_is r.t true w (Lib.hid h1)
  have kc := fun w => checkV r.st 0 (Lib.hid (by rw [St.err_eq, h3]; rfl)) w
  have kr := fun w h => rightN dv r.d w h
  rw [h2] at kr
  obtain ⟨q1, q2, q3, q4, q5, q6⟩ := St.ok_iff.1 h3
  have hwq : IntKind.i64.wrap (r.st.q - 1) = r.st.q - 1 := by rw [IntKind.wrap_i64]; omega
  have ka := fun w h => atN dv r.d r.st.s w h hf.ss
  have HE := Lib.hid (Rec.err_yes (r := r) (show r.ok = true from (by rw [Rec.ok_sample hk, hn, decide_eq_true ht]; rw [Rec.head_yes h1 h2 h3 h4]; simp)))
  rw [h4] at ka
  have hq : (r.st.q - 1 == r.st.q - 1) = true := by simp
  have hqn : (r.st.q - 1 != r.st.q - 1) = false := by simp
  have H0 := RHeld.new (r := r) h
  have hat := H0.at_
  obtain ⟨x0, x1, x2, x3, x4, x5, x6, x7, x8⟩ := hat
  unfold recV
  clear hk hn ht
  clear h1 h2 h3 h4
  clear h hf
  go_enter Try.func38, Try.ntmps38
  go_wp2_with (first
    | (go_at_call 53; (with_reducible refine (kn _).mono ?_); rintro e w0 ⟨rfl, rfl⟩)
    | (go_at_call 54; (with_reducible refine (kt _).mono ?_); rintro e w0 ⟨rfl, rfl⟩)
    | (go_at_call 55; (with_reducible refine (kc _).mono ?_); rintro e w1 ⟨rfl, hb1⟩; have H1 := H0.keep hb1; have hat := H1.at_; obtain ⟨x0, x1, x2, x3, x4, x5, x6, x7, x8⟩ := hat)
    | (go_at_call 56; (with_reducible refine (kr _ H1.ns).mono ?_); rintro e w2 ⟨rfl, hb2⟩; have H2 := H1.keep hb2; have hat := H2.at_; obtain ⟨x0, x1, x2, x3, x4, x5, x6, x7, x8⟩ := hat))
  refine wp_region_held_drew (S := (RHeld w w.heap.size r dv)) (by kernel_rfl) H2.drew (fun hHeld => ?_)
  refine wpAnyH_take (i := 0) (oi := ?opcksyes1o) (v := ?opcksyes1v) ?opcksyes1h (by kernel_rfl) (by kernel_rfl) (by kernel_rfl) ?opcksyes1q ?opcksyes1y hHeld ?opcksyes1r
  case opcksyes1h => (simp only [List.getElem?_toArray, List.getElem?_cons_zero]; rfl)
  case opcksyes1q => exact fun _ _ _ h => h
  case opcksyes1y => (refine Or.inl ⟨by first | kernel_rfl | rfl, ?_⟩; intro w hSw; (try dsimp only at hSw); obtain ⟨⟨x0, x1, x2, x3, x4, x5, x6, x7, x8⟩, -, -⟩ := hSw; go_simp <;> (try with_reducible rfl))
  try simp only [Act.put, List.setIfInBounds_toArray, List.set_cons_zero, List.set_cons_succ]
  refine wpAnyH_take (i := 1) (oi := ?opcksyes2o) (v := ?opcksyes2v) ?opcksyes2h (by kernel_rfl) (by kernel_rfl) (by kernel_rfl) ?opcksyes2q ?opcksyes2y hHeld ?opcksyes2r
  case opcksyes2h => (simp only [List.getElem?_toArray, List.getElem?_cons_succ, List.getElem?_cons_zero]; rfl)
  case opcksyes2q => exact fun _ _ _ h => h
  case opcksyes2y => (refine Or.inl ⟨by first | kernel_rfl | rfl, ?_⟩; intro w hSw; (try dsimp only at hSw); obtain ⟨⟨x0, x1, x2, x3, x4, x5, x6, x7, x8⟩, -, -⟩ := hSw; go_simp <;> (try with_reducible rfl))
  try simp only [Act.put, List.setIfInBounds_toArray, List.set_cons_zero, List.set_cons_succ]
  refine wpAnyH_take (i := 2) (oi := ?opcksyes3o) (v := ?opcksyes3v) ?opcksyes3h (by kernel_rfl) (by kernel_rfl) (by kernel_rfl) ?opcksyes3q ?opcksyes3y hHeld ?opcksyes3r
  case opcksyes3h => (simp only [List.getElem?_toArray, List.getElem?_cons_succ, List.getElem?_cons_zero]; rfl)
  case opcksyes3q => exact fun _ _ _ h => h
  case opcksyes3y => (refine Or.inl ⟨by first | kernel_rfl | rfl, ?_⟩; intro w hSw; (try dsimp only at hSw); obtain ⟨⟨x0, x1, x2, x3, x4, x5, x6, x7, x8⟩, -, -⟩ := hSw; go_simp <;> (try with_reducible rfl))
  try simp only [Act.put, List.setIfInBounds_toArray, List.set_cons_zero, List.set_cons_succ]
  refine wpAnyH_take (i := 3) (oi := ?opcksyes4o) (v := ?opcksyes4v) ?opcksyes4h (by kernel_rfl) (by kernel_rfl) (by kernel_rfl) ?opcksyes4q ?opcksyes4y hHeld ?opcksyes4r
  case opcksyes4h => (simp only [List.getElem?_toArray, List.getElem?_cons_succ, List.getElem?_cons_zero]; rfl)
  case opcksyes4q => exact fun _ _ _ h => h
  case opcksyes4y => (refine Or.inl ⟨by first | kernel_rfl | rfl, ?_⟩; intro w hSw; (try dsimp only at hSw); obtain ⟨⟨x0, x1, x2, x3, x4, x5, x6, x7, x8⟩, -, -⟩ := hSw; go_simp <;> (try with_reducible rfl))
  try simp only [Act.put, List.setIfInBounds_toArray, List.set_cons_zero, List.set_cons_succ]
  refine wpAnyH_take (i := 4) (oi := ?opcksyes5o) (v := ?opcksyes5v) ?opcksyes5h (by kernel_rfl) (by kernel_rfl) (by kernel_rfl) ?opcksyes5q ?opcksyes5y hHeld ?opcksyes5r
  case opcksyes5h => (simp only [List.getElem?_toArray, List.getElem?_cons_succ, List.getElem?_cons_zero]; rfl)
  case opcksyes5q => exact fun _ _ _ h => h
  case opcksyes5y => (refine Or.inl ⟨by first | kernel_rfl | rfl, ?_⟩; intro w hSw; (try dsimp only at hSw); obtain ⟨⟨x0, x1, x2, x3, x4, x5, x6, x7, x8⟩, -, -⟩ := hSw; go_simp <;> (try with_reducible rfl))
  try simp only [Act.put, List.setIfInBounds_toArray, List.set_cons_zero, List.set_cons_succ]
  refine wpAnyH_take (i := 6) (oi := ?opcksyes6o) (v := ?opcksyes6v) ?opcksyes6h (by kernel_rfl) (by kernel_rfl) (by kernel_rfl) ?opcksyes6q ?opcksyes6y hHeld ?opcksyes6r
  case opcksyes6h => (simp only [List.getElem?_toArray, List.getElem?_cons_succ, List.getElem?_cons_zero]; rfl)
  case opcksyes6q => exact fun _ _ _ h => h
  case opcksyes6y => (refine Or.inl ⟨by first | kernel_rfl | rfl, ?_⟩; intro w hSw; (try dsimp only at hSw); obtain ⟨⟨x0, x1, x2, x3, x4, x5, x6, x7, x8⟩, -, -⟩ := hSw; go_simp <;> (try with_reducible rfl))
  try simp only [Act.put, List.setIfInBounds_toArray, List.set_cons_zero, List.set_cons_succ]
  refine wpAnyH_take (i := 7) (oi := ?opcksyes7o) (v := ?opcksyes7v) ?opcksyes7h (by kernel_rfl) (by kernel_rfl) (by kernel_rfl) ?opcksyes7q ?opcksyes7y hHeld ?opcksyes7r
  case opcksyes7h => (simp only [List.getElem?_toArray, List.getElem?_cons_succ, List.getElem?_cons_zero]; rfl)
  case opcksyes7q => exact fun _ _ _ h => h
  case opcksyes7y => (refine Or.inl ⟨by first | kernel_rfl | rfl, ?_⟩; intro w hSw; (try dsimp only at hSw); obtain ⟨⟨x0, x1, x2, x3, x4, x5, x6, x7, x8⟩, -, -⟩ := hSw; go_simp <;> (try with_reducible rfl))
  try simp only [Act.put, List.setIfInBounds_toArray, List.set_cons_zero, List.set_cons_succ]
  refine wpAnyH_take (i := 8) (oi := ?opcksyes8o) (v := ?opcksyes8v) ?opcksyes8h (by kernel_rfl) (by kernel_rfl) (by kernel_rfl) ?opcksyes8q ?opcksyes8y hHeld ?opcksyes8r
  case opcksyes8h => (simp only [List.getElem?_toArray, List.getElem?_cons_succ, List.getElem?_cons_zero]; rfl)
  case opcksyes8q => exact fun _ _ _ h => h
  case opcksyes8y => (refine Or.inl ⟨by first | kernel_rfl | rfl, ?_⟩; intro w hSw; (try dsimp only at hSw); obtain ⟨⟨x0, x1, x2, x3, x4, x5, x6, x7, x8⟩, -, -⟩ := hSw; go_simp <;> (try with_reducible rfl))
  try simp only [Act.put, List.setIfInBounds_toArray, List.set_cons_zero, List.set_cons_succ]
  refine wpAnyH_take (i := 9) (oi := ?opcksyes9o) (v := ?opcksyes9v) ?opcksyes9h (by kernel_rfl) (by kernel_rfl) (by kernel_rfl) ?opcksyes9q ?opcksyes9y hHeld ?opcksyes9r
  case opcksyes9h => (simp only [List.getElem?_toArray, List.getElem?_cons_succ, List.getElem?_cons_zero]; rfl)
  case opcksyes9q => exact fun _ _ _ h => h
  case opcksyes9y => (refine Or.inl ⟨by first | kernel_rfl | rfl, ?_⟩; intro w hSw; (try dsimp only at hSw); obtain ⟨⟨x0, x1, x2, x3, x4, x5, x6, x7, x8⟩, -, -⟩ := hSw; go_simp <;> (try with_reducible rfl))
  try simp only [Act.put, List.setIfInBounds_toArray, List.set_cons_zero, List.set_cons_succ]
  refine wpAnyH_ready (rs := [5]) (by kernel_rfl) (by simp) ?_
  refine (AllReadyH.cons rfl (fun K hK => ?_) AllReadyH.nil)
  go_simp
  ((with_reducible refine (ka _ hHeld.ns).mono ?_); rintro e w' ⟨rfl, rfl⟩)
  refine hK.out _ _ (hHeld) (fun hHeld => ?_)
  clear hK K
  try simp only [Act.put, List.setIfInBounds_toArray, List.set_cons_zero, List.set_cons_succ]
  refine wpAnyH_take (i := 10) (oi := ?opcksyes10o) (v := ?opcksyes10v) ?opcksyes10h (by kernel_rfl) (by kernel_rfl) (by kernel_rfl) ?opcksyes10q ?opcksyes10y hHeld ?opcksyes10r
  case opcksyes10h => (simp only [List.getElem?_toArray, List.getElem?_cons_succ, List.getElem?_cons_zero]; rfl)
  case opcksyes10q => exact fun _ _ _ h => h
  case opcksyes10y => (refine Or.inl ⟨by first | kernel_rfl | rfl, ?_⟩; intro w hSw; (try dsimp only at hSw); obtain ⟨⟨x0, x1, x2, x3, x4, x5, x6, x7, x8⟩, -, -⟩ := hSw; go_simp <;> (try with_reducible rfl))
  try simp only [Act.put, List.setIfInBounds_toArray, List.set_cons_zero, List.set_cons_succ]
  refine wpAnyH_done (by kernel_rfl) ?_ _
  have hbel := hHeld.bel
  go_wp2
  go_ret
  exact ⟨by rw [HE.out]; rfl, hbel⟩

set_option maxHeartbeats 4000000 in
theorem pck_c_time (r : Rec) (dv : Value) (w : World) (h : Ns w dv r.d) (_hf : r.fits) (hk : r.k = 2) (c1 : r.s = ⟨#[]⟩) (c2 : r.v = 0) (c3 : 0 ≤ r.tier) (c4 : r.tier ≤ 3) (h1 : decide (0 ≤ r.t ∧ r.t ≤ 1099511627776) = false) : Calls Try.prog 38 #[recV r dv] w fun e w' => e = .returned (.int .i64 r.err) ∧ Below w.heap.size w w' := by
  have kk1 : (r.k == 1) = false := by simp; omega
  have kk2 : (r.k == 2) = true := by simpa using hk
  have hs := str0y c1
  have hv : (r.v == 0) = true := by simpa using c2
  have kt := fun w => time_is r.t false w (Lib.hid h1)
  have HE := Lib.hid (Rec.err_head (Rec.head_time h1))
  have H0 := RHeld.new (r := r) h
  have hat := H0.at_
  obtain ⟨x0, x1, x2, x3, x4, x5, x6, x7, x8⟩ := hat
  unfold recV
  clear hk c1 c2
  clear h1
  clear h _hf
  go_enter Try.func38, Try.ntmps38
  go_wp2_with (first
    | (go_at_call 54; (with_reducible refine (kt _).mono ?_); rintro e w0 ⟨rfl, rfl⟩))
  go_ret
  exact ⟨by rw [HE.out]; rfl, H0.bel⟩

set_option maxHeartbeats 4000000 in
theorem pck_c_st (r : Rec) (dv : Value) (w : World) (h : Ns w dv r.d) (_hf : r.fits) (hk : r.k = 2) (c1 : r.s = ⟨#[]⟩) (c2 : r.v = 0) (c3 : 0 ≤ r.tier) (c4 : r.tier ≤ 3) (h1 : decide (0 ≤ r.t ∧ r.t ≤ 1099511627776) = true) (h3 : r.st.ok = false) : Calls Try.prog 38 #[recV r dv] w fun e w' => e = .returned (.int .i64 r.err) ∧ Below w.heap.size w w' := by
  have kk1 : (r.k == 1) = false := by simp; omega
  have kk2 : (r.k == 2) = true := by simpa using hk
  have hs := str0y c1
  have hv : (r.v == 0) = true := by simpa using c2
  have kt := fun w => time_is r.t true w (Lib.hid h1)
  have kc := fun w => checkV r.st 1 (Lib.hid (by rw [St.err_eq, h3]; rfl)) w
  have HE := Lib.hid (Rec.err_head (Rec.head_st h3))
  have H0 := RHeld.new (r := r) h
  have hat := H0.at_
  obtain ⟨x0, x1, x2, x3, x4, x5, x6, x7, x8⟩ := hat
  unfold recV
  clear hk c1 c2
  clear h1 h3
  clear h _hf
  go_enter Try.func38, Try.ntmps38
  go_wp2_with (first
    | (go_at_call 54; (with_reducible refine (kt _).mono ?_); rintro e w0 ⟨rfl, rfl⟩)
    | (go_at_call 55; (with_reducible refine (kc _).mono ?_); rintro e w1 ⟨rfl, hb1⟩; have H1 := H0.keep hb1; have hat := H1.at_; obtain ⟨x0, x1, x2, x3, x4, x5, x6, x7, x8⟩ := hat))
  go_ret
  exact ⟨by rw [HE.out]; rfl, H1.bel⟩

set_option maxHeartbeats 4000000 in
theorem pck_c_deps (r : Rec) (dv : Value) (w : World) (h : Ns w dv r.d) (_hf : r.fits) (hk : r.k = 2) (c1 : r.s = ⟨#[]⟩) (c2 : r.v = 0) (c3 : 0 ≤ r.tier) (c4 : r.tier ≤ 3) (h1 : decide (0 ≤ r.t ∧ r.t ≤ 1099511627776) = true) (h3 : r.st.ok = true) (h2 : sameL r.d (plainL r.d) = false) : Calls Try.prog 38 #[recV r dv] w fun e w' => e = .returned (.int .i64 r.err) ∧ Below w.heap.size w w' := by
  have kk1 : (r.k == 1) = false := by simp; omega
  have kk2 : (r.k == 2) = true := by simpa using hk
  have hs := str0y c1
  have hv : (r.v == 0) = true := by simpa using c2
  have kt := fun w => time_is r.t true w (Lib.hid h1)
  have kc := fun w => checkV r.st 0 (Lib.hid (by rw [St.err_eq, h3]; rfl)) w
  have kr := fun w h => rightN dv r.d w h
  rw [h2] at kr
  have HE := Lib.hid (Rec.err_head (Rec.head_deps h2))
  have H0 := RHeld.new (r := r) h
  have hat := H0.at_
  obtain ⟨x0, x1, x2, x3, x4, x5, x6, x7, x8⟩ := hat
  unfold recV
  clear hk c1 c2
  clear h1 h2 h3
  clear h _hf
  go_enter Try.func38, Try.ntmps38
  go_wp2_with (first
    | (go_at_call 54; (with_reducible refine (kt _).mono ?_); rintro e w0 ⟨rfl, rfl⟩)
    | (go_at_call 55; (with_reducible refine (kc _).mono ?_); rintro e w1 ⟨rfl, hb1⟩; have H1 := H0.keep hb1; have hat := H1.at_; obtain ⟨x0, x1, x2, x3, x4, x5, x6, x7, x8⟩ := hat)
    | (go_at_call 56; (with_reducible refine (kr _ H1.ns).mono ?_); rintro e w2 ⟨rfl, hb2⟩; have H2 := H1.keep hb2; have hat := H2.at_; obtain ⟨x0, x1, x2, x3, x4, x5, x6, x7, x8⟩ := hat))
  go_ret
  exact ⟨by rw [HE.out]; rfl, H2.bel⟩

set_option maxHeartbeats 4000000 in
theorem pck_c_at (r : Rec) (dv : Value) (w : World) (h : Ns w dv r.d) (hf : r.fits) (hk : r.k = 2) (c1 : r.s = ⟨#[]⟩) (c2 : r.v = 0) (c3 : 0 ≤ r.tier) (c4 : r.tier ≤ 3) (h1 : decide (0 ≤ r.t ∧ r.t ≤ 1099511627776) = true) (h3 : r.st.ok = true) (h2 : sameL r.d (plainL r.d) = true) (h4 : atL r.d r.st.s ≠ r.st.q - 1) : Calls Try.prog 38 #[recV r dv] w fun e w' => e = .returned (.int .i64 r.err) ∧ Below w.heap.size w w' := by
  have kk1 : (r.k == 1) = false := by simp; omega
  have kk2 : (r.k == 2) = true := by simpa using hk
  have hs := str0y c1
  have hv : (r.v == 0) = true := by simpa using c2
  have kt := fun w => time_is r.t true w (Lib.hid h1)
  have kc := fun w => checkV r.st 0 (Lib.hid (by rw [St.err_eq, h3]; rfl)) w
  have kr := fun w h => rightN dv r.d w h
  rw [h2] at kr
  obtain ⟨q1, q2, q3, q4, q5, q6⟩ := St.ok_iff.1 h3
  have hwq : IntKind.i64.wrap (r.st.q - 1) = r.st.q - 1 := by rw [IntKind.wrap_i64]; omega
  have ka := fun w h => atN dv r.d r.st.s w h hf.ss
  have HE := Lib.hid (Rec.err_head (Rec.head_at h4))
  have hq : (atL r.d r.st.s == r.st.q - 1) = false := by simpa using h4
  have hqn : (atL r.d r.st.s != r.st.q - 1) = true := by simpa using h4
  generalize atL r.d r.st.s = aa at *
  have H0 := RHeld.new (r := r) h
  have hat := H0.at_
  obtain ⟨x0, x1, x2, x3, x4, x5, x6, x7, x8⟩ := hat
  unfold recV
  clear hk c1 c2
  clear h1 h2 h3 h4
  clear h hf
  go_enter Try.func38, Try.ntmps38
  go_wp2_with (first
    | (go_at_call 54; (with_reducible refine (kt _).mono ?_); rintro e w0 ⟨rfl, rfl⟩)
    | (go_at_call 55; (with_reducible refine (kc _).mono ?_); rintro e w1 ⟨rfl, hb1⟩; have H1 := H0.keep hb1; have hat := H1.at_; obtain ⟨x0, x1, x2, x3, x4, x5, x6, x7, x8⟩ := hat)
    | (go_at_call 56; (with_reducible refine (kr _ H1.ns).mono ?_); rintro e w2 ⟨rfl, hb2⟩; have H2 := H1.keep hb2; have hat := H2.at_; obtain ⟨x0, x1, x2, x3, x4, x5, x6, x7, x8⟩ := hat))
  refine wp_region_held_drew (S := (RHeld w w.heap.size r dv)) (by kernel_rfl) H2.drew (fun hHeld => ?_)
  refine wpAnyH_take (i := 0) (oi := ?opckcat1o) (v := ?opckcat1v) ?opckcat1h (by kernel_rfl) (by kernel_rfl) (by kernel_rfl) ?opckcat1q ?opckcat1y hHeld ?opckcat1r
  case opckcat1h => (simp only [List.getElem?_toArray, List.getElem?_cons_zero]; rfl)
  case opckcat1q => exact fun _ _ _ h => h
  case opckcat1y => (refine Or.inl ⟨by first | kernel_rfl | rfl, ?_⟩; intro w hSw; (try dsimp only at hSw); obtain ⟨⟨x0, x1, x2, x3, x4, x5, x6, x7, x8⟩, -, -⟩ := hSw; go_simp <;> (try with_reducible rfl))
  try simp only [Act.put, List.setIfInBounds_toArray, List.set_cons_zero, List.set_cons_succ]
  refine wpAnyH_take (i := 1) (oi := ?opckcat2o) (v := ?opckcat2v) ?opckcat2h (by kernel_rfl) (by kernel_rfl) (by kernel_rfl) ?opckcat2q ?opckcat2y hHeld ?opckcat2r
  case opckcat2h => (simp only [List.getElem?_toArray, List.getElem?_cons_succ, List.getElem?_cons_zero]; rfl)
  case opckcat2q => exact fun _ _ _ h => h
  case opckcat2y => (refine Or.inl ⟨by first | kernel_rfl | rfl, ?_⟩; intro w hSw; (try dsimp only at hSw); obtain ⟨⟨x0, x1, x2, x3, x4, x5, x6, x7, x8⟩, -, -⟩ := hSw; go_simp <;> (try with_reducible rfl))
  try simp only [Act.put, List.setIfInBounds_toArray, List.set_cons_zero, List.set_cons_succ]
  refine wpAnyH_take (i := 2) (oi := ?opckcat3o) (v := ?opckcat3v) ?opckcat3h (by kernel_rfl) (by kernel_rfl) (by kernel_rfl) ?opckcat3q ?opckcat3y hHeld ?opckcat3r
  case opckcat3h => (simp only [List.getElem?_toArray, List.getElem?_cons_succ, List.getElem?_cons_zero]; rfl)
  case opckcat3q => exact fun _ _ _ h => h
  case opckcat3y => (refine Or.inl ⟨by first | kernel_rfl | rfl, ?_⟩; intro w hSw; (try dsimp only at hSw); obtain ⟨⟨x0, x1, x2, x3, x4, x5, x6, x7, x8⟩, -, -⟩ := hSw; go_simp <;> (try with_reducible rfl))
  try simp only [Act.put, List.setIfInBounds_toArray, List.set_cons_zero, List.set_cons_succ]
  refine wpAnyH_take (i := 3) (oi := ?opckcat4o) (v := ?opckcat4v) ?opckcat4h (by kernel_rfl) (by kernel_rfl) (by kernel_rfl) ?opckcat4q ?opckcat4y hHeld ?opckcat4r
  case opckcat4h => (simp only [List.getElem?_toArray, List.getElem?_cons_succ, List.getElem?_cons_zero]; rfl)
  case opckcat4q => exact fun _ _ _ h => h
  case opckcat4y => (refine Or.inl ⟨by first | kernel_rfl | rfl, ?_⟩; intro w hSw; (try dsimp only at hSw); obtain ⟨⟨x0, x1, x2, x3, x4, x5, x6, x7, x8⟩, -, -⟩ := hSw; go_simp <;> (try with_reducible rfl))
  try simp only [Act.put, List.setIfInBounds_toArray, List.set_cons_zero, List.set_cons_succ]
  refine wpAnyH_take (i := 4) (oi := ?opckcat5o) (v := ?opckcat5v) ?opckcat5h (by kernel_rfl) (by kernel_rfl) (by kernel_rfl) ?opckcat5q ?opckcat5y hHeld ?opckcat5r
  case opckcat5h => (simp only [List.getElem?_toArray, List.getElem?_cons_succ, List.getElem?_cons_zero]; rfl)
  case opckcat5q => exact fun _ _ _ h => h
  case opckcat5y => (refine Or.inl ⟨by first | kernel_rfl | rfl, ?_⟩; intro w hSw; (try dsimp only at hSw); obtain ⟨⟨x0, x1, x2, x3, x4, x5, x6, x7, x8⟩, -, -⟩ := hSw; go_simp <;> (try with_reducible rfl))
  try simp only [Act.put, List.setIfInBounds_toArray, List.set_cons_zero, List.set_cons_succ]
  refine wpAnyH_take (i := 6) (oi := ?opckcat6o) (v := ?opckcat6v) ?opckcat6h (by kernel_rfl) (by kernel_rfl) (by kernel_rfl) ?opckcat6q ?opckcat6y hHeld ?opckcat6r
  case opckcat6h => (simp only [List.getElem?_toArray, List.getElem?_cons_succ, List.getElem?_cons_zero]; rfl)
  case opckcat6q => exact fun _ _ _ h => h
  case opckcat6y => (refine Or.inl ⟨by first | kernel_rfl | rfl, ?_⟩; intro w hSw; (try dsimp only at hSw); obtain ⟨⟨x0, x1, x2, x3, x4, x5, x6, x7, x8⟩, -, -⟩ := hSw; go_simp <;> (try with_reducible rfl))
  try simp only [Act.put, List.setIfInBounds_toArray, List.set_cons_zero, List.set_cons_succ]
  refine wpAnyH_take (i := 7) (oi := ?opckcat7o) (v := ?opckcat7v) ?opckcat7h (by kernel_rfl) (by kernel_rfl) (by kernel_rfl) ?opckcat7q ?opckcat7y hHeld ?opckcat7r
  case opckcat7h => (simp only [List.getElem?_toArray, List.getElem?_cons_succ, List.getElem?_cons_zero]; rfl)
  case opckcat7q => exact fun _ _ _ h => h
  case opckcat7y => (refine Or.inl ⟨by first | kernel_rfl | rfl, ?_⟩; intro w hSw; (try dsimp only at hSw); obtain ⟨⟨x0, x1, x2, x3, x4, x5, x6, x7, x8⟩, -, -⟩ := hSw; go_simp <;> (try with_reducible rfl))
  try simp only [Act.put, List.setIfInBounds_toArray, List.set_cons_zero, List.set_cons_succ]
  refine wpAnyH_take (i := 8) (oi := ?opckcat8o) (v := ?opckcat8v) ?opckcat8h (by kernel_rfl) (by kernel_rfl) (by kernel_rfl) ?opckcat8q ?opckcat8y hHeld ?opckcat8r
  case opckcat8h => (simp only [List.getElem?_toArray, List.getElem?_cons_succ, List.getElem?_cons_zero]; rfl)
  case opckcat8q => exact fun _ _ _ h => h
  case opckcat8y => (refine Or.inl ⟨by first | kernel_rfl | rfl, ?_⟩; intro w hSw; (try dsimp only at hSw); obtain ⟨⟨x0, x1, x2, x3, x4, x5, x6, x7, x8⟩, -, -⟩ := hSw; go_simp <;> (try with_reducible rfl))
  try simp only [Act.put, List.setIfInBounds_toArray, List.set_cons_zero, List.set_cons_succ]
  refine wpAnyH_take (i := 9) (oi := ?opckcat9o) (v := ?opckcat9v) ?opckcat9h (by kernel_rfl) (by kernel_rfl) (by kernel_rfl) ?opckcat9q ?opckcat9y hHeld ?opckcat9r
  case opckcat9h => (simp only [List.getElem?_toArray, List.getElem?_cons_succ, List.getElem?_cons_zero]; rfl)
  case opckcat9q => exact fun _ _ _ h => h
  case opckcat9y => (refine Or.inl ⟨by first | kernel_rfl | rfl, ?_⟩; intro w hSw; (try dsimp only at hSw); obtain ⟨⟨x0, x1, x2, x3, x4, x5, x6, x7, x8⟩, -, -⟩ := hSw; go_simp <;> (try with_reducible rfl))
  try simp only [Act.put, List.setIfInBounds_toArray, List.set_cons_zero, List.set_cons_succ]
  refine wpAnyH_ready (rs := [5]) (by kernel_rfl) (by simp) ?_
  refine (AllReadyH.cons rfl (fun K hK => ?_) AllReadyH.nil)
  go_simp
  ((with_reducible refine (ka _ hHeld.ns).mono ?_); rintro e w' ⟨rfl, rfl⟩)
  refine hK.out _ _ (hHeld) (fun hHeld => ?_)
  clear hK K
  try simp only [Act.put, List.setIfInBounds_toArray, List.set_cons_zero, List.set_cons_succ]
  refine wpAnyH_take (i := 10) (oi := ?opckcat10o) (v := ?opckcat10v) ?opckcat10h (by kernel_rfl) (by kernel_rfl) (by kernel_rfl) ?opckcat10q ?opckcat10y hHeld ?opckcat10r
  case opckcat10h => (simp only [List.getElem?_toArray, List.getElem?_cons_succ, List.getElem?_cons_zero]; rfl)
  case opckcat10q => exact fun _ _ _ h => h
  case opckcat10y => (refine Or.inl ⟨by first | kernel_rfl | rfl, ?_⟩; intro w hSw; (try dsimp only at hSw); obtain ⟨⟨x0, x1, x2, x3, x4, x5, x6, x7, x8⟩, -, -⟩ := hSw; go_simp <;> (try with_reducible rfl))
  try simp only [Act.put, List.setIfInBounds_toArray, List.set_cons_zero, List.set_cons_succ]
  refine wpAnyH_done (by kernel_rfl) ?_ _
  have hbel := hHeld.bel
  go_wp2
  go_ret
  exact ⟨by rw [HE.out]; rfl, hbel⟩

set_option maxHeartbeats 4000000 in
theorem pck_c_yes (r : Rec) (dv : Value) (w : World) (h : Ns w dv r.d) (hf : r.fits) (hk : r.k = 2) (c1 : r.s = ⟨#[]⟩) (c2 : r.v = 0) (c3 : 0 ≤ r.tier) (c4 : r.tier ≤ 3) (h1 : decide (0 ≤ r.t ∧ r.t ≤ 1099511627776) = true) (h3 : r.st.ok = true) (h2 : sameL r.d (plainL r.d) = true) (h4 : atL r.d r.st.s = r.st.q - 1) : Calls Try.prog 38 #[recV r dv] w fun e w' => e = .returned (.int .i64 r.err) ∧ Below w.heap.size w w' := by
  have kk1 : (r.k == 1) = false := by simp; omega
  have kk2 : (r.k == 2) = true := by simpa using hk
  have hs := str0y c1
  have hv : (r.v == 0) = true := by simpa using c2
  have kt := fun w => time_is r.t true w (Lib.hid h1)
  have kc := fun w => checkV r.st 0 (Lib.hid (by rw [St.err_eq, h3]; rfl)) w
  have kr := fun w h => rightN dv r.d w h
  rw [h2] at kr
  obtain ⟨q1, q2, q3, q4, q5, q6⟩ := St.ok_iff.1 h3
  have hwq : IntKind.i64.wrap (r.st.q - 1) = r.st.q - 1 := by rw [IntKind.wrap_i64]; omega
  have ka := fun w h => atN dv r.d r.st.s w h hf.ss
  have HE := Lib.hid (Rec.err_yes (r := r) (show r.ok = true from (by rw [Rec.ok_cut hk, decide_eq_true c2, decide_eq_true c1, decide_eq_true ⟨c3, c4⟩]; rw [Rec.head_yes h1 h2 h3 h4]; simp)))
  rw [h4] at ka
  have hq : (r.st.q - 1 == r.st.q - 1) = true := by simp
  have hqn : (r.st.q - 1 != r.st.q - 1) = false := by simp
  have H0 := RHeld.new (r := r) h
  have hat := H0.at_
  obtain ⟨x0, x1, x2, x3, x4, x5, x6, x7, x8⟩ := hat
  unfold recV
  clear hk c1 c2
  clear h1 h2 h3 h4
  clear h hf
  go_enter Try.func38, Try.ntmps38
  go_wp2_with (first
    | (go_at_call 54; (with_reducible refine (kt _).mono ?_); rintro e w0 ⟨rfl, rfl⟩)
    | (go_at_call 55; (with_reducible refine (kc _).mono ?_); rintro e w1 ⟨rfl, hb1⟩; have H1 := H0.keep hb1; have hat := H1.at_; obtain ⟨x0, x1, x2, x3, x4, x5, x6, x7, x8⟩ := hat)
    | (go_at_call 56; (with_reducible refine (kr _ H1.ns).mono ?_); rintro e w2 ⟨rfl, hb2⟩; have H2 := H1.keep hb2; have hat := H2.at_; obtain ⟨x0, x1, x2, x3, x4, x5, x6, x7, x8⟩ := hat))
  refine wp_region_held_drew (S := (RHeld w w.heap.size r dv)) (by kernel_rfl) H2.drew (fun hHeld => ?_)
  refine wpAnyH_take (i := 0) (oi := ?opckcyes1o) (v := ?opckcyes1v) ?opckcyes1h (by kernel_rfl) (by kernel_rfl) (by kernel_rfl) ?opckcyes1q ?opckcyes1y hHeld ?opckcyes1r
  case opckcyes1h => (simp only [List.getElem?_toArray, List.getElem?_cons_zero]; rfl)
  case opckcyes1q => exact fun _ _ _ h => h
  case opckcyes1y => (refine Or.inl ⟨by first | kernel_rfl | rfl, ?_⟩; intro w hSw; (try dsimp only at hSw); obtain ⟨⟨x0, x1, x2, x3, x4, x5, x6, x7, x8⟩, -, -⟩ := hSw; go_simp <;> (try with_reducible rfl))
  try simp only [Act.put, List.setIfInBounds_toArray, List.set_cons_zero, List.set_cons_succ]
  refine wpAnyH_take (i := 1) (oi := ?opckcyes2o) (v := ?opckcyes2v) ?opckcyes2h (by kernel_rfl) (by kernel_rfl) (by kernel_rfl) ?opckcyes2q ?opckcyes2y hHeld ?opckcyes2r
  case opckcyes2h => (simp only [List.getElem?_toArray, List.getElem?_cons_succ, List.getElem?_cons_zero]; rfl)
  case opckcyes2q => exact fun _ _ _ h => h
  case opckcyes2y => (refine Or.inl ⟨by first | kernel_rfl | rfl, ?_⟩; intro w hSw; (try dsimp only at hSw); obtain ⟨⟨x0, x1, x2, x3, x4, x5, x6, x7, x8⟩, -, -⟩ := hSw; go_simp <;> (try with_reducible rfl))
  try simp only [Act.put, List.setIfInBounds_toArray, List.set_cons_zero, List.set_cons_succ]
  refine wpAnyH_take (i := 2) (oi := ?opckcyes3o) (v := ?opckcyes3v) ?opckcyes3h (by kernel_rfl) (by kernel_rfl) (by kernel_rfl) ?opckcyes3q ?opckcyes3y hHeld ?opckcyes3r
  case opckcyes3h => (simp only [List.getElem?_toArray, List.getElem?_cons_succ, List.getElem?_cons_zero]; rfl)
  case opckcyes3q => exact fun _ _ _ h => h
  case opckcyes3y => (refine Or.inl ⟨by first | kernel_rfl | rfl, ?_⟩; intro w hSw; (try dsimp only at hSw); obtain ⟨⟨x0, x1, x2, x3, x4, x5, x6, x7, x8⟩, -, -⟩ := hSw; go_simp <;> (try with_reducible rfl))
  try simp only [Act.put, List.setIfInBounds_toArray, List.set_cons_zero, List.set_cons_succ]
  refine wpAnyH_take (i := 3) (oi := ?opckcyes4o) (v := ?opckcyes4v) ?opckcyes4h (by kernel_rfl) (by kernel_rfl) (by kernel_rfl) ?opckcyes4q ?opckcyes4y hHeld ?opckcyes4r
  case opckcyes4h => (simp only [List.getElem?_toArray, List.getElem?_cons_succ, List.getElem?_cons_zero]; rfl)
  case opckcyes4q => exact fun _ _ _ h => h
  case opckcyes4y => (refine Or.inl ⟨by first | kernel_rfl | rfl, ?_⟩; intro w hSw; (try dsimp only at hSw); obtain ⟨⟨x0, x1, x2, x3, x4, x5, x6, x7, x8⟩, -, -⟩ := hSw; go_simp <;> (try with_reducible rfl))
  try simp only [Act.put, List.setIfInBounds_toArray, List.set_cons_zero, List.set_cons_succ]
  refine wpAnyH_take (i := 4) (oi := ?opckcyes5o) (v := ?opckcyes5v) ?opckcyes5h (by kernel_rfl) (by kernel_rfl) (by kernel_rfl) ?opckcyes5q ?opckcyes5y hHeld ?opckcyes5r
  case opckcyes5h => (simp only [List.getElem?_toArray, List.getElem?_cons_succ, List.getElem?_cons_zero]; rfl)
  case opckcyes5q => exact fun _ _ _ h => h
  case opckcyes5y => (refine Or.inl ⟨by first | kernel_rfl | rfl, ?_⟩; intro w hSw; (try dsimp only at hSw); obtain ⟨⟨x0, x1, x2, x3, x4, x5, x6, x7, x8⟩, -, -⟩ := hSw; go_simp <;> (try with_reducible rfl))
  try simp only [Act.put, List.setIfInBounds_toArray, List.set_cons_zero, List.set_cons_succ]
  refine wpAnyH_take (i := 6) (oi := ?opckcyes6o) (v := ?opckcyes6v) ?opckcyes6h (by kernel_rfl) (by kernel_rfl) (by kernel_rfl) ?opckcyes6q ?opckcyes6y hHeld ?opckcyes6r
  case opckcyes6h => (simp only [List.getElem?_toArray, List.getElem?_cons_succ, List.getElem?_cons_zero]; rfl)
  case opckcyes6q => exact fun _ _ _ h => h
  case opckcyes6y => (refine Or.inl ⟨by first | kernel_rfl | rfl, ?_⟩; intro w hSw; (try dsimp only at hSw); obtain ⟨⟨x0, x1, x2, x3, x4, x5, x6, x7, x8⟩, -, -⟩ := hSw; go_simp <;> (try with_reducible rfl))
  try simp only [Act.put, List.setIfInBounds_toArray, List.set_cons_zero, List.set_cons_succ]
  refine wpAnyH_take (i := 7) (oi := ?opckcyes7o) (v := ?opckcyes7v) ?opckcyes7h (by kernel_rfl) (by kernel_rfl) (by kernel_rfl) ?opckcyes7q ?opckcyes7y hHeld ?opckcyes7r
  case opckcyes7h => (simp only [List.getElem?_toArray, List.getElem?_cons_succ, List.getElem?_cons_zero]; rfl)
  case opckcyes7q => exact fun _ _ _ h => h
  case opckcyes7y => (refine Or.inl ⟨by first | kernel_rfl | rfl, ?_⟩; intro w hSw; (try dsimp only at hSw); obtain ⟨⟨x0, x1, x2, x3, x4, x5, x6, x7, x8⟩, -, -⟩ := hSw; go_simp <;> (try with_reducible rfl))
  try simp only [Act.put, List.setIfInBounds_toArray, List.set_cons_zero, List.set_cons_succ]
  refine wpAnyH_take (i := 8) (oi := ?opckcyes8o) (v := ?opckcyes8v) ?opckcyes8h (by kernel_rfl) (by kernel_rfl) (by kernel_rfl) ?opckcyes8q ?opckcyes8y hHeld ?opckcyes8r
  case opckcyes8h => (simp only [List.getElem?_toArray, List.getElem?_cons_succ, List.getElem?_cons_zero]; rfl)
  case opckcyes8q => exact fun _ _ _ h => h
  case opckcyes8y => (refine Or.inl ⟨by first | kernel_rfl | rfl, ?_⟩; intro w hSw; (try dsimp only at hSw); obtain ⟨⟨x0, x1, x2, x3, x4, x5, x6, x7, x8⟩, -, -⟩ := hSw; go_simp <;> (try with_reducible rfl))
  try simp only [Act.put, List.setIfInBounds_toArray, List.set_cons_zero, List.set_cons_succ]
  refine wpAnyH_take (i := 9) (oi := ?opckcyes9o) (v := ?opckcyes9v) ?opckcyes9h (by kernel_rfl) (by kernel_rfl) (by kernel_rfl) ?opckcyes9q ?opckcyes9y hHeld ?opckcyes9r
  case opckcyes9h => (simp only [List.getElem?_toArray, List.getElem?_cons_succ, List.getElem?_cons_zero]; rfl)
  case opckcyes9q => exact fun _ _ _ h => h
  case opckcyes9y => (refine Or.inl ⟨by first | kernel_rfl | rfl, ?_⟩; intro w hSw; (try dsimp only at hSw); obtain ⟨⟨x0, x1, x2, x3, x4, x5, x6, x7, x8⟩, -, -⟩ := hSw; go_simp <;> (try with_reducible rfl))
  try simp only [Act.put, List.setIfInBounds_toArray, List.set_cons_zero, List.set_cons_succ]
  refine wpAnyH_ready (rs := [5]) (by kernel_rfl) (by simp) ?_
  refine (AllReadyH.cons rfl (fun K hK => ?_) AllReadyH.nil)
  go_simp
  ((with_reducible refine (ka _ hHeld.ns).mono ?_); rintro e w' ⟨rfl, rfl⟩)
  refine hK.out _ _ (hHeld) (fun hHeld => ?_)
  clear hK K
  try simp only [Act.put, List.setIfInBounds_toArray, List.set_cons_zero, List.set_cons_succ]
  refine wpAnyH_take (i := 10) (oi := ?opckcyes10o) (v := ?opckcyes10v) ?opckcyes10h (by kernel_rfl) (by kernel_rfl) (by kernel_rfl) ?opckcyes10q ?opckcyes10y hHeld ?opckcyes10r
  case opckcyes10h => (simp only [List.getElem?_toArray, List.getElem?_cons_succ, List.getElem?_cons_zero]; rfl)
  case opckcyes10q => exact fun _ _ _ h => h
  case opckcyes10y => (refine Or.inl ⟨by first | kernel_rfl | rfl, ?_⟩; intro w hSw; (try dsimp only at hSw); obtain ⟨⟨x0, x1, x2, x3, x4, x5, x6, x7, x8⟩, -, -⟩ := hSw; go_simp <;> (try with_reducible rfl))
  try simp only [Act.put, List.setIfInBounds_toArray, List.set_cons_zero, List.set_cons_succ]
  refine wpAnyH_done (by kernel_rfl) ?_ _
  have hbel := hHeld.bel
  go_wp2
  go_ret
  exact ⟨by rw [HE.out]; rfl, hbel⟩

theorem pck_fit (r : Rec) (dv : Value) (w : World) (h : Ns w dv r.d) (hf : r.fits) (hfit : (r.k = 1 ∧ nameB r.s = true ∧ r.tier = 0) ∨ (r.k = 2 ∧ r.s = ⟨#[]⟩ ∧ r.v = 0 ∧ 0 ≤ r.tier ∧ r.tier ≤ 3)) : Calls Try.prog 38 #[recV r dv] w fun e w' => e = .returned (.int .i64 r.err) ∧ Below w.heap.size w w' := by
  rcases hfit with ⟨a1, a2, a3⟩ | ⟨a1, a2, a3, a4, a5⟩
  · cases h1 : decide (0 ≤ r.t ∧ r.t ≤ 1099511627776) with
    | false => exact pck_s_time r dv w h hf a1 a2 a3 h1
    | true =>
      cases h3 : r.st.ok with
      | false => exact pck_s_st r dv w h hf a1 a2 a3 h1 h3
      | true =>
        cases h2 : sameL r.d (plainL r.d) with
        | false => exact pck_s_deps r dv w h hf a1 a2 a3 h1 h3 h2
        | true =>
          by_cases h4 : atL r.d r.st.s = r.st.q - 1
          · exact pck_s_yes r dv w h hf a1 a2 a3 h1 h3 h2 h4
          · exact pck_s_at r dv w h hf a1 a2 a3 h1 h3 h2 h4
  · cases h1 : decide (0 ≤ r.t ∧ r.t ≤ 1099511627776) with
    | false => exact pck_c_time r dv w h hf a1 a2 a3 a4 a5 h1
    | true =>
      cases h3 : r.st.ok with
      | false => exact pck_c_st r dv w h hf a1 a2 a3 a4 a5 h1 h3
      | true =>
        cases h2 : sameL r.d (plainL r.d) with
        | false => exact pck_c_deps r dv w h hf a1 a2 a3 a4 a5 h1 h3 h2
        | true =>
          by_cases h4 : atL r.d r.st.s = r.st.q - 1
          · exact pck_c_yes r dv w h hf a1 a2 a3 a4 a5 h1 h3 h2 h4
          · exact pck_c_at r dv w h hf a1 a2 a3 a4 a5 h1 h3 h2 h4
theorem check6_is (r : Rec) (dv : Value) (w : World) (h : Ns w dv r.d) (hf : r.fits) : Calls Try.prog 38 #[recV r dv] w fun e w' => e = .returned (.int .i64 r.err) ∧ Below w.heap.size w w' := by
  by_cases k1 : r.k = 1
  · cases hn : nameB r.s with
    | false => exact pck_noname r dv w h hf k1 hn
    | true =>
      by_cases ht : r.tier = 0
      · exact pck_fit r dv w h hf (Or.inl ⟨k1, hn, ht⟩)
      · exact pck_nozero r dv w h hf k1 hn ht
  · by_cases k2 : r.k = 2
    · by_cases c1 : r.s = ⟨#[]⟩
      · by_cases c2 : r.v = 0
        · by_cases c3 : 0 ≤ r.tier
          · by_cases c4 : r.tier ≤ 3
            · exact pck_fit r dv w h hf (Or.inr ⟨k2, c1, c2, c3, c4⟩)
            · exact pck_nohigh r dv w h hf k2 c1 c2 c3 c4
          · exact pck_nolow r dv w h hf k2 c1 c2 c3
        · exact pck_novalue r dv w h hf k2 c1 c2
      · exact pck_noempty r dv w h hf k2 c1
    · exact pck_nokind r dv w h hf k1 k2
end Go.Proofs.Ythifmfgnblecbaa
