/- A record's bytes, and the contract of the document's Bytes. -/
import Derived.Test.YtjckphmkhikpaaaSampleRCheck
set_option maxRecDepth 20000
namespace Go.Proofs.Ytjckphmkhikpaaa
open Go.RowKit Go.Proofs.Ytjckphmkhikpaaa.Vi Go.Proofs.Ytjckphmkhikpaaa.Mk

/-- What stands between a record's kind and its stamp; a record's bytes. -/
def Rec.mid (r : Rec) : List UInt8 := if r.k = 1 then (enc r.s.size ++ r.s.data.toList) ++ enc r.t.toNat ++ enc (zig r.v).toNat else enc r.tier.toNat ++ enc r.t.toNat
def Rec.bytes (r : Rec) : List UInt8 := enc r.k.toNat ++ r.mid ++ r.st.bytes ++ textL (plainL r.d)
theorem Rec.ok_head {r : Rec} (h : r.ok = true) : r.head = true := by
  unfold Rec.ok at h
  rw [Bool.and_eq_true] at h
  exact h.1
theorem Rec.head_parts {r : Rec} (h : r.head = true) : (0 ≤ r.t ∧ r.t ≤ 1099511627776) ∧ r.d = plainL r.d ∧ r.st.ok = true ∧ atL r.d r.st.s = r.st.q - 1 := by
  unfold Rec.head at h
  rw [Bool.and_eq_true, Bool.and_eq_true, Bool.and_eq_true] at h
  obtain ⟨⟨⟨h1, h2⟩, h3⟩, h4⟩ := h
  refine ⟨by simpa using h1, ?_, h3, by simpa using h4⟩
  unfold sameL at h2; simpa using h2
theorem Rec.ok_kind {r : Rec} (h : r.ok = true) : (r.k = 1 ∧ nameB r.s = true ∧ r.tier = 0) ∨ (r.k = 2 ∧ r.s = ⟨#[]⟩ ∧ r.v = 0 ∧ 0 ≤ r.tier ∧ r.tier ≤ 3) := by
  unfold Rec.ok at h
  rw [Bool.and_eq_true, Bool.or_eq_true] at h
  rcases h.2 with h | h
  · rw [Bool.and_eq_true, Bool.and_eq_true] at h
    exact Or.inl ⟨by simpa using h.1.1, h.1.2, by simpa using h.2⟩
  · rw [Bool.and_eq_true, Bool.and_eq_true, Bool.and_eq_true] at h
    exact Or.inr ⟨by simpa using h.1.1.1, by simpa using h.1.1.2, by simpa using h.1.2, by simpa using h.2⟩
theorem name_len {s : ByteArray} (h : nameB s = true) : 1 ≤ s.size ∧ s.size ≤ 40 := by
  have hl : s.data.toList.length = s.size := by simp
  by_cases e : s.data.toList.length < 1 ∨ 40 < s.data.toList.length
  · rw [nameB, nameL_short e] at h; cases h
  · omega
theorem zputR (v : Int) (s : ByteArray) (w : World) (hv : -9223372036854775808 ≤ v ∧ v ≤ 9223372036854775807) (hs : Hid (tx (enc (zig v).toNat) = s)) : Calls Try.prog 40 #[.int .u64 (zig v)] w (TextDone s w) := by
  obtain ⟨h1, h2⟩ := zig_bounds v hv.1 hv.2
  have := refPut_is (zig v).toNat s w (by omega) hs
  rw [Int.toNat_of_nonneg h1] at this
  exact this
theorem textL_plain_len (l : List Int) : (textL (plainL l)).length ≤ 90 := textL_len _ (vec_fit (atL_fit l)) (vec_size (fun i : Nat => atL l (i : Int)))
theorem st_bytes_len (a : St) : a.bytes.length ≤ 30 := by
  unfold St.bytes
  split
  · rename_i h
    obtain ⟨q1, q2, q3, q4, q5, q6⟩ := St.ok_iff.1 h
    have h1 := enc_len10 a.c.toNat (by omega)
    have h2 := enc_len10 a.s.toNat (by omega)
    have h3 := enc_len10 a.q.toNat (by omega)
    rw [List.length_append, List.length_append]; omega
  · simp

set_option maxHeartbeats 1000000 in
theorem rbytes6_no (r : Rec) (dv : Value) (w : World) (h : Ns w dv r.d) (hf : r.fits) (hok : r.ok = false) : Calls Try.prog 13 #[recV r dv] w fun e w' => e = .returned (.tuple #[.string ⟨#[]⟩, .int .i64 1]) ∧ Below w.heap.size w w' := by
  have kc := fun w h => rcheck6_is r dv w h hf
  have he : r.err = 1 := by unfold Rec.err; rw [hok]; rfl
  rw [he] at kc
  have H0 := RHeld.new (r := r) h
  have hat := H0.at_
  obtain ⟨x0, x1, x2, x3, x4, x5, x6, x7, x8⟩ := hat
  unfold recV at kc ⊢
  clear h he hok hf
  go_enter Try.func13, Try.ntmps13
  go_wp2_with (first
    | (go_at_call 17; (with_reducible refine (kc _ H0.ns).mono ?_); rintro e w1 ⟨rfl, hb1⟩))
  go_ret2
  exact ⟨rfl, (H0.keep hb1).bel⟩

set_option maxHeartbeats 4000000 in
theorem rbytes6_sample (r : Rec) (dv : Value) (w : World) (S : ByteArray) (h : Ns w dv r.d) (hf : r.fits) (hok : r.ok = true) (hk : r.k = 1) (hS : Hid (tx r.bytes = S)) : Calls Try.prog 13 #[recV r dv] w fun e w' => e = .returned (.tuple #[.string S, .int .i64 0]) ∧ Below w.heap.size w w' := by
  have kc := fun w h => rcheck6_is r dv w h hf
  have he : r.err = 0 := by unfold Rec.err; rw [hok]; rfl
  rw [he] at kc
  obtain ⟨⟨t1, t2⟩, hpl, hst, -⟩ := Rec.head_parts (Rec.ok_head hok)
  have hkind := Rec.ok_kind hok
  have H0 := RHeld.new (r := r) h
  have hat := H0.at_
  obtain ⟨x0, x1, x2, x3, x4, x5, x6, x7, x8⟩ := hat
  unfold recV at kc ⊢
  obtain ⟨K0, hK0⟩ : ∃ s, tx (enc (1 : Int).toNat) = s := ⟨_, rfl⟩
  have k0 := fun w => putIntR 1 K0 w (by omega) (by omega) (Lib.hid hK0)
  have z0 : K0.size ≤ 10 := by rw [← hK0, tx_size]; exact enc_len10 _ (by decide)
  obtain ⟨A2, hA2⟩ : ∃ s, tx (enc r.t.toNat) = s := ⟨_, rfl⟩
  have k2 := fun w => putIntR r.t A2 w t1 t2 (Lib.hid hA2)
  have z2 : A2.size ≤ 10 := by rw [← hA2, tx_size]; exact enc_len10 _ (by omega)
  obtain ⟨B1, hB1⟩ : ∃ s, tx r.st.bytes = s := ⟨_, rfl⟩
  have k4 := fun w => rbytes_is r.st B1 w (Lib.hid hB1)
  have z4 : B1.size ≤ 30 := by rw [← hB1, tx_size]; exact st_bytes_len _
  obtain ⟨B2, hB2⟩ : ∃ s, tx (textL (plainL r.d)) = s := ⟨_, rfl⟩
  have k5 := fun w h => rvtext_is dv r.d B2 w h (Lib.hid hB2)
  have z5 : B2.size ≤ 90 := by rw [← hB2, tx_size]; exact textL_plain_len _
  have ut : IntKind.u64.wrap r.t = r.t := u64_in r.t t1 t2
  obtain ⟨A1, hA1⟩ : ∃ s, ahead r.s = s := ⟨_, rfl⟩
  obtain ⟨-, hnm, -⟩ : r.k = 1 ∧ nameB r.s = true ∧ r.tier = 0 := by rcases hkind with h | h; exact h; omega
  have hn40 := name_len hnm
  have k1 := fun w => refText_is r.s A1 w (by omega) (Lib.hid hA1)
  have z1 : A1.size ≤ 50 := by
    have := enc_len10 r.s.size (by omega)
    rw [← hA1]; unfold ahead; rw [tx_size, List.length_append]; simp; omega
  obtain ⟨A3, hA3⟩ : ∃ s, tx (enc (zig r.v).toNat) = s := ⟨_, rfl⟩
  have kz := fun w => refZig_any r.v w hf.v.1 hf.v.2
  have k3 := fun w => zputR r.v A3 w hf.v (Lib.hid hA3)
  obtain ⟨v1, v2⟩ := zig_bounds r.v hf.v.1 hf.v.2
  have z3 : A3.size ≤ 10 := by rw [← hA3, tx_size]; exact enc_len10 _ (by omega)
  obtain ⟨X1, hX1⟩ : ∃ s, K0 ++ A1 = s := ⟨_, rfl⟩
  have yX1 : X1.size = K0.size + A1.size := by rw [← hX1]; simp
  have pX1 : K0.size + A1.size ≤ 9223372036854775807 := by omega
  have qX1 : ¬ 9223372036854775807 < K0.size + A1.size := by omega
  obtain ⟨X2, hX2⟩ : ∃ s, X1 ++ A2 = s := ⟨_, rfl⟩
  have yX2 : X2.size = X1.size + A2.size := by rw [← hX2]; simp
  have pX2 : X1.size + A2.size ≤ 9223372036854775807 := by omega
  have qX2 : ¬ 9223372036854775807 < X1.size + A2.size := by omega
  obtain ⟨X3, hX3⟩ : ∃ s, X2 ++ A3 = s := ⟨_, rfl⟩
  have yX3 : X3.size = X2.size + A3.size := by rw [← hX3]; simp
  have pX3 : X2.size + A3.size ≤ 9223372036854775807 := by omega
  have qX3 : ¬ 9223372036854775807 < X2.size + A3.size := by omega
  obtain ⟨X4, hX4⟩ : ∃ s, X3 ++ B1 = s := ⟨_, rfl⟩
  have yX4 : X4.size = X3.size + B1.size := by rw [← hX4]; simp
  have pX4 : X3.size + B1.size ≤ 9223372036854775807 := by omega
  have qX4 : ¬ 9223372036854775807 < X3.size + B1.size := by omega
  obtain ⟨X5, hX5⟩ : ∃ s, X4 ++ B2 = s := ⟨_, rfl⟩
  have yX5 : X5.size = X4.size + B2.size := by rw [← hX5]; simp
  have pX5 : X4.size + B2.size ≤ 9223372036854775807 := by omega
  have qX5 : ¬ 9223372036854775807 < X4.size + B2.size := by omega
  have hfin : X5 = S := by
    have e1 : ahead r.s = tx (enc r.s.size ++ r.s.data.toList) := rfl
    have e2 : r.mid = (enc r.s.size ++ r.s.data.toList) ++ enc r.t.toNat ++ enc (zig r.v).toNat := if_pos hk
    rw [← hS.out, ← hX5, ← hX4, ← hX3, ← hX2, ← hX1, ← hK0, ← hA1, e1, ← hA2, ← hA3, ← hB1, ← hB2, tx_app, tx_app, tx_app, tx_app, tx_app]
    unfold Rec.bytes
    rw [e2, hk]
    simp only [List.append_assoc]
  generalize zig r.v = zz at *
  have HX := Lib.hid hfin
  have HK := Lib.hid hk
  clear hk x0 x1 x2 x3 x4 x5 x6 x7 x8
  clear he hok hS h hpl hst hkind hfin hK0 hA2 hB1 hB2 z0 z2 z4 z5 hA1 hA3 z1 z3 hnm hn40 v1 v2 hf yX1 yX2 yX3 yX4 yX5
  go_enter Try.func13, Try.ntmps13
  go_wp2_with (first
    | (go_at_call 17; (with_reducible refine (kc _ H0.ns).mono ?_); rintro e w1 ⟨rfl, hb1⟩; have H1 := H0.keep hb1; have hat := H1.at_; obtain ⟨x0, x1, x2, x3, x4, x5, x6, x7, x8⟩ := hat; rw [HK.out] at x0)
    | (go_at_call 40; (with_reducible refine (k0 _).mono ?_); rintro e w2 ⟨rfl, hb2⟩; have H2 := H1.keep hb2; have hat := H2.at_; obtain ⟨x0, x1, x2, x3, x4, x5, x6, x7, x8⟩ := hat; rw [HK.out] at x0))
  clear H0 H1 hb1 hb2 kc k0 x0 x1 x2 x3 x4 x5 x6 x7 x8
  refine wp_region_held_drew (S := (RHeld w w.heap.size r dv)) (by kernel_rfl) H2.drew (fun hHeld => ?_)
  refine wpAnyH_take (i := 0) (oi := ?oa1o) (v := ?oa1v) ?oa1h (by kernel_rfl) (by kernel_rfl) (by kernel_rfl) ?oa1q ?oa1y hHeld ?oa1r
  case oa1h => (simp only [List.getElem?_toArray, List.getElem?_cons_zero]; rfl)
  case oa1q => exact fun _ _ _ h => h
  case oa1y => (refine Or.inl ⟨by first | kernel_rfl | rfl, ?_⟩; intro w hSw; (try dsimp only at hSw); obtain ⟨⟨x0, x1, x2, x3, x4, x5, x6, x7, x8⟩, -, -⟩ := hSw; go_simp <;> (try with_reducible rfl))
  try simp only [Act.put, List.setIfInBounds_toArray, List.set_cons_zero, List.set_cons_succ]
  refine wpAnyH_take (i := 1) (oi := ?oa2o) (v := ?oa2v) ?oa2h (by kernel_rfl) (by kernel_rfl) (by kernel_rfl) ?oa2q ?oa2y hHeld ?oa2r
  case oa2h => (simp only [List.getElem?_toArray, List.getElem?_cons_succ, List.getElem?_cons_zero]; rfl)
  case oa2q => exact fun _ _ _ h => h
  case oa2y => (refine Or.inl ⟨by first | kernel_rfl | rfl, ?_⟩; intro w hSw; (try dsimp only at hSw); obtain ⟨⟨x0, x1, x2, x3, x4, x5, x6, x7, x8⟩, -, -⟩ := hSw; go_simp <;> (try with_reducible rfl))
  try simp only [Act.put, List.setIfInBounds_toArray, List.set_cons_zero, List.set_cons_succ]
  refine wpAnyH_take (i := 2) (oi := ?oa3o) (v := ?oa3v) ?oa3h (by kernel_rfl) (by kernel_rfl) (by kernel_rfl) ?oa3q ?oa3y hHeld ?oa3r
  case oa3h => (simp only [List.getElem?_toArray, List.getElem?_cons_succ, List.getElem?_cons_zero]; rfl)
  case oa3q => exact fun _ _ _ h => h
  case oa3y => (refine Or.inl ⟨by first | kernel_rfl | rfl, ?_⟩; intro w hSw; (try dsimp only at hSw); obtain ⟨⟨x0, x1, x2, x3, x4, x5, x6, x7, x8⟩, -, -⟩ := hSw; go_simp <;> (try with_reducible rfl))
  try simp only [Act.put, List.setIfInBounds_toArray, List.set_cons_zero, List.set_cons_succ]
  refine wpAnyH_take (i := 5) (oi := ?oa4o) (v := ?oa4v) ?oa4h (by kernel_rfl) (by kernel_rfl) (by kernel_rfl) ?oa4q ?oa4y hHeld ?oa4r
  case oa4h => (simp only [List.getElem?_toArray, List.getElem?_cons_succ, List.getElem?_cons_zero]; rfl)
  case oa4q => exact fun _ _ _ h => h
  case oa4y => (refine Or.inl ⟨by first | kernel_rfl | rfl, ?_⟩; intro w hSw; (try dsimp only at hSw); obtain ⟨⟨x0, x1, x2, x3, x4, x5, x6, x7, x8⟩, -, -⟩ := hSw; go_simp <;> (try with_reducible rfl))
  try simp only [Act.put, List.setIfInBounds_toArray, List.set_cons_zero, List.set_cons_succ]
  refine wpAnyH_take (i := 6) (oi := ?oa5o) (v := ?oa5v) ?oa5h (by kernel_rfl) (by kernel_rfl) (by kernel_rfl) ?oa5q ?oa5y hHeld ?oa5r
  case oa5h => (simp only [List.getElem?_toArray, List.getElem?_cons_succ, List.getElem?_cons_zero]; rfl)
  case oa5q => exact fun _ _ _ h => h
  case oa5y => (refine Or.inl ⟨by first | kernel_rfl | rfl, ?_⟩; intro w hSw; (try dsimp only at hSw); obtain ⟨⟨x0, x1, x2, x3, x4, x5, x6, x7, x8⟩, -, -⟩ := hSw; go_simp <;> (try with_reducible rfl))
  try simp only [Act.put, List.setIfInBounds_toArray, List.set_cons_zero, List.set_cons_succ]
  refine wpAnyH_take (i := 7) (oi := ?oa6o) (v := ?oa6v) ?oa6h (by kernel_rfl) (by kernel_rfl) (by kernel_rfl) ?oa6q ?oa6y hHeld ?oa6r
  case oa6h => (simp only [List.getElem?_toArray, List.getElem?_cons_succ, List.getElem?_cons_zero]; rfl)
  case oa6q => exact fun _ _ _ h => h
  case oa6y => (refine Or.inl ⟨by first | kernel_rfl | rfl, ?_⟩; intro w hSw; (try dsimp only at hSw); obtain ⟨⟨x0, x1, x2, x3, x4, x5, x6, x7, x8⟩, -, -⟩ := hSw; go_simp <;> (try with_reducible rfl))
  try simp only [Act.put, List.setIfInBounds_toArray, List.set_cons_zero, List.set_cons_succ]
  refine wpAnyH_take (i := 10) (oi := ?oa7o) (v := ?oa7v) ?oa7h (by kernel_rfl) (by kernel_rfl) (by kernel_rfl) ?oa7q ?oa7y hHeld ?oa7r
  case oa7h => (simp only [List.getElem?_toArray, List.getElem?_cons_succ, List.getElem?_cons_zero]; rfl)
  case oa7q => exact fun _ _ _ h => h
  case oa7y => (refine Or.inl ⟨by first | kernel_rfl | rfl, ?_⟩; intro w hSw; (try dsimp only at hSw); obtain ⟨⟨x0, x1, x2, x3, x4, x5, x6, x7, x8⟩, -, -⟩ := hSw; go_simp <;> (try with_reducible rfl))
  try simp only [Act.put, List.setIfInBounds_toArray, List.set_cons_zero, List.set_cons_succ]
  refine wpAnyH_take (i := 11) (oi := ?oa8o) (v := ?oa8v) ?oa8h (by kernel_rfl) (by kernel_rfl) (by kernel_rfl) ?oa8q ?oa8y hHeld ?oa8r
  case oa8h => (simp only [List.getElem?_toArray, List.getElem?_cons_succ, List.getElem?_cons_zero]; rfl)
  case oa8q => exact fun _ _ _ h => h
  case oa8y => (refine Or.inl ⟨by first | kernel_rfl | rfl, ?_⟩; intro w hSw; (try dsimp only at hSw); obtain ⟨⟨x0, x1, x2, x3, x4, x5, x6, x7, x8⟩, -, -⟩ := hSw; go_simp <;> (try with_reducible rfl))
  try simp only [Act.put, List.setIfInBounds_toArray, List.set_cons_zero, List.set_cons_succ]
  refine wpAnyH_ready (rs := [3]) (by kernel_rfl) (by simp) ?_
  refine (AllReadyH.cons rfl (fun K hK => ?_) AllReadyH.nil)
  go_simp
  ((with_reducible refine (k1 _).mono ?_); rintro e w' ⟨rfl, hb'⟩)
  refine hK.out _ _ (hHeld.keep hb') (fun hHeld => ?_)
  clear hK K
  try simp only [Act.put, List.setIfInBounds_toArray, List.set_cons_zero, List.set_cons_succ]
  refine wpAnyH_take (i := 4) (oi := ?oa9o) (v := ?oa9v) ?oa9h (by kernel_rfl) (by kernel_rfl) (by kernel_rfl) ?oa9q ?oa9y hHeld ?oa9r
  case oa9h => (simp only [List.getElem?_toArray, List.getElem?_cons_succ, List.getElem?_cons_zero]; rfl)
  case oa9q => exact fun _ _ _ h => h
  case oa9y => (refine Or.inl ⟨by first | kernel_rfl | rfl, ?_⟩; intro w hSw; (try dsimp only at hSw); obtain ⟨⟨x0, x1, x2, x3, x4, x5, x6, x7, x8⟩, -, -⟩ := hSw; go_simp <;> (try with_reducible rfl))
  try simp only [Act.put, List.setIfInBounds_toArray, List.set_cons_zero, List.set_cons_succ]
  refine wpAnyH_ready (rs := [8]) (by kernel_rfl) (by simp) ?_
  refine (AllReadyH.cons rfl (fun K hK => ?_) AllReadyH.nil)
  go_simp
  ((with_reducible refine (k2 _).mono ?_); rintro e w' ⟨rfl, hb'⟩)
  refine hK.out _ _ (hHeld.keep hb') (fun hHeld => ?_)
  clear hK K
  try simp only [Act.put, List.setIfInBounds_toArray, List.set_cons_zero, List.set_cons_succ]
  refine wpAnyH_take (i := 9) (oi := ?oa10o) (v := ?oa10v) ?oa10h (by kernel_rfl) (by kernel_rfl) (by kernel_rfl) ?oa10q ?oa10y hHeld ?oa10r
  case oa10h => (simp only [List.getElem?_toArray, List.getElem?_cons_succ, List.getElem?_cons_zero]; rfl)
  case oa10q => exact fun _ _ _ h => h
  case oa10y => (refine Or.inl ⟨by first | kernel_rfl | rfl, ?_⟩; intro w hSw; (try dsimp only at hSw); obtain ⟨⟨x0, x1, x2, x3, x4, x5, x6, x7, x8⟩, -, -⟩ := hSw; go_simp <;> (try with_reducible rfl))
  try simp only [Act.put, List.setIfInBounds_toArray, List.set_cons_zero, List.set_cons_succ]
  refine wpAnyH_ready (rs := [12]) (by kernel_rfl) (by simp) ?_
  refine (AllReadyH.cons rfl (fun K hK => ?_) AllReadyH.nil)
  go_simp
  ((with_reducible refine (kz _).mono ?_); rintro e w' ⟨rfl, rfl⟩)
  refine hK.out _ _ (hHeld) (fun hHeld => ?_)
  clear hK K
  try simp only [Act.put, List.setIfInBounds_toArray, List.set_cons_zero, List.set_cons_succ]
  refine wpAnyH_ready (rs := [13]) (by kernel_rfl) (by simp) ?_
  refine (AllReadyH.cons rfl (fun K hK => ?_) AllReadyH.nil)
  go_simp
  ((with_reducible refine (k3 _).mono ?_); rintro e w' ⟨rfl, hb'⟩)
  refine hK.out _ _ (hHeld.keep hb') (fun hHeld => ?_)
  clear hK K
  try simp only [Act.put, List.setIfInBounds_toArray, List.set_cons_zero, List.set_cons_succ]
  refine wpAnyH_take (i := 14) (oi := ?oa11o) (v := ?oa11v) ?oa11h (by kernel_rfl) (by kernel_rfl) (by kernel_rfl) ?oa11q ?oa11y hHeld ?oa11r
  case oa11h => (simp only [List.getElem?_toArray, List.getElem?_cons_succ, List.getElem?_cons_zero]; rfl)
  case oa11q => exact fun _ _ _ h => h
  case oa11y => (refine Or.inl ⟨by first | kernel_rfl | rfl, ?_⟩; intro w hSw; (try dsimp only at hSw); obtain ⟨⟨x0, x1, x2, x3, x4, x5, x6, x7, x8⟩, -, -⟩ := hSw; go_simp <;> (try with_reducible rfl))
  try simp only [Act.put, List.setIfInBounds_toArray, List.set_cons_zero, List.set_cons_succ]
  refine wpAnyH_take (i := 15) (oi := ?oa12o) (v := ?oa12v) ?oa12h (by kernel_rfl) (by kernel_rfl) (by kernel_rfl) ?oa12q ?oa12y hHeld ?oa12r
  case oa12h => (simp only [List.getElem?_toArray, List.getElem?_cons_succ, List.getElem?_cons_zero]; rfl)
  case oa12q => exact fun _ _ _ h => h
  case oa12y => (refine Or.inl ⟨by first | kernel_rfl | rfl, ?_⟩; intro w hSw; (try dsimp only at hSw); obtain ⟨⟨x0, x1, x2, x3, x4, x5, x6, x7, x8⟩, -, -⟩ := hSw; go_simp <;> (try with_reducible rfl))
  try simp only [Act.put, List.setIfInBounds_toArray, List.set_cons_zero, List.set_cons_succ]
  refine wpAnyH_done (by kernel_rfl) ?_ _
  go_wp2_with fail
  refine wp_region_held_drew (S := (RHeld w w.heap.size r dv)) (by kernel_rfl) hHeld.drew (fun hHeld => ?_)
  refine wpAnyH_take (i := 0) (oi := ?ob1o) (v := ?ob1v) ?ob1h (by kernel_rfl) (by kernel_rfl) (by kernel_rfl) ?ob1q ?ob1y hHeld ?ob1r
  case ob1h => (simp only [List.getElem?_toArray, List.getElem?_cons_zero]; rfl)
  case ob1q => exact fun _ _ _ h => h
  case ob1y => (refine Or.inl ⟨by first | kernel_rfl | rfl, ?_⟩; intro w hSw; (try dsimp only at hSw); obtain ⟨⟨x0, x1, x2, x3, x4, x5, x6, x7, x8⟩, -, -⟩ := hSw; go_simp <;> (try with_reducible rfl))
  try simp only [Act.put, List.setIfInBounds_toArray, List.set_cons_zero, List.set_cons_succ]
  refine wpAnyH_take (i := 1) (oi := ?ob2o) (v := ?ob2v) ?ob2h (by kernel_rfl) (by kernel_rfl) (by kernel_rfl) ?ob2q ?ob2y hHeld ?ob2r
  case ob2h => (simp only [List.getElem?_toArray, List.getElem?_cons_succ, List.getElem?_cons_zero]; rfl)
  case ob2q => exact fun _ _ _ h => h
  case ob2y => (refine Or.inl ⟨by first | kernel_rfl | rfl, ?_⟩; intro w hSw; (try dsimp only at hSw); obtain ⟨⟨x0, x1, x2, x3, x4, x5, x6, x7, x8⟩, -, -⟩ := hSw; go_simp <;> (try with_reducible rfl))
  try simp only [Act.put, List.setIfInBounds_toArray, List.set_cons_zero, List.set_cons_succ]
  refine wpAnyH_take (i := 2) (oi := ?ob3o) (v := ?ob3v) ?ob3h (by kernel_rfl) (by kernel_rfl) (by kernel_rfl) ?ob3q ?ob3y hHeld ?ob3r
  case ob3h => (simp only [List.getElem?_toArray, List.getElem?_cons_succ, List.getElem?_cons_zero]; rfl)
  case ob3q => exact fun _ _ _ h => h
  case ob3y => (refine Or.inl ⟨by first | kernel_rfl | rfl, ?_⟩; intro w hSw; (try dsimp only at hSw); obtain ⟨⟨x0, x1, x2, x3, x4, x5, x6, x7, x8⟩, -, -⟩ := hSw; go_simp <;> (try with_reducible rfl))
  try simp only [Act.put, List.setIfInBounds_toArray, List.set_cons_zero, List.set_cons_succ]
  refine wpAnyH_take (i := 5) (oi := ?ob4o) (v := ?ob4v) ?ob4h (by kernel_rfl) (by kernel_rfl) (by kernel_rfl) ?ob4q ?ob4y hHeld ?ob4r
  case ob4h => (simp only [List.getElem?_toArray, List.getElem?_cons_succ, List.getElem?_cons_zero]; rfl)
  case ob4q => exact fun _ _ _ h => h
  case ob4y => (refine Or.inl ⟨by first | kernel_rfl | rfl, ?_⟩; intro w hSw; (try dsimp only at hSw); obtain ⟨⟨x0, x1, x2, x3, x4, x5, x6, x7, x8⟩, -, -⟩ := hSw; go_simp <;> (try with_reducible rfl))
  try simp only [Act.put, List.setIfInBounds_toArray, List.set_cons_zero, List.set_cons_succ]
  refine wpAnyH_take (i := 6) (oi := ?ob5o) (v := ?ob5v) ?ob5h (by kernel_rfl) (by kernel_rfl) (by kernel_rfl) ?ob5q ?ob5y hHeld ?ob5r
  case ob5h => (simp only [List.getElem?_toArray, List.getElem?_cons_succ, List.getElem?_cons_zero]; rfl)
  case ob5q => exact fun _ _ _ h => h
  case ob5y => (refine Or.inl ⟨by first | kernel_rfl | rfl, ?_⟩; intro w hSw; (try dsimp only at hSw); obtain ⟨⟨x0, x1, x2, x3, x4, x5, x6, x7, x8⟩, -, -⟩ := hSw; go_simp <;> (try with_reducible rfl))
  try simp only [Act.put, List.setIfInBounds_toArray, List.set_cons_zero, List.set_cons_succ]
  refine wpAnyH_ready (rs := [3]) (by kernel_rfl) (by simp) ?_
  refine (AllReadyH.cons rfl (fun K hK => ?_) AllReadyH.nil)
  go_simp
  ((with_reducible refine (k4 _).mono ?_); rintro e w' ⟨rfl, hb'⟩)
  refine hK.out _ _ (hHeld.keep hb') (fun hHeld => ?_)
  clear hK K
  try simp only [Act.put, List.setIfInBounds_toArray, List.set_cons_zero, List.set_cons_succ]
  refine wpAnyH_take (i := 4) (oi := ?ob6o) (v := ?ob6v) ?ob6h (by kernel_rfl) (by kernel_rfl) (by kernel_rfl) ?ob6q ?ob6y hHeld ?ob6r
  case ob6h => (simp only [List.getElem?_toArray, List.getElem?_cons_succ, List.getElem?_cons_zero]; rfl)
  case ob6q => exact fun _ _ _ h => h
  case ob6y => (refine Or.inl ⟨by first | kernel_rfl | rfl, ?_⟩; intro w hSw; (try dsimp only at hSw); obtain ⟨⟨x0, x1, x2, x3, x4, x5, x6, x7, x8⟩, -, -⟩ := hSw; go_simp <;> (try with_reducible rfl))
  try simp only [Act.put, List.setIfInBounds_toArray, List.set_cons_zero, List.set_cons_succ]
  refine wpAnyH_ready (rs := [7]) (by kernel_rfl) (by simp) ?_
  refine (AllReadyH.cons rfl (fun K hK => ?_) AllReadyH.nil)
  go_simp
  ((with_reducible refine (k5 _ hHeld.ns).mono ?_); rintro e w' ⟨rfl, hb'⟩)
  refine hK.out _ _ (hHeld.keep hb') (fun hHeld => ?_)
  clear hK K
  try simp only [Act.put, List.setIfInBounds_toArray, List.set_cons_zero, List.set_cons_succ]
  refine wpAnyH_take (i := 8) (oi := ?ob7o) (v := ?ob7v) ?ob7h (by kernel_rfl) (by kernel_rfl) (by kernel_rfl) ?ob7q ?ob7y hHeld ?ob7r
  case ob7h => (simp only [List.getElem?_toArray, List.getElem?_cons_succ, List.getElem?_cons_zero]; rfl)
  case ob7q => exact fun _ _ _ h => h
  case ob7y => (refine Or.inl ⟨by first | kernel_rfl | rfl, ?_⟩; intro w hSw; (try dsimp only at hSw); obtain ⟨⟨x0, x1, x2, x3, x4, x5, x6, x7, x8⟩, -, -⟩ := hSw; go_simp <;> (try with_reducible rfl))
  try simp only [Act.put, List.setIfInBounds_toArray, List.set_cons_zero, List.set_cons_succ]
  refine wpAnyH_take (i := 9) (oi := ?ob8o) (v := ?ob8v) ?ob8h (by kernel_rfl) (by kernel_rfl) (by kernel_rfl) ?ob8q ?ob8y hHeld ?ob8r
  case ob8h => (simp only [List.getElem?_toArray, List.getElem?_cons_succ, List.getElem?_cons_zero]; rfl)
  case ob8q => exact fun _ _ _ h => h
  case ob8y => (refine Or.inl ⟨by first | kernel_rfl | rfl, ?_⟩; intro w hSw; (try dsimp only at hSw); obtain ⟨⟨x0, x1, x2, x3, x4, x5, x6, x7, x8⟩, -, -⟩ := hSw; go_simp <;> (try with_reducible rfl))
  try simp only [Act.put, List.setIfInBounds_toArray, List.set_cons_zero, List.set_cons_succ]
  refine wpAnyH_take (i := 10) (oi := ?ob9o) (v := ?ob9v) ?ob9h (by kernel_rfl) (by kernel_rfl) (by kernel_rfl) ?ob9q ?ob9y hHeld ?ob9r
  case ob9h => (simp only [List.getElem?_toArray, List.getElem?_cons_succ, List.getElem?_cons_zero]; rfl)
  case ob9q => exact fun _ _ _ h => h
  case ob9y => (refine Or.inl ⟨by first | kernel_rfl | rfl, ?_⟩; intro w hSw; (try dsimp only at hSw); obtain ⟨⟨x0, x1, x2, x3, x4, x5, x6, x7, x8⟩, -, -⟩ := hSw; go_simp <;> (try with_reducible rfl))
  try simp only [Act.put, List.setIfInBounds_toArray, List.set_cons_zero, List.set_cons_succ]
  refine wpAnyH_done (by kernel_rfl) ?_ _
  have hbel := hHeld.bel
  go_wp2
  go_ret2
  exact ⟨by rw [← HX.out]; rfl, hbel⟩

set_option maxHeartbeats 4000000 in
theorem rbytes6_cut (r : Rec) (dv : Value) (w : World) (S : ByteArray) (h : Ns w dv r.d) (hf : r.fits) (hok : r.ok = true) (hk : r.k = 2) (hS : Hid (tx r.bytes = S)) : Calls Try.prog 13 #[recV r dv] w fun e w' => e = .returned (.tuple #[.string S, .int .i64 0]) ∧ Below w.heap.size w w' := by
  have kc := fun w h => rcheck6_is r dv w h hf
  have he : r.err = 0 := by unfold Rec.err; rw [hok]; rfl
  rw [he] at kc
  obtain ⟨⟨t1, t2⟩, hpl, hst, -⟩ := Rec.head_parts (Rec.ok_head hok)
  have hkind := Rec.ok_kind hok
  have H0 := RHeld.new (r := r) h
  have hat := H0.at_
  obtain ⟨x0, x1, x2, x3, x4, x5, x6, x7, x8⟩ := hat
  unfold recV at kc ⊢
  obtain ⟨K0, hK0⟩ : ∃ s, tx (enc (2 : Int).toNat) = s := ⟨_, rfl⟩
  have k0 := fun w => putIntR 2 K0 w (by omega) (by omega) (Lib.hid hK0)
  have z0 : K0.size ≤ 10 := by rw [← hK0, tx_size]; exact enc_len10 _ (by decide)
  obtain ⟨A2, hA2⟩ : ∃ s, tx (enc r.t.toNat) = s := ⟨_, rfl⟩
  have k2 := fun w => putIntR r.t A2 w t1 t2 (Lib.hid hA2)
  have z2 : A2.size ≤ 10 := by rw [← hA2, tx_size]; exact enc_len10 _ (by omega)
  obtain ⟨B1, hB1⟩ : ∃ s, tx r.st.bytes = s := ⟨_, rfl⟩
  have k4 := fun w => rbytes_is r.st B1 w (Lib.hid hB1)
  have z4 : B1.size ≤ 30 := by rw [← hB1, tx_size]; exact st_bytes_len _
  obtain ⟨B2, hB2⟩ : ∃ s, tx (textL (plainL r.d)) = s := ⟨_, rfl⟩
  have k5 := fun w h => rvtext_is dv r.d B2 w h (Lib.hid hB2)
  have z5 : B2.size ≤ 90 := by rw [← hB2, tx_size]; exact textL_plain_len _
  have ut : IntKind.u64.wrap r.t = r.t := u64_in r.t t1 t2
  obtain ⟨-, -, -, g1, g2⟩ : r.k = 2 ∧ r.s = ⟨#[]⟩ ∧ r.v = 0 ∧ 0 ≤ r.tier ∧ r.tier ≤ 3 := by rcases hkind with h | h; omega; exact h
  obtain ⟨A1, hA1⟩ : ∃ s, tx (enc r.tier.toNat) = s := ⟨_, rfl⟩
  have k1 := fun w => putIntR r.tier A1 w (by omega) (by omega) (Lib.hid hA1)
  have z1 : A1.size ≤ 10 := by rw [← hA1, tx_size]; exact enc_len10 _ (by omega)
  have ui : IntKind.u64.wrap r.tier = r.tier := u64_in r.tier (by omega) (by omega)
  obtain ⟨X1, hX1⟩ : ∃ s, K0 ++ A1 = s := ⟨_, rfl⟩
  have yX1 : X1.size = K0.size + A1.size := by rw [← hX1]; simp
  have pX1 : K0.size + A1.size ≤ 9223372036854775807 := by omega
  have qX1 : ¬ 9223372036854775807 < K0.size + A1.size := by omega
  obtain ⟨X2, hX2⟩ : ∃ s, X1 ++ A2 = s := ⟨_, rfl⟩
  have yX2 : X2.size = X1.size + A2.size := by rw [← hX2]; simp
  have pX2 : X1.size + A2.size ≤ 9223372036854775807 := by omega
  have qX2 : ¬ 9223372036854775807 < X1.size + A2.size := by omega
  obtain ⟨X4, hX4⟩ : ∃ s, X2 ++ B1 = s := ⟨_, rfl⟩
  have yX4 : X4.size = X2.size + B1.size := by rw [← hX4]; simp
  have pX4 : X2.size + B1.size ≤ 9223372036854775807 := by omega
  have qX4 : ¬ 9223372036854775807 < X2.size + B1.size := by omega
  obtain ⟨X5, hX5⟩ : ∃ s, X4 ++ B2 = s := ⟨_, rfl⟩
  have yX5 : X5.size = X4.size + B2.size := by rw [← hX5]; simp
  have pX5 : X4.size + B2.size ≤ 9223372036854775807 := by omega
  have qX5 : ¬ 9223372036854775807 < X4.size + B2.size := by omega
  have hfin : X5 = S := by
    have e2 : r.mid = enc r.tier.toNat ++ enc r.t.toNat := if_neg (by omega)
    rw [← hS.out, ← hX5, ← hX4, ← hX2, ← hX1, ← hK0, ← hA1, ← hA2, ← hB1, ← hB2, tx_app, tx_app, tx_app, tx_app]
    unfold Rec.bytes
    rw [e2, hk]
    simp only [List.append_assoc]
  have HX := Lib.hid hfin
  have HK := Lib.hid hk
  clear hk x0 x1 x2 x3 x4 x5 x6 x7 x8
  clear he hok hS h hpl hst hkind hfin hK0 hA2 hB1 hB2 z0 z2 z4 z5 hA1 z1 g1 g2 hf yX1 yX2 yX4 yX5
  go_enter Try.func13, Try.ntmps13
  go_wp2_with (first
    | (go_at_call 17; (with_reducible refine (kc _ H0.ns).mono ?_); rintro e w1 ⟨rfl, hb1⟩; have H1 := H0.keep hb1; have hat := H1.at_; obtain ⟨x0, x1, x2, x3, x4, x5, x6, x7, x8⟩ := hat; rw [HK.out] at x0)
    | (go_at_call 40; (with_reducible refine (k0 _).mono ?_); rintro e w2 ⟨rfl, hb2⟩; have H2 := H1.keep hb2; have hat := H2.at_; obtain ⟨x0, x1, x2, x3, x4, x5, x6, x7, x8⟩ := hat; rw [HK.out] at x0))
  clear H0 H1 hb1 hb2 kc k0 x0 x1 x2 x3 x4 x5 x6 x7 x8
  refine wp_region_held_drew (S := (RHeld w w.heap.size r dv)) (by kernel_rfl) H2.drew (fun hHeld => ?_)
  refine wpAnyH_take (i := 0) (oi := ?oc1o) (v := ?oc1v) ?oc1h (by kernel_rfl) (by kernel_rfl) (by kernel_rfl) ?oc1q ?oc1y hHeld ?oc1r
  case oc1h => (simp only [List.getElem?_toArray, List.getElem?_cons_zero]; rfl)
  case oc1q => exact fun _ _ _ h => h
  case oc1y => (refine Or.inl ⟨by first | kernel_rfl | rfl, ?_⟩; intro w hSw; (try dsimp only at hSw); obtain ⟨⟨x0, x1, x2, x3, x4, x5, x6, x7, x8⟩, -, -⟩ := hSw; go_simp <;> (try with_reducible rfl))
  try simp only [Act.put, List.setIfInBounds_toArray, List.set_cons_zero, List.set_cons_succ]
  refine wpAnyH_take (i := 1) (oi := ?oc2o) (v := ?oc2v) ?oc2h (by kernel_rfl) (by kernel_rfl) (by kernel_rfl) ?oc2q ?oc2y hHeld ?oc2r
  case oc2h => (simp only [List.getElem?_toArray, List.getElem?_cons_succ, List.getElem?_cons_zero]; rfl)
  case oc2q => exact fun _ _ _ h => h
  case oc2y => (refine Or.inl ⟨by first | kernel_rfl | rfl, ?_⟩; intro w hSw; (try dsimp only at hSw); obtain ⟨⟨x0, x1, x2, x3, x4, x5, x6, x7, x8⟩, -, -⟩ := hSw; go_simp <;> (try with_reducible rfl))
  try simp only [Act.put, List.setIfInBounds_toArray, List.set_cons_zero, List.set_cons_succ]
  refine wpAnyH_take (i := 2) (oi := ?oc3o) (v := ?oc3v) ?oc3h (by kernel_rfl) (by kernel_rfl) (by kernel_rfl) ?oc3q ?oc3y hHeld ?oc3r
  case oc3h => (simp only [List.getElem?_toArray, List.getElem?_cons_succ, List.getElem?_cons_zero]; rfl)
  case oc3q => exact fun _ _ _ h => h
  case oc3y => (refine Or.inl ⟨by first | kernel_rfl | rfl, ?_⟩; intro w hSw; (try dsimp only at hSw); obtain ⟨⟨x0, x1, x2, x3, x4, x5, x6, x7, x8⟩, -, -⟩ := hSw; go_simp <;> (try with_reducible rfl))
  try simp only [Act.put, List.setIfInBounds_toArray, List.set_cons_zero, List.set_cons_succ]
  refine wpAnyH_take (i := 3) (oi := ?oc4o) (v := ?oc4v) ?oc4h (by kernel_rfl) (by kernel_rfl) (by kernel_rfl) ?oc4q ?oc4y hHeld ?oc4r
  case oc4h => (simp only [List.getElem?_toArray, List.getElem?_cons_succ, List.getElem?_cons_zero]; rfl)
  case oc4q => exact fun _ _ _ h => h
  case oc4y => (refine Or.inl ⟨by first | kernel_rfl | rfl, ?_⟩; intro w hSw; (try dsimp only at hSw); obtain ⟨⟨x0, x1, x2, x3, x4, x5, x6, x7, x8⟩, -, -⟩ := hSw; go_simp <;> (try with_reducible rfl))
  try simp only [Act.put, List.setIfInBounds_toArray, List.set_cons_zero, List.set_cons_succ]
  refine wpAnyH_take (i := 6) (oi := ?oc5o) (v := ?oc5v) ?oc5h (by kernel_rfl) (by kernel_rfl) (by kernel_rfl) ?oc5q ?oc5y hHeld ?oc5r
  case oc5h => (simp only [List.getElem?_toArray, List.getElem?_cons_succ, List.getElem?_cons_zero]; rfl)
  case oc5q => exact fun _ _ _ h => h
  case oc5y => (refine Or.inl ⟨by first | kernel_rfl | rfl, ?_⟩; intro w hSw; (try dsimp only at hSw); obtain ⟨⟨x0, x1, x2, x3, x4, x5, x6, x7, x8⟩, -, -⟩ := hSw; go_simp <;> (try with_reducible rfl))
  try simp only [Act.put, List.setIfInBounds_toArray, List.set_cons_zero, List.set_cons_succ]
  refine wpAnyH_take (i := 7) (oi := ?oc6o) (v := ?oc6v) ?oc6h (by kernel_rfl) (by kernel_rfl) (by kernel_rfl) ?oc6q ?oc6y hHeld ?oc6r
  case oc6h => (simp only [List.getElem?_toArray, List.getElem?_cons_succ, List.getElem?_cons_zero]; rfl)
  case oc6q => exact fun _ _ _ h => h
  case oc6y => (refine Or.inl ⟨by first | kernel_rfl | rfl, ?_⟩; intro w hSw; (try dsimp only at hSw); obtain ⟨⟨x0, x1, x2, x3, x4, x5, x6, x7, x8⟩, -, -⟩ := hSw; go_simp <;> (try with_reducible rfl))
  try simp only [Act.put, List.setIfInBounds_toArray, List.set_cons_zero, List.set_cons_succ]
  refine wpAnyH_take (i := 8) (oi := ?oc7o) (v := ?oc7v) ?oc7h (by kernel_rfl) (by kernel_rfl) (by kernel_rfl) ?oc7q ?oc7y hHeld ?oc7r
  case oc7h => (simp only [List.getElem?_toArray, List.getElem?_cons_succ, List.getElem?_cons_zero]; rfl)
  case oc7q => exact fun _ _ _ h => h
  case oc7y => (refine Or.inl ⟨by first | kernel_rfl | rfl, ?_⟩; intro w hSw; (try dsimp only at hSw); obtain ⟨⟨x0, x1, x2, x3, x4, x5, x6, x7, x8⟩, -, -⟩ := hSw; go_simp <;> (try with_reducible rfl))
  try simp only [Act.put, List.setIfInBounds_toArray, List.set_cons_zero, List.set_cons_succ]
  refine wpAnyH_ready (rs := [4]) (by kernel_rfl) (by simp) ?_
  refine (AllReadyH.cons rfl (fun K hK => ?_) AllReadyH.nil)
  go_simp
  ((with_reducible refine (k1 _).mono ?_); rintro e w' ⟨rfl, hb'⟩)
  refine hK.out _ _ (hHeld.keep hb') (fun hHeld => ?_)
  clear hK K
  try simp only [Act.put, List.setIfInBounds_toArray, List.set_cons_zero, List.set_cons_succ]
  refine wpAnyH_take (i := 5) (oi := ?oc8o) (v := ?oc8v) ?oc8h (by kernel_rfl) (by kernel_rfl) (by kernel_rfl) ?oc8q ?oc8y hHeld ?oc8r
  case oc8h => (simp only [List.getElem?_toArray, List.getElem?_cons_succ, List.getElem?_cons_zero]; rfl)
  case oc8q => exact fun _ _ _ h => h
  case oc8y => (refine Or.inl ⟨by first | kernel_rfl | rfl, ?_⟩; intro w hSw; (try dsimp only at hSw); obtain ⟨⟨x0, x1, x2, x3, x4, x5, x6, x7, x8⟩, -, -⟩ := hSw; go_simp <;> (try with_reducible rfl))
  try simp only [Act.put, List.setIfInBounds_toArray, List.set_cons_zero, List.set_cons_succ]
  refine wpAnyH_ready (rs := [9]) (by kernel_rfl) (by simp) ?_
  refine (AllReadyH.cons rfl (fun K hK => ?_) AllReadyH.nil)
  go_simp
  ((with_reducible refine (k2 _).mono ?_); rintro e w' ⟨rfl, hb'⟩)
  refine hK.out _ _ (hHeld.keep hb') (fun hHeld => ?_)
  clear hK K
  try simp only [Act.put, List.setIfInBounds_toArray, List.set_cons_zero, List.set_cons_succ]
  refine wpAnyH_take (i := 10) (oi := ?oc9o) (v := ?oc9v) ?oc9h (by kernel_rfl) (by kernel_rfl) (by kernel_rfl) ?oc9q ?oc9y hHeld ?oc9r
  case oc9h => (simp only [List.getElem?_toArray, List.getElem?_cons_succ, List.getElem?_cons_zero]; rfl)
  case oc9q => exact fun _ _ _ h => h
  case oc9y => (refine Or.inl ⟨by first | kernel_rfl | rfl, ?_⟩; intro w hSw; (try dsimp only at hSw); obtain ⟨⟨x0, x1, x2, x3, x4, x5, x6, x7, x8⟩, -, -⟩ := hSw; go_simp <;> (try with_reducible rfl))
  try simp only [Act.put, List.setIfInBounds_toArray, List.set_cons_zero, List.set_cons_succ]
  refine wpAnyH_take (i := 11) (oi := ?oc10o) (v := ?oc10v) ?oc10h (by kernel_rfl) (by kernel_rfl) (by kernel_rfl) ?oc10q ?oc10y hHeld ?oc10r
  case oc10h => (simp only [List.getElem?_toArray, List.getElem?_cons_succ, List.getElem?_cons_zero]; rfl)
  case oc10q => exact fun _ _ _ h => h
  case oc10y => (refine Or.inl ⟨by first | kernel_rfl | rfl, ?_⟩; intro w hSw; (try dsimp only at hSw); obtain ⟨⟨x0, x1, x2, x3, x4, x5, x6, x7, x8⟩, -, -⟩ := hSw; go_simp <;> (try with_reducible rfl))
  try simp only [Act.put, List.setIfInBounds_toArray, List.set_cons_zero, List.set_cons_succ]
  refine wpAnyH_done (by kernel_rfl) ?_ _
  go_wp2_with fail
  refine wp_region_held_drew (S := (RHeld w w.heap.size r dv)) (by kernel_rfl) hHeld.drew (fun hHeld => ?_)
  refine wpAnyH_take (i := 0) (oi := ?od1o) (v := ?od1v) ?od1h (by kernel_rfl) (by kernel_rfl) (by kernel_rfl) ?od1q ?od1y hHeld ?od1r
  case od1h => (simp only [List.getElem?_toArray, List.getElem?_cons_zero]; rfl)
  case od1q => exact fun _ _ _ h => h
  case od1y => (refine Or.inl ⟨by first | kernel_rfl | rfl, ?_⟩; intro w hSw; (try dsimp only at hSw); obtain ⟨⟨x0, x1, x2, x3, x4, x5, x6, x7, x8⟩, -, -⟩ := hSw; go_simp <;> (try with_reducible rfl))
  try simp only [Act.put, List.setIfInBounds_toArray, List.set_cons_zero, List.set_cons_succ]
  refine wpAnyH_take (i := 1) (oi := ?od2o) (v := ?od2v) ?od2h (by kernel_rfl) (by kernel_rfl) (by kernel_rfl) ?od2q ?od2y hHeld ?od2r
  case od2h => (simp only [List.getElem?_toArray, List.getElem?_cons_succ, List.getElem?_cons_zero]; rfl)
  case od2q => exact fun _ _ _ h => h
  case od2y => (refine Or.inl ⟨by first | kernel_rfl | rfl, ?_⟩; intro w hSw; (try dsimp only at hSw); obtain ⟨⟨x0, x1, x2, x3, x4, x5, x6, x7, x8⟩, -, -⟩ := hSw; go_simp <;> (try with_reducible rfl))
  try simp only [Act.put, List.setIfInBounds_toArray, List.set_cons_zero, List.set_cons_succ]
  refine wpAnyH_take (i := 2) (oi := ?od3o) (v := ?od3v) ?od3h (by kernel_rfl) (by kernel_rfl) (by kernel_rfl) ?od3q ?od3y hHeld ?od3r
  case od3h => (simp only [List.getElem?_toArray, List.getElem?_cons_succ, List.getElem?_cons_zero]; rfl)
  case od3q => exact fun _ _ _ h => h
  case od3y => (refine Or.inl ⟨by first | kernel_rfl | rfl, ?_⟩; intro w hSw; (try dsimp only at hSw); obtain ⟨⟨x0, x1, x2, x3, x4, x5, x6, x7, x8⟩, -, -⟩ := hSw; go_simp <;> (try with_reducible rfl))
  try simp only [Act.put, List.setIfInBounds_toArray, List.set_cons_zero, List.set_cons_succ]
  refine wpAnyH_take (i := 5) (oi := ?od4o) (v := ?od4v) ?od4h (by kernel_rfl) (by kernel_rfl) (by kernel_rfl) ?od4q ?od4y hHeld ?od4r
  case od4h => (simp only [List.getElem?_toArray, List.getElem?_cons_succ, List.getElem?_cons_zero]; rfl)
  case od4q => exact fun _ _ _ h => h
  case od4y => (refine Or.inl ⟨by first | kernel_rfl | rfl, ?_⟩; intro w hSw; (try dsimp only at hSw); obtain ⟨⟨x0, x1, x2, x3, x4, x5, x6, x7, x8⟩, -, -⟩ := hSw; go_simp <;> (try with_reducible rfl))
  try simp only [Act.put, List.setIfInBounds_toArray, List.set_cons_zero, List.set_cons_succ]
  refine wpAnyH_take (i := 6) (oi := ?od5o) (v := ?od5v) ?od5h (by kernel_rfl) (by kernel_rfl) (by kernel_rfl) ?od5q ?od5y hHeld ?od5r
  case od5h => (simp only [List.getElem?_toArray, List.getElem?_cons_succ, List.getElem?_cons_zero]; rfl)
  case od5q => exact fun _ _ _ h => h
  case od5y => (refine Or.inl ⟨by first | kernel_rfl | rfl, ?_⟩; intro w hSw; (try dsimp only at hSw); obtain ⟨⟨x0, x1, x2, x3, x4, x5, x6, x7, x8⟩, -, -⟩ := hSw; go_simp <;> (try with_reducible rfl))
  try simp only [Act.put, List.setIfInBounds_toArray, List.set_cons_zero, List.set_cons_succ]
  refine wpAnyH_ready (rs := [3]) (by kernel_rfl) (by simp) ?_
  refine (AllReadyH.cons rfl (fun K hK => ?_) AllReadyH.nil)
  go_simp
  ((with_reducible refine (k4 _).mono ?_); rintro e w' ⟨rfl, hb'⟩)
  refine hK.out _ _ (hHeld.keep hb') (fun hHeld => ?_)
  clear hK K
  try simp only [Act.put, List.setIfInBounds_toArray, List.set_cons_zero, List.set_cons_succ]
  refine wpAnyH_take (i := 4) (oi := ?od6o) (v := ?od6v) ?od6h (by kernel_rfl) (by kernel_rfl) (by kernel_rfl) ?od6q ?od6y hHeld ?od6r
  case od6h => (simp only [List.getElem?_toArray, List.getElem?_cons_succ, List.getElem?_cons_zero]; rfl)
  case od6q => exact fun _ _ _ h => h
  case od6y => (refine Or.inl ⟨by first | kernel_rfl | rfl, ?_⟩; intro w hSw; (try dsimp only at hSw); obtain ⟨⟨x0, x1, x2, x3, x4, x5, x6, x7, x8⟩, -, -⟩ := hSw; go_simp <;> (try with_reducible rfl))
  try simp only [Act.put, List.setIfInBounds_toArray, List.set_cons_zero, List.set_cons_succ]
  refine wpAnyH_ready (rs := [7]) (by kernel_rfl) (by simp) ?_
  refine (AllReadyH.cons rfl (fun K hK => ?_) AllReadyH.nil)
  go_simp
  ((with_reducible refine (k5 _ hHeld.ns).mono ?_); rintro e w' ⟨rfl, hb'⟩)
  refine hK.out _ _ (hHeld.keep hb') (fun hHeld => ?_)
  clear hK K
  try simp only [Act.put, List.setIfInBounds_toArray, List.set_cons_zero, List.set_cons_succ]
  refine wpAnyH_take (i := 8) (oi := ?od7o) (v := ?od7v) ?od7h (by kernel_rfl) (by kernel_rfl) (by kernel_rfl) ?od7q ?od7y hHeld ?od7r
  case od7h => (simp only [List.getElem?_toArray, List.getElem?_cons_succ, List.getElem?_cons_zero]; rfl)
  case od7q => exact fun _ _ _ h => h
  case od7y => (refine Or.inl ⟨by first | kernel_rfl | rfl, ?_⟩; intro w hSw; (try dsimp only at hSw); obtain ⟨⟨x0, x1, x2, x3, x4, x5, x6, x7, x8⟩, -, -⟩ := hSw; go_simp <;> (try with_reducible rfl))
  try simp only [Act.put, List.setIfInBounds_toArray, List.set_cons_zero, List.set_cons_succ]
  refine wpAnyH_take (i := 9) (oi := ?od8o) (v := ?od8v) ?od8h (by kernel_rfl) (by kernel_rfl) (by kernel_rfl) ?od8q ?od8y hHeld ?od8r
  case od8h => (simp only [List.getElem?_toArray, List.getElem?_cons_succ, List.getElem?_cons_zero]; rfl)
  case od8q => exact fun _ _ _ h => h
  case od8y => (refine Or.inl ⟨by first | kernel_rfl | rfl, ?_⟩; intro w hSw; (try dsimp only at hSw); obtain ⟨⟨x0, x1, x2, x3, x4, x5, x6, x7, x8⟩, -, -⟩ := hSw; go_simp <;> (try with_reducible rfl))
  try simp only [Act.put, List.setIfInBounds_toArray, List.set_cons_zero, List.set_cons_succ]
  refine wpAnyH_take (i := 10) (oi := ?od9o) (v := ?od9v) ?od9h (by kernel_rfl) (by kernel_rfl) (by kernel_rfl) ?od9q ?od9y hHeld ?od9r
  case od9h => (simp only [List.getElem?_toArray, List.getElem?_cons_succ, List.getElem?_cons_zero]; rfl)
  case od9q => exact fun _ _ _ h => h
  case od9y => (refine Or.inl ⟨by first | kernel_rfl | rfl, ?_⟩; intro w hSw; (try dsimp only at hSw); obtain ⟨⟨x0, x1, x2, x3, x4, x5, x6, x7, x8⟩, -, -⟩ := hSw; go_simp <;> (try with_reducible rfl))
  try simp only [Act.put, List.setIfInBounds_toArray, List.set_cons_zero, List.set_cons_succ]
  refine wpAnyH_done (by kernel_rfl) ?_ _
  have hbel := hHeld.bel
  go_wp2
  go_ret2
  exact ⟨by rw [← HX.out]; rfl, hbel⟩
end Go.Proofs.Ytjckphmkhikpaaa
