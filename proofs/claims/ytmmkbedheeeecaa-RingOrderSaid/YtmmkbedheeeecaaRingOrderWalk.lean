/- The walk of RingOrder. -/
import Derived.Test.YtmmkbedheeeecaaRingLaw2
import Derived.BigQuiet
set_option maxRecDepth 20000
set_option linter.unusedSimpArgs false
namespace Go.Proofs.Ytmmkbedheeeecaa.ringOrder
open Go.RowKit Go.Proofs.Ytmmkbedheeeecaa

/-- The last k numbers, from the back, each twice. -/
def dbl (l : List Int) (k : Nat) : List Int := ((l.drop (l.length - k)).reverse).flatMap fun x => [x, x]
theorem dbl_zero (l : List Int) : dbl l 0 = [] := by unfold dbl; rw [List.drop_eq_nil_of_le (by omega)]; rfl
theorem dbl_next {l : List Int} {k i : Nat} {y : Int} (hi : i < l.length) (hk : i + k + 1 = l.length) (hy : l[i] = y) : dbl l (k + 1) = dbl l k ++ [y, y] := by
  unfold dbl
  rw [show l.length - (k + 1) = i by omega, show l.length - k = i + 1 by omega, List.drop_eq_getElem_cons hi, List.reverse_cons, List.flatMap_append, hy]
  simp
theorem dbl_len {l : List Int} {k : Nat} (h : k ≤ l.length) : (dbl l k).length = 2 * k := by
  unfold dbl
  have : ∀ m : List Int, (m.flatMap fun x => [x, x]).length = 2 * m.length := by
    intro m
    induction m with
    | nil => rfl
    | cons a t ih => rw [List.flatMap_cons, List.length_append, ih]; simp; omega
  rw [this, List.length_reverse, List.length_drop]; omega
theorem dbl_mem {l : List Int} {k : Nat} {x : Int} (h : x ∈ dbl l k) : x ∈ l := by
  unfold dbl at h
  obtain ⟨y, h1, h2⟩ := List.mem_flatMap.1 h
  have e : x = y := by simpa using h2
  rw [e]
  exact List.mem_of_mem_drop (List.mem_reverse.1 h1)
theorem dbl_nodes (l : List Int) : nodesL (dbl l l.length) = nodesL l := by
  refine nodesL_congr fun x _ _ => ⟨dbl_mem, fun h => ?_⟩
  unfold dbl
  exact List.mem_flatMap.2 ⟨x, List.mem_reverse.2 (by rw [Nat.sub_self, List.drop_zero]; exact h), by simp⟩
theorem nodes_all (l : List Int) (h : Int) : nodesL (allL l h) = nodesL l := by
  refine nodesL_congr fun x h1 h2 => ?_
  rw [allL_mem, nodesL_mem]
  exact ⟨fun h => h.1, fun h => ⟨h, h1, h2⟩⟩
theorem cell_drew {w : World} {p : Addr} {v : Value} (h : w.cell? p = some v) : w.drew.cell? p = some v := h
theorem cell_alloc {w : World} {p : Addr} {v : Value} {o : Obj} (h : w.cell? p = some v) : (w.alloc o).cell? p = some v := ((Below.refl w.heap.size w).alloc (Nat.le_refl _) o).cell (p := p) (World.block_lt_of_cell? w _ h) |>.trans h
theorem cellB {w : World} {B : Nat} {a : Option Addr} {len cap : Nat} {l : List Int} (h : Nums w B (.slice a len cap) l) (h0 : 0 < l.length) : ∃ b off, a = some ⟨b, off, none⟩ ∧ b < B ∧ ∀ j (h : j < l.length), w.cell? ⟨b, off + j, none⟩ = some (.int .i64 l[j]) := by
  obtain ⟨⟨a', cap', h1, h2⟩, _⟩ := h
  injection h1 with e1 e2 e3
  subst e1 e2
  rcases h2 with rfl | ⟨b, off, h3, hb, h4⟩
  · simp at h0
  · exact ⟨b, off, h3, hb, h4⟩
theorem two_ns (w : World) (y : Int) (hy : -9223372036854775808 ≤ y ∧ y ≤ 9223372036854775807) : Ns (w.alloc (.cells #[.int .i64 y, .int .i64 y] 3)) (.slice (some ⟨w.heap.size, 0, none⟩) 2 2) [y, y] :=
  ⟨⟨_, _, rfl, Or.inr ⟨w.heap.size, 0, rfl, by simp, fun j hj => by
    match j, hj with
    | 0, _ => simp
    | 1, _ => simp⟩⟩, fun n hn => by simp at hn; rw [hn]; exact hy, by simp, Nat.le_refl _⟩
theorem all_len (l : List Int) (h : Int) : (allL l h).length = (nodesL l).length := (allL_perm l h).length_eq
theorem same_moved (L : List Int) : L.filter (notIn L) = [] := by
  refine List.filter_eq_nil_iff.2 fun x hx => ?_
  unfold notIn
  rw [inL_mem.2 hx]; decide
set_option maxHeartbeats 8000000 in
theorem walk (a0 : Option Addr) (len0 cap0 : Nat) (key : ByteArray) (most : Int) (w : World) (h0 : ArgInts w a0 len0 cap0) (hkey : key.size ≤ maxLen) (hmost : -9223372036854775808 ≤ most ∧ most ≤ 9223372036854775807) :
    Calls Try.prog 6 #[.slice a0 len0 cap0, .string key, .int .i64 most] w fun e w' => e = .returned (.bool true) ∧ Below w.heap.size w w' := by
  have ka := awake_is w
  have kf := fun W k => few2_is h0 W k
  clear h0
  obtain ⟨t, ht⟩ : ∃ t, cutB key 100 = t := ⟨_, rfl⟩
  have htm : t.size ≤ maxLen := by rw [← ht]; exact cutB_size key 100 hkey
  have ks := fun W => short_is key t 100 100 W rfl (by omega) (Lib.hid ht)
  have kn := fun v l w h => new_is 1 v l w h
  clear ht hkey
  go_enter Try.func6, Try.ntmps6
  go_wp2_with (first
    | (go_at_call 8; (with_reducible refine ka.mono ?_); rintro e w1 ⟨rfl, hB⟩; (have kf2 := kf w1 hB); (have HB1 := Lib.hid hB); clear hB kf)
    | (go_at_call 12; (with_reducible refine kf2.mono ?_); rintro e w2 ⟨A, aA, na, cA, rfl, hl, hA12, hA, rfl⟩; (have HAA := Lib.hid hA); (have HNA := Lib.hid hl); (have hwA : IntKind.i64.wrap ((na : Int) - 1) = (na : Int) - 1 := (by rw [IntKind.wrap_i64]; omega)); clear hA hl kf2)
    | (go_at_call 9; (with_reducible refine (ks _).mono ?_); rintro e w2 ⟨rfl, rfl⟩))
  clear ka ks hwA
  go_loopg [9, 10] na (fun g out i wr => ∃ k : Nat, k + g = na ∧ i = .int .i64 ((na : Int) - 1 - (k : Int)) ∧ IRow wr w1.heap.size out (dbl A k) ∧ Below w1.heap.size w1 wr)
  case atStart => exact ⟨0, by omega, by go_num, by rw [dbl_zero]; exact IRow.nil _ _, Below.refl _ _⟩
  case round =>
    obtain ⟨k, hk, rfl, hR, hB⟩ := hrel
    obtain ⟨w3, hw3⟩ : ∃ w3, w3 = wr := ⟨_, rfl⟩
    subst hw3
    obtain ⟨a3, d3, e3⟩ := hR.slice
    obtain ⟨M, hM⟩ : ∃ M, dbl A k = M := ⟨_, rfl⟩
    have hMl := dbl_len (l := A) (k := k) (by rw [HNA.out]; omega)
    have hMw : ∀ x ∈ M, -9223372036854775808 ≤ x ∧ x ≤ 9223372036854775807 := by
      rw [← hM]; exact fun x hx => HAA.out.wide x (dbl_mem hx)
    rw [hM] at hR e3 hMl
    obtain ⟨m, hm⟩ : ∃ m, M.length = m := ⟨_, rfl⟩
    rw [hm] at e3 hMl
    have HM := Lib.hid hM
    have HMM := Lib.hid hm
    have HMW := Lib.hid hMw
    subst e3
    have HR := Lib.hid hR
    have HB := Lib.hid hB
    clear hR hB hM hm hMw
    cases gk with
    | succ g =>
      obtain ⟨i, hi⟩ : ∃ i : Nat, na - 1 - k = i := ⟨_, rfl⟩
      have hii : (na : Int) - 1 - (k : Int) = (i : Int) := by omega
      rw [hii]
      have hina : (i : Int) < (na : Int) := by omega
      have hiA : i < A.length := by rw [HNA.out]; omega
      obtain ⟨b, off, rfl, hbB, hc⟩ := cellB HAA.out (by omega)
      have c1 := (HB.out.cell (p := ⟨b, off + i, none⟩) hbB).trans (hc i hiA)
      obtain ⟨y, hy⟩ : ∃ y, A[i] = y := ⟨_, rfl⟩
      rw [hy] at c1
      have HX := Lib.hid (dbl_next (k := k) hiA (by rw [HNA.out]; omega) hy)
      have hyw : -9223372036854775808 ≤ y ∧ y ≤ 9223372036854775807 := by rw [← hy]; exact HAA.out.wide _ (List.getElem_mem _)
      have HYW := Lib.hid hyw
      have hIK : IntKind.i64.wrap ((i : Int) - 1) = (i : Int) - 1 := by rw [IntKind.wrap_i64]; omega
      have HKI := Lib.hid (show (i : Int) - 1 = (na : Int) - 1 - ((k + 1 : Nat) : Int) by omega)
      have hm24 : m ≤ 24 := by omega
      clear hc hy hyw hi hii hMl
      have hcy := c1
      go_upto_region 8 with fail
      refine wp_region_held_drew (S := fun W => W.cell? ⟨b, off + i, none⟩ = some (.int .i64 y)) (by kernel_rfl) (cell_drew hcy) (fun hHeld => ?_)
      have HRd := Lib.hid (HR.out.later ((Below.refl _ w3).drew))
      have HBd := Lib.hid (HB.out.trans ((Below.refl w1.heap.size w3).drew))
      generalize w3.drew = wd at *
      refine wpAnyH_take (i := 0) (oi := ?o1o) (v := ?o1v) ?o1h (by kernel_rfl) (by kernel_rfl) (by kernel_rfl) ?o1q ?o1y hHeld ?o1r
      case o1h => (simp only [List.getElem?_toArray, List.getElem?_cons_zero]; rfl)
      case o1q => exact fun _ _ _ h => h
      case o1y => (refine Or.inl ⟨by first | kernel_rfl | rfl, ?_⟩; intro w hSw; (try dsimp only at hSw); go_simp <;> (try with_reducible rfl))
      try simp only [Act.put, List.setIfInBounds_toArray, List.set_cons_zero, List.set_cons_succ]
      refine wpAnyH_take (i := 1) (oi := ?o2o) (v := ?o2v) ?o2h (by kernel_rfl) (by kernel_rfl) (by kernel_rfl) ?o2q ?o2y hHeld ?o2r
      case o2h => (simp only [List.getElem?_toArray, List.getElem?_cons_succ, List.getElem?_cons_zero]; rfl)
      case o2q => exact fun _ _ _ h => h
      case o2y => (refine Or.inl ⟨by first | kernel_rfl | rfl, ?_⟩; intro w hSw; (try dsimp only at hSw); go_simp <;> (try with_reducible rfl))
      try simp only [Act.put, List.setIfInBounds_toArray, List.set_cons_zero, List.set_cons_succ]
      refine wpAnyH_take (i := 2) (oi := ?o3o) (v := ?o3v) ?o3h (by kernel_rfl) (by kernel_rfl) (by kernel_rfl) ?o3q ?o3y hHeld ?o3r
      case o3h => (simp only [List.getElem?_toArray, List.getElem?_cons_succ, List.getElem?_cons_zero]; rfl)
      case o3q => exact fun _ _ _ h => h
      case o3y => (refine Or.inl ⟨by first | kernel_rfl | rfl, ?_⟩; intro w hSw; (try dsimp only at hSw); go_simp <;> (try with_reducible rfl))
      try simp only [Act.put, List.setIfInBounds_toArray, List.set_cons_zero, List.set_cons_succ]
      refine wpAnyH_take (i := 3) (oi := ?o4o) (v := ?o4v) ?o4h (by kernel_rfl) (by kernel_rfl) (by kernel_rfl) ?o4q ?o4y hHeld ?o4r
      case o4h => (simp only [List.getElem?_toArray, List.getElem?_cons_succ, List.getElem?_cons_zero]; rfl)
      case o4q => exact fun _ _ _ h => h
      case o4y => (refine Or.inl ⟨by first | kernel_rfl | rfl, ?_⟩; intro w hSw; (try dsimp only at hSw); go_simp <;> (try with_reducible rfl))
      try simp only [Act.put, List.setIfInBounds_toArray, List.set_cons_zero, List.set_cons_succ]
      refine wpAnyH_take (i := 4) (oi := ?o5o) (v := ?o5v) ?o5h (by kernel_rfl) (by kernel_rfl) (by kernel_rfl) ?o5q ?o5y hHeld ?o5r
      case o5h => (simp only [List.getElem?_toArray, List.getElem?_cons_succ, List.getElem?_cons_zero]; rfl)
      case o5q => exact fun _ _ _ h => h
      case o5y => (refine Or.inl ⟨by first | kernel_rfl | rfl, ?_⟩; intro w hSw; (try dsimp only at hSw); go_simp <;> (try with_reducible rfl))
      try simp only [Act.put, List.setIfInBounds_toArray, List.set_cons_zero, List.set_cons_succ]
      refine wpAnyH_take (i := 5) (oi := ?o6o) (v := ?o6v) ?o6h (by kernel_rfl) (by kernel_rfl) (by kernel_rfl) ?o6q ?o6y hHeld ?o6r
      case o6h => (simp only [List.getElem?_toArray, List.getElem?_cons_succ, List.getElem?_cons_zero]; rfl)
      case o6q => exact fun _ _ _ h => h
      case o6y => (refine Or.inl ⟨by first | kernel_rfl | rfl, ?_⟩; intro w hSw; (try dsimp only at hSw); go_simp <;> (try with_reducible rfl))
      try simp only [Act.put, List.setIfInBounds_toArray, List.set_cons_zero, List.set_cons_succ]
      refine wpAnyH_take (i := 6) (oi := ?o7o) (v := ?o7v) ?o7h (by kernel_rfl) (by kernel_rfl) (by kernel_rfl) ?o7q ?o7y hHeld ?o7r
      case o7h => (simp only [List.getElem?_toArray, List.getElem?_cons_succ, List.getElem?_cons_zero]; rfl)
      case o7q => exact fun _ _ _ h => h
      case o7y => (refine Or.inl ⟨by first | kernel_rfl | rfl, ?_⟩; intro w hSw; (try dsimp only at hSw); go_simp <;> (try with_reducible rfl))
      try simp only [Act.put, List.setIfInBounds_toArray, List.set_cons_zero, List.set_cons_succ]
      refine wpAnyH_take (i := 7) (oi := ?o8o) (v := ?o8v) ?o8h (by kernel_rfl) (by kernel_rfl) (by kernel_rfl) ?o8q ?o8y hHeld ?o8r
      case o8h => (simp only [List.getElem?_toArray, List.getElem?_cons_succ, List.getElem?_cons_zero]; rfl)
      case o8q => exact fun _ _ _ h => h
      case o8y => (refine Or.inl ⟨by first | kernel_rfl | rfl, ?_⟩; intro w hSw; (try dsimp only at hSw); go_simp <;> (try with_reducible rfl))
      try simp only [Act.put, List.setIfInBounds_toArray, List.set_cons_zero, List.set_cons_succ]
      refine wpAnyH_take (i := 8) (oi := ?o9o) (v := ?o9v) ?o9h (by kernel_rfl) (by kernel_rfl) (by kernel_rfl) ?o9q ?o9y hHeld ?o9r
      case o9h => (simp only [List.getElem?_toArray, List.getElem?_cons_succ, List.getElem?_cons_zero]; rfl)
      case o9q => exact fun _ _ _ h => h
      case o9y => (refine Or.inl ⟨by first | kernel_rfl | rfl, ?_⟩; intro w hSw; (try dsimp only at hSw); go_simp <;> (try with_reducible rfl))
      try simp only [Act.put, List.setIfInBounds_toArray, List.set_cons_zero, List.set_cons_succ]
      refine wpAnyH_ready (rs := [9]) (by kernel_rfl) (by simp) ?_
      refine (AllReadyH.cons rfl (fun K hK => ?_) AllReadyH.nil)
      go_simp
      skip
      refine hK.out _ _ (cell_alloc hHeld) (fun hHeld => ?_)
      clear hK K
      try simp only [Act.put, List.setIfInBounds_toArray, List.set_cons_zero, List.set_cons_succ]
      refine wpAnyH_ready (rs := [10]) (by kernel_rfl) (by simp) ?_
      refine (AllReadyH.cons rfl (fun K hK => ?_) AllReadyH.nil)
      refine step_ints rfl _ _ rfl w1.heap.size (.slice a3 m d3) (.slice (some ⟨wd.heap.size, 0, none⟩) 2 2) M [y, y] rfl rfl (HRd.out.later ((Below.refl _ wd).alloc (Nat.le_refl _) _)) (two_ns wd y HYW.out) (by simp) (by have := HBd.out.size; simp; omega) (by rw [HMM.out]; simp; omega) ?_
      intro v4 w4 hr4 hb4 G4
      have HR4 := Lib.hid hr4
      have HB4 := Lib.hid ((HBd.out.alloc HBd.out.size _).trans hb4)
      have CK := (hb4.cell (p := ⟨b, off + i, none⟩) hbB).trans hHeld
      clear hr4 hb4 G4
      refine hK.out _ _ (CK) (fun hHeld => ?_)
      clear hK K
      try simp only [Act.put, List.setIfInBounds_toArray, List.set_cons_zero, List.set_cons_succ]
      refine wpAnyH_take (i := 11) (oi := ?o10o) (v := ?o10v) ?o10h (by kernel_rfl) (by kernel_rfl) (by kernel_rfl) ?o10q ?o10y hHeld ?o10r
      case o10h => (simp only [List.getElem?_toArray, List.getElem?_cons_succ, List.getElem?_cons_zero]; rfl)
      case o10q => exact fun _ _ _ h => h
      case o10y => (refine Or.inl ⟨by first | kernel_rfl | rfl, ?_⟩; intro w hSw; (try dsimp only at hSw); go_simp <;> (try with_reducible rfl))
      try simp only [Act.put, List.setIfInBounds_toArray, List.set_cons_zero, List.set_cons_succ]
      refine wpAnyH_done (by kernel_rfl) ?_ _
      go_wp2
      go_roundg g
      case measure => omega
      case rel => exact ⟨k + 1, by omega, by rw [HKI.out], by rw [HX.out, HM.out]; exact HR4.out, HB4.out⟩
    | zero =>
      obtain rfl : k = na := by omega
      have hneg : (k : Int) - 1 - (k : Int) = -1 := by omega
      rw [hneg]
      have HE := Lib.hid (show nodesL M = nodesL A by rw [← HM.out, ← HNA.out, dbl_nodes])
      have hn1 := HAA.out.later HB.out
      have hn2 : Ns w3 (.slice a3 m d3) M := IRow.ns HR.out HMW.out (by rw [HMM.out]; omega)
      have k1 := kn _ A w3 hn1
      have HN2 := Lib.hid hn2
      have HB3 := Lib.hid (bel_next HB1.out HB.out)
      clear hn1 hn2 hMl
      go_wp2_with (first
        | (go_at_call 13; (with_reducible refine k1.mono ?_); rintro e w4 ⟨b1, v1, v2, rfl, hR, hB⟩; (have k2 := kn _ M w4 (HN2.out.later hB)); (have HR4 := Lib.hid hR); (have HB4 := Lib.hid (bel_next HB3.out hB)); clear hR hB k1)
        | (go_at_call 13; (with_reducible refine k2.mono ?_); rintro e w5 ⟨b2, v3, v4, rfl, hR, hB⟩; (rw [HE.out] at hR); (have kp := fun most W (k : Below w5.heap.size w5 W) => prefer_is b1 v1 v2 1 (nodesL A) (srt (ptsL (nodesL A))) t most W ((HR4.out.later hB).later k) (srt_rises _) htm); (have kq := fun most W (k : Below w5.heap.size w5 W) => prefer_is b2 v3 v4 1 (nodesL A) (srt (ptsL (nodesL A))) t most W (hR.later k) (srt_rises _) htm); (have km := fun W (k : Below w5.heap.size w5 W) => moved_is b1 v1 v2 1 (nodesL A) (srt (ptsL (nodesL A))) b2 v3 v4 1 (nodesL A) (srt (ptsL (nodesL A))) t most W ((HR4.out.later hB).later k) (srt_rises _) (hR.later k) (srt_rises _) htm); (have kd := fun W (k : Below w5.heap.size w5 W) => nodes_is b1 v1 v2 1 (nodesL A) (srt (ptsL (nodesL A))) W ((HR4.out.later hB).later k)); (have HB5 := Lib.hid (bel_next HB4.out hB)); clear hR hB k2 HR4 HB4 HB3 HN2))
      obtain ⟨L, hL⟩ : ∃ L, allL A (hashI t) = L := ⟨_, rfl⟩
      have hL1 : nodesL L = nodesL A := by rw [← hL]; exact nodes_all A _
      have hL2 : L.length = (nodesL A).length := by rw [← hL]; exact all_len A _
      have hL3 : ∀ n ∈ L, 0 ≤ n ∧ n ≤ 15 := fun n hn => by rw [← hL] at hn; exact (nodesL_ok A).2 n (allL_mem.1 hn)
      have hL4 : L.length ≤ 16 := by rw [hL2]; exact (nodesL_ok A).1
      have hN3 := (nodesL_ok A).2
      have e16 : preferL (srt (ptsL (nodesL A))) (hashI t) 16 = L := by rw [prefer_all, hL]; exact List.take_of_length_le (by simpa using hL4)
      have em : preferL (srt (ptsL (nodesL A))) (hashI t) most = L.take most.toNat := by rw [prefer_all, hL]
      have p1 := kp 16 w5 (Below.refl _ _)
      have p2' := fun W k => kq 16 W k
      have pm := fun W k => kp most W k
      rw [e16] at p1
      simp only [e16] at p2'
      simp only [em] at pm
      simp only [same_moved] at km
      generalize nodesL A = N at *
      have HL1 := Lib.hid hL1
      have HL2 := Lib.hid hL2
      have HL3 := Lib.hid hL3
      have HL4 := Lib.hid hL4
      have HN3 := Lib.hid hN3
      clear hL hL1 hL2 hL3 hL4 hN3 e16 em kp kq kn HM HMM HMW HR HAA HNA hA12 HB HE
      go_upto_region 15 with (first
        | (go_at_call 21; (with_reducible refine p1.mono ?_); rintro e w6 ⟨v6, rfl, hr, hB⟩; (obtain ⟨al, cl, rfl⟩ := hr.slice); (obtain ⟨nl, hnl⟩ : ∃ n, L.length = n := ⟨_, rfl⟩); (rw [hnl] at hr ⊢); (have HLR := Lib.hid hr); (have HNL := Lib.hid hnl); (have HB6 := Lib.hid hB); (have p2 := p2' w6 hB); clear hr hB hnl p1 p2')
        | (go_at_call 21; (with_reducible refine p2.mono ?_); rintro e w7 ⟨v7, rfl, hr, hB⟩; (have p3 := sameN (.slice al nl cl) v7 L L true w7 ((IRow.small HLR.out HL3.out HL4.out).later hB) (IRow.small hr HL3.out HL4.out) (by unfold sameL; simp)); (have HB7 := Lib.hid (bel_next HB6.out hB)); (have HLN := Lib.hid ((IRow.small HLR.out HL3.out HL4.out).later hB)); clear hr hB p2)
        | (go_at_call 18; (with_reducible refine p3.mono ?_); rintro e w8 ⟨rfl, hB⟩; (have p4 := rnodes_is (.slice al nl cl) L w8 (HLN.out.later hB)); (rw [HL1.out] at p4); (have HB8 := Lib.hid (bel_next HB7.out hB)); (have HLN8 := Lib.hid (HLN.out.later hB)); clear hB p3 HLN HB7)
        | (go_at_call 20; (with_reducible refine p4.mono ?_); rintro e w9 ⟨v9, rfl, hr, hB⟩; (have HR9 := Lib.hid hr); (have p5 := kd w9 (bel_next HB8.out hB)); (have HB9 := Lib.hid (bel_next HB8.out hB)); (have HLN9 := Lib.hid (HLN8.out.later hB)); clear hr hB p4 HB8 HLN8)
        | (go_at_call 19; (with_reducible refine p5.mono ?_); rintro e w10 ⟨v10, rfl, hr, hB⟩; (have p6 := sameN v9 v10 N N true w10 ((IRow.small HR9.out HN3.out (by rw [← HL2.out]; exact HL4.out)).later hB) (IRow.small hr HN3.out (by rw [← HL2.out]; exact HL4.out)) (by unfold sameL; simp)); (have HB10 := Lib.hid (bel_next HB9.out hB)); (have HLN10 := Lib.hid (HLN9.out.later hB)); clear hr hB p5 HB9 HLN9 HR9)
        | (go_at_call 18; (with_reducible refine p6.mono ?_); rintro e w11 ⟨rfl, hB⟩; (have HB11 := Lib.hid (bel_next HB10.out hB)); (have HLN11 := Lib.hid (HLN10.out.later hB)); clear hB p6 HB10 HLN10))
      have hnl16 : nl ≤ 16 := by rw [← HNL.out]; exact HL4.out
      have hcap : nl ≤ cl := by have := (IRow.cap HLR.out).1; rw [HNL.out] at this; exact this
      have HNN := Lib.hid (show N.length = nl by rw [← HL2.out]; exact HNL.out)
      clear HLR HB6
      have HPM := Lib.hid pm
      have HKM := Lib.hid km
      have HKD := Lib.hid kd
      clear pm km kd
      by_cases c1 : most < 0
      · have HT := Lib.hid (show L.take most.toNat = L.take 0 by rw [show most.toNat = 0 by omega])
        obtain ⟨pc, cc, ⟨rc1, rc2⟩, nc⟩ := cutI_head al nl cl 0 hcap (Nat.zero_le _)
        have hnlt : ¬ (nl : Int) < 0 := by omega
        have hz : ((0 : Nat) : Int) = 0 := rfl
        rw [hz] at rc1 rc2
        have HNC := Lib.hid (fun (W : World) (h : Ns W (.slice al nl cl) L) => nc h HNL.out)
        clear nc hz
        go_upto_region 19 with fail
        refine wp_region_held_drew (S := fun _ => True) (by kernel_rfl) trivial (fun hHeld => ?_)
        have HB12 := Lib.hid (HB11.out.trans (Below.refl w5.heap.size w11).drew)
        have HLN12 := Lib.hid (HLN11.out.later (Below.refl _ w11).drew)
        clear HB11 HLN11
        generalize w11.drew = w12 at *
        refine wpAnyH_take (i := 0) (oi := ?r19a1o) (v := ?r19a1v) ?r19a1h (by kernel_rfl) (by kernel_rfl) (by kernel_rfl) ?r19a1q ?r19a1y hHeld ?r19a1r
        case r19a1h => (simp only [List.getElem?_toArray, List.getElem?_cons_zero]; rfl)
        case r19a1q => exact fun _ _ _ h => h
        case r19a1y => (refine Or.inl ⟨by first | kernel_rfl | rfl, ?_⟩; intro w hSw; (try dsimp only at hSw); go_simp <;> (try with_reducible rfl))
        try simp only [Act.put, List.setIfInBounds_toArray, List.set_cons_zero, List.set_cons_succ]
        refine wpAnyH_take (i := 1) (oi := ?r19a2o) (v := ?r19a2v) ?r19a2h (by kernel_rfl) (by kernel_rfl) (by kernel_rfl) ?r19a2q ?r19a2y hHeld ?r19a2r
        case r19a2h => (simp only [List.getElem?_toArray, List.getElem?_cons_succ, List.getElem?_cons_zero]; rfl)
        case r19a2q => exact fun _ _ _ h => h
        case r19a2y => (refine Or.inl ⟨by first | kernel_rfl | rfl, ?_⟩; intro w hSw; (try dsimp only at hSw); go_simp <;> (try with_reducible rfl))
        try simp only [Act.put, List.setIfInBounds_toArray, List.set_cons_zero, List.set_cons_succ]
        refine wpAnyH_take (i := 2) (oi := ?r19a3o) (v := ?r19a3v) ?r19a3h (by kernel_rfl) (by kernel_rfl) (by kernel_rfl) ?r19a3q ?r19a3y hHeld ?r19a3r
        case r19a3h => (simp only [List.getElem?_toArray, List.getElem?_cons_succ, List.getElem?_cons_zero]; rfl)
        case r19a3q => exact fun _ _ _ h => h
        case r19a3y => (refine Or.inl ⟨by first | kernel_rfl | rfl, ?_⟩; intro w hSw; (try dsimp only at hSw); go_simp <;> (try with_reducible rfl))
        try simp only [Act.put, List.setIfInBounds_toArray, List.set_cons_zero, List.set_cons_succ]
        refine wpAnyH_take (i := 4) (oi := ?r19a4o) (v := ?r19a4v) ?r19a4h (by kernel_rfl) (by kernel_rfl) (by kernel_rfl) ?r19a4q ?r19a4y hHeld ?r19a4r
        case r19a4h => (simp only [List.getElem?_toArray, List.getElem?_cons_succ, List.getElem?_cons_zero]; rfl)
        case r19a4q => exact fun _ _ _ h => h
        case r19a4y => (refine Or.inl ⟨by first | kernel_rfl | rfl, ?_⟩; intro w hSw; (try dsimp only at hSw); go_simp <;> (try with_reducible rfl))
        try simp only [Act.put, List.setIfInBounds_toArray, List.set_cons_zero, List.set_cons_succ]
        refine wpAnyH_take (i := 5) (oi := ?r19a5o) (v := ?r19a5v) ?r19a5h (by kernel_rfl) (by kernel_rfl) (by kernel_rfl) ?r19a5q ?r19a5y hHeld ?r19a5r
        case r19a5h => (simp only [List.getElem?_toArray, List.getElem?_cons_succ, List.getElem?_cons_zero]; rfl)
        case r19a5q => exact fun _ _ _ h => h
        case r19a5y => (refine Or.inl ⟨by first | kernel_rfl | rfl, ?_⟩; intro w hSw; (try dsimp only at hSw); go_simp <;> (try with_reducible rfl))
        try simp only [Act.put, List.setIfInBounds_toArray, List.set_cons_zero, List.set_cons_succ]
        refine wpAnyH_take (i := 6) (oi := ?r19a6o) (v := ?r19a6v) ?r19a6h (by kernel_rfl) (by kernel_rfl) (by kernel_rfl) ?r19a6q ?r19a6y hHeld ?r19a6r
        case r19a6h => (simp only [List.getElem?_toArray, List.getElem?_cons_succ, List.getElem?_cons_zero]; rfl)
        case r19a6q => exact fun _ _ _ h => h
        case r19a6y => (refine Or.inl ⟨by first | kernel_rfl | rfl, ?_⟩; intro w hSw; (try dsimp only at hSw); go_simp <;> (try with_reducible rfl))
        try simp only [Act.put, List.setIfInBounds_toArray, List.set_cons_zero, List.set_cons_succ]
        refine wpAnyH_ready (rs := [3]) (by kernel_rfl) (by simp) ?_
        refine (AllReadyH.cons rfl (fun K hK => ?_) AllReadyH.nil)
        go_simp
        ((with_reducible refine (HPM.out _ HB12.out).mono ?_); rintro e w13 ⟨v13, rfl, hr, hB⟩; (have p7 := sameN v13 (.slice pc 0 cc) (L.take most.toNat) (L.take 0) true w13 (IRow.small hr (fun n hn => HL3.out n (List.mem_of_mem_take hn)) (by rw [List.length_take]; have := HL4.out; omega)) (HNC.out w13 (HLN12.out.later hB)) (by unfold sameL; rw [HT.out]; simp)); (have HB13 := Lib.hid (bel_next HB12.out hB)); clear hr hB)
        refine hK.out _ _ (trivial) (fun hHeld => ?_)
        clear hK K
        try simp only [Act.put, List.setIfInBounds_toArray, List.set_cons_zero, List.set_cons_succ]
        refine wpAnyH_ready (rs := [7]) (by kernel_rfl) (by simp) ?_
        refine (AllReadyH.cons rfl (fun K hK => ?_) AllReadyH.nil)
        go_simp
        ((with_reducible refine p7.mono ?_); rintro e w14 ⟨rfl, hB⟩; (have HB14 := Lib.hid (bel_next HB13.out hB)); clear hB p7)
        refine hK.out _ _ (trivial) (fun hHeld => ?_)
        clear hK K
        try simp only [Act.put, List.setIfInBounds_toArray, List.set_cons_zero, List.set_cons_succ]
        refine wpAnyH_take (i := 8) (oi := ?r19a7o) (v := ?r19a7v) ?r19a7h (by kernel_rfl) (by kernel_rfl) (by kernel_rfl) ?r19a7q ?r19a7y hHeld ?r19a7r
        case r19a7h => (simp only [List.getElem?_toArray, List.getElem?_cons_succ, List.getElem?_cons_zero]; rfl)
        case r19a7q => exact fun _ _ _ h => h
        case r19a7y => (refine Or.inl ⟨by first | kernel_rfl | rfl, ?_⟩; intro w hSw; (try dsimp only at hSw); go_simp <;> (try with_reducible rfl))
        try simp only [Act.put, List.setIfInBounds_toArray, List.set_cons_zero, List.set_cons_succ]
        refine wpAnyH_done (by kernel_rfl) ?_ _
        have kd1 := HKD.out _ HB14.out
        clear rc1 rc2
        go_wp2_with (first
          | (go_at_call 19; (with_reducible refine kd1.mono ?_); rintro e w15 ⟨v15, rfl, hr, hB⟩; (obtain ⟨an, cn, rfl⟩ := hr.slice); (rw [HNN.out]); (have HB15 := Lib.hid (bel_next HB14.out hB)); (have km1 := HKM.out _ HB15.out); clear hr hB kd1)
          | (go_at_call 22; (with_reducible refine km1.mono ?_); rintro e w16 ⟨v16, rfl, hr, hB⟩; (obtain ⟨am, cm, rfl⟩ := hr.slice); (have HB16 := Lib.hid (bel_next HB15.out hB)); clear hr hB km1))
        go_ret
        exact ⟨rfl, bel_next HB5.out HB16.out⟩
      · by_cases c2 : (nl : Int) < most
        · have HT := Lib.hid (show L.take most.toNat = L.take nl by rw [List.take_of_length_le (by rw [HNL.out]; omega), List.take_of_length_le (by rw [HNL.out]; exact Nat.le_refl _)])
          obtain ⟨pc, cc, ⟨rc1, rc2⟩, nc⟩ := cutI_head al nl cl nl hcap (Nat.le_refl _)
          have HNC := Lib.hid (fun (W : World) (h : Ns W (.slice al nl cl) L) => nc h HNL.out)
          clear nc
          go_upto_region 19 with fail
          refine wp_region_held_drew (S := fun _ => True) (by kernel_rfl) trivial (fun hHeld => ?_)
          have HB12 := Lib.hid (HB11.out.trans (Below.refl w5.heap.size w11).drew)
          have HLN12 := Lib.hid (HLN11.out.later (Below.refl _ w11).drew)
          clear HB11 HLN11
          generalize w11.drew = w12 at *
          refine wpAnyH_take (i := 0) (oi := ?r19b1o) (v := ?r19b1v) ?r19b1h (by kernel_rfl) (by kernel_rfl) (by kernel_rfl) ?r19b1q ?r19b1y hHeld ?r19b1r
          case r19b1h => (simp only [List.getElem?_toArray, List.getElem?_cons_zero]; rfl)
          case r19b1q => exact fun _ _ _ h => h
          case r19b1y => (refine Or.inl ⟨by first | kernel_rfl | rfl, ?_⟩; intro w hSw; (try dsimp only at hSw); go_simp <;> (try with_reducible rfl))
          try simp only [Act.put, List.setIfInBounds_toArray, List.set_cons_zero, List.set_cons_succ]
          refine wpAnyH_take (i := 1) (oi := ?r19b2o) (v := ?r19b2v) ?r19b2h (by kernel_rfl) (by kernel_rfl) (by kernel_rfl) ?r19b2q ?r19b2y hHeld ?r19b2r
          case r19b2h => (simp only [List.getElem?_toArray, List.getElem?_cons_succ, List.getElem?_cons_zero]; rfl)
          case r19b2q => exact fun _ _ _ h => h
          case r19b2y => (refine Or.inl ⟨by first | kernel_rfl | rfl, ?_⟩; intro w hSw; (try dsimp only at hSw); go_simp <;> (try with_reducible rfl))
          try simp only [Act.put, List.setIfInBounds_toArray, List.set_cons_zero, List.set_cons_succ]
          refine wpAnyH_take (i := 2) (oi := ?r19b3o) (v := ?r19b3v) ?r19b3h (by kernel_rfl) (by kernel_rfl) (by kernel_rfl) ?r19b3q ?r19b3y hHeld ?r19b3r
          case r19b3h => (simp only [List.getElem?_toArray, List.getElem?_cons_succ, List.getElem?_cons_zero]; rfl)
          case r19b3q => exact fun _ _ _ h => h
          case r19b3y => (refine Or.inl ⟨by first | kernel_rfl | rfl, ?_⟩; intro w hSw; (try dsimp only at hSw); go_simp <;> (try with_reducible rfl))
          try simp only [Act.put, List.setIfInBounds_toArray, List.set_cons_zero, List.set_cons_succ]
          refine wpAnyH_take (i := 4) (oi := ?r19b4o) (v := ?r19b4v) ?r19b4h (by kernel_rfl) (by kernel_rfl) (by kernel_rfl) ?r19b4q ?r19b4y hHeld ?r19b4r
          case r19b4h => (simp only [List.getElem?_toArray, List.getElem?_cons_succ, List.getElem?_cons_zero]; rfl)
          case r19b4q => exact fun _ _ _ h => h
          case r19b4y => (refine Or.inl ⟨by first | kernel_rfl | rfl, ?_⟩; intro w hSw; (try dsimp only at hSw); go_simp <;> (try with_reducible rfl))
          try simp only [Act.put, List.setIfInBounds_toArray, List.set_cons_zero, List.set_cons_succ]
          refine wpAnyH_take (i := 5) (oi := ?r19b5o) (v := ?r19b5v) ?r19b5h (by kernel_rfl) (by kernel_rfl) (by kernel_rfl) ?r19b5q ?r19b5y hHeld ?r19b5r
          case r19b5h => (simp only [List.getElem?_toArray, List.getElem?_cons_succ, List.getElem?_cons_zero]; rfl)
          case r19b5q => exact fun _ _ _ h => h
          case r19b5y => (refine Or.inl ⟨by first | kernel_rfl | rfl, ?_⟩; intro w hSw; (try dsimp only at hSw); go_simp <;> (try with_reducible rfl))
          try simp only [Act.put, List.setIfInBounds_toArray, List.set_cons_zero, List.set_cons_succ]
          refine wpAnyH_take (i := 6) (oi := ?r19b6o) (v := ?r19b6v) ?r19b6h (by kernel_rfl) (by kernel_rfl) (by kernel_rfl) ?r19b6q ?r19b6y hHeld ?r19b6r
          case r19b6h => (simp only [List.getElem?_toArray, List.getElem?_cons_succ, List.getElem?_cons_zero]; rfl)
          case r19b6q => exact fun _ _ _ h => h
          case r19b6y => (refine Or.inl ⟨by first | kernel_rfl | rfl, ?_⟩; intro w hSw; (try dsimp only at hSw); go_simp <;> (try with_reducible rfl))
          try simp only [Act.put, List.setIfInBounds_toArray, List.set_cons_zero, List.set_cons_succ]
          refine wpAnyH_ready (rs := [3]) (by kernel_rfl) (by simp) ?_
          refine (AllReadyH.cons rfl (fun K hK => ?_) AllReadyH.nil)
          go_simp
          ((with_reducible refine (HPM.out _ HB12.out).mono ?_); rintro e w13 ⟨v13, rfl, hr, hB⟩; (have p7 := sameN v13 (.slice pc nl cc) (L.take most.toNat) (L.take nl) true w13 (IRow.small hr (fun n hn => HL3.out n (List.mem_of_mem_take hn)) (by rw [List.length_take]; have := HL4.out; omega)) (HNC.out w13 (HLN12.out.later hB)) (by unfold sameL; rw [HT.out]; simp)); (have HB13 := Lib.hid (bel_next HB12.out hB)); clear hr hB)
          refine hK.out _ _ (trivial) (fun hHeld => ?_)
          clear hK K
          try simp only [Act.put, List.setIfInBounds_toArray, List.set_cons_zero, List.set_cons_succ]
          refine wpAnyH_ready (rs := [7]) (by kernel_rfl) (by simp) ?_
          refine (AllReadyH.cons rfl (fun K hK => ?_) AllReadyH.nil)
          go_simp
          ((with_reducible refine p7.mono ?_); rintro e w14 ⟨rfl, hB⟩; (have HB14 := Lib.hid (bel_next HB13.out hB)); clear hB p7)
          refine hK.out _ _ (trivial) (fun hHeld => ?_)
          clear hK K
          try simp only [Act.put, List.setIfInBounds_toArray, List.set_cons_zero, List.set_cons_succ]
          refine wpAnyH_take (i := 8) (oi := ?r19b7o) (v := ?r19b7v) ?r19b7h (by kernel_rfl) (by kernel_rfl) (by kernel_rfl) ?r19b7q ?r19b7y hHeld ?r19b7r
          case r19b7h => (simp only [List.getElem?_toArray, List.getElem?_cons_succ, List.getElem?_cons_zero]; rfl)
          case r19b7q => exact fun _ _ _ h => h
          case r19b7y => (refine Or.inl ⟨by first | kernel_rfl | rfl, ?_⟩; intro w hSw; (try dsimp only at hSw); go_simp <;> (try with_reducible rfl))
          try simp only [Act.put, List.setIfInBounds_toArray, List.set_cons_zero, List.set_cons_succ]
          refine wpAnyH_done (by kernel_rfl) ?_ _
          have kd1 := HKD.out _ HB14.out
          clear rc1 rc2
          go_wp2_with (first
            | (go_at_call 19; (with_reducible refine kd1.mono ?_); rintro e w15 ⟨v15, rfl, hr, hB⟩; (obtain ⟨an, cn, rfl⟩ := hr.slice); (rw [HNN.out]); (have HB15 := Lib.hid (bel_next HB14.out hB)); (have km1 := HKM.out _ HB15.out); clear hr hB kd1)
            | (go_at_call 22; (with_reducible refine km1.mono ?_); rintro e w16 ⟨v16, rfl, hr, hB⟩; (obtain ⟨am, cm, rfl⟩ := hr.slice); (have HB16 := Lib.hid (bel_next HB15.out hB)); clear hr hB km1))
          go_ret
          exact ⟨rfl, bel_next HB5.out HB16.out⟩
        · obtain ⟨kk, rfl⟩ := Int.eq_ofNat_of_zero_le (show 0 ≤ most by omega)
          have hkk : kk ≤ nl := by omega
          have HT := Lib.hid (show L.take (kk : Int).toNat = L.take kk from rfl)
          obtain ⟨pc, cc, ⟨rc1, rc2⟩, nc⟩ := cutI_head al nl cl kk hcap hkk
          have HNC := Lib.hid (fun (W : World) (h : Ns W (.slice al nl cl) L) => nc h HNL.out)
          clear nc
          go_upto_region 19 with fail
          refine wp_region_held_drew (S := fun _ => True) (by kernel_rfl) trivial (fun hHeld => ?_)
          have HB12 := Lib.hid (HB11.out.trans (Below.refl w5.heap.size w11).drew)
          have HLN12 := Lib.hid (HLN11.out.later (Below.refl _ w11).drew)
          clear HB11 HLN11
          generalize w11.drew = w12 at *
          refine wpAnyH_take (i := 0) (oi := ?r19c1o) (v := ?r19c1v) ?r19c1h (by kernel_rfl) (by kernel_rfl) (by kernel_rfl) ?r19c1q ?r19c1y hHeld ?r19c1r
          case r19c1h => (simp only [List.getElem?_toArray, List.getElem?_cons_zero]; rfl)
          case r19c1q => exact fun _ _ _ h => h
          case r19c1y => (refine Or.inl ⟨by first | kernel_rfl | rfl, ?_⟩; intro w hSw; (try dsimp only at hSw); go_simp <;> (try with_reducible rfl))
          try simp only [Act.put, List.setIfInBounds_toArray, List.set_cons_zero, List.set_cons_succ]
          refine wpAnyH_take (i := 1) (oi := ?r19c2o) (v := ?r19c2v) ?r19c2h (by kernel_rfl) (by kernel_rfl) (by kernel_rfl) ?r19c2q ?r19c2y hHeld ?r19c2r
          case r19c2h => (simp only [List.getElem?_toArray, List.getElem?_cons_succ, List.getElem?_cons_zero]; rfl)
          case r19c2q => exact fun _ _ _ h => h
          case r19c2y => (refine Or.inl ⟨by first | kernel_rfl | rfl, ?_⟩; intro w hSw; (try dsimp only at hSw); go_simp <;> (try with_reducible rfl))
          try simp only [Act.put, List.setIfInBounds_toArray, List.set_cons_zero, List.set_cons_succ]
          refine wpAnyH_take (i := 2) (oi := ?r19c3o) (v := ?r19c3v) ?r19c3h (by kernel_rfl) (by kernel_rfl) (by kernel_rfl) ?r19c3q ?r19c3y hHeld ?r19c3r
          case r19c3h => (simp only [List.getElem?_toArray, List.getElem?_cons_succ, List.getElem?_cons_zero]; rfl)
          case r19c3q => exact fun _ _ _ h => h
          case r19c3y => (refine Or.inl ⟨by first | kernel_rfl | rfl, ?_⟩; intro w hSw; (try dsimp only at hSw); go_simp <;> (try with_reducible rfl))
          try simp only [Act.put, List.setIfInBounds_toArray, List.set_cons_zero, List.set_cons_succ]
          refine wpAnyH_take (i := 4) (oi := ?r19c4o) (v := ?r19c4v) ?r19c4h (by kernel_rfl) (by kernel_rfl) (by kernel_rfl) ?r19c4q ?r19c4y hHeld ?r19c4r
          case r19c4h => (simp only [List.getElem?_toArray, List.getElem?_cons_succ, List.getElem?_cons_zero]; rfl)
          case r19c4q => exact fun _ _ _ h => h
          case r19c4y => (refine Or.inl ⟨by first | kernel_rfl | rfl, ?_⟩; intro w hSw; (try dsimp only at hSw); go_simp <;> (try with_reducible rfl))
          try simp only [Act.put, List.setIfInBounds_toArray, List.set_cons_zero, List.set_cons_succ]
          refine wpAnyH_take (i := 5) (oi := ?r19c5o) (v := ?r19c5v) ?r19c5h (by kernel_rfl) (by kernel_rfl) (by kernel_rfl) ?r19c5q ?r19c5y hHeld ?r19c5r
          case r19c5h => (simp only [List.getElem?_toArray, List.getElem?_cons_succ, List.getElem?_cons_zero]; rfl)
          case r19c5q => exact fun _ _ _ h => h
          case r19c5y => (refine Or.inl ⟨by first | kernel_rfl | rfl, ?_⟩; intro w hSw; (try dsimp only at hSw); go_simp <;> (try with_reducible rfl))
          try simp only [Act.put, List.setIfInBounds_toArray, List.set_cons_zero, List.set_cons_succ]
          refine wpAnyH_take (i := 6) (oi := ?r19c6o) (v := ?r19c6v) ?r19c6h (by kernel_rfl) (by kernel_rfl) (by kernel_rfl) ?r19c6q ?r19c6y hHeld ?r19c6r
          case r19c6h => (simp only [List.getElem?_toArray, List.getElem?_cons_succ, List.getElem?_cons_zero]; rfl)
          case r19c6q => exact fun _ _ _ h => h
          case r19c6y => (refine Or.inl ⟨by first | kernel_rfl | rfl, ?_⟩; intro w hSw; (try dsimp only at hSw); go_simp <;> (try with_reducible rfl))
          try simp only [Act.put, List.setIfInBounds_toArray, List.set_cons_zero, List.set_cons_succ]
          refine wpAnyH_ready (rs := [3]) (by kernel_rfl) (by simp) ?_
          refine (AllReadyH.cons rfl (fun K hK => ?_) AllReadyH.nil)
          go_simp
          ((with_reducible refine (HPM.out _ HB12.out).mono ?_); rintro e w13 ⟨v13, rfl, hr, hB⟩; (have p7 := sameN v13 (.slice pc kk cc) (L.take (kk : Int).toNat) (L.take kk) true w13 (IRow.small hr (fun n hn => HL3.out n (List.mem_of_mem_take hn)) (by rw [List.length_take]; have := HL4.out; omega)) (HNC.out w13 (HLN12.out.later hB)) (by unfold sameL; rw [HT.out]; simp)); (have HB13 := Lib.hid (bel_next HB12.out hB)); clear hr hB)
          refine hK.out _ _ (trivial) (fun hHeld => ?_)
          clear hK K
          try simp only [Act.put, List.setIfInBounds_toArray, List.set_cons_zero, List.set_cons_succ]
          refine wpAnyH_ready (rs := [7]) (by kernel_rfl) (by simp) ?_
          refine (AllReadyH.cons rfl (fun K hK => ?_) AllReadyH.nil)
          go_simp
          ((with_reducible refine p7.mono ?_); rintro e w14 ⟨rfl, hB⟩; (have HB14 := Lib.hid (bel_next HB13.out hB)); clear hB p7)
          refine hK.out _ _ (trivial) (fun hHeld => ?_)
          clear hK K
          try simp only [Act.put, List.setIfInBounds_toArray, List.set_cons_zero, List.set_cons_succ]
          refine wpAnyH_take (i := 8) (oi := ?r19c7o) (v := ?r19c7v) ?r19c7h (by kernel_rfl) (by kernel_rfl) (by kernel_rfl) ?r19c7q ?r19c7y hHeld ?r19c7r
          case r19c7h => (simp only [List.getElem?_toArray, List.getElem?_cons_succ, List.getElem?_cons_zero]; rfl)
          case r19c7q => exact fun _ _ _ h => h
          case r19c7y => (refine Or.inl ⟨by first | kernel_rfl | rfl, ?_⟩; intro w hSw; (try dsimp only at hSw); go_simp <;> (try with_reducible rfl))
          try simp only [Act.put, List.setIfInBounds_toArray, List.set_cons_zero, List.set_cons_succ]
          refine wpAnyH_done (by kernel_rfl) ?_ _
          have kd1 := HKD.out _ HB14.out
          clear rc1 rc2
          go_wp2_with (first
            | (go_at_call 19; (with_reducible refine kd1.mono ?_); rintro e w15 ⟨v15, rfl, hr, hB⟩; (obtain ⟨an, cn, rfl⟩ := hr.slice); (rw [HNN.out]); (have HB15 := Lib.hid (bel_next HB14.out hB)); (have km1 := HKM.out _ HB15.out); clear hr hB kd1)
            | (go_at_call 22; (with_reducible refine km1.mono ?_); rintro e w16 ⟨v16, rfl, hr, hB⟩; (obtain ⟨am, cm, rfl⟩ := hr.slice); (have HB16 := Lib.hid (bel_next HB15.out hB)); clear hr hB km1))
          go_ret
          exact ⟨rfl, bel_next HB5.out HB16.out⟩
end Go.Proofs.Ytmmkbedheeeecaa.ringOrder
