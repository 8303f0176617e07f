/- The contracts of sorted and of Sort. -/
import Derived.Test.YtcjcbbpolhpphaaBlockMerged
set_option maxRecDepth 20000
set_option linter.unusedSimpArgs false
namespace Go.Proofs.Ytcjcbbpolhpphaa
open Go.RowKit Go.Proofs.Ytcjcbbpolhpphaa.Vi Go.Proofs.Ytcjcbbpolhpphaa.Mk

/-- A list is handed out, to be read. -/
def LDone (l : List Pt) (w : World) (e : Ending) (w' : World) : Prop := ∃ a c, e = .returned (.slice a l.length c) ∧ Lst w' w'.heap.size a c l ∧ Below w.heap.size w w'
theorem OwnDone.ldone {l : List Pt} {w w' : World} {e : Ending} (h : OwnDone l w e w') : LDone l w e w' := by
  obtain ⟨v, rfl, hr, hb⟩ := h
  obtain ⟨a, c, rfl⟩ := hr.slice
  exact ⟨a, c, rfl, hr.lst, hb⟩
theorem srtB_short {l : List Pt} (h : srtB l = false) : 2 ≤ l.length := by
  match l with
  | [] => cases h
  | [_] => cases h
  | _ :: _ :: _ => simp

set_option maxHeartbeats 8000000 in
theorem sortd_is : ∀ (n : Nat) (a0 : Option Addr) (c0 : Nat) (l : List Pt) (w : World), l.length ≤ n → Lst w w.heap.size a0 c0 l → l.length ≤ 200000 → Calls Try.prog 57 #[.slice a0 l.length c0] w (LDone (srtR l) w) := by
  intro n
  induction n with
  | zero =>
    intro a0 c0 l w h0 hS hl
    obtain rfl : l = [] := List.eq_nil_of_length_eq_zero (by omega)
    have ks := fun w h => psorted_is a0 c0 [] w h (by simp)
    have HS := Lib.hid hS
    rw [show srtB ([] : List Pt) = true from rfl] at ks
    simp only [List.length_nil] at ks ⊢
    clear hS
    go_enter Try.func57, Try.ntmps57
    go_wp2_with (go_at_call 64; (with_reducible refine (ks _ HS.out).mono ?_); rintro e w1 ⟨rfl, hb⟩)
    go_ret
    exact ⟨a0, c0, rfl, HS.out.later hb, hb⟩
  | succ n ih =>
    intro a0 c0 l w h0 hS hl
    have ks := fun w h => psorted_is a0 c0 l w h (by omega)
    have HS := Lib.hid hS
    clear hS
    cases hb : srtB l with
    | true =>
      rw [hb] at ks
      have HE := Lib.hid (srtR_sorted hb)
      clear hb
      go_enter Try.func57, Try.ntmps57
      go_wp2_with (go_at_call 64; (with_reducible refine (ks _ HS.out).mono ?_); rintro e w1 ⟨rfl, hb⟩)
      go_ret
      rw [HE.out]
      exact ⟨a0, c0, rfl, HS.out.later hb, hb⟩
    | false =>
      rw [hb] at ks
      have h2 := srtB_short hb
      obtain ⟨h, hh⟩ : ∃ h, l.length / 2 = h := ⟨_, rfl⟩
      have hq : (l.length : Int).tdiv 2 = (h : Int) := by rw [Int.tdiv_eq_ediv_of_nonneg (by omega)]; omega
      have hwh : IntKind.i64.wrap (h : Int) = (h : Int) := by rw [IntKind.wrap_i64]; omega
      have hcap := HS.out.cap
      have hL1 := HS.out.to_ (hi := h) (by omega)
      have hL2 := HS.out.from_ (lo := h) (by omega)
      have kt := fun w => at_to a0 l.length c0 h (h : Int) rfl (by omega) w
      have kt2 := fun w => cut_to a0 l.length c0 h (h : Int) rfl (by omega) w
      have kf := fun w => at_from a0 l.length c0 h (h : Int) rfl (by omega) w
      have kf2 := fun w => cut_from a0 l.length c0 h (h : Int) rfl (by omega) w
      obtain ⟨x1, hx1⟩ : ∃ x, cutP a0 0 c0 = x := ⟨_, rfl⟩
      obtain ⟨x2, hx2⟩ : ∃ x, cutP a0 h c0 = x := ⟨_, rfl⟩
      have HH := Lib.hid (srtR_half l h)
      obtain ⟨l1, hl1⟩ : ∃ l1, l.take h = l1 := ⟨_, rfl⟩
      obtain ⟨l2, hl2⟩ : ∃ l2, l.drop h = l2 := ⟨_, rfl⟩
      have e1 : l1.length = h := by rw [← hl1, List.length_take]; omega
      have e2 : l2.length = l.length - h := by rw [← hl2, List.length_drop]
      rw [hx1] at hL1 kt kt2
      rw [hx2] at hL2 kf kf2
      rw [hl1] at hL1 HH
      rw [hl2] at hL2 HH
      have ki1 := fun w hw => ih x1 c0 l1 w (by omega) hw (by omega)
      have ki2 := fun w hw => ih x2 (c0 - h) l2 w (by omega) hw (by omega)
      rw [e1] at ki1
      rw [e2] at ki2
      have km := fun a b ca cb w hA hB => merged_is a b ca cb (srtR l1) (srtR l2) w hA hB (by have := srtR_len l1; omega) (by have := srtR_len l2; omega)
      have HL1 := Lib.hid hL1
      have HL2 := Lib.hid hL2
      have HL := Lib.hid (show (mg (srtR l1) (srtR l2)).length = (srtR l).length by rw [HH.out])
      clear hb hh hL1 hL2 hx1 hx2 hl1 hl2 e1 e2 hcap ih
      go_enter Try.func57, Try.ntmps57
      go_wp2_with (go_at_call 64; (with_reducible refine (ks _ HS.out).mono ?_); rintro e w1 ⟨rfl, hb⟩)
      have HB := Lib.hid hb
      clear hb
      refine wp_region_held_drew (S := (fun w' => Below w.heap.size w w')) (by kernel_rfl) HB.out.drew (fun hHeld => ?_)
      refine wpAnyH_take (i := 0) (oi := ?so1o) (v := ?so1v) ?so1h (by kernel_rfl) (by kernel_rfl) (by kernel_rfl) ?so1q ?so1y hHeld ?so1r
      case so1h => (simp only [List.getElem?_toArray, List.getElem?_cons_zero]; rfl)
      case so1q => exact fun _ _ _ h => h
      case so1y => (refine Or.inl ⟨by first | kernel_rfl | rfl, ?_⟩; intro w hSw; (try dsimp only at hSw); go_simp <;> (try with_reducible rfl))
      try simp only [Act.put, List.setIfInBounds_toArray, List.set_cons_zero, List.set_cons_succ]
      refine wpAnyH_take (i := 1) (oi := ?so2o) (v := ?so2v) ?so2h (by kernel_rfl) (by kernel_rfl) (by kernel_rfl) ?so2q ?so2y hHeld ?so2r
      case so2h => (simp only [List.getElem?_toArray, List.getElem?_cons_succ, List.getElem?_cons_zero]; rfl)
      case so2q => exact fun _ _ _ h => h
      case so2y => (refine Or.inl ⟨by first | kernel_rfl | rfl, ?_⟩; intro w hSw; (try dsimp only at hSw); go_simp <;> (try with_reducible rfl))
      try simp only [Act.put, List.setIfInBounds_toArray, List.set_cons_zero, List.set_cons_succ]
      refine wpAnyH_take (i := 2) (oi := ?so3o) (v := ?so3v) ?so3h (by kernel_rfl) (by kernel_rfl) (by kernel_rfl) ?so3q ?so3y hHeld ?so3r
      case so3h => (simp only [List.getElem?_toArray, List.getElem?_cons_succ, List.getElem?_cons_zero]; rfl)
      case so3q => exact fun _ _ _ h => h
      case so3y => (refine Or.inl ⟨by first | kernel_rfl | rfl, ?_⟩; intro w hSw; (try dsimp only at hSw); go_simp <;> (try with_reducible rfl))
      try simp only [Act.put, List.setIfInBounds_toArray, List.set_cons_zero, List.set_cons_succ]
      refine wpAnyH_take (i := 4) (oi := ?so4o) (v := ?so4v) ?so4h (by kernel_rfl) (by kernel_rfl) (by kernel_rfl) ?so4q ?so4y hHeld ?so4r
      case so4h => (simp only [List.getElem?_toArray, List.getElem?_cons_succ, List.getElem?_cons_zero]; rfl)
      case so4q => exact fun _ _ _ h => h
      case so4y => (refine Or.inl ⟨by first | kernel_rfl | rfl, ?_⟩; intro w hSw; (try dsimp only at hSw); go_simp <;> (try with_reducible rfl))
      try simp only [Act.put, List.setIfInBounds_toArray, List.set_cons_zero, List.set_cons_succ]
      refine wpAnyH_take (i := 5) (oi := ?so5o) (v := ?so5v) ?so5h (by kernel_rfl) (by kernel_rfl) (by kernel_rfl) ?so5q ?so5y hHeld ?so5r
      case so5h => (simp only [List.getElem?_toArray, List.getElem?_cons_succ, List.getElem?_cons_zero]; rfl)
      case so5q => exact fun _ _ _ h => h
      case so5y => (refine Or.inl ⟨by first | kernel_rfl | rfl, ?_⟩; intro w hSw; (try dsimp only at hSw); go_simp <;> (try with_reducible rfl))
      try simp only [Act.put, List.setIfInBounds_toArray, List.set_cons_zero, List.set_cons_succ]
      refine wpAnyH_take (i := 6) (oi := ?so6o) (v := ?so6v) ?so6h (by kernel_rfl) (by kernel_rfl) (by kernel_rfl) ?so6q ?so6y hHeld ?so6r
      case so6h => (simp only [List.getElem?_toArray, List.getElem?_cons_succ, List.getElem?_cons_zero]; rfl)
      case so6q => exact fun _ _ _ h => h
      case so6y => (refine Or.inl ⟨by first | kernel_rfl | rfl, ?_⟩; intro w hSw; (try dsimp only at hSw); go_simp <;> (try with_reducible rfl))
      try simp only [Act.put, List.setIfInBounds_toArray, List.set_cons_zero, List.set_cons_succ]
      refine wpAnyH_ready (rs := [3]) (by kernel_rfl) (by simp) ?_
      refine (AllReadyH.cons rfl (fun K hK => ?_) AllReadyH.nil)
      go_simp
      ((with_reducible refine (ki1 _ (HL1.out.later hHeld)).mono ?_); rintro e w2 ⟨a2, c2, rfl, hR2, hb2⟩)
      refine hK.out _ _ (bel_next hHeld hb2) (fun hHeld => ?_)
      clear hK K
      try simp only [Act.put, List.setIfInBounds_toArray, List.set_cons_zero, List.set_cons_succ]
      refine wpAnyH_ready (rs := [7]) (by kernel_rfl) (by simp) ?_
      refine (AllReadyH.cons rfl (fun K hK => ?_) AllReadyH.nil)
      go_simp
      ((with_reducible refine (ki2 _ (HL2.out.later hHeld)).mono ?_); rintro e w3 ⟨a3, c3, rfl, hR3, hb3⟩)
      refine hK.out _ _ (bel_next hHeld hb3) (fun hHeld => ?_)
      clear hK K
      try simp only [Act.put, List.setIfInBounds_toArray, List.set_cons_zero, List.set_cons_succ]
      refine wpAnyH_ready (rs := [8]) (by kernel_rfl) (by simp) ?_
      refine (AllReadyH.cons rfl (fun K hK => ?_) AllReadyH.nil)
      go_simp
      ((with_reducible refine (km _ _ _ _ _ (hR2.later hb3) hR3).mono ?_); rintro e w4 hD; obtain ⟨a4, c4, rfl, hR4, hb4⟩ := hD.ldone)
      refine hK.out _ _ (bel_next hHeld hb4) (fun hHeld => ?_)
      clear hK K
      try simp only [Act.put, List.setIfInBounds_toArray, List.set_cons_zero, List.set_cons_succ]
      refine wpAnyH_take (i := 9) (oi := ?so7o) (v := ?so7v) ?so7h (by kernel_rfl) (by kernel_rfl) (by kernel_rfl) ?so7q ?so7y hHeld ?so7r
      case so7h => (simp only [List.getElem?_toArray, List.getElem?_cons_succ, List.getElem?_cons_zero]; rfl)
      case so7q => exact fun _ _ _ h => h
      case so7y => (refine Or.inl ⟨by first | kernel_rfl | rfl, ?_⟩; intro w hSw; (try dsimp only at hSw); go_simp <;> (try with_reducible rfl))
      try simp only [Act.put, List.setIfInBounds_toArray, List.set_cons_zero, List.set_cons_succ]
      refine wpAnyH_done (by kernel_rfl) ?_ _
      go_wp2
      go_ret
      rw [HL.out]
      exact ⟨a4, c4, rfl, by rw [← HH.out]; exact hR4, hHeld⟩

set_option maxHeartbeats 4000000 in
theorem sort_is (a0 : Option Addr) (c0 : Nat) (l : List Pt) (w : World) (hS : Lst w w.heap.size a0 c0 l) (hl : l.length ≤ 200000) (hn : ∀ p ∈ l, p.s.size ≤ 100000) : Calls Try.prog 42 #[.slice a0 l.length c0] w (OwnDone (srtR l) w) := by
  have ks := fun w h => sortd_is l.length a0 c0 l w (Nat.le_refl _) h hl
  have ko := fun a c w h => own_is a c (srtR l) w h (by have := srtR_len l; omega) (fun p hp => hn p (srtR_mem l hp))
  have HS := Lib.hid hS
  clear hS hn
  go_enter Try.func42, Try.ntmps42
  go_wp2_with (first
    | (go_at_call 57; (with_reducible refine (ks _ HS.out).mono ?_); rintro e w1 ⟨a1, c1, rfl, hR1, hb1⟩; (have HR1 := Lib.hid hR1); (have HB1 := Lib.hid hb1); clear hR1 hb1)
    | (go_at_call 56; (with_reducible refine (ko _ _ _ HR1.out).mono ?_); rintro e w2 ⟨v, rfl, hR2, hb2⟩; (have hsl := hR2.slice); (obtain ⟨a2, c2, rfl⟩ := hsl)))
  go_ret
  exact ⟨_, rfl, hR2.base HB1.out.size, bel_next HB1.out hb2⟩
end Go.Proofs.Ytcjcbbpolhpphaa
