/- The document's Same of two lists of the same records. -/
import Derived.Test.YthbajlfkgbfkgaaOgLaws
import Derived.Test.YthbajlfkgbfkgaaSampleG
set_option maxRecDepth 20000
set_option linter.unusedSimpArgs false
set_option linter.unusedVariables false
namespace Go.Proofs.Ythbajlfkgbfkgaa.Og
open Go.RowKit Go.Proofs.Ythbajlfkgbfkgaa.Vi Go.Proofs.Ythbajlfkgbfkgaa.Mk

/-- A list of records that can be read. -/
def RdL (w : World) (a : Option Addr) (l : List Rec) : Prop := l = [] ∨ ∃ g off, a = some ⟨g, off, none⟩ ∧ ∀ j (h : j < l.length), ∃ z : Rd, z.r = l[j] ∧ R9 w g (off + j * 9) z ∧ Ns w z.dv z.r.d
theorem RdL.later {w w' : World} {a : Option Addr} {l : List Rec} (h : RdL w a l) (k : Below w.heap.size w w') : RdL w' a l := by
  rcases h with h | ⟨g, off, e, h⟩
  · exact Or.inl h
  · refine Or.inr ⟨g, off, e, fun j hj => ?_⟩
    obtain ⟨z, h1, h2, h3⟩ := h j hj
    exact ⟨z, h1, h2.later k, Ns.later h3 k⟩
theorem RdL.ofO {w : World} {B : Nat} {a : Option Addr} {n c : Nat} {zs : List Rd} {l : List Rec} (h : ORow w B (.slice a n c) zs) (hl : zs.map Rd.r = l) (hd : ∀ z ∈ zs, Ns w z.dv z.r.d) : RdL w a l := by
  by_cases h0 : zs.length = 0
  · left
    rw [← hl, List.eq_nil_of_length_eq_zero h0]; rfl
  · obtain ⟨g, off, rfl, -, -, -, hc⟩ := h.cell (by omega)
    refine Or.inr ⟨g, off, rfl, fun j hj => ?_⟩
    have hjz : j < zs.length := by rw [← hl, List.length_map] at hj; exact hj
    refine ⟨zs[j], ?_, hc j hjz, hd _ (List.getElem_mem hjz)⟩
    have : (zs.map Rd.r)[j]'(by rw [List.length_map]; exact hjz) = l[j] := by simp only [hl]
    rw [← this, List.getElem_map]
theorem Rows.rd {w : World} {B : Nat} {a : Option Addr} {n c : Nat} {l : List Rec} (h : Rows w B (.slice a n c) l) : RdL w a l := by
  obtain ⟨ys, h1, h2, h3⟩ := h.has
  exact RdL.ofO h1 h2 fun y hy => (h3 y hy).1
set_option maxHeartbeats 4000000 in
theorem rsame17 (p1 p2 : Option Addr) (c1 c2 : Nat) (l : List Rec) (w : World) (h1 : RdL w p1 l) (h2 : RdL w p2 l) (hlen : l.length ≤ 1000000) : Calls Try.prog 16 #[.slice p1 l.length c1, .slice p2 l.length c2] w fun e w' => e = .returned (.bool true) ∧ Below w.heap.size w w' := by
  obtain ⟨n, hn⟩ : ∃ n, l.length = n := ⟨_, rfl⟩
  rw [hn] at hlen ⊢
  have HN := Lib.hid hn
  have H1 := Lib.hid h1
  have H2 := Lib.hid h2
  have H0 := Lib.hid (Below.refl w.heap.size w)
  have e1 : ((n : Int) != (n : Int)) = false := by simp
  have e2 : ((n : Int) == (n : Int)) = true := by simp
  clear hn h1 h2
  go_enter Try.func16, Try.ntmps16
  go_wp2
  go_loopw [5] (fun i wr => ∃ k : Nat, k ≤ n ∧ i = .int .i64 (k : Int) ∧ Hid (Below w.heap.size w wr)) (fun i _ => n - (intOf i).toNat)
  case atStart => exact ⟨0, by omega, rfl, H0⟩
  case round =>
    obtain ⟨k, hk, rfl, HB⟩ := hrel
    clear H0
    by_cases hlt : k < n
    · have hlt2 : (k : Int) < (n : Int) := by omega
      have HLT := Lib.hid hlt
      have hkl : k < l.length := by rw [HN.out]; exact hlt
      rcases H1.out with h0 | ⟨g1, o1, rfl, hc1⟩
      · rw [h0] at hkl; simp at hkl
      · rcases H2.out with h0 | ⟨g2, o2, rfl, hc2⟩
        · rw [h0] at hkl; simp at hkl
        · obtain ⟨z1, hz1, hr1, hn1⟩ := hc1 k hkl
          obtain ⟨z2, hz2, hr2, hn2⟩ := hc2 k hkl
          have hr1 := hr1.later HB.out
          have hr2 := hr2.later HB.out
          have hks := fun (W : World) (hW : Below wr.heap.size wr W) => rsamer_is z1.r z2.r z1.dv z2.dv true W (Ns.later (Ns.later hn1 HB.out) hW) (Ns.later (Ns.later hn2 HB.out) hW) (Lib.hid (by rw [hz1, hz2]; unfold Rec.same sameL; simp))
          obtain ⟨⟨pk, pn, pt, pv, px, ⟨pc, ps, pq⟩, pd⟩, pa, pl⟩ := z1
          obtain ⟨⟨rk, rn, rt, rv, rx, ⟨rc, rs, rq⟩, rd⟩, ra, rl⟩ := z2
          unfold recV Rd.dv at hks
          dsimp only at hks
          have HKS := Lib.hid hks
          have HR1 := Lib.hid hr1
          have HR2 := Lib.hid hr2
          clear hc1 hc2 hkl hz1 hz2 hr1 hr2 hn1 hn2 hks
          go_wp2_with fail
          refine wp_region_held_drew (S := (fun X : World => R9 X g1 (o1 + k * 9) ⟨⟨pk, pn, pt, pv, px, ⟨pc, ps, pq⟩, pd⟩, pa, pl⟩ ∧ R9 X g2 (o2 + k * 9) ⟨⟨rk, rn, rt, rv, rx, ⟨rc, rs, rq⟩, rd⟩, ra, rl⟩)) (by kernel_rfl) ⟨HR1.out.later (Below.refl _ _).drew, HR2.out.later (Below.refl _ _).drew⟩ (fun hHeld => ?_)
          refine wpAnyH_take (i := 0) (oi := ?o1o) (v := ?o1v) ?o1h (by kernel_rfl) (by kernel_rfl) (by kernel_rfl) ?o1q ?o1y hHeld ?o1r
          case o1h => (simp only [List.getElem?_toArray, List.getElem?_cons_zero]; rfl)
          case o1q => exact fun _ _ _ h => h
          case o1y => (refine Or.inl ⟨by first | kernel_rfl | rfl, ?_⟩; intro w hSw; (try dsimp only at hSw); obtain ⟨⟨a0, a1, a2, a3, a4, a5, a6, a7, a8⟩, ⟨b0, b1, b2, b3, b4, b5, b6, b7, b8⟩⟩ := hSw; dsimp only at a0 a1 a2 a3 a4 a5 a6 a7 a8 b0 b1 b2 b3 b4 b5 b6 b7 b8; go_simp <;> (try with_reducible rfl))
          try simp only [Act.put, List.setIfInBounds_toArray, List.set_cons_zero, List.set_cons_succ]
          refine wpAnyH_take (i := 1) (oi := ?o2o) (v := ?o2v) ?o2h (by kernel_rfl) (by kernel_rfl) (by kernel_rfl) ?o2q ?o2y hHeld ?o2r
          case o2h => (simp only [List.getElem?_toArray, List.getElem?_cons_succ, List.getElem?_cons_zero]; rfl)
          case o2q => exact fun _ _ _ h => h
          case o2y => (refine Or.inl ⟨by first | kernel_rfl | rfl, ?_⟩; intro w hSw; (try dsimp only at hSw); obtain ⟨⟨a0, a1, a2, a3, a4, a5, a6, a7, a8⟩, ⟨b0, b1, b2, b3, b4, b5, b6, b7, b8⟩⟩ := hSw; dsimp only at a0 a1 a2 a3 a4 a5 a6 a7 a8 b0 b1 b2 b3 b4 b5 b6 b7 b8; go_simp <;> (try with_reducible rfl))
          try simp only [Act.put, List.setIfInBounds_toArray, List.set_cons_zero, List.set_cons_succ]
          refine wpAnyH_take (i := 2) (oi := ?o3o) (v := ?o3v) ?o3h (by kernel_rfl) (by kernel_rfl) (by kernel_rfl) ?o3q ?o3y hHeld ?o3r
          case o3h => (simp only [List.getElem?_toArray, List.getElem?_cons_succ, List.getElem?_cons_zero]; rfl)
          case o3q => exact fun _ _ _ h => h
          case o3y => (refine Or.inl ⟨by first | kernel_rfl | rfl, ?_⟩; intro w hSw; (try dsimp only at hSw); obtain ⟨⟨a0, a1, a2, a3, a4, a5, a6, a7, a8⟩, ⟨b0, b1, b2, b3, b4, b5, b6, b7, b8⟩⟩ := hSw; dsimp only at a0 a1 a2 a3 a4 a5 a6 a7 a8 b0 b1 b2 b3 b4 b5 b6 b7 b8; go_simp <;> (try with_reducible rfl))
          try simp only [Act.put, List.setIfInBounds_toArray, List.set_cons_zero, List.set_cons_succ]
          refine wpAnyH_take (i := 3) (oi := ?o4o) (v := ?o4v) ?o4h (by kernel_rfl) (by kernel_rfl) (by kernel_rfl) ?o4q ?o4y hHeld ?o4r
          case o4h => (simp only [List.getElem?_toArray, List.getElem?_cons_succ, List.getElem?_cons_zero]; rfl)
          case o4q => exact fun _ _ _ h => h
          case o4y => (refine Or.inl ⟨by first | kernel_rfl | rfl, ?_⟩; intro w hSw; (try dsimp only at hSw); obtain ⟨⟨a0, a1, a2, a3, a4, a5, a6, a7, a8⟩, ⟨b0, b1, b2, b3, b4, b5, b6, b7, b8⟩⟩ := hSw; dsimp only at a0 a1 a2 a3 a4 a5 a6 a7 a8 b0 b1 b2 b3 b4 b5 b6 b7 b8; go_simp <;> (try with_reducible rfl))
          try simp only [Act.put, List.setIfInBounds_toArray, List.set_cons_zero, List.set_cons_succ]
          refine wpAnyH_take (i := 4) (oi := ?o5o) (v := ?o5v) ?o5h (by kernel_rfl) (by kernel_rfl) (by kernel_rfl) ?o5q ?o5y hHeld ?o5r
          case o5h => (simp only [List.getElem?_toArray, List.getElem?_cons_succ, List.getElem?_cons_zero]; rfl)
          case o5q => exact fun _ _ _ h => h
          case o5y => (refine Or.inl ⟨by first | kernel_rfl | rfl, ?_⟩; intro w hSw; (try dsimp only at hSw); obtain ⟨⟨a0, a1, a2, a3, a4, a5, a6, a7, a8⟩, ⟨b0, b1, b2, b3, b4, b5, b6, b7, b8⟩⟩ := hSw; dsimp only at a0 a1 a2 a3 a4 a5 a6 a7 a8 b0 b1 b2 b3 b4 b5 b6 b7 b8; go_simp <;> (try with_reducible rfl))
          try simp only [Act.put, List.setIfInBounds_toArray, List.set_cons_zero, List.set_cons_succ]
          refine wpAnyH_take (i := 5) (oi := ?o6o) (v := ?o6v) ?o6h (by kernel_rfl) (by kernel_rfl) (by kernel_rfl) ?o6q ?o6y hHeld ?o6r
          case o6h => (simp only [List.getElem?_toArray, List.getElem?_cons_succ, List.getElem?_cons_zero]; rfl)
          case o6q => exact fun _ _ _ h => h
          case o6y => (refine Or.inl ⟨by first | kernel_rfl | rfl, ?_⟩; intro w hSw; (try dsimp only at hSw); obtain ⟨⟨a0, a1, a2, a3, a4, a5, a6, a7, a8⟩, ⟨b0, b1, b2, b3, b4, b5, b6, b7, b8⟩⟩ := hSw; dsimp only at a0 a1 a2 a3 a4 a5 a6 a7 a8 b0 b1 b2 b3 b4 b5 b6 b7 b8; go_simp <;> (try with_reducible rfl))
          try simp only [Act.put, List.setIfInBounds_toArray, List.set_cons_zero, List.set_cons_succ]
          refine wpAnyH_take (i := 6) (oi := ?o7o) (v := ?o7v) ?o7h (by kernel_rfl) (by kernel_rfl) (by kernel_rfl) ?o7q ?o7y hHeld ?o7r
          case o7h => (simp only [List.getElem?_toArray, List.getElem?_cons_succ, List.getElem?_cons_zero]; rfl)
          case o7q => exact fun _ _ _ h => h
          case o7y => (refine Or.inl ⟨by first | kernel_rfl | rfl, ?_⟩; intro w hSw; (try dsimp only at hSw); obtain ⟨⟨a0, a1, a2, a3, a4, a5, a6, a7, a8⟩, ⟨b0, b1, b2, b3, b4, b5, b6, b7, b8⟩⟩ := hSw; dsimp only at a0 a1 a2 a3 a4 a5 a6 a7 a8 b0 b1 b2 b3 b4 b5 b6 b7 b8; go_simp <;> (try with_reducible rfl))
          try simp only [Act.put, List.setIfInBounds_toArray, List.set_cons_zero, List.set_cons_succ]
          refine wpAnyH_take (i := 7) (oi := ?o8o) (v := ?o8v) ?o8h (by kernel_rfl) (by kernel_rfl) (by kernel_rfl) ?o8q ?o8y hHeld ?o8r
          case o8h => (simp only [List.getElem?_toArray, List.getElem?_cons_succ, List.getElem?_cons_zero]; rfl)
          case o8q => exact fun _ _ _ h => h
          case o8y => (refine Or.inl ⟨by first | kernel_rfl | rfl, ?_⟩; intro w hSw; (try dsimp only at hSw); obtain ⟨⟨a0, a1, a2, a3, a4, a5, a6, a7, a8⟩, ⟨b0, b1, b2, b3, b4, b5, b6, b7, b8⟩⟩ := hSw; dsimp only at a0 a1 a2 a3 a4 a5 a6 a7 a8 b0 b1 b2 b3 b4 b5 b6 b7 b8; go_simp <;> (try with_reducible rfl))
          try simp only [Act.put, List.setIfInBounds_toArray, List.set_cons_zero, List.set_cons_succ]
          refine wpAnyH_ready (rs := [8]) (by kernel_rfl) (by simp) ?_
          refine (AllReadyH.cons rfl (fun K hK => ?_) AllReadyH.nil)
          go_simp
          (go_at_call 43; (with_reducible refine (HKS.out _ (Below.refl _ _).drew).mono ?_); rintro e w2 ⟨rfl, hb2⟩; (have HB2 := Lib.hid (bel_next HB.out (bel_next (Below.refl _ _).drew hb2))); (have hHeld := And.intro (hHeld.1.later hb2) (hHeld.2.later hb2)); clear hb2)
          refine hK.out _ _ (hHeld) (fun hHeld => ?_)
          clear hK K
          try simp only [Act.put, List.setIfInBounds_toArray, List.set_cons_zero, List.set_cons_succ]
          refine wpAnyH_take (i := 9) (oi := ?o9o) (v := ?o9v) ?o9h (by kernel_rfl) (by kernel_rfl) (by kernel_rfl) ?o9q ?o9y hHeld ?o9r
          case o9h => (simp only [List.getElem?_toArray, List.getElem?_cons_succ, List.getElem?_cons_zero]; rfl)
          case o9q => exact fun _ _ _ h => h
          case o9y => (refine Or.inl ⟨by first | kernel_rfl | rfl, ?_⟩; intro w hSw; (try dsimp only at hSw); obtain ⟨⟨a0, a1, a2, a3, a4, a5, a6, a7, a8⟩, ⟨b0, b1, b2, b3, b4, b5, b6, b7, b8⟩⟩ := hSw; dsimp only at a0 a1 a2 a3 a4 a5 a6 a7 a8 b0 b1 b2 b3 b4 b5 b6 b7 b8; go_simp <;> (try with_reducible rfl))
          try simp only [Act.put, List.setIfInBounds_toArray, List.set_cons_zero, List.set_cons_succ]
          refine wpAnyH_done (by kernel_rfl) ?_ _
          clear hHeld
          go_wp2
          go_roundw
          case rel => exact ⟨k + 1, by have := HLT.out; omega, by go_num, HB2⟩
          case measure => have := HLT.out; simp [intOf]; omega
    · obtain rfl : k = n := by omega
      have hlt2 : ¬ (k : Int) < (k : Int) := by omega
      clear hlt
      go_wp2
      go_ret
      exact ⟨rfl, HB.out⟩
end Go.Proofs.Ythbajlfkgbfkgaa.Og
