/- Rows of records: cut in two, and joined anew. -/
import Derived.Test.YthifmfgnblecbaaCbEs
import Derived.Test.YthifmfgnblecbaaCbOffer
import Derived.Maps.AppendAt
set_option maxRecDepth 200000
set_option linter.unusedSimpArgs false
set_option linter.unusedVariables false
namespace Go.Proofs.Ythifmfgnblecbaa.Og.Cb
open Go.RowKit Go.Maps Go.Proofs.Ythifmfgnblecbaa.Vi Go.Proofs.Ythifmfgnblecbaa.Mk

theorem _root_.Go.Proofs.Ythifmfgnblecbaa.Og.ORow.open {w : World} {B n c : Nat} {a : Option Addr} {zs : List Rd} (h : ORow w B (.slice a n c) zs) (h0 : 0 < zs.length) : ∃ g off, a = some ⟨g, off, none⟩ ∧ n = zs.length ∧ n ≤ c ∧ c ≤ maxLen := by
  rcases h with ⟨_, rfl⟩ | ⟨g, off, cap, cur, hv, _, _, hn, hm, _, _⟩
  · simp at h0
  · injection hv with e1 e2 e3
    subst e1 e2 e3
    exact ⟨g, off, rfl, rfl, hn, hm⟩
theorem row_cells {w : World} {B g off n c : Nat} {zs : List Rd} (h : ORow w B (.slice (some ⟨g, off, none⟩) n c) zs) : ∀ j u, (zs.flatMap cells9)[j]? = some u → w.cell? ((⟨g, off, none⟩ : Addr).add j) = some u := by
  rcases h with ⟨h, _⟩ | ⟨g', off', cap, cur, hv, h1, h2, h3, h4, h5, h6⟩
  · cases h
  · injection hv with a1 a2 a3
    injection a1 with a1
    injection a1 with a4 a5 _
    subst a2 a3 a4 a5
    intro j u hu
    rw [add_offR, Joins.cell_of_block h2]
    exact h6 j u hu
theorem row_take {w : World} {B g off n c k : Nat} {zs : List Rd} (h : ORow w B (.slice (some ⟨g, off, none⟩) n c) zs) (hk : k ≤ n) : ORow w B (.slice (some ⟨g, off, none⟩) k c) (zs.take k) := by
  rcases h with ⟨h, _⟩ | ⟨g', off', cap, cur, hv, h1, h2, h3, h4, h5, h6⟩
  · cases h
  · injection hv with a1 a2 a3
    injection a1 with a1
    injection a1 with a4 a5 _
    subst a2 a3 a4 a5
    have hl : (zs.take k).length = k := by rw [List.length_take]; omega
    refine Or.inr ⟨g, off, c, cur, by rw [hl], h1, h2, by rw [hl]; omega, h4, h5, fun j u hu => h6 j u ?_⟩
    have e : zs.flatMap cells9 = (zs.take k).flatMap cells9 ++ (zs.drop k).flatMap cells9 := by rw [← List.flatMap_append, List.take_append_drop]
    rw [e, List.getElem?_append_left (List.getElem?_eq_some_iff.1 hu).1]
    exact hu
theorem cuts {w : World} {B g off n c p : Nat} {zs : List Rd} (h : ORow w B (.slice (some ⟨g, off, none⟩) n c) zs) (hn : zs.length = n) (hp : p < n) (h4 : n ≤ 100000) : ∃ o',
    (∀ w, (Instr.slice 43 (.slice (some ⟨g, off, none⟩) n c) none (some (.int .i64 (p : Int))) none).run Try.prog w = .ok (.slice (some ⟨g, off, none⟩) p c) w) ∧
    (∀ w, (Instr.sliceAt 43 (.slice (some ⟨g, off, none⟩) n c) none (some (.int .i64 (p : Int))) none).run Try.prog w = .ok (.slice (some ⟨g, off, none⟩) p c) w) ∧
    (∀ w, (Instr.slice 43 (.slice (some ⟨g, off, none⟩) n c) (some (.int .i64 ((p : Int) + 1))) none none).run Try.prog w = .ok (.slice (some ⟨g, o', none⟩) (n - (p + 1)) (c - (p + 1))) w) ∧
    (∀ w, (Instr.sliceAt 43 (.slice (some ⟨g, off, none⟩) n c) (some (.int .i64 ((p : Int) + 1))) none none).run Try.prog w = .ok (.slice (some ⟨g, o', none⟩) (n - (p + 1)) (c - (p + 1))) w) ∧
    ORow w B (.slice (some ⟨g, off, none⟩) p c) (zs.take p) ∧ ORow w B (.slice (some ⟨g, o', none⟩) (n - (p + 1)) (c - (p + 1))) (zs.drop (p + 1)) := by
  obtain ⟨_, _, _, _, hc, _⟩ := h.open (by omega)
  obtain ⟨o', e1, e2⟩ := h.cut (k := p + 1) (m := n) hp (Nat.le_refl _) hc
  obtain ⟨o', e1, e2⟩ := h.cut (k := p + 1) (m := c) hp hc (Nat.le_refl _)
  have f1 : sliced (some ⟨g, off, none⟩) 0 p c 9 = .slice (some ⟨g, off, none⟩) p c := by
    unfold sliced
    by_cases e : c = 0
    · rw [if_pos e]; rfl
    · rw [if_neg e]; simp [add_offR]
  have s1 : ∀ w, (Instr.slice 43 (.slice (some ⟨g, off, none⟩) n c) none (some (.int .i64 (p : Int))) none).run Try.prog w = .ok (.slice (some ⟨g, off, none⟩) p c) w := fun w => by
    rw [run_slice_h (P := Try.prog) w 43 _ n c elemR .i64 (p : Int) (by omega) (by omega), sizeR, Int.toNat_natCast]
    show Result.ok (sliced (some ⟨g, off, none⟩) 0 p c 9) w = _
    rw [f1]
  have s2 : ∀ w, (Instr.slice 43 (.slice (some ⟨g, off, none⟩) n c) (some (.int .i64 ((p : Int) + 1))) none none).run Try.prog w = .ok (.slice (some ⟨g, o', none⟩) (n - (p + 1)) (c - (p + 1))) w := fun w => by
    rw [run_slice_l (P := Try.prog) w 43 _ n c elemR .i64 ((p : Int) + 1) (by omega) (by omega), sizeR, show ((p : Int) + 1).toNat = p + 1 by omega]
    show Result.ok (sliced (some ⟨g, off, none⟩) (p + 1) n c 9) w = _
    rw [e1]
  exact ⟨o', s1, fun w => by rw [run_sliceAt_slice (P := Try.prog) w 43 _ _ _ _ elemR, s1 w], s2, fun w => by rw [run_sliceAt_slice (P := Try.prog) w 43 _ _ _ _ elemR, s2 w], row_take h (Nat.le_of_lt hp), e2⟩
theorem own_row {w : World} {C n : Nat} {v : Value} {xs : List Rd} (h : w.ownsRow C 33 9 v n (xs.flatMap cells9)) (hn : xs.length = n) : ORow w C v xs := by
  rcases h.2 with ⟨rfl, e⟩ | ⟨g, cap, cur, rfl, hb, hg, hnc, hcm, hcs, htake⟩
  · exact Or.inl ⟨rfl, List.eq_nil_of_length_eq_zero (by omega)⟩
  · refine Or.inr ⟨g, 0, cap, cur, by rw [hn], hb, hg, by omega, hcm, by omega, fun j u hu => ?_⟩
    rw [← htake, List.getElem?_take] at hu
    split at hu
    · rw [Nat.zero_add, ← Array.getElem?_toList]; exact hu
    · cases hu
theorem own_slice {w : World} {C n : Nat} {v : Value} {xs : List Value} (h : w.ownsRow C 33 9 v n xs) : ∃ a c, v = .slice a n c := by
  rcases h.2 with ⟨rfl, rfl⟩ | ⟨g, cap, cur, rfl, _⟩
  · exact ⟨_, _, rfl⟩
  · exact ⟨_, _, rfl⟩
theorem append9 {w : World} {C B g off m c n : Nat} {v : Value} {xs ys : List Rd} (ty : TypeId) (h : w.ownsRow C 33 9 v n (xs.flatMap cells9)) (k : ORow w B (.slice (some ⟨g, off, none⟩) m c) ys) (hm : ys.length = m) (h4 : n + m ≤ 1000000) (hC : C ≤ w.heap.size) :
    ∃ v' w', (Builtin.append_ #[43, 43] ty #[v, .slice (some ⟨g, off, none⟩) m c]).run Try.prog w = .ok v' w' ∧ w'.ownsRow C 33 9 v' (n + m) ((xs ++ ys).flatMap cells9) ∧ w.grownBy w' v.ownBlock ∧ (v'.ownBlock = v.ownBlock ∨ v'.ownBlock = some w.heap.size) := by
  obtain ⟨i0, hi, hz0, hz1, hz2⟩ := info_parts infoR
  obtain ⟨v', w', hr, h2, h3, _, h5⟩ := run_append_own_at (P := Try.prog) w C 43 ty 33 i0 _ 9 96 undR hi hz0 hz1 hz2 rfl (by omega) v n _ h ⟨g, off, none⟩ m c (ys.flatMap cells9) (by rw [flat9_len, hm]) (row_cells k) (fun u hu => cells9_one hu) (by unfold maxLen; omega) (by omega) hC
  exact ⟨v', w', hr, by rw [List.flatMap_append]; exact h2, h3, h5⟩
/-- The records anew. -/
theorem EbAt.cutL {w W : World} {B b C n : Nat} {ov v v' : Value} {zs ys : List Rd} {S : CS} {L : List Rec} {F : Nat → Prop} (h : EbAt w B b ov v zs S F) (hb : Below w.heap.size w W) (hrow : W.ownsRow C 33 9 v' n (ys.flatMap cells9)) (hn : ys.length = n) (hC : w.heap.size ≤ C) (hB : B ≤ w.heap.size) (hs : ∀ y ∈ ys, y ∈ zs) (hL : ys.map Rd.r = L) (hG : CGood ⟨S.room, S.out, L⟩) :
    W.cell? ⟨b, 2, none⟩ = some v ∧ W.frozen? ⟨b, 2, none⟩ = false ∧ EbAt (W.setCell ⟨b, 2, none⟩ v') B b ov v' ys ⟨S.room, S.out, L⟩ (grow F w (W.setCell ⟨b, 2, none⟩ v')) ∧ FrF F w (W.setCell ⟨b, 2, none⟩ v') := by
  have hW := h.later hb
  have hsz := hb.size
  have hr := own_row hrow hn
  have hvb : ∀ q, v'.ownBlock = some q → w.heap.size ≤ q ∧ q < W.heap.size := fun q hq => ⟨Nat.le_trans hC (hr.lt hq).1, (hr.lt hq).2⟩
  have hlt := h.lt
  have hof : ∀ q, q ≠ b → (W.setCell ⟨b, 2, none⟩ v').heap[q]? = W.heap[q]? := fun q hne => World.heap_setCell_off _ _ _ _ _ hne
  refine ⟨hW.c2, hW.fz 2, ⟨?_, Ns.off hW.ns (by simp) fun hn q hq hl => hof q (h.ovF hn q hq).2.1, fun hn q hq => ⟨Or.inl (h.ovF hn q hq).1, (h.ovF hn q hq).2.1, fun e => by have := hvb q e; have := (h.fp q (h.ovF hn q hq).1).2; omega⟩, (hr.other fun g hg => hof g (by have := hvb g hg; omega)).base (by omega), fun q hq => ⟨Or.inr (by have := hvb q hq; simpa using this), by have := hvb q hq; omega⟩, fun y hy => ?_, grow_fp h.fp hB (by simp; omega), Or.inl h.bF, hL, hG⟩, ?_⟩
  · have := Joins.block_setCell (i := 2) hW.obj v'
    rw [this]; rfl
  · obtain ⟨g1, g2⟩ := hW.deps y (hs y hy)
    exact ⟨Ns.off g1 (by simp) fun hn q hq hl => hof q (fun e => by have := g2 hn q hq; have := (h.fp b h.bF).1; omega), g2⟩
  · exact (FrF.of hb : FrF F w W).next (⟨rfl, rfl, rfl, by simp, fun k _ hn => World.heap_setCell_off _ _ _ _ _ fun e => hn (e ▸ h.bF)⟩ : FrF F W (W.setCell ⟨b, 2, none⟩ v')) fun _ _ e => e
/-- Out anew. -/
theorem EbAt.setOut {w W : World} {B b : Nat} {ov v u : Value} {zs : List Rd} {S : CS} {K : List Int} {F : Nat → Prop} (h : EbAt w B b ov v zs S F) (hb : Below w.heap.size w W) (hu : Ns W u K) (hq : ∀ q, u.ownBlock = some q → w.heap.size ≤ q ∧ q < W.heap.size) (hB : B ≤ w.heap.size) (hG : CGood ⟨S.room, K, S.L⟩) :
    EbAt (W.setCell ⟨b, 1, none⟩ u) B b u v zs ⟨S.room, K, S.L⟩ (grow F w (W.setCell ⟨b, 1, none⟩ u)) ∧ FrF F w (W.setCell ⟨b, 1, none⟩ u) := by
  have hW := h.later hb
  have hsz := hb.size
  have hlt := h.lt
  have hof : ∀ q, q ≠ b → (W.setCell ⟨b, 1, none⟩ u).heap[q]? = W.heap[q]? := fun q hne => World.heap_setCell_off _ _ _ _ _ hne
  refine ⟨⟨?_, Ns.off hu (by simp) fun _ q e _ => hof q (by have := hq q e; omega), fun _ q e => ⟨Or.inr (by have := hq q e; simpa using this), by have := hq q e; omega, fun e2 => by have := hq q e; have := (h.fp q (h.vF q e2).1).2; omega⟩, hW.row.other fun g hg => hof g (h.vF g hg).2, fun q e => ⟨Or.inl (h.vF q e).1, (h.vF q e).2⟩, fun y hy => ?_, grow_fp h.fp hB (by simp; omega), Or.inl h.bF, h.rs, hG⟩, ?_⟩
  · have := Joins.block_setCell (i := 1) hW.obj u
    rw [this]; rfl
  · obtain ⟨g1, g2⟩ := hW.deps y hy
    exact ⟨Ns.off g1 (by simp) fun hn q hq hl => hof q (fun e => by have := g2 hn q hq; have := (h.fp b h.bF).1; omega), g2⟩
  · exact (FrF.of hb : FrF F w W).next (⟨rfl, rfl, rfl, by simp, fun k _ hn => World.heap_setCell_off _ _ _ _ _ fun e => hn (e ▸ h.bF)⟩ : FrF F W (W.setCell ⟨b, 1, none⟩ u)) fun _ _ e => e
end Go.Proofs.Ythifmfgnblecbaa.Og.Cb
