/- A log as it lies in memory. -/
import Derived.Test.YthifmfgnblecbaaOgRow
import Derived.Test.YthifmfgnblecbaaOgVec
import Derived.Test.YthifmfgnblecbaaVintB
import Derived.Maps.AppendAt
import Derived.BigQuiet
set_option maxRecDepth 20000
set_option linter.unusedSimpArgs false
set_option linter.unusedVariables false
namespace Go.Proofs.Ythifmfgnblecbaa.Og
open Go.RowKit Go.Proofs.Ythifmfgnblecbaa.Vi Go.Proofs.Ythifmfgnblecbaa.Mk

theorem cell_lt {w : World} {p : Addr} {v : Value} (h : w.cell? p = some v) : p.block < w.heap.size := World.block_lt_of_cell? w _ h
theorem Ns.other {w w' : World} {v : Value} {l : List Int} (h : Ns w v l) (hs : w.heap.size ≤ w'.heap.size) (k : ∀ q, v.ownBlock = some q → q < w.heap.size → w'.heap[q]? = w.heap[q]?) : Ns w' v l := by
  obtain ⟨⟨a, cap, h1, h2⟩, h3, h4, _⟩ := h
  refine ⟨⟨a, cap, h1, ?_⟩, h3, h4, Nat.le_refl _⟩
  rcases h2 with h2 | ⟨b, off, e, hb, hc⟩
  · exact Or.inl h2
  · have kb := k b (by rw [h1, e]; rfl) hb
    exact Or.inr ⟨b, off, e, by omega, fun j hj => (World.cell?_of_block (w := w) (a := ⟨b, off + j, none⟩) kb).trans (hc j hj)⟩
/-- The blocks that are the log's. -/
def fpO (B b : Nat) (kv v : Value) (zs : List Rd) (q : Nat) : Prop := q = b ∨ v.ownBlock = some q ∨ kv.ownBlock = some q ∨ ∃ x ∈ zs, x.dv.ownBlock = some q ∧ B ≤ q
def grow (F : Nat → Prop) (w w' : World) (q : Nat) : Prop := F q ∨ (w.heap.size ≤ q ∧ q < w'.heap.size)
/-- Only blocks of F have turned. -/
structure FrF (F : Nat → Prop) (w w' : World) : Prop where
  os : w'.os = w.os
  tape : w'.tape = w.tape
  output : w'.output = w.output
  size : w.heap.size ≤ w'.heap.size
  block : ∀ k, k < w.heap.size → ¬ F k → w'.heap[k]? = w.heap[k]?
theorem FrF.of {F : Nat → Prop} {w w' : World} (h : Below w.heap.size w w') : FrF F w w' := ⟨h.os, h.tape, h.output, h.size, fun k hk _ => h.block k hk⟩
theorem FrF.below {F : Nat → Prop} {w w' : World} {B : Nat} (h : FrF F w w') (hF : ∀ q, F q → B ≤ q) (hB : B ≤ w.heap.size) : Below B w w' := ⟨h.os, h.tape, h.output, h.size, fun k hk => h.block k (by omega) (fun e => by have := hF k e; omega)⟩
theorem FrF.mono {F G : Nat → Prop} {w w' : World} (h : FrF F w w') (k : ∀ q, F q → G q) : FrF G w w' := ⟨h.os, h.tape, h.output, h.size, fun i hi hn => h.block i hi (fun e => hn (k i e))⟩
theorem FrF.next {F G : Nat → Prop} {u v w : World} (h : FrF F u v) (k : FrF G v w) (hG : ∀ q, q < u.heap.size → G q → F q) : FrF F u w :=
  ⟨k.os.trans h.os, k.tape.trans h.tape, k.output.trans h.output, Nat.le_trans h.size k.size, fun i hi hn => (k.block i (Nat.lt_of_lt_of_le hi h.size) (fun e => hn (hG i hi e))).trans (h.block i hi hn)⟩
set_option maxHeartbeats 1000000 in
theorem sclone_is (v : Value) (l : List Int) (w : World) (h : Ns w v l) (hlen : l.length ≤ 1000000) : Calls Try.prog 42 #[v] w (VNew l w) := by
  obtain ⟨i0, hi, hz0, hz1, hz2⟩ := info_parts infoI
  obtain ⟨a, cap, rfl⟩ := h.slice
  cases a with
  | none =>
    have h0 : l = [] := by
      obtain ⟨⟨a, c, h1, h2⟩, _⟩ := h
      injection h1 with h1 _ _
      rcases h2 with h2 | ⟨b, off, e, _⟩
      · exact h2
      · rw [← h1] at e; cases e
    subst h0
    have he : ∀ w, (binOp .eql 22 (.slice none 0 cap) (.slice none 0 0)).run Try.prog w = .ok (.bool true) w := fun w => Lib.run_eql_slice_nil (P := Try.prog) w 22 3 none 0 cap 0 0 Try.underlying22
    simp only [List.length_nil]
    go_enter Try.func42, Try.ntmps42
    go_wp2
    go_ret
    exact ⟨_, rfl, (Nums.nil w none 0).mono (Nat.zero_le _) (Nat.le_refl _), Below.refl _ _, fun q hq => by cases hq⟩
  | some ad =>
    have hsrc : ∀ j u, (l.map icell)[j]? = some u → (w.alloc (.cells #[] 3)).cell? (ad.add j) = some u := fun j u hu => by
      rw [List.getElem?_map] at hu
      obtain ⟨x, hx, rfl⟩ := Option.map_eq_some_iff.1 hu
      obtain ⟨hj, rfl⟩ := List.getElem?_eq_some_iff.1 hx
      obtain ⟨-, b, off, e, hc⟩ := h.cell (by omega)
      injection e with e
      subst e
      rw [add_offR]
      have hb := cell_lt (hc j hj)
      rw [World.cell?_alloc_past (w := w) _ b _ hb]
      exact hc j hj
    have hone : ∀ u ∈ l.map icell, u.oneCell' = true := fun u hu => by
      obtain ⟨x, -, rfl⟩ := List.mem_map.1 hu; rfl
    have hown := World.ownsRow_made (base := w.heap.size) (e := 3) (size := 1) w #[] 0 (Nat.le_refl _) (Nat.zero_le _) rfl
    have hwide := h.wide
    obtain ⟨n, hn⟩ : ∃ n, l.length = n := ⟨_, rfl⟩
    have HN := Lib.hid hn
    have hfl : (l.map icell).length = n * 1 := by rw [List.length_map, hn, Nat.mul_one]
    have he : ∀ w, (binOp .eql 22 (.slice (some ad) n cap) (.slice none 0 0)).run Try.prog w = .ok (.bool false) w := fun w => Lib.run_eql_slice_nil (P := Try.prog) w 22 3 (some ad) n cap 0 0 Try.underlying22
    rw [hn] at hlen ⊢
    clear h hn
    go_enter Try.func42, Try.ntmps42
    go_wp2_with (at_builtin; refine wpList_append_own_at _ rfl _ _ 22 rfl w.heap.size 3 i0 (.int .i64 0) 1 8 Try.underlying22 hi hz0 hz1 hz2 rfl (by decide) _ _ _ rfl hown ad n cap (l.map icell) rfl hfl hsrc hone ?c3 ?c4 ?c5 ?_)
    case c3 => unfold maxLen; omega
    case c4 => omega
    case c5 => simp
    intro v' w' hown' hgrow _ hfoot
    have HR := Lib.hid (show IRow w' w.heap.size v' l by
      unfold IRow
      rw [HN.out]
      simpa using hown')
    have HB := Lib.hid (show Below w.heap.size w w' from ((Below.refl _ w).alloc (Nat.le_refl _) (.cells #[] 3)).grown hgrow (by simp) (fun q hq => (World.ownsRow.lt hown q hq).1))
    have HL := Lib.hid (World.ownsRow.lt hown')
    obtain ⟨a', c', rfl⟩ := HR.out.slice
    have HNS := Lib.hid (show Ns w' (.slice a' l.length c') l from by
      have hR := HR.out
      rcases hR.2 with ⟨hv, h2⟩ | ⟨g, cp, cur, hv, hg, hh, hcn, hm, hs, ht⟩
      · obtain rfl := List.eq_nil_of_length_eq_zero h2
        exact (Nums.nil w' a' c').mono (Nat.zero_le _) (Nat.le_refl _)
      · have h1 := hR
        unfold IRow at h1
        rw [hv] at h1
        have e1 := World.ownsRow.cellAt h1
        refine ⟨⟨_, _, hv, Or.inr ⟨g, 0, rfl, (Array.getElem?_eq_some_iff.1 hh).1, fun j hj => ?_⟩⟩, hwide, by rw [HN.out]; omega, Nat.le_refl _⟩
        rw [Nat.zero_add, e1 j (by omega)]
        simp [hj, icell])
    clear hown' hgrow hfoot hown hsrc he
    go_wp2
    go_ret
    exact ⟨_, rfl, by first | exact HNS.out | (rw [← HN.out]; exact HNS.out), HB.out, fun q hq => HL.out q hq⟩
end Go.Proofs.Ythifmfgnblecbaa.Og
