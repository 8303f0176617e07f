/- Append, Sync, Read, Names. -/
import Derived.Test.YteijmjbiaffcmaaGreatDoorFilesFils
import Derived.Deep.RegionHeld
set_option maxRecDepth 20000
set_option linter.unusedSimpArgs false
namespace Go.Proofs.YteijmjbiaffcmaaGreatDoor.Fi
open Go.RowKit Go.Maps Go.Shelf

/-- What a method that tells an error makes of a directory. -/
def MDone (b : Nat) (S : FS) (L : Lay) (r : Int × FS) (w : World) (e : Ending) (w' : World) : Prop := ∃ L', e = .returned (.int .i64 r.1) ∧ Went w w' b S r.2 L L' ∧ L'.bn = L.bn
def stepD (S : FS) : Int × FS := (tell (stepS S).1, (stepS S).2)
def filS (S : FS) (q : Nat) : Fil := (filQ S.fil q).getD ⟨q, ⟨#[]⟩, 0⟩
def appendS (S : FS) (n t : ByteArray) : Int × FS :=
  match findS S n with
  | (some q, _) => if S.room < (usedS S : Int) + (t.size : Int) then (15, S) else stepD (updS S q ((filS S q).s ++ t) (filS S q).k)
  | (none, e) => (e, S)
def syncS (S : FS) (n : ByteArray) : Int × FS :=
  match findS S n with
  | (some q, _) => if (stepS S).1 then (0, updS (stepS S).2 q (filS S q).s (filS S q).s.size) else (14, (stepS S).2)
  | (none, e) => (e, S)
def readS (S : FS) (n : ByteArray) : ByteArray × Int :=
  match findS S n with
  | (some q, _) => ((filS S q).s, 0)
  | (none, e) => (⟨#[]⟩, e)
theorem find_some {S : FS} {n : ByteArray} {q : Nat} {e : Int} (h : findS S n = (some q, e)) : e = 0 ∧ look S.now (nm n) = some q := by
  unfold findS at h
  split at h
  · cases h
  · split at h
    · rename_i q' e'
      injection h with h1 h2
      injection h1 with h1
      subst h1
      exact ⟨h2.symm, e'⟩
    · cases h
theorem find_none {S : FS} {n : ByteArray} {e : Int} (h : findS S n = (none, e)) : e ≠ 0 := by
  unfold findS at h
  split at h
  · rename_i h0
    injection h with _ h2
    rw [← h2]; exact h0
  · split at h
    · cases h
    · injection h with _ h2
      rw [← h2]; decide
theorem Sane.file {S : FS} (hS : Sane S) {n : Nm} {q : Nat} (h : look S.now n = some q) : ∃ f ∈ S.fil, f.q = q ∧ filS S q = f := by
  obtain ⟨f, hf⟩ := filQ_some (hS.ids _ (look_mem h))
  obtain ⟨h1, h2⟩ := filQ_mem hf
  exact ⟨f, h1, h2, by unfold filS; rw [hf]; rfl⟩
theorem Sane.used {S : FS} (hS : Sane S) : usedS S ≤ 70368744177664 := by
  rw [← szN_sum hS.srt]
  have h1 := sum_le (Go.Proofs.YteijmjbiaffcmaaGreatDoor.Fi.szN S) 1099511627776 hS.szN (S.now.map (·.1))
  rw [List.length_map] at h1
  have h2 := Nat.mul_le_mul_right 1099511627776 hS.len
  exact Nat.le_trans h1 h2
theorem fileCell {w : World} {b : Nat} {S : FS} {L : Lay} (h : FsAt w b S L) {f : Fil} (hf : f ∈ S.fil) : ∃ a c, L.V f.q = .slice a f.s.size c ∧ w.cell? ⟨f.q, 0, none⟩ = some (.slice a f.s.size c) ∧ w.cell? ⟨f.q, 1, none⟩ = some (.int .i64 (f.k : Int)) ∧ w.frozen? ⟨f.q, 0, none⟩ = false ∧ w.frozen? ⟨f.q, 1, none⟩ = false := by
  obtain ⟨g1, g2⟩ := h.fil f hf
  obtain ⟨a, c, e⟩ := row_slice g2
  exact ⟨a, c, e, by rw [← e]; exact cell_of g1, cell_of g1, frozen_of g1, frozen_of g1⟩
/-- A file's bytes have been appended to, and stored. -/
theorem FsAt.appended {w w2 : World} {b : Nat} {S : FS} {L : Lay} {f : Fil} {v' : Value} {s' : ByteArray} (h : FsAt w b S L) (hf : f ∈ S.fil) (hr : BRow w2 v' s') (hg : w.grownBy w2 (L.V f.q).ownBlock) (hl : v'.ownBlock = (L.V f.q).ownBlock ∨ ∃ g, v'.ownBlock = some g ∧ w.heap.size ≤ g) :
    Went w (w2.setCell ⟨f.q, 0, none⟩ v') b S (updS S f.q s' f.k) L (updL L f.q v') ∧ w2.cell? ⟨f.q, 0, none⟩ = some (L.V f.q) ∧ w2.frozen? ⟨f.q, 0, none⟩ = false := by
  obtain ⟨g1, g2⟩ := h.fil f hf
  have hq2 : w2.heap[f.q]? = some (.cells #[L.V f.q, .int .i64 (f.k : Int)] 90) := (hg.block f.q (Array.getElem?_eq_some_iff.1 g1).1 (fun e => by
    obtain ⟨cur, hh⟩ := row_heap g2 e.symm
    exact kinds_ne g1 hh (by decide) rfl)).trans g1
  have hset : ∀ k, k ≠ f.q → (w2.setCell ⟨f.q, 0, none⟩ v').heap[k]? = w2.heap[k]? := fun k hk => heap_setCell_other w2 ⟨f.q, 0, none⟩ k v' hk
  refine ⟨h.refil hf hg.os hg.tape hg.output (by simpa using hg.size) (fun k hk h1 h2 => (hset k h1).trans (hg.block k hk (fun e => h2 e.symm))) (heap_setCell_same w2 f.q 0 _ _ v' hq2) (row_of hr fun k e => ?_) hl, cell_of hq2, frozen_of hq2⟩
  obtain ⟨cur, hh⟩ := row_heap hr e
  exact hset k (kinds_ne hh hq2 (by decide))
set_option maxHeartbeats 1000000 in
theorem append_is (b : Nat) (S : FS) (L : Lay) (n t : ByteArray) (w : World) (h : FsAt w b S L) (hS : Sane S) (hn : n.size ≤ maxLen) (ht : t.size ≤ 1099511627776) : Calls Tryz.prog 60 #[.pointer (some ⟨b, 0, none⟩), .string n, .string t] w (MDone b S L (appendS S n t) w) := by
  have kf := find_is b S L n w h hn
  have HS := Lib.hid hS
  have H := Lib.hid h
  obtain ⟨r, hr⟩ : ∃ r, appendS S n t = r := ⟨_, rfl⟩
  have HR := Lib.hid hr
  rw [hr]
  rcases hfe : findS S n with ⟨fo, e⟩
  rw [hfe] at kf
  have HFE := Lib.hid hfe
  clear h hS hr hfe
  cases fo with
  | none =>
    have HE := Lib.hid (show (e, S) = r by rw [← HR.out]; unfold appendS; rw [HFE.out])
    have hq : (e != 0) = true := by simpa using find_none HFE.out
    unfold ptrV at kf
    go_enter Tryz.func60, Tryz.ntmps60
    go_wp2_with (go_at_call 62; (with_reducible refine kf.mono ?_); rintro e w1 ⟨rfl, hB⟩; (have HB := Lib.hid hB); clear hB kf)
    go_ret
    exact ⟨L, by rw [← HE.out]; rfl, by rw [← HE.out]; exact Went.below H.out HB.out, rfl⟩
  | some q =>
    obtain ⟨rfl, hlk⟩ := find_some HFE.out
    obtain ⟨f, hf, hfq, hff⟩ := HS.out.file hlk
    have hfs := (HS.out.sz f hf).1
    subst hfq
    have HF := Lib.hid hf
    have HFF := Lib.hid hff
    have ku := fun W (k : Below w.heap.size w W) => used_is b S L W (H.out.later k) HS.out
    have hu64 := HS.out.used
    obtain ⟨u, hu⟩ : ∃ u, usedS S = u := ⟨_, rfl⟩
    rw [hu] at ku hu64
    have HU := Lib.hid hu
    have HKU := Lib.hid ku
    have hwr : IntKind.i64.wrap ((u : Int) + (t.size : Int)) = (u : Int) + (t.size : Int) := by rw [IntKind.wrap_i64]; omega
    have HC0 := Lib.hid (fun W (k : Below w.heap.size w W) => (H.out.later k).cells.1)
    unfold ptrV at kf
    clear hf hff hlk hu ku
    by_cases hroom : S.room < (u : Int) + (t.size : Int)
    · have HE := Lib.hid (show (15, S) = r by rw [← HR.out]; unfold appendS; rw [HFE.out]; dsimp only; rw [if_pos (by rw [HU.out]; exact hroom)])
      have hd : decide (S.room < (u : Int) + (t.size : Int)) = true := decide_eq_true hroom
      clear hroom
      go_enter Tryz.func60, Tryz.ntmps60
      go_upto_region 4 with (go_at_call 62; (with_reducible refine kf.mono ?_); rintro e w1 ⟨rfl, hB⟩; (have HB := Lib.hid hB); clear hB kf)
      refine wp_region_held_drew (S := fun W => Below w.heap.size w W) (by kernel_rfl) (HB.out.trans (Below.refl w.heap.size w1).drew) (fun hHeld => ?_)
      have HBD := Lib.hid (HB.out.trans (Below.refl w.heap.size w1).drew)
      generalize w1.drew = wd at *
      refine wpAnyH_take (i := 0) (oi := ?rega1o) (v := ?rega1v) ?rega1h (by kernel_rfl) (by kernel_rfl) (by kernel_rfl) ?rega1q ?rega1y hHeld ?rega1r
      case rega1h => (simp only [List.getElem?_toArray, List.getElem?_cons_zero]; rfl)
      case rega1q => exact fun _ _ _ h => h
      case rega1y => (refine Or.inl ⟨by first | kernel_rfl | rfl, ?_⟩; intro w hSw; (try dsimp only at hSw); have cc := HC0.out _ hSw; go_simp <;> (try with_reducible rfl))
      try simp only [Act.put, List.setIfInBounds_toArray, List.set_cons_zero, List.set_cons_succ]
      refine wpAnyH_take (i := 2) (oi := ?rega2o) (v := ?rega2v) ?rega2h (by kernel_rfl) (by kernel_rfl) (by kernel_rfl) ?rega2q ?rega2y hHeld ?rega2r
      case rega2h => (simp only [List.getElem?_toArray, List.getElem?_cons_succ, List.getElem?_cons_zero]; rfl)
      case rega2q => exact fun _ _ _ h => h
      case rega2y => (refine Or.inl ⟨by first | kernel_rfl | rfl, ?_⟩; intro w hSw; (try dsimp only at hSw); have cc := HC0.out _ hSw; go_simp <;> (try with_reducible rfl))
      try simp only [Act.put, List.setIfInBounds_toArray, List.set_cons_zero, List.set_cons_succ]
      refine wpAnyH_take (i := 3) (oi := ?rega3o) (v := ?rega3v) ?rega3h (by kernel_rfl) (by kernel_rfl) (by kernel_rfl) ?rega3q ?rega3y hHeld ?rega3r
      case rega3h => (simp only [List.getElem?_toArray, List.getElem?_cons_succ, List.getElem?_cons_zero]; rfl)
      case rega3q => exact fun _ _ _ h => h
      case rega3y => (refine Or.inl ⟨by first | kernel_rfl | rfl, ?_⟩; intro w hSw; (try dsimp only at hSw); have cc := HC0.out _ hSw; go_simp <;> (try with_reducible rfl))
      try simp only [Act.put, List.setIfInBounds_toArray, List.set_cons_zero, List.set_cons_succ]
      refine wpAnyH_take (i := 5) (oi := ?rega4o) (v := ?rega4v) ?rega4h (by kernel_rfl) (by kernel_rfl) (by kernel_rfl) ?rega4q ?rega4y hHeld ?rega4r
      case rega4h => (simp only [List.getElem?_toArray, List.getElem?_cons_succ, List.getElem?_cons_zero]; rfl)
      case rega4q => exact fun _ _ _ h => h
      case rega4y => (refine Or.inl ⟨by first | kernel_rfl | rfl, ?_⟩; intro w hSw; (try dsimp only at hSw); have cc := HC0.out _ hSw; go_simp <;> (try with_reducible rfl))
      try simp only [Act.put, List.setIfInBounds_toArray, List.set_cons_zero, List.set_cons_succ]
      refine wpAnyH_take (i := 6) (oi := ?rega5o) (v := ?rega5v) ?rega5h (by kernel_rfl) (by kernel_rfl) (by kernel_rfl) ?rega5q ?rega5y hHeld ?rega5r
      case rega5h => (simp only [List.getElem?_toArray, List.getElem?_cons_succ, List.getElem?_cons_zero]; rfl)
      case rega5q => exact fun _ _ _ h => h
      case rega5y => (refine Or.inl ⟨by first | kernel_rfl | rfl, ?_⟩; intro w hSw; (try dsimp only at hSw); have cc := HC0.out _ hSw; go_simp <;> (try with_reducible rfl))
      try simp only [Act.put, List.setIfInBounds_toArray, List.set_cons_zero, List.set_cons_succ]
      refine wpAnyH_take (i := 7) (oi := ?rega6o) (v := ?rega6v) ?rega6h (by kernel_rfl) (by kernel_rfl) (by kernel_rfl) ?rega6q ?rega6y hHeld ?rega6r
      case rega6h => (simp only [List.getElem?_toArray, List.getElem?_cons_succ, List.getElem?_cons_zero]; rfl)
      case rega6q => exact fun _ _ _ h => h
      case rega6y => (refine Or.inl ⟨by first | kernel_rfl | rfl, ?_⟩; intro w hSw; (try dsimp only at hSw); have cc := HC0.out _ hSw; go_simp <;> (try with_reducible rfl))
      try simp only [Act.put, List.setIfInBounds_toArray, List.set_cons_zero, List.set_cons_succ]
      refine wpAnyH_take (i := 8) (oi := ?rega7o) (v := ?rega7v) ?rega7h (by kernel_rfl) (by kernel_rfl) (by kernel_rfl) ?rega7q ?rega7y hHeld ?rega7r
      case rega7h => (simp only [List.getElem?_toArray, List.getElem?_cons_succ, List.getElem?_cons_zero]; rfl)
      case rega7q => exact fun _ _ _ h => h
      case rega7y => (refine Or.inl ⟨by first | kernel_rfl | rfl, ?_⟩; intro w hSw; (try dsimp only at hSw); have cc := HC0.out _ hSw; go_simp <;> (try with_reducible rfl))
      try simp only [Act.put, List.setIfInBounds_toArray, List.set_cons_zero, List.set_cons_succ]
      refine wpAnyH_ready (rs := [1]) (by kernel_rfl) (by simp) ?_
      refine (AllReadyH.cons rfl (fun K hK => ?_) AllReadyH.nil)
      go_simp
      ((with_reducible refine (HKU.out _ HBD.out).mono ?_); rintro e w3 ⟨rfl, hB⟩; (have HB3 := Lib.hid (bel_next HBD.out hB)); (have hHeld2 : Below w.heap.size w w3 := HB3.out); clear hB)
      refine hK.out _ _ (hHeld2) (fun hHeld => ?_)
      clear hK K
      try simp only [Act.put, List.setIfInBounds_toArray, List.set_cons_zero, List.set_cons_succ]
      refine wpAnyH_take (i := 4) (oi := ?rega8o) (v := ?rega8v) ?rega8h (by kernel_rfl) (by kernel_rfl) (by kernel_rfl) ?rega8q ?rega8y hHeld ?rega8r
      case rega8h => (simp only [List.getElem?_toArray, List.getElem?_cons_succ, List.getElem?_cons_zero]; rfl)
      case rega8q => exact fun _ _ _ h => h
      case rega8y => (refine Or.inl ⟨by first | kernel_rfl | rfl, ?_⟩; intro w hSw; (try dsimp only at hSw); have cc := HC0.out _ hSw; go_simp <;> (try with_reducible rfl))
      try simp only [Act.put, List.setIfInBounds_toArray, List.set_cons_zero, List.set_cons_succ]
      refine wpAnyH_take (i := 9) (oi := ?rega9o) (v := ?rega9v) ?rega9h (by kernel_rfl) (by kernel_rfl) (by kernel_rfl) ?rega9q ?rega9y hHeld ?rega9r
      case rega9h => (simp only [List.getElem?_toArray, List.getElem?_cons_succ, List.getElem?_cons_zero]; rfl)
      case rega9q => exact fun _ _ _ h => h
      case rega9y => (refine Or.inl ⟨by first | kernel_rfl | rfl, ?_⟩; intro w hSw; (try dsimp only at hSw); have cc := HC0.out _ hSw; go_simp <;> (try with_reducible rfl))
      try simp only [Act.put, List.setIfInBounds_toArray, List.set_cons_zero, List.set_cons_succ]
      refine wpAnyH_done (by kernel_rfl) ?_ _
      go_wp2
      go_ret
      exact ⟨L, by rw [← HE.out]; rfl, by rw [← HE.out]; exact Went.below H.out HB3.out, rfl⟩
    · have hd : decide (S.room < (u : Int) + (t.size : Int)) = false := decide_eq_false hroom
      have HE := Lib.hid (show stepD (updS S f.q (f.s ++ t) f.k) = r by rw [← HR.out]; unfold appendS; rw [HFE.out]; dsimp only; rw [if_neg (by rw [HU.out]; exact hroom), HFF.out])
      have hrm := HS.out.room.2
      have hst : f.s.size + t.size ≤ 140737488355328 := by omega
      have HLV := Lib.hid HS.out.left
      clear hroom hrm
      go_enter Tryz.func60, Tryz.ntmps60
      go_upto_region 4 with (go_at_call 62; (with_reducible refine kf.mono ?_); rintro e w1 ⟨rfl, hB⟩; (have HB := Lib.hid hB); clear hB kf)
      refine wp_region_held_drew (S := fun W => Below w.heap.size w W) (by kernel_rfl) (HB.out.trans (Below.refl w.heap.size w1).drew) (fun hHeld => ?_)
      have HBD := Lib.hid (HB.out.trans (Below.refl w.heap.size w1).drew)
      generalize w1.drew = wd at *
      refine wpAnyH_take (i := 0) (oi := ?regb1o) (v := ?regb1v) ?regb1h (by kernel_rfl) (by kernel_rfl) (by kernel_rfl) ?regb1q ?regb1y hHeld ?regb1r
      case regb1h => (simp only [List.getElem?_toArray, List.getElem?_cons_zero]; rfl)
      case regb1q => exact fun _ _ _ h => h
      case regb1y => (refine Or.inl ⟨by first | kernel_rfl | rfl, ?_⟩; intro w hSw; (try dsimp only at hSw); have cc := HC0.out _ hSw; go_simp <;> (try with_reducible rfl))
      try simp only [Act.put, List.setIfInBounds_toArray, List.set_cons_zero, List.set_cons_succ]
      refine wpAnyH_take (i := 2) (oi := ?regb2o) (v := ?regb2v) ?regb2h (by kernel_rfl) (by kernel_rfl) (by kernel_rfl) ?regb2q ?regb2y hHeld ?regb2r
      case regb2h => (simp only [List.getElem?_toArray, List.getElem?_cons_succ, List.getElem?_cons_zero]; rfl)
      case regb2q => exact fun _ _ _ h => h
      case regb2y => (refine Or.inl ⟨by first | kernel_rfl | rfl, ?_⟩; intro w hSw; (try dsimp only at hSw); have cc := HC0.out _ hSw; go_simp <;> (try with_reducible rfl))
      try simp only [Act.put, List.setIfInBounds_toArray, List.set_cons_zero, List.set_cons_succ]
      refine wpAnyH_take (i := 3) (oi := ?regb3o) (v := ?regb3v) ?regb3h (by kernel_rfl) (by kernel_rfl) (by kernel_rfl) ?regb3q ?regb3y hHeld ?regb3r
      case regb3h => (simp only [List.getElem?_toArray, List.getElem?_cons_succ, List.getElem?_cons_zero]; rfl)
      case regb3q => exact fun _ _ _ h => h
      case regb3y => (refine Or.inl ⟨by first | kernel_rfl | rfl, ?_⟩; intro w hSw; (try dsimp only at hSw); have cc := HC0.out _ hSw; go_simp <;> (try with_reducible rfl))
      try simp only [Act.put, List.setIfInBounds_toArray, List.set_cons_zero, List.set_cons_succ]
      refine wpAnyH_take (i := 5) (oi := ?regb4o) (v := ?regb4v) ?regb4h (by kernel_rfl) (by kernel_rfl) (by kernel_rfl) ?regb4q ?regb4y hHeld ?regb4r
      case regb4h => (simp only [List.getElem?_toArray, List.getElem?_cons_succ, List.getElem?_cons_zero]; rfl)
      case regb4q => exact fun _ _ _ h => h
      case regb4y => (refine Or.inl ⟨by first | kernel_rfl | rfl, ?_⟩; intro w hSw; (try dsimp only at hSw); have cc := HC0.out _ hSw; go_simp <;> (try with_reducible rfl))
      try simp only [Act.put, List.setIfInBounds_toArray, List.set_cons_zero, List.set_cons_succ]
      refine wpAnyH_take (i := 6) (oi := ?regb5o) (v := ?regb5v) ?regb5h (by kernel_rfl) (by kernel_rfl) (by kernel_rfl) ?regb5q ?regb5y hHeld ?regb5r
      case regb5h => (simp only [List.getElem?_toArray, List.getElem?_cons_succ, List.getElem?_cons_zero]; rfl)
      case regb5q => exact fun _ _ _ h => h
      case regb5y => (refine Or.inl ⟨by first | kernel_rfl | rfl, ?_⟩; intro w hSw; (try dsimp only at hSw); have cc := HC0.out _ hSw; go_simp <;> (try with_reducible rfl))
      try simp only [Act.put, List.setIfInBounds_toArray, List.set_cons_zero, List.set_cons_succ]
      refine wpAnyH_take (i := 7) (oi := ?regb6o) (v := ?regb6v) ?regb6h (by kernel_rfl) (by kernel_rfl) (by kernel_rfl) ?regb6q ?regb6y hHeld ?regb6r
      case regb6h => (simp only [List.getElem?_toArray, List.getElem?_cons_succ, List.getElem?_cons_zero]; rfl)
      case regb6q => exact fun _ _ _ h => h
      case regb6y => (refine Or.inl ⟨by first | kernel_rfl | rfl, ?_⟩; intro w hSw; (try dsimp only at hSw); have cc := HC0.out _ hSw; go_simp <;> (try with_reducible rfl))
      try simp only [Act.put, List.setIfInBounds_toArray, List.set_cons_zero, List.set_cons_succ]
      refine wpAnyH_take (i := 8) (oi := ?regb7o) (v := ?regb7v) ?regb7h (by kernel_rfl) (by kernel_rfl) (by kernel_rfl) ?regb7q ?regb7y hHeld ?regb7r
      case regb7h => (simp only [List.getElem?_toArray, List.getElem?_cons_succ, List.getElem?_cons_zero]; rfl)
      case regb7q => exact fun _ _ _ h => h
      case regb7y => (refine Or.inl ⟨by first | kernel_rfl | rfl, ?_⟩; intro w hSw; (try dsimp only at hSw); have cc := HC0.out _ hSw; go_simp <;> (try with_reducible rfl))
      try simp only [Act.put, List.setIfInBounds_toArray, List.set_cons_zero, List.set_cons_succ]
      refine wpAnyH_ready (rs := [1]) (by kernel_rfl) (by simp) ?_
      refine (AllReadyH.cons rfl (fun K hK => ?_) AllReadyH.nil)
      go_simp
      ((with_reducible refine (HKU.out _ HBD.out).mono ?_); rintro e w3 ⟨rfl, hB⟩; (have HB3 := Lib.hid (bel_next HBD.out hB)); (have hHeld2 : Below w.heap.size w w3 := HB3.out); clear hB)
      refine hK.out _ _ (hHeld2) (fun hHeld => ?_)
      clear hK K
      try simp only [Act.put, List.setIfInBounds_toArray, List.set_cons_zero, List.set_cons_succ]
      refine wpAnyH_take (i := 4) (oi := ?regb8o) (v := ?regb8v) ?regb8h (by kernel_rfl) (by kernel_rfl) (by kernel_rfl) ?regb8q ?regb8y hHeld ?regb8r
      case regb8h => (simp only [List.getElem?_toArray, List.getElem?_cons_succ, List.getElem?_cons_zero]; rfl)
      case regb8q => exact fun _ _ _ h => h
      case regb8y => (refine Or.inl ⟨by first | kernel_rfl | rfl, ?_⟩; intro w hSw; (try dsimp only at hSw); have cc := HC0.out _ hSw; go_simp <;> (try with_reducible rfl))
      try simp only [Act.put, List.setIfInBounds_toArray, List.set_cons_zero, List.set_cons_succ]
      refine wpAnyH_take (i := 9) (oi := ?regb9o) (v := ?regb9v) ?regb9h (by kernel_rfl) (by kernel_rfl) (by kernel_rfl) ?regb9q ?regb9y hHeld ?regb9r
      case regb9h => (simp only [List.getElem?_toArray, List.getElem?_cons_succ, List.getElem?_cons_zero]; rfl)
      case regb9q => exact fun _ _ _ h => h
      case regb9y => (refine Or.inl ⟨by first | kernel_rfl | rfl, ?_⟩; intro w hSw; (try dsimp only at hSw); have cc := HC0.out _ hSw; go_simp <;> (try with_reducible rfl))
      try simp only [Act.put, List.setIfInBounds_toArray, List.set_cons_zero, List.set_cons_succ]
      refine wpAnyH_done (by kernel_rfl) ?_ _
      have HF3 := Lib.hid (H.out.later HB3.out)
      obtain ⟨va, vc, hv, y0, y1, f0, f1⟩ := fileCell HF3.out HF.out
      have hrow := (HF3.out.fil f HF.out).2
      have HV := Lib.hid hv
      rw [hv] at hrow
      clear hv y1 f1
      go_wp2_with (at_builtin; refine wpList_bytes rfl _ _ rfl (.slice va f.s.size vc) f.s t rfl rfl hrow hst ?_)
      intro v4 w4 hr4 hg4 hl4
      rw [← HV.out] at hg4 hl4
      obtain ⟨hW, y4, f4⟩ := HF3.out.appended HF.out hr4 hg4 hl4
      have ks := step_is b (updS S f.q (f.s ++ t) f.k) _ _ hW.at_ HLV.out
      have HW := Lib.hid hW
      obtain ⟨a4, d4, e4⟩ := row_slice hr4
      obtain ⟨n4, hn4⟩ : ∃ n, (f.s ++ t).size = n := ⟨_, rfl⟩
      rw [hn4] at e4
      subst e4
      clear hr4 hg4 hl4 hW hrow y0 f0 hn4
      go_wp2_with (go_at_call 91; (refine ks.mono ?_); rintro e w5 ⟨rfl, hW5⟩; (have HW5 := Lib.hid hW5); clear hW5 ks)
      go_ret
      exact ⟨updL L f.q (.slice a4 n4 d4), by rw [← HE.out]; rfl, by rw [← HE.out]; exact ((Went.below H.out HB3.out).trans HW.out).trans HW5.out, rfl⟩
theorem FsAt.synced {w : World} {b : Nat} {S : FS} {L : Lay} {f : Fil} (h : FsAt w b S L) (hf : f ∈ S.fil) : Went w (w.setCell ⟨f.q, 1, none⟩ (.int .i64 (f.s.size : Int))) b S (updS S f.q f.s f.s.size) L (updL L f.q (L.V f.q)) := by
  obtain ⟨g1, g2⟩ := h.fil f hf
  have hset : ∀ k, k ≠ f.q → (w.setCell ⟨f.q, 1, none⟩ (.int .i64 (f.s.size : Int))).heap[k]? = w.heap[k]? := fun k hk => heap_setCell_other w ⟨f.q, 1, none⟩ k _ hk
  refine h.refil hf rfl rfl rfl (by simp) (fun k _ h1 _ => hset k h1) (heap_setCell_same w f.q 1 _ _ _ g1) (row_of g2 fun k e => ?_) (Or.inl rfl)
  obtain ⟨cur, hh⟩ := row_heap g2 e
  exact hset k (kinds_ne hh g1 (by decide))
set_option maxHeartbeats 1000000 in
theorem sync_is (b : Nat) (S : FS) (L : Lay) (n : ByteArray) (w : World) (h : FsAt w b S L) (hS : Sane S) (hn : n.size ≤ maxLen) : Calls Tryz.prog 68 #[.pointer (some ⟨b, 0, none⟩), .string n] w (MDone b S L (syncS S n) w) := by
  have kf := find_is b S L n w h hn
  have HS := Lib.hid hS
  have H := Lib.hid h
  obtain ⟨r, hr⟩ : ∃ r, syncS S n = r := ⟨_, rfl⟩
  have HR := Lib.hid hr
  rw [hr]
  rcases hfe : findS S n with ⟨fo, e⟩
  rw [hfe] at kf
  have HFE := Lib.hid hfe
  clear h hS hr hfe
  cases fo with
  | none =>
    have HE := Lib.hid (show (e, S) = r by rw [← HR.out]; unfold syncS; rw [HFE.out])
    have hq : (e != 0) = true := by simpa using find_none HFE.out
    unfold ptrV at kf
    go_enter Tryz.func68, Tryz.ntmps68
    go_wp2_with (go_at_call 62; (with_reducible refine kf.mono ?_); rintro e w1 ⟨rfl, hB⟩; (have HB := Lib.hid hB); clear hB kf)
    go_ret
    exact ⟨L, by rw [← HE.out]; rfl, by rw [← HE.out]; exact Went.below H.out HB.out, rfl⟩
  | some q =>
    obtain ⟨rfl, hlk⟩ := find_some HFE.out
    obtain ⟨f, hf, hfq, hff⟩ := HS.out.file hlk
    subst hfq
    have HF := Lib.hid hf
    have HFF := Lib.hid hff
    have ks := fun W h => step_is b S L W h HS.out.left
    obtain ⟨so, hso⟩ : ∃ so, stepS S = so := ⟨_, rfl⟩
    have hfil : (stepS S).2.fil = S.fil := by unfold stepS; split; rfl; split <;> rfl
    rw [hso] at ks hfil
    have HSO := Lib.hid hso
    have HFIL := Lib.hid hfil
    obtain ⟨ok, S2⟩ := so
    unfold ptrV at kf
    clear hf hff hlk hso hfil
    cases ok with
    | false =>
      have HE := Lib.hid (show (14, S2) = r by rw [← HR.out]; unfold syncS; rw [HFE.out]; dsimp only; rw [HSO.out]; rfl)
      have kt : tell (false, S2).1 = 14 := rfl
      rw [kt] at ks
      go_enter Tryz.func68, Tryz.ntmps68
      go_wp2_with (first
        | (go_at_call 62; (with_reducible refine kf.mono ?_); rintro e w1 ⟨rfl, hB⟩; (have HB := Lib.hid hB); (have ks1 := ks w1 (H.out.later hB)); clear hB kf ks)
        | (go_at_call 91; (with_reducible refine ks1.mono ?_); rintro e w2 ⟨rfl, hW⟩; (have HW := Lib.hid hW); clear hW ks1))
      go_ret
      exact ⟨L, by rw [← HE.out]; rfl, by rw [← HE.out]; exact (Went.below H.out HB.out).trans HW.out, rfl⟩
    | true =>
      have HE := Lib.hid (show (0, updS S2 f.q f.s f.s.size) = r by rw [← HR.out]; unfold syncS; rw [HFE.out]; dsimp only; rw [HSO.out, HFF.out]; rfl)
      have kt : tell (true, S2).1 = 0 := rfl
      rw [kt] at ks
      go_enter Tryz.func68, Tryz.ntmps68
      go_wp2_with (first
        | (go_at_call 62; (with_reducible refine kf.mono ?_); rintro e w1 ⟨rfl, hB⟩; (have HB := Lib.hid hB); (have ks1 := ks w1 (H.out.later hB)); clear hB kf ks)
        | (go_at_call 91; (with_reducible refine ks1.mono ?_); rintro e w2 ⟨rfl, hW⟩; (obtain ⟨va, vc, hv, y0, y1, f0, f1⟩ := fileCell hW.at_ (show f ∈ S2.fil by rw [HFIL.out]; exact HF.out)); (have HV := Lib.hid hv); (have HW := Lib.hid hW); clear hW ks1 hv f0))
      go_ret
      refine ⟨updL L f.q (L.V f.q), by rw [← HE.out]; rfl, ?_, rfl⟩
      rw [← HE.out]
      have hfm : f ∈ S2.fil := by rw [HFIL.out]; exact HF.out
      exact ((Went.below H.out HB.out).trans HW.out).trans (HW.out.at_.synced hfm)
theorem read_is (b : Nat) (S : FS) (L : Lay) (n : ByteArray) (w : World) (h : FsAt w b S L) (hS : Sane S) (hn : n.size ≤ maxLen) : Calls Tryz.prog 34 #[.pointer (some ⟨b, 0, none⟩), .string n] w fun e w' => e = .returned (.tuple #[.string (readS S n).1, .int .i64 (readS S n).2]) ∧ Below w.heap.size w w' := by
  have kf := find_is b S L n w h hn
  have HS := Lib.hid hS
  have H := Lib.hid h
  obtain ⟨r, hr⟩ : ∃ r, readS S n = r := ⟨_, rfl⟩
  have HR := Lib.hid hr
  rw [hr]
  rcases hfe : findS S n with ⟨fo, e⟩
  rw [hfe] at kf
  have HFE := Lib.hid hfe
  clear h hS hr hfe
  cases fo with
  | none =>
    have HE := Lib.hid (show (⟨#[]⟩, e) = r by rw [← HR.out]; unfold readS; rw [HFE.out])
    have hq : (e != 0) = true := by simpa using find_none HFE.out
    unfold ptrV at kf
    go_enter Tryz.func34, Tryz.ntmps34
    go_wp2_with (go_at_call 62; (with_reducible refine kf.mono ?_); rintro e w1 ⟨rfl, hB⟩; (have HB := Lib.hid hB); clear hB kf)
    go_ret2
    exact ⟨by rw [← HE.out]; rfl, HB.out⟩
  | some q =>
    obtain ⟨rfl, hlk⟩ := find_some HFE.out
    obtain ⟨f, hf, hfq, hff⟩ := HS.out.file hlk
    subst hfq
    have HF := Lib.hid hf
    have HE := Lib.hid (show (f.s, 0) = r by rw [← HR.out]; unfold readS; rw [HFE.out]; dsimp only; rw [hff])
    unfold ptrV at kf
    clear hf hff hlk
    go_enter Tryz.func34, Tryz.ntmps34
    go_wp2_with (go_at_call 62; (with_reducible refine kf.mono ?_); rintro e w1 ⟨rfl, hB⟩; (have HB := Lib.hid hB); (obtain ⟨va, vc, hv, y0, y1, f0, f1⟩ := fileCell (H.out.later hB) HF.out); (have htx := ((H.out.later hB).fil f HF.out).2.text); (rw [hv] at htx); clear hB kf hv y1 f0 f1)
    go_ret2
    exact ⟨by rw [← HE.out]; rfl, HB.out⟩
theorem pnames_is (b : Nat) (S : FS) (L : Lay) (w : World) (h : FsAt w b S L) (hS : Sane S) (bm : Nat) (hbn : L.bn = some bm) : Calls Tryz.prog 33 #[.pointer (some ⟨b, 0, none⟩)] w (NDone (S.now.map (·.1)) w) := by
  obtain ⟨-, c1, -⟩ := h.cells
  rw [hbn] at c1
  have hm : MapIs w bm S.now := by
    rcases h.now with ⟨e, _⟩ | ⟨b2, e, hm⟩
    · rw [hbn] at e; cases e
    · rw [hbn] at e; injection e with e; subst e; exact hm
  have k := names_is bm S.now w hm hS.srt (by have := hS.len; omega)
  clear h hm
  go_enter Tryz.func33, Tryz.ntmps33
  go_wp2_with (go_at_call 61; (with_reducible refine k.mono ?_); rintro e w1 ⟨v, rfl, hr, hB⟩; (have HR := Lib.hid hr); (have HB := Lib.hid hB); (obtain ⟨a, c, rfl⟩ := row_slice hr); clear hr hB k)
  go_ret
  exact ⟨_, rfl, by have h := HR.out; rw [List.length_map] at h; exact h, HB.out⟩
end Go.Proofs.YteijmjbiaffcmaaGreatDoor.Fi
