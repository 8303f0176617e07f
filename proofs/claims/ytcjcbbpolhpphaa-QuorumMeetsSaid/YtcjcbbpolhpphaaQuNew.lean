/- New writes and reads. -/
import Derived.Test.YtcjcbbpolhpphaaQuFns
import Derived.Deep.MidRow
import Derived.Deep.CutRange
set_option maxRecDepth 20000
set_option linter.unusedSimpArgs false
set_option linter.unusedVariables false
namespace Go.Proofs.Ytcjcbbpolhpphaa.Qu
open Go.RowKit Go.Proofs.Ytcjcbbpolhpphaa.Vi

/-- A write's cells, with those of its nodes that stand in a list. -/
def wcells (need : Int) (f : Nat → Bool) : List Value := .int .i64 need :: .bool (f 0) :: .bool (f 1) :: .bool (f 2) :: .bool (f 3) :: .bool (f 4) :: .bool (f 5) :: .bool (f 6) :: .bool (f 7) :: .bool (f 8) :: .bool (f 9) :: .bool (f 10) :: .bool (f 11) :: .bool (f 12) :: .bool (f 13) :: .bool (f 14) :: .bool (f 15) :: List.replicate 16 (.bool false)
theorem wcells_nd (need : Int) (f : Nat → Bool) (i : Nat) (h : i < 16) : (wcells need f)[1 + i]? = some (.bool (f i)) := by
  match i, h with
  | 0, _ | 1, _ | 2, _ | 3, _ | 4, _ | 5, _ | 6, _ | 7, _ | 8, _ | 9, _ | 10, _ | 11, _ | 12, _ | 13, _ | 14, _ | 15, _ => rfl
  | n + 16, h => exact absurd h (by omega)
theorem wcells_hd (need : Int) (f : Nat → Bool) (i : Nat) (h : i < 16) : (wcells need f)[17 + i]? = some (.bool false) := by
  match i, h with
  | 0, _ | 1, _ | 2, _ | 3, _ | 4, _ | 5, _ | 6, _ | 7, _ | 8, _ | 9, _ | 10, _ | 11, _ | 12, _ | 13, _ | 14, _ | 15, _ => rfl
  | n + 16, h => exact absurd h (by omega)
theorem wcells_len (need : Int) (f : Nat → Bool) : (wcells need f).length = 33 := rfl
theorem wcells_one (need : Int) (f : Nat → Bool) : ∀ v ∈ wcells need f, v.oneCell' = true := by
  intro v hv
  unfold wcells at hv
  simp only [List.mem_cons, List.mem_replicate] at hv
  rcases hv with rfl | rfl | rfl | rfl | rfl | rfl | rfl | rfl | rfl | rfl | rfl | rfl | rfl | rfl | rfl | rfl | rfl | ⟨-, rfl⟩ <;> rfl
/-- A block that holds just those cells, and more behind them. -/
theorem WAt.made (w : World) (need : Int) (f : Nat → Bool) (S : QS) (T : TypeId) (more : List Value) (hn : S.need = need) (hf : ∀ i : Nat, i < 16 → S.nd (i : Int) = f i) (hh : ∀ i : Nat, i < 16 → S.hd (i : Int) = false) (hok : -9223372036854775808 ≤ need ∧ need ≤ 9223372036854775807) (b : Nat)
    (h : w.heap[b]? = some (.cells (wcells need f ++ more).toArray T (0, 0))) : WAt w b T S := by
  have hc : ∀ o v, (wcells need f)[o]? = some v → w.cell? ⟨b, o, none⟩ = some v := fun o v hv => by
    unfold World.cell?
    dsimp only
    rw [h]
    show (wcells need f ++ more).toArray[o]? = _
    rw [List.getElem?_toArray, List.getElem?_append_left (List.getElem?_eq_some_iff.1 hv).1]
    exact hv
  refine ⟨⟨_, h⟩, ?_, fun i hi => ?_, fun i hi => ?_, by rw [hn]; exact hok⟩
  · rw [hn]; exact hc 0 _ rfl
  · rw [hf i hi]; exact hc _ _ (wcells_nd need f i hi)
  · rw [hh i hi]; exact hc _ _ (wcells_hd need f i hi)
/-- What stands in a new write's block, its nodes being those of the first k of a list. -/
structure NW (w wr : World) (need : Int) (l : List Int) (k : Nat) : Prop where
  blk : ∃ f : Nat → Bool, wr.heap[w.heap.size]? = some (.cells (wcells need f).toArray 64 (0, 0)) ∧ ∀ i, i < 16 → f i = inL (l.take k) (i : Int)
  bel : Below w.heap.size w wr
theorem wcells_set (need : Int) (f : Nat → Bool) (k : Nat) (h : k < 16) : (wcells need f).toArray.setIfInBounds (1 + k) (.bool true) = (wcells need fun i => if i = k then true else f i).toArray := by
  match k, h with
  | 0, _ | 1, _ | 2, _ | 3, _ | 4, _ | 5, _ | 6, _ | 7, _ | 8, _ | 9, _ | 10, _ | 11, _ | 12, _ | 13, _ | 14, _ | 15, _ => rfl
  | n + 16, h => exact absurd h (by omega)
theorem inL_snoc {l : List Int} {k : Nat} (h : k < l.length) (x : Int) : inL (l.take (k + 1)) x = (inL (l.take k) x || decide (x = l[k])) := by
  unfold inL
  rw [List.take_succ_eq_append_getElem h]
  rw [Bool.eq_iff_iff]
  simp only [decide_eq_true_eq, Bool.or_eq_true, List.mem_append, List.mem_singleton]
theorem NW.next {w wr : World} {need : Int} {l : List Int} {k : Nat} (h : NW w wr need l k) (hk : k < l.length) (j : Nat) (hj : j < 16) (hl : l[k] = (j : Int)) : NW w (wr.setCell ⟨w.heap.size, 1 + j, none⟩ (.bool true)) need l (k + 1) := by
  obtain ⟨f, h1, h2⟩ := h.blk
  refine ⟨⟨fun i => if i = j then true else f i, ?_, fun i hi => ?_⟩, h.bel.setCell (p := ⟨w.heap.size, 1 + j, none⟩) (Nat.le_refl _) _⟩
  · rw [set_heap h1, wcells_set need f j hj]
  · show (if i = j then true else f i) = _
    rw [inL_snoc hk, hl, h2 i hi]
    by_cases e : i = j
    · subst e; simp
    · rw [if_neg e]; simp; omega
theorem NW.pass {w wr : World} {need : Int} {l : List Int} {k : Nat} (h : NW w wr need l k) (hk : k < l.length) (hl : nodeB l[k] = false) : NW w wr need l (k + 1) := by
  obtain ⟨f, h1, h2⟩ := h.blk
  refine ⟨⟨f, h1, fun i hi => ?_⟩, h.bel⟩
  rw [inL_snoc hk, h2 i hi]
  have : ¬ (i : Int) = l[k] := fun e => by
    rw [← e] at hl
    unfold nodeB at hl
    simp at hl
    omega
  simp [this]
def NewDone (need : Int) (l : List Int) (w : World) (e : Ending) (w' : World) : Prop := e = .returned (.pointer (some ⟨w.heap.size, 0, none⟩)) ∧ NW w w' need l l.length
set_option maxHeartbeats 2000000 in
theorem newW_is (need : Int) (v : Value) (l : List Int) (w : World) (h : Ns w v l) : Calls Try.prog 10 #[.int .i64 need, v] w (NewDone need l w) := by
  obtain ⟨a, cap, rfl⟩ := h.slice
  have hsz := h.size
  have h0 : NW w (w.alloc (.cells (wcells need fun _ => false).toArray 64)) need l 0 := by
    refine ⟨⟨fun _ => false, heap_alloc_new w _, fun i hi => by unfold inL; simp⟩, (Below.refl w.heap.size w).alloc (Nat.le_refl _) _⟩
  have H0 := Lib.hid h0
  have H := Lib.hid h
  obtain ⟨n, hn⟩ : ∃ n, l.length = n := ⟨_, rfl⟩
  rw [hn] at hsz ⊢
  have HN := Lib.hid hn
  clear h hn h0
  go_enter Try.func10, Try.ntmps10
  go_wp2
  go_loopw [13] (fun i wr => ∃ k : Nat, k ≤ n ∧ i = .int .i64 (k : Int) ∧ NW w wr need l k) (fun i _ => n - (intOf i).toNat)
  case atStart => exact ⟨0, by omega, rfl, H0.out⟩
  case round =>
    obtain ⟨k, hk, rfl, hW⟩ := hrel
    obtain ⟨w2, hw2⟩ : ∃ w2, w2 = wr := ⟨_, rfl⟩
    subst hw2
    have HW := Lib.hid hW
    clear H0
    by_cases hlt : k < n
    · have hlt2 : (k : Int) < (n : Int) := by omega
      have hkl : k < l.length := by rw [HN.out]; exact hlt
      obtain ⟨-, bb, off, rfl, hc⟩ := (H.out.later hW.bel).cell (by omega)
      have c1 := hc k hkl
      obtain ⟨x, hx⟩ : ∃ x, l[k] = x := ⟨_, rfl⟩
      rw [hx] at c1
      have HX := Lib.hid hx
      have kn := fun W => isNode_is x W
      obtain ⟨z, hz⟩ : ∃ z, nodeB x = z := ⟨_, rfl⟩
      rw [hz] at kn
      clear hc hx
      cases z with
      | false =>
        have HP := Lib.hid (HW.out.pass hkl (by rw [HX.out]; exact hz))
        clear hz hW
        go_wp2_with (go_at_call 35; (with_reducible refine (kn _).mono ?_); rintro e w3 ⟨rfl, rfl⟩)
        go_roundw
        case rel => exact ⟨k + 1, by omega, by go_num, HP.out⟩
        case measure => simp [intOf]; omega
      | true =>
        obtain ⟨j, hj, rfl⟩ := node_nat hz
        have HP := Lib.hid (HW.out.next hkl j hj HX.out)
        obtain ⟨f, hb, hf⟩ := hW.blk
        have hcell : w2.cell? ⟨w.heap.size, 1 + j, none⟩ = some (.bool (f j)) := by
          unfold World.cell?
          dsimp only
          rw [hb]
          show (wcells need f).toArray[1 + j]? = _
          rw [List.getElem?_toArray]; exact wcells_nd need f j hj
        have hfr : w2.frozen? ⟨w.heap.size, 1 + j, none⟩ = false := by
          unfold World.frozen?
          simp [hb]
        have hj2 : (j : Int) < 16 := by omega
        clear hz hW hb hf
        go_wp2_with (go_at_call 35; (with_reducible refine (kn _).mono ?_); rintro e w3 ⟨rfl, rfl⟩)
        go_roundw
        case rel => exact ⟨k + 1, by omega, by go_num, HP.out⟩
        case measure => simp [intOf]; omega
    · obtain rfl : k = n := by omega
      clear hlt hW
      go_wp2
      go_ret
      exact ⟨rfl, by rw [HN.out]; exact HW.out⟩
theorem NW.at_ {w wr : World} {need : Int} {l : List Int} (h : NW w wr need l l.length) (hok : -9223372036854775808 ≤ need ∧ need ≤ 9223372036854775807) : WAt wr w.heap.size 64 (newS need l) := by
  obtain ⟨f, h1, h2⟩ := h.blk
  rw [List.take_length] at h2
  exact WAt.made wr need f (newS need l) _ [] rfl (fun i hi => (h2 i hi).symm) (fun _ _ => rfl) hok w.heap.size (by rw [List.append_nil]; exact h1)
/-- A new read, too. -/
structure NR (w wr : World) (need : Int) (l : List Int) (b : Nat) : Prop where
  blk : ∃ f : Nat → Bool, wr.heap[b]? = some (.cells (wcells need f ++ [Value.map none]).toArray 67 (0, 0)) ∧ ∀ i, i < 16 → f i = inL l (i : Int)
  bel : Below w.heap.size w wr
  lo : w.heap.size ≤ b
theorem infoTW : (Try.prog.info? 64).map (·.size) = some 33 := by kernel_rfl
theorem range_w {W : World} {b : Nat} {need : Int} {f : Nat → Bool} (h : W.heap[b]? = some (.cells (wcells need f).toArray 64 (0, 0))) : W.rangeAt b 0 (wcells need f) := fun j v hv => by
  rw [Nat.zero_add]
  unfold World.cell?
  dsimp only
  rw [h]
  show (wcells need f).toArray[j]? = _
  rw [List.getElem?_toArray]; exact hv
set_option maxHeartbeats 2000000 in
theorem newR_is (need : Int) (v : Value) (l : List Int) (w : World) (h : Ns w v l) : Calls Try.prog 19 #[.int .i64 need, v] w fun e w' => ∃ b, e = .returned (.pointer (some ⟨b, 0, none⟩)) ∧ NR w w' need l b := by
  have kn := newW_is need v l w h
  clear h
  go_enter Try.func19, Try.ntmps19
  go_upto_region 1 with fail
  refine wp_region_lit ?_
  refine wpList_plain rfl fun K hK => ?_; go_simp; refine hK _ _ ?_; clear hK K
  refine wpList_plain rfl fun K hK => ?_; go_simp; refine hK _ _ ?_; clear hK K
  refine wpList_plain rfl fun K hK => ?_; go_simp
  go_at_call 10
  (with_reducible refine kn.mono ?_); rintro e w1 ⟨rfl, hN⟩
  obtain ⟨f, hb, hf⟩ := hN.blk
  have HN := Lib.hid hN
  have HF := Lib.hid hf
  have HB := Lib.hid hb
  clear hN hf hb
  refine hK _ _ ?_; clear hK K
  refine wpList_plain rfl fun K hK => ?_; go_simp; refine hK _ _ ?_; clear hK K
  refine wpList_load_mid rfl 64 (.tmp 8) rfl w.heap.size 0 rfl (wcells need f) _ (range_w HB.out) Try.underlying64 rfl (by rw [infoTW]; rfl) ?_
  obtain ⟨C, hC⟩ : ∃ C, (wcells need f).toArray = C := ⟨_, rfl⟩
  have hsz : C.size = 33 := by rw [← hC]; rfl
  rw [hC]
  have HC := Lib.hid hC
  clear hC
  go_wp2
  go_ret
  refine ⟨_, rfl, ⟨⟨f, ?_, fun i hi => by have := HF.out i hi; rwa [List.take_length] at this⟩, bel_new HN.out.bel _, HN.out.bel.size⟩⟩
  rw [heap_alloc_new]
  refine congrArg (fun X => some (Obj.cells X 67 (0, 0))) ?_
  rw [← HC.out]
  kernel_rfl
theorem NR.lt {w wr : World} {need : Int} {l : List Int} {b : Nat} (h : NR w wr need l b) : b < wr.heap.size := by
  obtain ⟨f, h1, -⟩ := h.blk
  exact (Array.getElem?_eq_some_iff.1 h1).1
theorem NR.at_ {w wr : World} {need : Int} {l : List Int} {b : Nat} (h : NR w wr need l b) (hok : -9223372036854775808 ≤ need ∧ need ≤ 9223372036854775807) : WAt wr b 67 (newS need l) := by
  obtain ⟨f, h1, h2⟩ := h.blk
  exact WAt.made wr need f (newS need l) _ [Value.map none] rfl (fun i hi => (h2 i hi).symm) (fun _ _ => rfl) hok b h1
theorem NR.map {w wr : World} {need : Int} {l : List Int} {b : Nat} (h : NR w wr need l b) : wr.cell? ⟨b, 33, none⟩ = some (.map none) := by
  obtain ⟨f, h1, h2⟩ := h.blk
  unfold World.cell?
  dsimp only
  rw [h1]
  rfl
end Go.Proofs.Ytcjcbbpolhpphaa.Qu
