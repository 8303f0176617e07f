/- Contracts of package frame's scanners. -/
import Derived.Test.YtanlnoephhjhhaaDoorFrameFirst
namespace Go.Proofs.YtanlnoephhjhhaaDoor
open Go.RowKit Go.Proofs.YtanlnoephhjhhaaDoor.Vi Go.Proofs.YtanlnoephhjhhaaDoor.Crc Go.Proofs.YtanlnoephhjhhaaDoor.Fr

/-- A scanner in block b: what is left, and whether it is bad. -/
structure SAt (w : World) (b : Nat) (xs : List UInt8) (bad : Bool) : Prop where
  left : ∃ v, w.cell? ⟨b, 0, none⟩ = some v ∧ OwnB w (b + 1) v xs
  bad : w.cell? ⟨b, 1, none⟩ = some (.bool bad)
  free0 : w.frozen? ⟨b, 0, none⟩ = false
  free1 : w.frozen? ⟨b, 1, none⟩ = false
theorem SAt.room {w : World} {b : Nat} {xs : List UInt8} {bad : Bool} (h : SAt w b xs bad) : b < w.heap.size := World.block_lt_of_cell? w _ h.bad
theorem SAt.later {w w' : World} {b : Nat} {xs : List UInt8} {bad : Bool} (h : SAt w b xs bad) (k : Below w.heap.size w w') : SAt w' b xs bad := by
  have hr := h.room
  obtain ⟨⟨v, h1, h2⟩, h3, h4, h5⟩ := h
  exact ⟨⟨v, (k.cell (p := ⟨b, 0, none⟩) hr).trans h1, h2.under k (Nat.le_refl _)⟩, (k.cell (p := ⟨b, 1, none⟩) hr).trans h3, (k.frozen (p := ⟨b, 0, none⟩) hr).trans h4, (k.frozen (p := ⟨b, 1, none⟩) hr).trans h5⟩
/-- The slice is stored anew. -/
theorem SAt.store {w : World} {b : Nat} {ys : List UInt8} {bad : Bool} {v v0 : Value} (h1 : w.cell? ⟨b, 0, none⟩ = some v0) (h3 : w.cell? ⟨b, 1, none⟩ = some (.bool bad)) (h4 : w.frozen? ⟨b, 0, none⟩ = false) (h5 : w.frozen? ⟨b, 1, none⟩ = false) (hv : OwnB w (b + 1) v ys) :
    SAt (w.setCell ⟨b, 0, none⟩ v) b ys bad ∧ Below b w (w.setCell ⟨b, 0, none⟩ v) := by
  refine ⟨⟨⟨v, World.cell?_setCell_same _ _ _ h1, hv.stored _ (Nat.lt_succ_self b) _⟩, ?_, ?_, ?_⟩, (Below.refl b w).setCell (p := ⟨b, 0, none⟩) (Nat.le_refl b) _⟩
  · rw [World.cell?_setCell_other]
    · exact h3
    · intro e; cases e
  · simp [go_sem, h4]
  · simp [go_sem, h5]
/-- Both cells are stored anew. -/
theorem SAt.spoil {w : World} {b : Nat} {v0 v1 : Value} (h1 : w.cell? ⟨b, 0, none⟩ = some v0) (h3 : w.cell? ⟨b, 1, none⟩ = some v1) (h4 : w.frozen? ⟨b, 0, none⟩ = false) (h5 : w.frozen? ⟨b, 1, none⟩ = false) :
    SAt ((w.setCell ⟨b, 0, none⟩ (.slice none 0 0)).setCell ⟨b, 1, none⟩ (.bool true)) b [] true ∧ Below b w ((w.setCell ⟨b, 0, none⟩ (.slice none 0 0)).setCell ⟨b, 1, none⟩ (.bool true)) := by
  refine ⟨⟨⟨.slice none 0 0, ?_, OwnB.nil _ _⟩, ?_, ?_, ?_⟩, ((Below.refl b w).setCell (p := ⟨b, 0, none⟩) (Nat.le_refl b) _).setCell (p := ⟨b, 1, none⟩) (Nat.le_refl b) _⟩
  · simp [go_sem, h1]
  · simp [go_sem, h3]
  · simp [go_sem, h4]
  · simp [go_sem, h5]

theorem bad_is (w : World) (b : Nat) (xs : List UInt8) (bad : Bool) (h : SAt w b xs bad) : Calls Tryd.prog 25 #[.pointer (some ⟨b, 0, none⟩)] w fun e w' => e = .returned (.bool bad) ∧ w = w' := by
  obtain ⟨-, h3, -, -⟩ := h
  go_enter Tryd.func25, Tryd.ntmps25
  go_wp2
  go_ret
  exact ⟨rfl, rfl⟩
theorem bad_nil (w : World) : Calls Tryd.prog 25 #[.pointer none] w fun e w' => e = .returned (.bool true) ∧ w = w' := by
  go_enter Tryd.func25, Tryd.ntmps25
  go_wp2
  go_ret
  exact ⟨rfl, rfl⟩
theorem left_is (w : World) (b : Nat) (xs : List UInt8) (bad : Bool) (h : SAt w b xs bad) : Calls Tryd.prog 24 #[.pointer (some ⟨b, 0, none⟩)] w fun e w' => e = .returned (.int .i64 (xs.length : Int)) ∧ w = w' := by
  obtain ⟨⟨v, h1, h2⟩, -, -, -⟩ := h
  obtain ⟨a, c, rfl⟩ := h2.slice
  clear h2
  go_enter Tryd.func24, Tryd.ntmps24
  go_wp2
  go_ret
  exact ⟨rfl, rfl⟩
theorem left_nil (w : World) : Calls Tryd.prog 24 #[.pointer none] w fun e w' => e = .returned (.int .i64 0) ∧ w = w' := by
  go_enter Tryd.func24, Tryd.ntmps24
  go_wp2
  go_ret
  exact ⟨rfl, rfl⟩
theorem new_is (w : World) : Calls Tryd.prog 21 #[] w fun e w' => e = .returned (.pointer (some ⟨w.heap.size, 0, none⟩)) ∧ SAt w' w.heap.size [] false ∧ Below w.heap.size w w' := by
  go_enter Tryd.func21, Tryd.ntmps21
  go_wp2
  go_ret
  refine ⟨rfl, ⟨⟨_, by simp [go_sem], OwnB.nil _ _⟩, by simp [go_sem], by simp [go_sem], by simp [go_sem]⟩, (Below.refl _ _).alloc (Nat.le_refl _) _⟩
theorem feed_nil (s : ByteArray) (w : World) : Calls Tryd.prog 22 #[.pointer none, .string s] w fun e w' => e = .returned (.bool false) ∧ w = w' := by
  have hB := fun w => bad_nil w
  go_enter Tryd.func22, Tryd.ntmps22
  go_wp2_with (go_at_call 25; (with_reducible refine (hB _).mono ?_); rintro e w1 ⟨rfl, rfl⟩)
  go_ret
  exact ⟨rfl, rfl⟩
theorem feed_bad (s : ByteArray) (w : World) (b : Nat) (xs : List UInt8) (h : SAt w b xs true) : Calls Tryd.prog 22 #[.pointer (some ⟨b, 0, none⟩), .string s] w fun e w' => e = .returned (.bool false) ∧ w = w' := by
  have hB := bad_is w b xs true h
  clear h
  go_enter Tryd.func22, Tryd.ntmps22
  go_wp2_with (go_at_call 25; (with_reducible refine hB.mono ?_); rintro e w1 ⟨rfl, rfl⟩)
  go_ret
  exact ⟨rfl, rfl⟩
/-- What a method that turns the scanner leaves. -/
def SDone (v : Value) (b : Nat) (ys : List UInt8) (bad : Bool) (w : World) (e : Ending) (w' : World) : Prop := e = .returned v ∧ SAt w' b ys bad ∧ Below b w w'
theorem feed_is (s : ByteArray) (w : World) (b : Nat) (xs : List UInt8) (h : SAt w b xs false) (hl : xs.length + s.size ≤ 100000000) : Calls Tryd.prog 22 #[.pointer (some ⟨b, 0, none⟩), .string s] w (SDone (.bool true) b (xs ++ s.data.toList) false w) := by
  have hB := bad_is w b xs false h
  have H := Lib.hid h
  obtain ⟨⟨v, h1, h2⟩, h3, h4, h5⟩ := h
  obtain ⟨a, c, rfl⟩ := h2.slice
  have hr := H.out.room
  go_enter Tryd.func22, Tryd.ntmps22
  go_wp2_with (first
    | (go_at_call 25; (with_reducible refine hB.mono ?_); rintro e w1 ⟨rfl, rfl⟩)
    | (at_builtin; refine wpList_ownB rfl _ _ rfl (b + 1) _ xs rfl h2 s rfl hr hl ?_))
  intro v' w' hv hb
  obtain ⟨a', c', rfl⟩ := hv.slice
  have hzz : (xs ++ s.data.toList).length = xs.length + s.size := by simp
  rw [hzz] at hv
  have hc := (hb.cell (p := ⟨b, 0, none⟩) (Nat.lt_succ_self b)).trans h1
  have hf := (hb.frozen (p := ⟨b, 0, none⟩) (Nat.lt_succ_self b)).trans h4
  have HS := Lib.hid (SAt.store hc ((hb.cell (p := ⟨b, 1, none⟩) (Nat.lt_succ_self b)).trans h3) hf ((hb.frozen (p := ⟨b, 1, none⟩) (Nat.lt_succ_self b)).trans h5) hv)
  have HB := Lib.hid (hb.mono (Nat.le_succ b))
  clear hv hb h1 h2 h3 h4 h5 hzz
  go_wp2
  go_ret
  exact ⟨rfl, HS.out.1, HB.out.trans HS.out.2⟩
theorem next_nil (w : World) : Calls Tryd.prog 23 #[.pointer none] w fun e w' => e = .returned (.tuple #[.string ⟨#[]⟩, .bool false]) ∧ w = w' := by
  go_enter Tryd.func23, Tryd.ntmps23
  go_wp2
  go_ret2
  exact ⟨rfl, rfl⟩

/-- What Next answers, and what it leaves: of what is left, and whether the scanner is bad. -/
structure IsN (xs : List UInt8) (bad : Bool) (body : ByteArray) (is : Bool) (ys : List UInt8) (bad' : Bool) : Prop where
  good : bad = false → (getF xs).w = 0 → body = tx (getF xs).body ∧ is = true ∧ ys = xs.drop (getF xs).len ∧ bad' = false
  wrong : bad = false → (getF xs).w = 3 → body = ⟨#[]⟩ ∧ is = false ∧ ys = [] ∧ bad' = true
  none : bad = false → (getF xs).w ≠ 0 → (getF xs).w ≠ 3 → body = ⟨#[]⟩ ∧ is = false ∧ ys = xs ∧ bad' = false
  stays : bad = true → xs = [] ∧ body = ⟨#[]⟩ ∧ is = false ∧ ys = [] ∧ bad' = true
theorem next_any (xs : List UInt8) (bad : Bool) (h : bad = true → xs = []) : ∃ body is ys bad', IsN xs bad body is ys bad' := by
  cases bad with
  | true => exact ⟨⟨#[]⟩, false, [], true, ⟨fun h => Bool.noConfusion h, fun h => Bool.noConfusion h, fun h => Bool.noConfusion h, fun _ => ⟨h rfl, rfl, rfl, rfl, rfl⟩⟩⟩
  | false =>
    by_cases h0 : (getF xs).w = 0
    · exact ⟨tx (getF xs).body, true, xs.drop (getF xs).len, false, ⟨fun _ _ => ⟨rfl, rfl, rfl, rfl⟩, fun _ h => by omega, fun _ h => absurd h0 h, fun h => Bool.noConfusion h⟩⟩
    · by_cases h3 : (getF xs).w = 3
      · exact ⟨⟨#[]⟩, false, [], true, ⟨fun _ h => absurd h h0, fun _ _ => ⟨rfl, rfl, rfl, rfl⟩, fun _ _ h => absurd h3 h, fun h => Bool.noConfusion h⟩⟩
      · exact ⟨⟨#[]⟩, false, xs, false, ⟨fun _ h => absurd h h0, fun _ h => absurd h h3, fun _ _ _ => ⟨rfl, rfl, rfl, rfl⟩, fun h => Bool.noConfusion h⟩⟩

set_option maxHeartbeats 1000000 in
theorem next_good (w : World) (b : Nat) (xs : List UInt8) (h : SAt w b xs false) (hl : xs.length ≤ 100000000) (ht : Tab w) (hw : (getF xs).w = 0) :
    Calls Tryd.prog 23 #[.pointer (some ⟨b, 0, none⟩)] w (SDone (.tuple #[.string (tx (getF xs).body), .bool true]) b (xs.drop (getF xs).len) false w) := by
  have HH := Lib.hid h
  obtain ⟨hg1, hg2⟩ := getF_len hw
  obtain ⟨⟨v, h1, h2⟩, h3, h4, h5⟩ := h
  have hF := first_bytes (b + 1) v xs (tx (getF xs).body) ((getF xs).len : Int) 0 w (by omega) ht h2 (Lib.hid ⟨rfl, rfl, by rw [hw]; rfl⟩)
  obtain ⟨a, c, rfl⟩ := h2.slice
  have hr := HH.out.room
  obtain ⟨m, hm⟩ : ∃ m, (getF xs).len = m := ⟨_, rfl⟩
  rw [hm] at hg1 hg2 hF ⊢
  obtain ⟨-, ht2⟩ := h2.tail m hg2 hg1
  obtain ⟨g, off, rfl⟩ : ∃ g off, a = some ⟨g, off, none⟩ := by
    rcases h2 with ⟨h, rfl⟩ | ⟨g, off, cap, h, _⟩
    · simp at hg2; omega
    · injection h with e1 e2 e3; exact ⟨g, off, e1⟩
  have hfin : ∀ w1, Below w.heap.size w w1 → SAt (w1.setCell ⟨b, 0, none⟩ (sliced (some ⟨g, off, none⟩) m xs.length c 1)) b (xs.drop m) false ∧ Below b w (w1.setCell ⟨b, 0, none⟩ (sliced (some ⟨g, off, none⟩) m xs.length c 1)) := fun w1 hb => by
    have := SAt.store ((hb.cell (p := ⟨b, 0, none⟩) hr).trans h1) ((hb.cell (p := ⟨b, 1, none⟩) hr).trans h3) ((hb.frozen (p := ⟨b, 0, none⟩) hr).trans h4) ((hb.frozen (p := ⟨b, 1, none⟩) hr).trans h5) (ht2.under hb (Nat.le_refl _))
    exact ⟨this.1, (hb.mono (Nat.le_of_lt hr)).trans this.2⟩
  have HF := Lib.hid hfin
  have hc1 : ∀ w1, Below w.heap.size w w1 → w1.cell? ⟨b, 0, none⟩ = some (.slice (some ⟨g, off, none⟩) xs.length c) ∧ w1.frozen? ⟨b, 0, none⟩ = false := fun w1 hb => ⟨(hb.cell (p := ⟨b, 0, none⟩) hr).trans h1, (hb.frozen (p := ⟨b, 0, none⟩) hr).trans h4⟩
  have HC := Lib.hid hc1
  have hmi : (m : Int) ≤ (xs.length : Int) := by omega
  generalize tx (getF xs).body = B at *
  obtain ⟨L, hL⟩ : ∃ L, xs.length = L := ⟨_, rfl⟩
  rw [hL] at hF h1 hmi
  simp only [hL] at HC HF
  clear hfin hc1 ht2 h2 h3 h4 h5 hw hm hg1 hg2 hl hL HH
  by_cases hcm : c = m
  · have hq : sliced (some ⟨g, off, none⟩) m L c 1 = .slice (some ⟨g, off, none⟩) (L - m) (c - m) := by unfold sliced; rw [if_pos hcm]
    rw [hq] at HF
    subst hcm
    rw [Nat.sub_self] at HF
    clear hq
    go_enter Tryd.func23, Tryd.ntmps23
    go_wp2_with (go_at_call 33; (with_reducible refine hF.mono ?_); rintro e w1 ⟨rfl, hb1⟩; obtain ⟨hc1, hf1⟩ := HC.out _ hb1; have HB1 := Lib.hid hb1; clear hb1)
    go_ret2
    exact ⟨rfl, HF.out _ HB1.out⟩
  · have hq : sliced (some ⟨g, off, none⟩) m L c 1 = .slice (some ⟨g, off + m, none⟩) (L - m) (c - m) := by unfold sliced; rw [if_neg hcm]; simp [add_off]
    rw [hq] at HF
    clear hq
    go_enter Tryd.func23, Tryd.ntmps23
    go_wp2_with (go_at_call 33; (with_reducible refine hF.mono ?_); rintro e w1 ⟨rfl, hb1⟩; obtain ⟨hc1, hf1⟩ := HC.out _ hb1; have HB1 := Lib.hid hb1; clear hb1)
    go_ret2
    exact ⟨rfl, HF.out _ HB1.out⟩

set_option maxHeartbeats 1000000 in
theorem next_wrong (w : World) (b : Nat) (xs : List UInt8) (h : SAt w b xs false) (hl : xs.length ≤ 100000000) (ht : Tab w) (hw : (getF xs).w = 3) :
    Calls Tryd.prog 23 #[.pointer (some ⟨b, 0, none⟩)] w (SDone (.tuple #[.string ⟨#[]⟩, .bool false]) b [] true w) := by
  have hr := h.room
  obtain ⟨⟨v, h1, h2⟩, h3, h4, h5⟩ := h
  have hF := first_bytes (b + 1) v xs (tx (getF xs).body) ((getF xs).len : Int) 3 w (by omega) ht h2 (Lib.hid ⟨rfl, rfl, by rw [hw]; rfl⟩)
  obtain ⟨a, c, rfl⟩ := h2.slice
  have hc1 : ∀ w1, Below w.heap.size w w1 → w1.cell? ⟨b, 0, none⟩ = some (.slice a xs.length c) ∧ w1.frozen? ⟨b, 0, none⟩ = false ∧ w1.cell? ⟨b, 1, none⟩ = some (.bool false) ∧ w1.frozen? ⟨b, 1, none⟩ = false := fun w1 hb =>
    ⟨(hb.cell (p := ⟨b, 0, none⟩) hr).trans h1, (hb.frozen (p := ⟨b, 0, none⟩) hr).trans h4, (hb.cell (p := ⟨b, 1, none⟩) hr).trans h3, (hb.frozen (p := ⟨b, 1, none⟩) hr).trans h5⟩
  have HC := Lib.hid hc1
  have hfin : ∀ w1, Below w.heap.size w w1 → _ := fun w1 hb => SAt.spoil (hc1 w1 hb).1 (hc1 w1 hb).2.2.1 (hc1 w1 hb).2.1 (hc1 w1 hb).2.2.2
  have HF := Lib.hid hfin
  generalize tx (getF xs).body = B at *
  generalize (getF xs).len = m at *
  generalize xs.length = L at *
  have HR := Lib.hid (Nat.le_of_lt hr)
  clear hfin hc1 h2 h3 h4 h5 hw hl hr
  go_enter Tryd.func23, Tryd.ntmps23
  go_wp2_with (go_at_call 33; (with_reducible refine hF.mono ?_); rintro e w1 ⟨rfl, hb1⟩; obtain ⟨hc1, hf1, hc2, hf2⟩ := HC.out _ hb1; have HB1 := Lib.hid hb1; clear hb1)
  go_ret2
  exact ⟨rfl, (HF.out _ HB1.out).1, (HB1.out.mono HR.out).trans (HF.out _ HB1.out).2⟩

set_option maxHeartbeats 1000000 in
theorem next_none (w : World) (b : Nat) (xs : List UInt8) (bad : Bool) (h : SAt w b xs bad) (hl : xs.length ≤ 100000000) (ht : Tab w) (hw : (getF xs).w ≠ 0) (hw3 : (getF xs).w ≠ 3) :
    Calls Tryd.prog 23 #[.pointer (some ⟨b, 0, none⟩)] w fun e w' => e = .returned (.tuple #[.string ⟨#[]⟩, .bool false]) ∧ Below w.heap.size w w' := by
  obtain ⟨⟨v, h1, h2⟩, h3, h4, h5⟩ := h
  obtain ⟨q, hq⟩ : ∃ q, (getF xs).w = q := ⟨_, rfl⟩
  have hF := first_bytes (b + 1) v xs (tx (getF xs).body) ((getF xs).len : Int) (q : Int) w (by omega) ht h2 (Lib.hid ⟨rfl, rfl, by rw [hq]⟩)
  rw [hq] at hw hw3
  have hq0 : ((q : Int) == 0) = false := by simpa using hw
  have hq3 : ((q : Int) == 3) = false := by simp; omega
  generalize tx (getF xs).body = B at *
  generalize (getF xs).len = m at *
  obtain ⟨a, c, rfl⟩ := h2.slice
  generalize xs.length = L at *
  clear h2 h3 h4 h5 hw hw3 hl hq
  go_enter Tryd.func23, Tryd.ntmps23
  go_wp2_with (go_at_call 33; (with_reducible refine hF.mono ?_); rintro e w1 ⟨rfl, hb1⟩)
  go_ret2
  exact ⟨rfl, hb1⟩

theorem next_is (w : World) (b : Nat) (xs : List UInt8) (bad : Bool) (body : ByteArray) (is : Bool) (ys : List UInt8) (bad' : Bool) (h : SAt w b xs bad) (hl : xs.length ≤ 100000000) (ht : Tab w) (H : Hid (IsN xs bad body is ys bad')) :
    Calls Tryd.prog 23 #[.pointer (some ⟨b, 0, none⟩)] w (SDone (.tuple #[.string body, .bool is]) b ys bad' w) := by
  have H := H.out
  have stay : (getF xs).w ≠ 0 → (getF xs).w ≠ 3 → body = ⟨#[]⟩ ∧ is = false ∧ ys = xs ∧ bad' = bad → Calls Tryd.prog 23 #[.pointer (some ⟨b, 0, none⟩)] w (SDone (.tuple #[.string body, .bool is]) b ys bad' w) := by
    rintro h0 h3 ⟨rfl, rfl, rfl, rfl⟩
    exact (next_none w b _ _ h hl ht h0 h3).mono fun e w' ⟨h1, h2⟩ => ⟨h1, h.later h2, h2.mono (Nat.le_of_lt h.room)⟩
  cases bad with
  | true =>
    obtain ⟨rfl, e1, e2, e3, e4⟩ := H.stays rfl
    exact stay (by rw [getF_nil]; simp) (by rw [getF_nil]; simp) ⟨e1, e2, e3, e4⟩
  | false =>
    by_cases h0 : (getF xs).w = 0
    · obtain ⟨rfl, rfl, rfl, rfl⟩ := H.good rfl h0
      exact next_good w b xs h hl ht h0
    · by_cases h3 : (getF xs).w = 3
      · obtain ⟨rfl, rfl, rfl, rfl⟩ := H.wrong rfl h3
        exact next_wrong w b xs h hl ht h3
      · exact stay h0 h3 (H.none rfl h0 h3)
end Go.Proofs.YtanlnoephhjhhaaDoor
