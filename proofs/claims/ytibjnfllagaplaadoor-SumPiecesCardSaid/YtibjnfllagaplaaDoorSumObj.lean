/- Contracts of the methods of a Sum: on a nil one, and on one whose two cells are known. -/
import Derived.Test.YtibjnfllagaplaaDoorSumFns
import Derived.Laws.AppendOwn
namespace Go.Proofs.YtibjnfllagaplaaDoor
open Go.RowKit Go.Proofs.YtibjnfllagaplaaDoor.Crc

theorem write_nil (s : ByteArray) (w : World) : Calls Tryd.prog 18 #[.pointer none, .string s] w fun e w' => e = .returned (.int .i64 0) ∧ w = w' := by
  go_enter Tryd.func18, Tryd.ntmps18
  go_wp2
  go_ret
  exact ⟨rfl, rfl⟩
theorem len_nil (w : World) : Calls Tryd.prog 19 #[.pointer none] w fun e w' => e = .returned (.int .i64 0) ∧ w = w' := by
  go_enter Tryd.func19, Tryd.ntmps19
  go_wp2
  go_ret
  exact ⟨rfl, rfl⟩
theorem value_nil (w : World) : Calls Tryd.prog 20 #[.pointer none] w fun e w' => e = .returned (.int .u32 0) ∧ w = w' := by
  go_enter Tryd.func20, Tryd.ntmps20
  go_wp2
  go_ret
  exact ⟨rfl, rfl⟩
theorem reset_nil (w : World) : Calls Tryd.prog 21 #[.pointer none] w fun e w' => e = .returned (.tuple #[]) ∧ w = w' := by
  go_enter Tryd.func21, Tryd.ntmps21
  go_wp2
  go_returns
  exact ⟨rfl, rfl⟩

/-- The two cells of a Sum in block b: the checksum and the length. -/
structure SumAt (w : World) (b : Nat) (c : BitVec 32) (n : Nat) : Prop where
  check : w.cell? ⟨b, 0, none⟩ = some (.int .u32 (c.toNat : Int))
  length : w.cell? ⟨b, 1, none⟩ = some (.int .i64 (n : Int))
  free0 : w.frozen? ⟨b, 0, none⟩ = false
  free1 : w.frozen? ⟨b, 1, none⟩ = false

theorem SumAt.stored {w : World} {b n : Nat} {c : BitVec 32} (h : SumAt w b c n) (d : BitVec 32) (m : Nat) (z y : Int) (hz : z = (d.toNat : Int)) (hy : y = (m : Int)) :
    SumAt ((w.setCell ⟨b, 0, none⟩ (.int .u32 z)).setCell ⟨b, 1, none⟩ (.int .i64 y)) b d m ∧ Below b w ((w.setCell ⟨b, 0, none⟩ (.int .u32 z)).setCell ⟨b, 1, none⟩ (.int .i64 y)) := by
  obtain ⟨h0, h1, h2, h3⟩ := h
  subst hz; subst hy
  refine ⟨⟨?_, ?_, ?_, ?_⟩, ((Below.refl b w).setCell (p := ⟨b, 0, none⟩) (Nat.le_refl b) _).setCell (p := ⟨b, 1, none⟩) (Nat.le_refl b) _⟩
  · simp [go_sem, h0]
  · simp [go_sem, h1]
  · simp [go_sem, h2]
  · simp [go_sem, h3]
theorem SumAt.below {w w' : World} {b n B : Nat} {c : BitVec 32} (h : SumAt w b c n) (k : Below B w w') (hB : b < B) : SumAt w' b c n :=
  ⟨(k.cell (p := ⟨b, 0, none⟩) hB).trans h.check, (k.cell (p := ⟨b, 1, none⟩) hB).trans h.length, (k.frozen (p := ⟨b, 0, none⟩) hB).trans h.free0, (k.frozen (p := ⟨b, 1, none⟩) hB).trans h.free1⟩
theorem SumAt.room {w : World} {b n : Nat} {c : BitVec 32} (h : SumAt w b c n) : b < w.heap.size := World.block_lt_of_cell? w _ h.check

/-- A row of the call's own in later blocks stays. -/
def Keeps (b : Nat) (w w' : World) : Prop := ∀ (base : Nat) (e : TypeId) (size : Nat) (v : Value) (n : Nat) (xs : List Value), b < base → w.ownsRow base e size v n xs → w'.ownsRow base e size v n xs
theorem Keeps.refl (b : Nat) (w : World) : Keeps b w w := fun _ _ _ _ _ _ _ h => h
theorem Keeps.stored {b : Nat} {w : World} (o1 o2 : Nat) (x y : Value) : Keeps b w ((w.setCell ⟨b, o1, none⟩ x).setCell ⟨b, o2, none⟩ y) := fun _ _ _ _ _ _ hb h =>
  ownsRow_setCell_below (ownsRow_setCell_below h hb _) hb _

theorem len_any (b n : Nat) (c : BitVec 32) (w : World) (h : SumAt w b c n) : Calls Tryd.prog 19 #[.pointer (some ⟨b, 0, none⟩)] w fun e w' => e = .returned (.int .i64 (n : Int)) ∧ w = w' := by
  have h1 := h.length
  go_enter Tryd.func19, Tryd.ntmps19
  go_wp2
  go_ret
  exact ⟨rfl, rfl⟩
theorem value_any (b n : Nat) (c : BitVec 32) (w : World) (h : SumAt w b c n) : Calls Tryd.prog 20 #[.pointer (some ⟨b, 0, none⟩)] w fun e w' => e = .returned (.int .u32 (c.toNat : Int)) ∧ w = w' := by
  have h1 := h.check
  go_enter Tryd.func20, Tryd.ntmps20
  go_wp2
  go_ret
  exact ⟨rfl, rfl⟩
theorem reset_full (b n : Nat) (c : BitVec 32) (w : World) (h : SumAt w b c n) : Calls Tryd.prog 21 #[.pointer (some ⟨b, 0, none⟩)] w fun e w' => e = .returned (.tuple #[]) ∧ SumAt w' b 0#32 0 ∧ Below b w w' ∧ Keeps b w w' := by
  have HS := h.stored 0#32 0 0 0 rfl rfl
  obtain ⟨h0, h1, h2, h3⟩ := h
  go_enter Tryd.func21, Tryd.ntmps21
  go_wp2
  go_returns
  exact ⟨rfl, HS.1, HS.2, Keeps.stored _ _ _ _⟩
theorem write_full (b n : Nat) (c : BitVec 32) (s : ByteArray) (w : World) (hs : s.size ≤ 2000) (hn : n ≤ 1000000) (ht : Tab w) (h : SumAt w b c n) :
    Calls Tryd.prog 18 #[.pointer (some ⟨b, 0, none⟩), .string s] w fun e w' => e = .returned (.int .i64 (s.size : Int)) ∧ SumAt w' b (ext c s.data.toList) (n + s.size) ∧ Below b w w' ∧ Keeps b w w' := by
  have HS := fun (d : BitVec 32) => h.stored d (n + s.size) (d.toNat : Int) ((n : Int) + (s.size : Int)) rfl (by omega)
  obtain ⟨h0, h1, h2, h3⟩ := h
  have hm : s.size ≤ maxLen := by unfold maxLen; omega
  obtain ⟨d, hd⟩ : ∃ d, ext c s.data.toList = d := ⟨_, rfl⟩
  have HS1 := Lib.hid (HS d)
  clear HS
  have HD := Lib.hid hd
  clear hd
  go_enter Tryd.func18, Tryd.ntmps18
  go_wp2_with (go_at_call 22; with_reducible refine (extended_any c s _ hm ht).mono ?_; rw [HD.out]; rintro e w' ⟨rfl, rfl⟩)
  go_ret
  exact ⟨rfl, by rw [HD.out]; exact ⟨HS1.out.1, HS1.out.2, Keeps.stored _ _ _ _⟩⟩
theorem write_any (b n : Nat) (c : BitVec 32) (s : ByteArray) (w : World) (hs : s.size ≤ 2000) (hn : n ≤ 1000000) (ht : Tab w) (h : SumAt w b c n) :
    Calls Tryd.prog 18 #[.pointer (some ⟨b, 0, none⟩), .string s] w fun e w' => e = .returned (.int .i64 (s.size : Int)) ∧ SumAt w' b (ext c s.data.toList) (n + s.size) ∧ Below b w w' :=
  (write_full b n c s w hs hn ht h).mono fun _ _ ⟨h1, h2, h3, _⟩ => ⟨h1, h2, h3⟩
theorem new_any (w : World) : Calls Tryd.prog 17 #[] w fun e w' => e = .returned (.pointer (some ⟨w.heap.size, 0, none⟩)) ∧ SumAt w' w.heap.size 0#32 0 ∧ Below w.heap.size w w' := by
  go_enter Tryd.func17, Tryd.ntmps17
  go_wp2
  go_ret
  exact ⟨rfl, ⟨by simp [go_sem], by simp [go_sem], by simp [go_sem], by simp [go_sem]⟩, below_new (Below.refl _ _) _⟩
theorem sumAt_new (w : World) : SumAt (w.alloc (.cells #[.int .u32 0, .int .i64 0] 43)) w.heap.size 0#32 0 :=
  ⟨by simp [go_sem], by simp [go_sem], by simp [go_sem], by simp [go_sem]⟩
end Go.Proofs.YtibjnfllagaplaaDoor
