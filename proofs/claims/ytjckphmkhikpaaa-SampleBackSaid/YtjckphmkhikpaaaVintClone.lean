/- The contract of strings.Clone over this seat's translation: the same bytes. -/
import Derived.Test.YtjckphmkhikpaaaVintNum
import Derived.Lib.Strings
import Derived.Lib.Walk
import Derived.Lib.BufferWrite
import Derived.Lib.UnsafeStr
import Derived.Laws.MakeOwn
import Derived.Laws.AppendOwn
import Derived.Below
namespace Go.Proofs.Ytjckphmkhikpaaa
open Go.RowKit

theorem infoU : (Try.prog.info? 5).map (fun i => (i.zero, i.size, i.bytes)) = some (some (.int .u8 0), 1, 1) := by kernel_rfl

set_option maxHeartbeats 4000000 in
set_option maxRecDepth 100000 in
theorem inner_clone (s : ByteArray) (w : World) (hlim : s.size ≤ 100000) : Calls Try.prog 79 #[.string s] w fun e w' => e = .returned (.string s) ∧ Below w.heap.size w w' := by
  rcases Nat.eq_zero_or_pos s.size with h0 | h0
  · obtain rfl : s = ⟨#[]⟩ := ByteArray.ext (Array.eq_empty_of_size_eq_zero h0)
    go_enter Try.func79, Try.ntmps79
    go_wp2
    go_ret
    exact ⟨rfl, Below.refl _ _⟩
  · obtain ⟨i0, hi, hz0, hz1, hz2⟩ := info_parts infoU
    have hone : Try.prog.cellsOf 5 = 1 := by kernel_rfl
    -- the new row
    obtain ⟨row, hrow⟩ : ∃ row, madeCells (Value.int .u8 0).cells (((s.size : Nat) : Int).toNat * i0.size) = row := ⟨_, rfl⟩
    have hrs : row.size = s.size := by rw [← hrow, size_madeCells, hz1]; simp
    have hmake : ∀ W : World, (Instr.makeSlice 86 (.int .i64 (s.size : Int)) (.int .i64 (s.size : Int))).run Try.prog W = .ok (.slice (some ⟨W.heap.size, 0, none⟩) s.size s.size) (W.alloc (.cells row 5)) := fun W => by
      have h := run_make (P := Try.prog) W 86 5 i0 (.int .u8 0) Try.underlying86 hi hz0 .i64 .i64 (s.size : Int) (s.size : Int) (by omega) (by omega) (by rw [hz2]; omega) (by omega)
      rw [hrow] at h
      simpa using h
    clear hrow
    -- the row behind the copy
    obtain ⟨cells, hcells⟩ : ∃ cells, (row.toList.take 0 ++ Lib.byteCells s.data.toList ++ row.toList.drop (0 + s.size)).toArray = cells := ⟨_, rfl⟩
    have hcopy := Lib.run_copy_row_string (P := Try.prog) (w.alloc (.cells row 5)) 86 9 3 5 w.heap.size 0 s.size s.size s row 5 Try.underlying86 (by rw [hi]; simp [hz1]) (heap_alloc_new w _) (Nat.le_refl _) (by omega)
    rw [hcells] at hcopy
    have hcl : cells.toList = Lib.byteCells s.data.toList := by
      rw [← hcells, List.take_zero, List.nil_append, List.drop_of_length_le (by simp [hrs]), List.append_nil]
    have hcs : cells.size = s.size := by rw [← Array.length_toList, hcl, Lib.byteCells_length, ← Lib.size_eq]
    have hblock : ((w.alloc (.cells row 5)).setRow w.heap.size cells).heap[w.heap.size]? = some (.cells cells 5 (0, 0)) := setRow_heap _ _ row _ 5 (0, 0) (heap_alloc_new w _)
    -- the text over it
    have htext := Lib.run_unsafeString_row (P := Try.prog) ((w.alloc (.cells row 5)).setRow w.heap.size cells) 103 3 9 5 Try.underlying103 hone w.heap.size cells.size (by unfold World.shape?; rw [hblock]) s.data.toList
      (by intro e; rw [Lib.size_eq, e] at h0; exact absurd h0 (by simp)) (by rw [← Lib.size_eq]; omega) (by rw [← Lib.size_eq]; omega)
      (fun j x hx => Lib.cells_of_row hblock cells.size j _ (by rw [List.take_of_length_le (by simp), hcl]; simp [Lib.byteCells, hx]))
    rw [← Lib.size_eq] at htext
    clear hcells hi
    go_enter Try.func79, Try.ntmps79
    go_wp2
    go_ret
    have b1 : Below w.heap.size w (w.alloc (.cells row 5)) := (Below.refl _ w).alloc (Nat.le_refl _) _
    have b2 : Below w.heap.size (w.alloc (.cells row 5)) ((w.alloc (.cells row 5)).setRow w.heap.size cells) := ⟨rfl, rfl, rfl, by simp, fun k hk => setRow_other _ _ _ _ (by omega)⟩
    exact ⟨rfl, Lib.below_freeze (b1.trans b2) (p := ⟨w.heap.size, 0, none⟩) (Nat.le_refl _) _⟩
end Go.Proofs.Ytjckphmkhikpaaa
