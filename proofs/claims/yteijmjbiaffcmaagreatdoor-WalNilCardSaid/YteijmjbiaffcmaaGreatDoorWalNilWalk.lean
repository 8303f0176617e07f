/- The walk of WalNil. -/
import Derived.Test.YteijmjbiaffcmaaGreatDoorWalNils
set_option maxRecDepth 20000
set_option linter.unusedSimpArgs false
set_option linter.unusedVariables false
namespace Go.Proofs.YteijmjbiaffcmaaGreatDoor
open Go.RowKit Go.Maps Go.Shelf Go.Proofs.YteijmjbiaffcmaaGreatDoor.Vi Go.Proofs.YteijmjbiaffcmaaGreatDoor.Crc Go.Proofs.YteijmjbiaffcmaaGreatDoor.Fr Go.Proofs.YteijmjbiaffcmaaGreatDoor.Fi

theorem row0 {w : World} {B : Nat} {e : TypeId} {v : Value} (h : w.ownsRow B e 1 v 0 []) : ∃ a c, v = .slice a 0 c := ownsRow_slice h
namespace walNil
set_option maxHeartbeats 4000000 in
theorem walk (s : ByteArray) (w : World) (_hs : s.size ≤ maxLen) (GL : Glob w) : Calls Tryz.prog 7 #[.string s] w fun e w' => e = .returned (.bool true) ∧ Below w.heap.size w w' := by
  have hz0 := bel_al w (.cells zeroV 60)
  have hzc := heap_alloc_new w (.cells zeroV 60)
  obtain ⟨p, hp⟩ : ∃ p, w.heap.size = p := ⟨_, rfl⟩
  obtain ⟨w0, hw0⟩ : ∃ x, w.alloc (.cells zeroV 60) = x := ⟨_, rfl⟩
  rw [hw0] at hz0 hzc
  rw [hp] at hzc
  have HW0 := Lib.hid (show w.alloc (.cells #[.pointer none, .int .i64 0, .string ⟨#[]⟩, .int .i64 0, .slice none 0 0, .int .i64 0, .bool false] 60) = w0 from hw0)
  have HP := Lib.hid hp
  have HB0 := Lib.hid hz0
  have HZ0 := Lib.hid hzc
  have ka := awake_is w0 (GL.below hz0)
  have ko := open_nil w0
  have hz : ∀ w', Below w0.heap.size w0 w' → w'.heap[p]? = some (.cells zeroV 60) := fun w' k => (k.block p (some_lt hzc)).trans hzc
  have HZ := Lib.hid hz
  clear hz0 hzc hw0 hp hz GL
  go_enter Tryz.func7, Tryz.ntmps7
  go_wp2_with (first
    | (go_at_call 38; (rw [HW0.out]); (with_reducible refine ko.mono ?_); rintro _ w1 ⟨rfl, rfl⟩; clear ko)
    | (go_at_call 9; (with_reducible refine ka.mono ?_); rintro _ w2 ⟨rfl, hB⟩; (have HB2 := Lib.hid hB); clear hB ka)
    | (go_at_call 24; (with_reducible refine (state_nil _).mono ?_); rintro _ w3 ⟨rfl, rfl⟩)
    | (go_at_call 25; (with_reducible refine (records_nil _).mono ?_); rintro _ w3 ⟨rfl, rfl⟩)
    | (go_at_call 23; (with_reducible refine (first_nil _).mono ?_); rintro _ w3 ⟨rfl, rfl⟩)
    | (go_at_call 21; (with_reducible refine (last_nil _).mono ?_); rintro _ w3 ⟨rfl, rfl⟩)
    | (go_at_call 20; (with_reducible refine (firm_nil _).mono ?_); rintro _ w3 ⟨rfl, rfl⟩)
    | (go_at_call 37; (with_reducible refine (segments_nil _).mono ?_); rintro _ w3 ⟨rfl, rfl⟩)
    | (go_at_call 30; (with_reducible refine (append_nil _ _).mono ?_); rintro _ w4 ⟨rfl, rfl⟩; (have HB4 := Lib.hid (HB2.out.alloc HB2.out.size (.cells #[.string s] 9))); clear HB2)
    | (go_at_call 19; (with_reducible refine (sync_nil _).mono ?_); rintro _ w5 ⟨rfl, rfl⟩)
    | (go_at_call 22; (with_reducible refine (ckpt_nil _ _).mono ?_); rintro _ w6 ⟨rfl, hB⟩; (have HB6 := Lib.hid (HB4.out.trans (hB.mono HB4.out.size))); clear hB HB4)
    | (go_at_call 31; (with_reducible refine (broken_nil _).mono ?_); rintro _ w7 ⟨rfl, rfl⟩)
    | (go_at_call 31; (try simp only [HP.out]); (with_reducible refine (broken_zero (HZ.out _ HB6.out)).mono ?_); rintro _ w7 ⟨rfl, rfl⟩)
    | (go_at_call 30; (try simp only [HP.out]); (have HB8 := Lib.hid (HB6.out.alloc HB6.out.size (.cells #[.string s] 9))); (with_reducible refine (append_zero (HZ.out _ HB8.out) _).mono ?_); rintro _ w8 ⟨rfl, rfl⟩; clear HB6)
    | (go_at_call 19; (try simp only [HP.out]); (with_reducible refine (sync_zero (HZ.out _ HB8.out)).mono ?_); rintro _ w9 ⟨rfl, rfl⟩)
    | (go_at_call 21; (try simp only [HP.out]); (with_reducible refine (last_zero (HZ.out _ HB8.out)).mono ?_); rintro _ w9 ⟨rfl, rfl⟩)
    | (go_at_call 25; (try simp only [HP.out]); (with_reducible refine (records_zero (HZ.out _ HB8.out)).mono ?_); rintro _ w10 ⟨u, rfl, hr, hB⟩; (obtain ⟨a10, c10, rfl⟩ := row0 hr); (have HB10 := Lib.hid (HB8.out.trans (hB.mono HB8.out.size))); clear hr hB))
  go_ret
  exact ⟨rfl, HB0.out.trans (HB10.out.mono HB0.out.size)⟩
end walNil
end Go.Proofs.YteijmjbiaffcmaaGreatDoor
