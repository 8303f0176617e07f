/- The walk of law FrameNil: it returns true and turns nothing that was there. -/
import Derived.Test.YtanlnoephhjhhaaDoorFrameAwake
import Derived.Test.YtanlnoephhjhhaaDoorFrameScanner
namespace Go.Proofs.YtanlnoephhjhhaaDoor.frameNil
open Go.RowKit Go.Proofs.YtanlnoephhjhhaaDoor Go.Proofs.YtanlnoephhjhhaaDoor.Vi Go.Proofs.YtanlnoephhjhhaaDoor.Crc Go.Proofs.YtanlnoephhjhhaaDoor.Fr

theorem made (w : World) : SAt (w.alloc (.cells #[.slice none 0 0, .bool false] 48)) w.heap.size [] false :=
  ⟨⟨_, by simp [go_sem], OwnB.nil _ _⟩, by simp [go_sem], by simp [go_sem], by simp [go_sem]⟩
set_option maxHeartbeats 2000000 in
theorem walk (s : ByteArray) (w : World) (_ : s.size ≤ maxLen) (ht : Tab w) : Calls Tryd.prog 8 #[.string s] w fun e w' => e = .returned (.bool true) ∧ Below w.heap.size w w' := by
  have hA := awake_any w ht
  have kF := fun w => feed_nil s w
  have kN := fun w => next_nil w
  have kL := fun w => left_nil w
  have kB := fun w => bad_nil w
  have hn1 : (getF []).w ≠ 0 := by rw [getF_nil]; simp
  have hn3 : (getF []).w ≠ 3 := by rw [getF_nil]; simp
  have zN := fun w b h ht => next_none w b [] false h (by simp) ht hn1 hn3
  have zF := fun w b h => feed_is ⟨#[1]⟩ w b [] h (by decide)
  have zL := fun w b h => left_is w b [1] false h
  have zB := fun w b h => bad_is w b [] false h
  clear hn1 hn3
  go_enter Tryd.func8, Tryd.ntmps8
  go_wp2_with (first
    | (go_at_call 10; (with_reducible refine hA.mono ?_); rintro e w1 ⟨rfl, hb1⟩; have ht1 := ht.next hb1; have hS1 := made w1)
    | (go_at_call 23; (with_reducible refine (kN _).mono ?_); rintro e w2 ⟨rfl, rfl⟩)
    | (go_at_call 23; (with_reducible refine (zN _ _ hS1 (ht1.alloc _)).mono ?_); rintro e w3 ⟨rfl, hb3⟩; have hS3 := hS1.later hb3)
    | (go_at_call 22; (with_reducible refine (kF _).mono ?_); rintro e w4 ⟨rfl, rfl⟩)
    | (go_at_call 22; (with_reducible refine (zF _ _ hS3).mono ?_); rintro e w5 ⟨rfl, hS5, hb5⟩)
    | (go_at_call 24; (with_reducible refine (kL _).mono ?_); rintro e w6 ⟨rfl, rfl⟩)
    | (go_at_call 24; (with_reducible refine (zL _ _ hS5).mono ?_); rintro e w7 ⟨rfl, rfl⟩)
    | (go_at_call 25; (with_reducible refine (kB _).mono ?_); rintro e w8 ⟨rfl, rfl⟩)
    | (go_at_call 25; (with_reducible refine (zB _ _ hS3).mono ?_); rintro e w9 ⟨rfl, rfl⟩))
  go_ret
  refine ⟨rfl, ?_⟩
  have h1 := bel_next (bel_new hb1 _) hb3
  exact h1.trans (hb5.mono hb1.size)
end Go.Proofs.YtanlnoephhjhhaaDoor.frameNil
