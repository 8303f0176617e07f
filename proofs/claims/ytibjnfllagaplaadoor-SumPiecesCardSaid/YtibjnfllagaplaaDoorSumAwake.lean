/- The chapter's examples, as the laws of layer 1 ask them first ('awake'): true. -/
import Derived.Test.YtibjnfllagaplaaDoorSumFns
namespace Go.Proofs.YtibjnfllagaplaaDoor
open Go.RowKit Go.Proofs.YtibjnfllagaplaaDoor.Crc

theorem sealedB_size (s : ByteArray) : (sealedB s).size = s.size + 4 := by
  show (sealed s.data.toList).toArray.size = _
  rw [List.size_toArray, sealed_length]; simp
theorem sealedB_body (s : ByteArray) : (sealedB s).extract 0 ((sealedB s).size - 4) = s := by
  rw [sealedB_size]
  apply ByteArray.ext
  apply Array.toList_inj.1
  simp [sealedB, sealed]
theorem opens_sealed (s : ByteArray) : opens (sealedB s) = true := by
  unfold opens
  rw [sealedB_body, sealedB_size]; simp
theorem bodyOf_sealed (s : ByteArray) : bodyOf (sealedB s) = s := by
  unfold bodyOf
  rw [opens_sealed, sealedB_body]; rfl

abbrev aS : ByteArray := { data := #[97] }
abbrev s14 : ByteArray := { data := #[49, 50, 51, 52] }
abbrev s59 : ByteArray := { data := #[53, 54, 55, 56, 57] }
abbrev abcS : ByteArray := { data := #[97, 98, 99] }
theorem crc_a : crc [97] = 3251651376#32 := by decide +kernel
theorem crc_19 : crc [49, 50, 51, 52, 53, 54, 55, 56, 57] = 3808858755#32 := by decide +kernel
theorem opens_abc : opens abcS = false := by unfold opens; rw [decide_eq_false]; intro h; exact absurd h.1 (by decide)

set_option maxHeartbeats 1000000 in
theorem awake_any (w : World) (ht : Tab w) :
    Calls Tryd.prog 9 #[] w fun e w' => e = .returned (.bool true) ∧ Below w.heap.size w w' := by
  obtain ⟨s1, hs1⟩ : ∃ s1, sealedB aS = s1 := ⟨_, rfl⟩
  have hz1 : s1.size ≤ 100000 := by rw [← hs1, sealedB_size]; decide
  have H1 := Lib.hid (hs1 ▸ opens_sealed aS)
  have H2 := Lib.hid (hs1 ▸ bodyOf_sealed aS)
  have HS1 := Lib.hid hs1
  clear hs1
  have H3 := Lib.hid opens_abc
  have H4 : Hid (bodyOf abcS = ⟨#[]⟩) := by show _ = _; unfold bodyOf; rw [opens_abc]; rfl
  have HA : Hid (crc aS.data.toList = 3251651376#32) := crc_a
  have HB : Hid (crc (s14.data.toList ++ s59.data.toList) = 3808858755#32) := crc_19
  have hm1 : aS.size ≤ maxLen := by decide
  have hm2 : s14.size ≤ maxLen := by decide
  have hm3 : s59.size ≤ maxLen := by decide
  have hz2 : aS.size ≤ 100000 := by decide
  have hz3 : abcS.size ≤ 100000 := by decide
  go_enter Tryd.func9, Tryd.ntmps9
  go_wp2_with (first
    | (go_at_call 15; with_reducible refine (sealed_is aS s1 _ HS1 hz2 ht).mono ?_; rintro e w1 ⟨rfl, hw1⟩; have ht1 := ht.next hw1)
    | (go_at_call 13; with_reducible refine (open_is s1 aS true _ H2 H1 hz1 (by assumption)).mono ?_; rintro e w2 ⟨rfl, hw2⟩; have ht2 := Tab.next (by assumption) hw2)
    | (go_at_call 13; with_reducible refine (open_is abcS ⟨#[]⟩ false _ H4 H3 hz3 (by assumption)).mono ?_; rintro e w3 ⟨rfl, hw3⟩; have ht3 := Tab.next (by assumption) hw3)
    | (go_at_call 11; with_reducible refine (of_none _).mono ?_; rintro e w4 ⟨rfl, rfl⟩)
    | (go_at_call 11; with_reducible refine (of_one _ _ aS 3251651376#32 _ hm1 HA (Tab.alloc (by assumption) _) (by simp [go_sem])).mono ?_; rintro e w4 ⟨rfl, rfl⟩)
    | (go_at_call 11; with_reducible refine (of_two _ _ s14 s59 3808858755#32 _ hm2 hm3 HB (Tab.alloc (Tab.alloc (by assumption) _) _) (by simp [go_sem]) (by simp [go_sem])).mono ?_; rintro e w4 ⟨rfl, rfl⟩))
  go_ret
  exact ⟨rfl, below_new (below_new (below_next (below_next hw1 hw2) hw3) _) _⟩
end Go.Proofs.YtibjnfllagaplaaDoor
