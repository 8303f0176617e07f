/- The walk of law SumSeals: it returns true and turns nothing that was there. -/
import Derived.Test.YtibjnfllagaplaaDoorSumRef
import Derived.Test.YtibjnfllagaplaaDoorSumAwake
namespace Go.Proofs.YtibjnfllagaplaaDoor.sumSeals
open Go.RowKit Go.Proofs.YtibjnfllagaplaaDoor.Crc

theorem refOpen_is (t b : ByteArray) (o : Bool) (w : World) (HB : Hid (bodyOf t = b)) (HO : Hid (opens t = o)) (hs : t.size ≤ 100000) :
    Calls Tryd.prog 14 #[.string t] w fun e w' => e = .returned (.tuple #[.string b, .bool o]) ∧ Below w.heap.size w w' := by
  have := refOpen_any t w hs
  rwa [HB.out, HO.out] at this
theorem refSealed_is (s t : ByteArray) (w : World) (H : Hid (sealedB s = t)) (hs : s.size ≤ 100000) :
    Calls Tryd.prog 16 #[.string s] w fun e w' => e = .returned (.string t) ∧ Below w.heap.size w w' := by
  have := refSealed_any s w hs
  rwa [H.out] at this

set_option maxHeartbeats 1000000 in
theorem walk (s0 t0 : ByteArray) (w : World) (_hs : s0.size ≤ maxLen) (_hs2 : t0.size ≤ maxLen) (ht : Tab w) :
    Calls Tryd.prog 4 #[.string s0, .string t0] w fun e w' => e = .returned (.bool true) ∧ Below w.heap.size w w' := by
  obtain ⟨s, g1, _, short1⟩ := short_any s0 1000 1000 rfl (by decide)
  obtain ⟨t, g2, _, short2⟩ := short_any t0 1000 1000 rfl (by decide)
  obtain ⟨u, hu⟩ : ∃ u, sealedB s = u := ⟨_, rfl⟩
  have hu1 : u.size ≤ 100000 := by rw [← hu, sealedB_size]; omega
  have ho : Hid (opens u = true) := by show _ = _; rw [← hu]; exact opens_sealed s
  have hb : Hid (bodyOf u = s) := by show _ = _; rw [← hu]; exact bodyOf_sealed s
  have HU := Lib.hid hu
  clear hu
  obtain ⟨b, hb2⟩ : ∃ b, bodyOf t = b := ⟨_, rfl⟩
  have HB := Lib.hid hb2
  obtain ⟨o, ho2⟩ : ∃ o, opens t = o := ⟨_, rfl⟩
  have HO := Lib.hid ho2
  clear hb2 ho2
  have z1 : s.size ≤ 100000 := by omega
  have z2 : t.size ≤ 100000 := by omega
  go_enter Tryd.func4, Tryd.ntmps4
  go_wp2_with (first
    | (go_at_call 9; with_reducible refine (awake_any _ ht).mono ?_; rintro e w1 ⟨rfl, hw1⟩; have ht1 := ht.next hw1)
    | (go_at_call 10; with_reducible refine (short1 _).mono ?_; rintro e w2 ⟨rfl, rfl⟩)
    | (go_at_call 10; with_reducible refine (short2 _).mono ?_; rintro e w2 ⟨rfl, rfl⟩)
    | (go_at_call 13; with_reducible refine (open_is t b o _ HB HO z2 (by assumption)).mono ?_; rintro e w2 ⟨rfl, hw2⟩; have ht2 := Tab.next (by assumption) hw2)
    | (go_at_call 14; with_reducible refine (refOpen_is t b o _ HB HO z2).mono ?_; rintro e w3 ⟨rfl, hw3⟩; have ht3 := Tab.next (by assumption) hw3)
    | (go_at_call 15; with_reducible refine (sealed_is s u _ HU z1 (by assumption)).mono ?_; rintro e w4 ⟨rfl, hw4⟩; have ht4 := Tab.next (by assumption) hw4)
    | (go_at_call 13; with_reducible refine (open_is u s true _ hb ho hu1 (by assumption)).mono ?_; rintro e w5 ⟨rfl, hw5⟩; have ht5 := Tab.next (by assumption) hw5)
    | (go_at_call 16; with_reducible refine (refSealed_is s u _ HU z1).mono ?_; rintro e w6 ⟨rfl, hw6⟩; have ht6 := Tab.next (by assumption) hw6))
  go_ret
  exact ⟨rfl, by repeat (first | assumption | (refine below_next ?_ (by assumption)))⟩
end Go.Proofs.YtibjnfllagaplaaDoor.sumSeals
