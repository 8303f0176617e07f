/- The contract of the program's Read. -/
import Derived.Test.YtkomfenjeoaelaaDoorBlockTakenIs
import Derived.Test.YtkomfenjeoaelaaDoorBlockBuildYes
set_option maxRecDepth 20000
set_option linter.unusedSimpArgs false
set_option linter.unusedVariables false
namespace Go.Proofs.YtkomfenjeoaelaaDoor
open Go.RowKit Go.Proofs.YtkomfenjeoaelaaDoor.Crc Go.Proofs.YtkomfenjeoaelaaDoor.Vi Go.Proofs.YtkomfenjeoaelaaDoor.Mk

/-- What a text is read as. -/
def rdB (S : ByteArray) : Option (List Pt) := if bldE (takenL (bodyOf S)) = 0 ∧ bldS (takenL (bodyOf S)) = S then some (takenL (bodyOf S)) else none
theorem bodyOf_size (S : ByteArray) : (bodyOf S).size ≤ S.size := by
  unfold bodyOf
  split
  · simp
  · show (0 : Nat) ≤ _; omega
/-- What Read answers. -/
def RdDone (l : Option (List Pt)) (w : World) (e : Ending) (w' : World) : Prop := ∃ v, e = .returned (.tuple #[v, .int .i64 (if l.isSome then 0 else 10)]) ∧ PRow w' w.heap.size v (l.getD []) ∧ Below w.heap.size w w'
theorem rd_none {l : Option (List Pt)} {w w' : World} (h : l = none) (hb : Below w.heap.size w w') : RdDone l w (.returned (.tuple #[.slice none 0 0, .int .i64 10])) w' := by
  subst h
  exact ⟨_, rfl, PRow.nil _ _, hb⟩
theorem rd_some {l : Option (List Pt)} {m : List Pt} {v : Value} {w w' : World} (h : l = some m) (hr : PRow w' w.heap.size v m) (hb : Below w.heap.size w w') : RdDone l w (.returned (.tuple #[v, .int .i64 0])) w' := by
  subst h
  exact ⟨_, rfl, hr, hb⟩
set_option maxHeartbeats 4000000 in
theorem pread12_is (S : ByteArray) (w : World) (hs : S.size ≤ 100000) (ht : Tab w) : Calls Tryd.prog 29 #[.string S] w (RdDone (rdB S) w) := by
  have hz := bodyOf_size S
  obtain ⟨b, hb⟩ : ∃ b, bodyOf S = b := ⟨_, rfl⟩
  obtain ⟨o, ho⟩ : ∃ o, opens S = o := ⟨_, rfl⟩
  have ko := fun w h => open_is S b o w (Lib.hid hb) (Lib.hid ho) (by omega) h
  have hin := takenL_inv b
  have hd : rdB S = if bldE (takenL b) = 0 ∧ bldS (takenL b) = S then some (takenL b) else none := by unfold rdB; rw [hb]
  rw [hb] at hz
  have kt := fun w => taken_is b w (by omega)
  obtain ⟨l, hl⟩ : ∃ l, takenL b = l := ⟨_, rfl⟩
  rw [hl] at hin hd kt
  obtain ⟨-, hin2, hin3⟩ := hin
  have kb := fun a c w h ht => build_is a c l w h (by omega) (fun p hp => by have := (hin2 p hp).1; omega) ht
  have HT := Lib.hid ht
  clear hin2 hb ho hl ht
  by_cases hE : bldE l = 0
  · by_cases hS : bldS l = S
    · rw [if_pos ⟨hE, hS⟩] at hd
      have HD := Lib.hid hd
      rw [hE, hS] at kb
      clear hd hE hS hin3
      go_enter Tryd.func29, Tryd.ntmps29
      go_wp2_with (first
        | (go_at_call 56; (with_reducible refine (ko _ HT.out).mono ?_); rintro e w1 ⟨rfl, hb1⟩; (have HB1 := Lib.hid hb1); clear hb1)
        | (go_at_call 57; (with_reducible refine (kt _).mono ?_); rintro e w2 ⟨v, rfl, hR, hb2⟩; (have hsl := hR.slice); (obtain ⟨a2, c2, rfl⟩ := hsl); (have HR2 := Lib.hid (hR.base HB1.out.size)); (have HL2 := Lib.hid hR.lst); (have HB2 := Lib.hid (bel_next HB1.out hb2)); clear hR hb2)
        | (go_at_call 27; (with_reducible refine (kb _ _ _ HL2.out (HT.out.next HB2.out)).mono ?_); rintro e w3 ⟨rfl, hb3⟩))
      go_ret2
      exact rd_some HD.out (HR2.out.later hb3) (bel_next HB2.out hb3)
    · rw [if_neg (fun g => hS g.2)] at hd
      have HD := Lib.hid hd
      have hne := str_ne hS
      obtain ⟨Z, hZ⟩ : ∃ Z, bldS l = Z := ⟨_, rfl⟩
      rw [hZ] at hne
      rw [hE, hZ] at kb
      clear hd hE hS hin3 hZ
      go_enter Tryd.func29, Tryd.ntmps29
      go_wp2_with (first
        | (go_at_call 56; (with_reducible refine (ko _ HT.out).mono ?_); rintro e w1 ⟨rfl, hb1⟩; (have HB1 := Lib.hid hb1); clear hb1)
        | (go_at_call 57; (with_reducible refine (kt _).mono ?_); rintro e w2 ⟨v, rfl, hR, hb2⟩; (have hsl := hR.slice); (obtain ⟨a2, c2, rfl⟩ := hsl); (have HR2 := Lib.hid (hR.base HB1.out.size)); (have HL2 := Lib.hid hR.lst); (have HB2 := Lib.hid (bel_next HB1.out hb2)); clear hR hb2)
        | (go_at_call 27; (with_reducible refine (kb _ _ _ HL2.out (HT.out.next HB2.out)).mono ?_); rintro e w3 ⟨rfl, hb3⟩))
      go_ret2
      exact rd_none HD.out (bel_next HB2.out hb3)
  · rw [if_neg (fun g => hE g.1)] at hd
    have HD := Lib.hid hd
    obtain ⟨E, hEE⟩ : ∃ E, bldE l = E := ⟨_, rfl⟩
    obtain ⟨Z, hZ⟩ : ∃ Z, bldS l = Z := ⟨_, rfl⟩
    rw [hEE] at hE
    rw [hEE, hZ] at kb
    have e1 : (E == 0) = false := by simpa using hE
    have e2 : (E != 0) = true := by simpa using hE
    clear hd hE hEE hin3 hZ
    go_enter Tryd.func29, Tryd.ntmps29
    go_wp2_with (first
      | (go_at_call 56; (with_reducible refine (ko _ HT.out).mono ?_); rintro e w1 ⟨rfl, hb1⟩; (have HB1 := Lib.hid hb1); clear hb1)
      | (go_at_call 57; (with_reducible refine (kt _).mono ?_); rintro e w2 ⟨v, rfl, hR, hb2⟩; (have hsl := hR.slice); (obtain ⟨a2, c2, rfl⟩ := hsl); (have HR2 := Lib.hid (hR.base HB1.out.size)); (have HL2 := Lib.hid hR.lst); (have HB2 := Lib.hid (bel_next HB1.out hb2)); clear hR hb2)
      | (go_at_call 27; (with_reducible refine (kb _ _ _ HL2.out (HT.out.next HB2.out)).mono ?_); rintro e w3 ⟨rfl, hb3⟩))
    go_ret2
    exact rd_none HD.out (bel_next HB2.out hb3)
end Go.Proofs.YtkomfenjeoaelaaDoor
