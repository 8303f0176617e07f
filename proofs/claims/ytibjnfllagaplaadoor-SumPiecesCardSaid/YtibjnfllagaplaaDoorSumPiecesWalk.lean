/- The walk of law SumPieces: it returns true and turns nothing that was there. -/
import Derived.Test.YtibjnfllagaplaaDoorSumPiecesRel
namespace Go.Proofs.YtibjnfllagaplaaDoor.sumPieces
open Go.RowKit Go.Proofs.YtibjnfllagaplaaDoor.Crc

theorem Rel.start {w w1 w2 : World} (h1 : Below w.heap.size w w1) (hb : Below w1.heap.size w1 w2) (hs : SumAt w2 w1.heap.size 0#32 0) : Rel w w2 w1.heap.size 0 (.slice none 0 0) ⟨#[]⟩ [] :=
  ⟨rfl, fun _ h => by simp at h, World.ownsRow_nil _ _ _ _, by rw [show flat [] = [] from rfl, crc_nil]; exact hs, rfl, below_next h1 hb, h1.size, Nat.le_refl _⟩

set_option maxHeartbeats 1000000 in
theorem walk_nil (a : Option Addr) (cap : Nat) (more0 more : ByteArray) (d : BitVec 32) (w : World) (short1 : ∀ w, Calls Tryd.prog 10 #[.string more0, .int .i64 200] w fun e w' => e = .returned (.string more) ∧ w = w') (hmore : more.size ≤ maxLen) (hmore2 : more.size ≤ 2000)
    (HM : Hid (crc more.data.toList = d)) (ht : Tab w) :
    Calls Tryd.prog 5 #[.slice a 0 cap, .string more0] w fun e w' => e = .returned (.bool true) ∧ Below w.heap.size w w' := by
  go_enter Tryd.func5, Tryd.ntmps5
  go_wp2_with (first
    | (go_at_call 9; (with_reducible refine (awake_any _ ht).mono ?_); rintro e w1 ⟨rfl, hw1⟩; have ht1 := ht.next hw1)
    | (go_at_call 10; (with_reducible refine (short1 _).mono ?_); rintro e w2 ⟨rfl, rfl⟩)
    | (go_at_call 17; (with_reducible refine (new_any _).mono ?_); rintro e w2 ⟨rfl, hS0, hb2⟩))
  have hR := Rel.start hw1 hb2 hS0
  refine wp_loop_rounds 1 ?_
  rw [rounds_succ]
  obtain ⟨c, hc⟩ : ∃ c, crc (flat ([] : List ByteArray)) = c := ⟨_, rfl⟩
  have HC := Lib.hid hc
  have hS := hR.sum
  rw [hc] at hS
  clear hc
  have HC2 : Hid (crc (⟨#[]⟩ : ByteArray).data.toList = c) := by show _ = _; rw [hR.all]; exact HC.out
  have hbel := hR.below
  have hown := hR.own
  have hsz := hR.size
  have hps : ([] : List ByteArray).length ≤ 20 := by have := hR.len; omega
  have hal : (⟨#[]⟩ : ByteArray).size ≤ maxLen := by have := hR.small; unfold maxLen; omega
  have hroom := hR.room
  have htr := ht.next hbel
  clear hR
  have HSZ := Lib.hid hsz
  have HOWN := Lib.hid hown
  clear hsz hown
  go_wp2_with (first
    | (go_at_call 20; (with_reducible refine (value_any w1.heap.size (⟨#[]⟩ : ByteArray).size c _ hS).mono ?_); rintro e w4 ⟨rfl, rfl⟩)
    | (go_at_call 21; (with_reducible refine (reset_full w1.heap.size (⟨#[]⟩ : ByteArray).size c _ hS).mono ?_); rintro e w4 ⟨rfl, hS4, hb4, hk4⟩; have HO4 := Lib.hid (hk4 _ _ _ _ _ _ (Nat.lt_succ_self w1.heap.size) HOWN.out); have hB4 := hbel.trans (hb4.mono hroom); have ht4 := ht.next hB4; clear hk4)
    | (go_at_call 19; (with_reducible refine (len_any w1.heap.size 0 0#32 _ hS4).mono ?_); rintro e w5 ⟨rfl, rfl⟩)
    | (go_at_call 18; (with_reducible refine (write_full w1.heap.size 0 0#32 more _ hmore2 (by decide) ht4 hS4).mono ?_); rintro e w5 ⟨rfl, hS5, hb5, hk5⟩; have HO5 := Lib.hid (hk5 _ _ _ _ _ _ (Nat.lt_succ_self w1.heap.size) HO4.out); have hB5 := hB4.trans (hb5.mono hroom); have ht5 := ht.next hB5; clear hk5; rw [ext_zero, HM.out] at hS5)
    | (go_at_call 11; (with_reducible refine (of_own (w1.heap.size + 1) _ ([] : List ByteArray) c _ HO5.out HSZ.out hps HC ht5).mono ?_); rintro e w6 ⟨rfl, rfl⟩)
    | (go_at_call 11; (with_reducible refine (of_one _ _ (⟨#[]⟩ : ByteArray) c _ hal HC2 (Tab.alloc ht5 _) (by simp [go_sem])).mono ?_); rintro e w6 ⟨rfl, rfl⟩)
    | (go_at_call 20; (with_reducible refine (value_any w1.heap.size _ d _ (hS5.below (below_new (Below.refl _ _) _) hS5.room)).mono ?_); rintro e w6 ⟨rfl, rfl⟩)
    | (go_at_call 11; (with_reducible refine (of_one _ _ more d _ hmore HM (Tab.alloc (Tab.alloc ht5 _) _) (by simp [go_sem])).mono ?_); rintro e w6 ⟨rfl, rfl⟩))
  go_ret
  exact ⟨rfl, below_new (below_new hB5 _) _⟩

set_option maxHeartbeats 2000000 in
theorem walk_some (b off len cap : Nat) (more0 more : ByteArray) (d : BitVec 32) (w : World) (short1 : ∀ w, Calls Tryd.prog 10 #[.string more0, .int .i64 200] w fun e w' => e = .returned (.string more) ∧ w = w') (hmore : more.size ≤ maxLen) (hmore2 : more.size ≤ 2000)
    (HM : Hid (crc more.data.toList = d)) (ht : Tab w) (hbw : b < w.heap.size) (HA : Hid (∀ j, j < len → ∃ s : ByteArray, w.cell? ⟨b, off + j, none⟩ = some (.string s))) :
    Calls Tryd.prog 5 #[.slice (some ⟨b, off, none⟩) len cap, .string more0] w fun e w' => e = .returned (.bool true) ∧ Below w.heap.size w w' := by
  obtain ⟨i0, hi, hz0, hz1, hz2⟩ := info_parts infoS
  go_enter Tryd.func5, Tryd.ntmps5
  go_wp2_with (first
    | (go_at_call 9; (with_reducible refine (awake_any _ ht).mono ?_); rintro e w1 ⟨rfl, hw1⟩; have ht1 := ht.next hw1)
    | (go_at_call 10; (with_reducible refine (short1 _).mono ?_); rintro e w2 ⟨rfl, rfl⟩)
    | (go_at_call 17; (with_reducible refine (new_any _).mono ?_); rintro e w2 ⟨rfl, hS0, hb2⟩))
  have hR0 := Rel.start hw1 hb2 hS0
  have HR0 := Lib.hid hR0
  clear hR0 hS0
  go_loopw [7, 8, 9] (fun v a i wr => ∃ (k : Nat) (al : ByteArray) (ps : List ByteArray), k ≤ len ∧ k ≤ 20 ∧ i = .int .i64 k ∧ a = .string al ∧ Rel w wr w1.heap.size k v al ps) (fun _ _ i _ => len - (intOf i).toNat)
  case atStart => exact ⟨0, _, _, Nat.zero_le _, Nat.zero_le _, rfl, rfl, HR0.out⟩
  case round =>
    obtain ⟨k, al, ps, hk, hk20, rfl, rfl, hR⟩ := hrel
    by_cases hlt : k < len
    · by_cases hlt20 : k < 20
      · obtain ⟨s, hs0⟩ := HA.out k hlt
        have hcell : wr.cell? ⟨b, off + k, none⟩ = some (.string s) := (hR.below.cell (p := ⟨b, off + k, none⟩) hbw).trans hs0
        clear hs0
        obtain ⟨p, hp, _, short2⟩ := short_any s 200 200 rfl (by decide)
        have hown := hR.own
        have HR := Lib.hid hR
        clear hR
        go_wp2_with (first
          | (go_at_call 10; (with_reducible refine (short2 _).mono ?_); rintro e w2 ⟨rfl, rfl⟩)
          | (at_builtin; refine wpList_append_own _ rfl _ _ 32 rfl (w1.heap.size + 1) 9 i0 (.string ⟨#[]⟩) 1 16 Tryd.underlying32 hi hz0 hz1 hz2 rfl (by decide) _ _ _ rfl (hown.alloc _) ⟨wr.heap.size, 0, none⟩ 1 1 [.string p] rfl rfl ?c1 ?c2 ?c3 ?c4 ?c5 ?_))
        case c1 =>
          intro j u hj
          match j, hj with
          | 0, hj => simp at hj; subst hj; simp [Addr.add]
        case c2 => intro u hu; simp at hu; subst hu; rfl
        case c3 => have := HR.out.len; unfold maxLen; omega
        case c4 => have := HR.out.len; omega
        case c5 => have := HR.out.sum.room; simp; omega
        intro v' w3 hown3 hgrow _
        obtain ⟨hS3, hB3⟩ := HR.out.grown hgrow
        have ht3 := ht.next hB3
        have hp2 : p.size ≤ 2000 := by omega
        have hal := HR.out.small
        have hal2 : al.size ≤ 1000000 := by omega
        have HO3 := Lib.hid hown3
        have hroom := HR.out.room
        clear hown3 hgrow hown
        go_wp2_with (first
          | (go_at_call 18; (with_reducible refine (write_full w1.heap.size al.size _ p _ hp2 hal2 ht3 hS3).mono ?_); rintro e w4 ⟨rfl, hS4, hb4, hk4⟩; have HN := Lib.hid (HR.out.next hp HO3.out hk4 (hB3.trans (hb4.mono hroom)) hS4); clear hk4)
          | (go_at_call 19; (with_reducible refine (len_any w1.heap.size _ _ _ hS4).mono ?_); rintro e w5 ⟨rfl, rfl⟩))
        go_roundw
        case rel => exact ⟨k + 1, al ++ p, ps ++ [p], by omega, by omega, by go_num, rfl, HN.out⟩
        case measure => simp [intOf]; omega
      · have hlt20' : ¬ (k : Int) < 20 := by omega
        clear HR0
        obtain ⟨c, hc⟩ : ∃ c, crc (flat ps) = c := ⟨_, rfl⟩
        have HC := Lib.hid hc
        have hS := hR.sum
        rw [hc] at hS
        clear hc
        have HC2 : Hid (crc al.data.toList = c) := by show _ = _; rw [hR.all]; exact HC.out
        have hbel := hR.below
        have hown := hR.own
        have hsz := hR.size
        have hps : ps.length ≤ 20 := by have := hR.len; omega
        have hal : al.size ≤ maxLen := by have := hR.small; unfold maxLen; omega
        have hroom := hR.room
        have htr := ht.next hbel
        clear hR
        have HSZ := Lib.hid hsz
        have HOWN := Lib.hid hown
        clear hsz hown
        go_wp2_with (first
          | (go_at_call 20; (with_reducible refine (value_any w1.heap.size al.size c _ hS).mono ?_); rintro e w4 ⟨rfl, rfl⟩)
          | (go_at_call 21; (with_reducible refine (reset_full w1.heap.size al.size c _ hS).mono ?_); rintro e w4 ⟨rfl, hS4, hb4, hk4⟩; have HO4 := Lib.hid (hk4 _ _ _ _ _ _ (Nat.lt_succ_self w1.heap.size) HOWN.out); have hB4 := hbel.trans (hb4.mono hroom); have ht4 := ht.next hB4; clear hk4)
          | (go_at_call 19; (with_reducible refine (len_any w1.heap.size 0 0#32 _ hS4).mono ?_); rintro e w5 ⟨rfl, rfl⟩)
          | (go_at_call 18; (with_reducible refine (write_full w1.heap.size 0 0#32 more _ hmore2 (by decide) ht4 hS4).mono ?_); rintro e w5 ⟨rfl, hS5, hb5, hk5⟩; have HO5 := Lib.hid (hk5 _ _ _ _ _ _ (Nat.lt_succ_self w1.heap.size) HO4.out); have hB5 := hB4.trans (hb5.mono hroom); have ht5 := ht.next hB5; clear hk5; rw [ext_zero, HM.out] at hS5)
          | (go_at_call 11; (with_reducible refine (of_own (w1.heap.size + 1) _ ps c _ HO5.out HSZ.out hps HC ht5).mono ?_); rintro e w6 ⟨rfl, rfl⟩)
          | (go_at_call 11; (with_reducible refine (of_one _ _ al c _ hal HC2 (Tab.alloc ht5 _) (by simp [go_sem])).mono ?_); rintro e w6 ⟨rfl, rfl⟩)
          | (go_at_call 20; (with_reducible refine (value_any w1.heap.size _ d _ (hS5.below (below_new (Below.refl _ _) _) hS5.room)).mono ?_); rintro e w6 ⟨rfl, rfl⟩)
          | (go_at_call 11; (with_reducible refine (of_one _ _ more d _ hmore HM (Tab.alloc (Tab.alloc ht5 _) _) (by simp [go_sem])).mono ?_); rintro e w6 ⟨rfl, rfl⟩))
        go_ret
        exact ⟨rfl, below_new (below_new hB5 _) _⟩
    · clear HR0
      obtain ⟨c, hc⟩ : ∃ c, crc (flat ps) = c := ⟨_, rfl⟩
      have HC := Lib.hid hc
      have hS := hR.sum
      rw [hc] at hS
      clear hc
      have HC2 : Hid (crc al.data.toList = c) := by show _ = _; rw [hR.all]; exact HC.out
      have hbel := hR.below
      have hown := hR.own
      have hsz := hR.size
      have hps : ps.length ≤ 20 := by have := hR.len; omega
      have hal : al.size ≤ maxLen := by have := hR.small; unfold maxLen; omega
      have hroom := hR.room
      have htr := ht.next hbel
      clear hR
      have HSZ := Lib.hid hsz
      have HOWN := Lib.hid hown
      clear hsz hown
      go_wp2_with (first
        | (go_at_call 20; (with_reducible refine (value_any w1.heap.size al.size c _ hS).mono ?_); rintro e w4 ⟨rfl, rfl⟩)
        | (go_at_call 21; (with_reducible refine (reset_full w1.heap.size al.size c _ hS).mono ?_); rintro e w4 ⟨rfl, hS4, hb4, hk4⟩; have HO4 := Lib.hid (hk4 _ _ _ _ _ _ (Nat.lt_succ_self w1.heap.size) HOWN.out); have hB4 := hbel.trans (hb4.mono hroom); have ht4 := ht.next hB4; clear hk4)
        | (go_at_call 19; (with_reducible refine (len_any w1.heap.size 0 0#32 _ hS4).mono ?_); rintro e w5 ⟨rfl, rfl⟩)
        | (go_at_call 18; (with_reducible refine (write_full w1.heap.size 0 0#32 more _ hmore2 (by decide) ht4 hS4).mono ?_); rintro e w5 ⟨rfl, hS5, hb5, hk5⟩; have HO5 := Lib.hid (hk5 _ _ _ _ _ _ (Nat.lt_succ_self w1.heap.size) HO4.out); have hB5 := hB4.trans (hb5.mono hroom); have ht5 := ht.next hB5; clear hk5; rw [ext_zero, HM.out] at hS5)
        | (go_at_call 11; (with_reducible refine (of_own (w1.heap.size + 1) _ ps c _ HO5.out HSZ.out hps HC ht5).mono ?_); rintro e w6 ⟨rfl, rfl⟩)
        | (go_at_call 11; (with_reducible refine (of_one _ _ al c _ hal HC2 (Tab.alloc ht5 _) (by simp [go_sem])).mono ?_); rintro e w6 ⟨rfl, rfl⟩)
        | (go_at_call 20; (with_reducible refine (value_any w1.heap.size _ d _ (hS5.below (below_new (Below.refl _ _) _) hS5.room)).mono ?_); rintro e w6 ⟨rfl, rfl⟩)
        | (go_at_call 11; (with_reducible refine (of_one _ _ more d _ hmore HM (Tab.alloc (Tab.alloc ht5 _) _) (by simp [go_sem])).mono ?_); rintro e w6 ⟨rfl, rfl⟩))
      go_ret
      exact ⟨rfl, below_new (below_new hB5 _) _⟩

theorem walk (a : Option Addr) (len cap : Nat) (more0 : ByteArray) (w : World) (h : ArgStrs w a len) (_hs : more0.size ≤ maxLen) (ht : Tab w) :
    Calls Tryd.prog 5 #[.slice a len cap, .string more0] w fun e w' => e = .returned (.bool true) ∧ Below w.heap.size w w' := by
  obtain ⟨more, g1, _, short1⟩ := short_any more0 200 200 rfl (by decide)
  have hm : more.size ≤ maxLen := by unfold maxLen; omega
  rcases h with rfl | ⟨b, off, rfl, hb, hc⟩
  · exact walk_nil a cap more0 more _ w short1 hm (by omega) rfl ht
  · exact walk_some b off len cap more0 more _ w short1 hm (by omega) rfl ht hb hc
end Go.Proofs.YtibjnfllagaplaaDoor.sumPieces
