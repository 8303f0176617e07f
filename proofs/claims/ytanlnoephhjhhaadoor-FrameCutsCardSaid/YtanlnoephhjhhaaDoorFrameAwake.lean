/- The chapter's examples hold. -/
import Derived.Test.YtanlnoephhjhhaaDoorFramePut
import Derived.Test.YtanlnoephhjhhaaDoorFrameScan
namespace Go.Proofs.YtanlnoephhjhhaaDoor
open Go.RowKit Go.Proofs.YtanlnoephhjhhaaDoor.Vi Go.Proofs.YtanlnoephhjhhaaDoor.Crc Go.Proofs.YtanlnoephhjhhaaDoor.Fr

theorem crc_a : crc [97] = 3251651376#32 := by decide +kernel
theorem fr_a : fr [97] = [1, 97, 193, 208, 67, 48] := by
  unfold fr sealed
  rw [crc_a, show ([97] : List UInt8).length = 1 from rfl, enc_small (by omega)]; rfl
theorem fr_e : fr [] = [0, 0, 0, 0, 0] := by
  unfold fr sealed
  rw [crc_nil, show ([] : List UInt8).length = 0 from rfl, enc_small (by omega)]; rfl
theorem g_whole : getG [1, 97, 193, 208, 67, 48] 0 = ([97], 6, 0) := by
  have := getF_whole [97] [] (by simp)
  rw [List.append_nil, fr_a] at this
  rw [show (0 : Int) = ((0 : Nat) : Int) from rfl, getG_at _ 0 (by simp), List.drop_zero, this]; rfl
theorem g_short : getG [1, 97, 193, 208, 67] 0 = ([], 0, 2) := by
  have := getF_prefix [97] (by simp) 5 (by omega) (by rw [fr_a]; decide)
  rw [fr_a] at this
  rw [show (0 : Int) = ((0 : Nat) : Int) from rfl, getG_at _ 0 (by simp), List.drop_zero, show ([1, 97, 193, 208, 67] : List UInt8) = ([1, 97, 193, 208, 67, 48] : List UInt8).take 5 from rfl, this]; rfl
theorem g_wrong : getG [128, 0] 0 = ([], 0, 3) := by
  have : getF [128, 0] = ⟨3, [], 0⟩ := getF_none (by simp) (by decide) (by simp [getL])
  rw [show (0 : Int) = ((0 : Nat) : Int) from rfl, getG_at _ 0 (by simp), List.drop_zero, this]; rfl
theorem s_two : scan [1, 97, 193, 208, 67, 48, 0, 0, 0, 0, 0] = ([[97], []], 11, 1) := by
  have := scan_whole [[97], []] (by simp)
  have e : frs [[97], []] = [1, 97, 193, 208, 67, 48, 0, 0, 0, 0, 0] := by simp [frs, fr_a, fr_e]
  rw [e] at this
  exact this

set_option maxHeartbeats 2000000 in
theorem awake_any (w : World) (ht : Tab w) : Calls Tryd.prog 10 #[] w fun e w' => e = .returned (.bool true) ∧ Below w.heap.size w w' := by
  have k1 := fun w ht => put_yes ⟨#[97]⟩ ⟨#[1, 97, 193, 208, 67, 48]⟩ w (by decide) ht (by show tx (fr [97]) = _; rw [fr_a]; rfl)
  have k2 := fun w ht => get_g [1, 97, 193, 208, 67, 48] 0 ⟨#[97]⟩ 6 0 w (by simp) (by omega) ht (by show tx _ = _; rw [g_whole]; rfl) (by show _ = _; rw [g_whole]) (by show _ = _; rw [g_whole])
  have k3 := fun w ht => get_g [1, 97, 193, 208, 67] 0 ⟨#[]⟩ 0 2 w (by simp) (by omega) ht (by show tx _ = _; rw [g_short]; rfl) (by show _ = _; rw [g_short]) (by show _ = _; rw [g_short])
  have k4 := fun w ht => get_g [128, 0] 0 ⟨#[]⟩ 0 3 w (by simp) (by omega) ht (by show tx _ = _; rw [g_wrong]; rfl) (by show _ = _; rw [g_wrong]) (by show _ = _; rw [g_wrong])
  have k5 := fun v w hv ht => all_yes v [⟨#[97]⟩, ⟨#[]⟩] ⟨#[1, 97, 193, 208, 67, 48, 0, 0, 0, 0, 0]⟩ w (by simp) (by simp; decide) hv ht (by show tx (frs [[97], []]) = _; simp [frs, fr_a, fr_e, tx])
  have k6 := fun w ht => scan_is [1, 97, 193, 208, 67, 48, 0, 0, 0, 0, 0] [⟨#[97]⟩, ⟨#[]⟩] 11 1 w (by simp) ht (by show txL _ = _; rw [s_two]; rfl) (by show _ = _; rw [s_two]; rfl) (by show _ = _; rw [s_two]; rfl)
  have hx5 : (⟨#[1, 97, 193, 208, 67, 48]⟩ : ByteArray).extract 0 5 = ⟨#[1, 97, 193, 208, 67]⟩ := by decide
  have e1 : tx [1, 97, 193, 208, 67, 48] = ⟨#[1, 97, 193, 208, 67, 48]⟩ := rfl
  have e2 : tx [1, 97, 193, 208, 67] = ⟨#[1, 97, 193, 208, 67]⟩ := rfl
  have e3 : tx [128, 0] = ⟨#[128, 0]⟩ := rfl
  have e4 : tx [1, 97, 193, 208, 67, 48, 0, 0, 0, 0, 0] = ⟨#[1, 97, 193, 208, 67, 48, 0, 0, 0, 0, 0]⟩ := rfl
  rw [e1] at k2
  rw [e2] at k3
  rw [e3] at k4
  rw [e4] at k6
  go_enter Tryd.func10, Tryd.ntmps10
  go_wp2_with (first
    | (go_at_call 13; (with_reducible refine (k1 _ ht).mono ?_); rintro e w1 ⟨rfl, hb1⟩; have ht1 := ht.next hb1)
    | (go_at_call 16; (with_reducible refine (k2 _ ht1).mono ?_); rintro e w2 ⟨rfl, hb2⟩; have ht2 := ht1.next hb2)
    | (go_at_call 16; (with_reducible refine (k3 _ ht2).mono ?_); rintro e w3 ⟨rfl, hb3⟩; have ht3 := ht2.next hb3)
    | (go_at_call 16; (with_reducible refine (k4 _ ht3).mono ?_); rintro e w4 ⟨rfl, hb4⟩; have ht4 := ht3.next hb4)
    | (go_at_call 14; (with_reducible refine (k5 _ _ ?h1 (ht4.alloc _)).mono ?_); (case h1 => (refine ⟨_, _, rfl, Nat.le_refl _, by unfold maxLen; decide, Or.inr ⟨w4.heap.size, 0, rfl, by simp, fun j hj => ?_⟩⟩; match j, hj with | 0, _ => simp [go_sem] | 1, _ => simp [go_sem])); rintro e w5 ⟨rfl, hb5⟩; have ht5 := (ht4.alloc _).next hb5)
    | (go_at_call 18; (with_reducible refine (k6 _ ht5).mono ?_); rintro e w6 ⟨v6, rfl, hR6, hb6⟩; obtain ⟨a6, c6, rfl⟩ := hR6.slice))
  go_ret
  exact ⟨rfl, bel_next (bel_next (bel_new (bel_next (bel_next (bel_next hb1 hb2) hb3) hb4) _) hb5) hb6⟩
end Go.Proofs.YtanlnoephhjhhaaDoor
