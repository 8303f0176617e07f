/- Plain mathematics: what the chapter says of windows and of what two spans have in common. -/
import Derived.Test.YtdkenokjdiamhaaDoorWindowMath
namespace Go.Proofs.YtdkenokjdiamhaaDoor
open Go.RowKit

theorem both_in {a b : Sp} (ha : a.is = true) (hb : b.is = true) (x : Int) : ((bothI a b).f ≤ x ∧ x < (bothI a b).t) ↔ (a.f ≤ x ∧ x < a.t) ∧ (b.f ≤ x ∧ x < b.t) := by
  have h1 := Sp.is_iff.1 ha
  have h2 := Sp.is_iff.1 hb
  unfold bothI Sp.zero
  rw [if_neg (by rw [ha, hb]; simp)]
  split <;> dsimp only <;> omega
theorem both_turn (a b : Sp) : bothI a b = bothI b a := by
  unfold bothI
  rw [Bool.and_comm, Int.min_comm, Int.max_comm]
/-- What P7.4 says of the window of a time. -/
structure WinOk (t k : Int) : Prop where
  lo : (ofI t k).f ≤ t
  hi : t < (ofI t k).t
  pos : 0 ≤ (ofI t k).f
  top : (ofI t k).t ≤ 1099511627777
  mod : (ofI t k).f % wid k = 0
  first : startI (ofI t k).f k = (ofI t k).f
  last : startI ((ofI t k).t - 1) k = (ofI t k).f
theorem start_of {t k : Int} (ht : 0 ≤ t ∧ t < 1099511627777) (hw : wid k ≠ 0) : startI t k = t - t % wid k := by unfold startI; rw [if_pos ⟨ht.1, ht.2, hw⟩]
theorem wid_0 : wid 0 = 1 := rfl
theorem wid_1 : wid 1 = 10 := rfl
theorem wid_2 : wid 2 = 60 := rfl
theorem wid_3 : wid 3 = 3600 := rfl
theorem of_of {t k : Int} (ht : 0 ≤ t ∧ t < 1099511627777) (hw : 0 < wid k) : ofI t k = ⟨t - t % wid k, cutI (t - t % wid k + wid k)⟩ := by
  have h := start_of ht (show wid k ≠ 0 by omega)
  obtain ⟨-, h1, h2, h3⟩ := mod_facts ht.1 hw
  unfold ofI
  rw [h, if_neg (by omega)]
theorem win_ok_of {t k : Int} (W : Int) (hW : wid k = W) (hp : 0 < W) (ht : 0 ≤ t ∧ t < 1099511627777) : WinOk t k := by
  have e := of_of (k := k) ht (by omega)
  rw [hW] at e
  obtain ⟨-, h1, h2, h3⟩ := mod_facts ht.1 hp
  have hm : (t - t % W) % W = 0 := by rw [Int.sub_emod, Int.emod_emod_of_dvd _ (Int.dvd_refl W), Int.sub_self, Int.zero_emod]
  have hq : (t - t % W) = W * (t / W) := by have := Int.emod_add_mul_ediv t W; omega
  have hcut : cutI (t - t % W + W) ≤ 1099511627777 ∧ t < cutI (t - t % W + W) ∧ cutI (t - t % W + W) ≤ t - t % W + W := by unfold cutI; split <;> omega
  refine ⟨by rw [e]; dsimp only; omega, by rw [e]; exact hcut.2.1, by rw [e]; dsimp only; omega, by rw [e]; exact hcut.1, by rw [e, hW]; exact hm, ?_, ?_⟩
  · rw [e, start_of (by dsimp only; omega) (by omega), hW]
    dsimp only
    rw [hm]; omega
  · rw [e, start_of (by dsimp only; omega) (by omega), hW]
    dsimp only
    obtain ⟨r, hr⟩ : ∃ r, cutI (t - t % W + W) - 1 - (t - t % W) = r := ⟨_, rfl⟩
    have hr2 : cutI (t - t % W + W) - 1 = r + W * (t / W) := by omega
    rw [hr2, Int.add_mul_emod_self_left, Int.emod_eq_of_lt (by omega) (by omega)]
    omega
theorem win_ok {t k : Int} (ht : 0 ≤ t ∧ t < 1099511627777) (hk : 0 ≤ k ∧ k ≤ 3) : WinOk t k := by
  have hc : k = 0 ∨ k = 1 ∨ k = 2 ∨ k = 3 := by omega
  rcases hc with rfl | rfl | rfl | rfl
  · exact win_ok_of 1 wid_0 (by omega) ht
  · exact win_ok_of 10 wid_1 (by omega) ht
  · exact win_ok_of 60 wid_2 (by omega) ht
  · exact win_ok_of 3600 wid_3 (by omega) ht
/-- Each window lies in one of the next tier. -/
theorem win_next {t k : Int} (ht : 0 ≤ t ∧ t < 1099511627777) (hk : 0 ≤ k ∧ k < 3) : (ofI t (k + 1)).f ≤ (ofI t k).f ∧ (ofI t k).t ≤ (ofI t (k + 1)).t := by
  have e0 : ofI t 0 = ⟨t - t % 1, cutI (t - t % 1 + 1)⟩ := of_of ht (by rw [wid_0]; omega)
  have e1 : ofI t 1 = ⟨t - t % 10, cutI (t - t % 10 + 10)⟩ := of_of ht (by rw [wid_1]; omega)
  have e2 : ofI t 2 = ⟨t - t % 60, cutI (t - t % 60 + 60)⟩ := of_of ht (by rw [wid_2]; omega)
  have e3 : ofI t 3 = ⟨t - t % 3600, cutI (t - t % 3600 + 3600)⟩ := of_of ht (by rw [wid_3]; omega)
  have hc : k = 0 ∨ k = 1 ∨ k = 2 := by omega
  rcases hc with rfl | rfl | rfl
  · rw [show (0 + 1 : Int) = 1 from rfl, e0, e1]
    unfold cutI
    dsimp only
    split <;> split <;> omega
  · rw [show (1 + 1 : Int) = 2 from rfl, e1, e2]
    unfold cutI
    dsimp only
    split <;> split <;> omega
  · rw [show (2 + 1 : Int) = 3 from rfl, e2, e3]
    unfold cutI
    dsimp only
    split <;> split <;> omega
end Go.Proofs.YtdkenokjdiamhaaDoor
