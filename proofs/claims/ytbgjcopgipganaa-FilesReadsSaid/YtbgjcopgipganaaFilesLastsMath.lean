/- What lasts, as mathematics. -/
import Derived.Test.YtbgjcopgipganaaFilesArgs
set_option maxRecDepth 20000
set_option linter.unusedSimpArgs false
namespace Go.Proofs.Ytbgjcopgipganaa
open Go.RowKit Go.Maps Go.Shelf

abbrev NEW3 : ByteArray := ⟨#[110, 101, 119]⟩
/-- The file a, whose name lasts. -/
def LA (q : Nat) (s : ByteArray) (k : Nat) : FS := ⟨100000, [([97], q)], [([97], q)], [], true, false, 0, [⟨q, s, k⟩]⟩
def LB0 (q r : Nat) (s : ByteArray) (k : Nat) (t : ByteArray) (j : Nat) : FS := ⟨100000, [([97], q), ([98], r)], [([97], q)], [.mk [98] r], true, false, 0, [⟨q, s, k⟩, ⟨r, t, j⟩]⟩
theorem la_1 (q : Nat) : createS (emptyS 100000) TA q = (0, ⟨100000, [([97], q)], [], [.mk [97] q], true, false, 0, [⟨q, ⟨#[]⟩, 0⟩]⟩) := rfl
theorem la_2 (q : Nat) : syncDirS ⟨100000, [([97], q)], [], [.mk [97] q], true, false, 0, [⟨q, ⟨#[]⟩, 0⟩]⟩ = (0, LA q ⟨#[]⟩ 0) := rfl
theorem la_app (q : Nat) (s t : ByteArray) (k : Nat) (h : s.size + t.size ≤ 100000) : appendS (LA q s k) TA t = (0, LA q (s ++ t) k) := by
  rw [app_a rfl rfl rfl (by show (s.size : Int) + (t.size : Int) ≤ (100000 : Int); omega) rfl]; rfl
theorem la_sync (q : Nat) (s : ByteArray) (k : Nat) : syncS (LA q s k) TA = (0, LA q s s.size) := by
  unfold syncS
  rw [find_a rfl rfl]
  dsimp only
  rw [if_pos (show (stepS (LA q s k)).1 = true from rfl)]
  unfold filS updS
  rw [show (stepS (LA q s k)).2 = LA q s k from rfl, show (LA q s k).fil = [⟨q, s, k⟩] from rfl, filQ_one, updQ_one]; rfl
theorem lb_1 (q r : Nat) (s : ByteArray) (k : Nat) : createS (LA q s k) TB r = (0, LB0 q r s k ⟨#[]⟩ 0) := rfl
theorem filQ_two {q r : Nat} (h : q ≠ r) (s t : ByteArray) (k j : Nat) : filQ [⟨q, s, k⟩, ⟨r, t, j⟩] q = some ⟨q, s, k⟩ ∧ filQ [⟨q, s, k⟩, ⟨r, t, j⟩] r = some ⟨r, t, j⟩ := by simp [filQ, h]
theorem updQ_two {q r : Nat} (h : q ≠ r) (s t : ByteArray) (k j : Nat) (u : ByteArray) (i : Nat) : updQ [⟨q, s, k⟩, ⟨r, t, j⟩] q u i = [⟨q, u, i⟩, ⟨r, t, j⟩] ∧ updQ [⟨q, s, k⟩, ⟨r, t, j⟩] r u i = [⟨q, s, k⟩, ⟨r, u, i⟩] := by simp [updQ, h, h.symm]
theorem find_b {S : FS} {q r : Nat} (h1 : S.on = true) (h2 : S.now = [([97], q), ([98], r)]) : findS S TB = (some r, 0) ∧ findS S TA = (some q, 0) := by
  unfold findS checkS
  rw [h1, h2]; exact ⟨rfl, rfl⟩
theorem lb_2 {q r : Nat} (hq : q ≠ r) (s : ByteArray) (k : Nat) (h : s.size ≤ 99000) : appendS (LB0 q r s k ⟨#[]⟩ 0) TB NEW3 = (0, LB0 q r s k (⟨#[]⟩ ++ NEW3) 0) := by
  have hu : usedS (LB0 q r s k ⟨#[]⟩ 0) = s.size := by
    show szQ [⟨q, s, k⟩, ⟨r, ⟨#[]⟩, 0⟩] q + (szQ [⟨q, s, k⟩, ⟨r, ⟨#[]⟩, 0⟩] r + 0) = _
    unfold szQ
    rw [(filQ_two hq _ _ _ _).1, (filQ_two hq _ _ _ _).2]
    rfl
  unfold appendS
  rw [(find_b rfl rfl : findS (LB0 q r s k ⟨#[]⟩ 0) TB = _ ∧ _).1]
  dsimp only
  rw [hu, if_neg (by show ¬ (100000 : Int) < (s.size : Int) + 3; omega)]
  unfold filS
  rw [show (LB0 q r s k ⟨#[]⟩ 0).fil = [⟨q, s, k⟩, ⟨r, ⟨#[]⟩, 0⟩] from rfl, (filQ_two hq _ _ _ _).2]
  show stepD (updS (LB0 q r s k ⟨#[]⟩ 0) r (⟨#[]⟩ ++ NEW3) 0) = _
  unfold stepD updS
  rw [show (LB0 q r s k ⟨#[]⟩ 0).fil = [⟨q, s, k⟩, ⟨r, ⟨#[]⟩, 0⟩] from rfl, (updQ_two hq _ _ _ _ _ _).2]; rfl
theorem lb_3 {q r : Nat} (hq : q ≠ r) (s t : ByteArray) (k : Nat) : syncS (LB0 q r s k t 0) TB = (0, LB0 q r s k t t.size) := by
  unfold syncS
  rw [(find_b rfl rfl : findS (LB0 q r s k t 0) TB = _ ∧ _).1]
  dsimp only
  rw [if_pos (show (stepS (LB0 q r s k t 0)).1 = true from rfl)]
  unfold filS updS
  rw [show (stepS (LB0 q r s k t 0)).2 = LB0 q r s k t 0 from rfl, show (LB0 q r s k t 0).fil = [⟨q, s, k⟩, ⟨r, t, 0⟩] from rfl, (filQ_two hq _ _ _ _).2, (updQ_two hq _ _ _ _ _ _).2]; rfl
/-- What the crash leaves: the name b or not, of a's bytes at least the synced ones. -/
theorem lb_4 {q r : Nat} (hq : q ≠ r) (s : ByteArray) (k : Nat) (l : List Int) (hk : k ≤ s.size) : ∃ m, k ≤ m ∧ m ≤ s.size ∧ readS (crashS (LB0 q r s k NEW3 3) l) TA = (s.extract 0 m, 0) ∧ readS (crashS (LB0 q r s k NEW3 3) l) TB = (if pickI l 0 1 = 1 then (NEW3, 0) else (⟨#[]⟩, 12)) := by
  have hp := pickI_le l 1 (s.size - k)
  have h2 := pickI_le l 2 0
  have h0 := pickI_le l 0 1
  refine ⟨k + pickI l 1 (s.size - k), by omega, by omega, ?_⟩
  have e1 : (LB0 q r s k NEW3 3).chg.length = 1 := rfl
  have hc1 : cutQ l 1 q [⟨q, s, k⟩, ⟨r, NEW3, 3⟩] = [⟨q, s.extract 0 (k + pickI l 1 (s.size - k)), k + pickI l 1 (s.size - k)⟩, ⟨r, NEW3, 3⟩] := by
    unfold cutQ
    rw [(filQ_two hq _ _ _ _).1]
    dsimp only
    rw [(updQ_two hq _ _ _ _ _ _).1]
  obtain ⟨u, hu⟩ : ∃ u, s.extract 0 (k + pickI l 1 (s.size - k)) = u := ⟨_, rfl⟩
  obtain ⟨m, hm⟩ : ∃ m, k + pickI l 1 (s.size - k) = m := ⟨_, rfl⟩
  rw [hu, hm] at hc1
  rw [hu]
  have hc2 : cutQ l 2 r [⟨q, u, m⟩, ⟨r, NEW3, 3⟩] = [⟨q, u, m⟩, ⟨r, NEW3, 3⟩] := by
    have h3 : pickI l 2 (NEW3.size - 3) = 0 := by show pickI l 2 0 = 0; omega
    unfold cutQ
    rw [(filQ_two hq _ _ _ _).2]
    dsimp only
    rw [h3, (updQ_two hq _ _ _ _ _ _).2]
    show [(⟨q, u, m⟩ : Fil), ⟨r, NEW3.extract 0 3, 3⟩] = _
    rw [show NEW3.extract 0 3 = NEW3 by decide]
  by_cases hz : pickI l 0 1 = 1
  · rw [if_pos hz]
    have ec : crashS (LB0 q r s k NEW3 3) l = ⟨100000, [([97], q), ([98], r)], [([97], q), ([98], r)], [], true, false, 0, [⟨q, u, m⟩, ⟨r, NEW3, 3⟩]⟩ := by
      unfold crashS
      rw [e1, hz]
      show (⟨100000, [([97], q), ([98], r)], [([97], q), ([98], r)], [], true, false, 0, cutQ l 2 r (cutQ l 1 q [⟨q, s, k⟩, ⟨r, NEW3, 3⟩])⟩ : FS) = _
      rw [hc1, hc2]
    rw [ec]
    unfold readS
    rw [(find_b rfl rfl : findS (⟨100000, [([97], q), ([98], r)], [([97], q), ([98], r)], [], true, false, 0, [⟨q, u, m⟩, ⟨r, NEW3, 3⟩]⟩ : FS) TB = _ ∧ _).1, (find_b rfl rfl : findS (⟨100000, [([97], q), ([98], r)], [([97], q), ([98], r)], [], true, false, 0, [⟨q, u, m⟩, ⟨r, NEW3, 3⟩]⟩ : FS) TB = _ ∧ _).2]
    unfold filS
    dsimp only
    rw [(filQ_two hq _ _ _ _).1, (filQ_two hq _ _ _ _).2]
    exact ⟨rfl, rfl⟩
  · rw [if_neg hz]
    have hz0 : pickI l 0 1 = 0 := by omega
    have ec : crashS (LB0 q r s k NEW3 3) l = ⟨100000, [([97], q)], [([97], q)], [], true, false, 0, [⟨q, u, m⟩, ⟨r, NEW3, 3⟩]⟩ := by
      unfold crashS
      rw [e1, hz0]
      show (⟨100000, [([97], q)], [([97], q)], [], true, false, 0, cutQ l 1 q [⟨q, s, k⟩, ⟨r, NEW3, 3⟩]⟩ : FS) = _
      rw [hc1]
    rw [ec]
    unfold readS
    rw [(find_a rfl rfl : findS (⟨100000, [([97], q)], [([97], q)], [], true, false, 0, [⟨q, u, m⟩, ⟨r, NEW3, 3⟩]⟩ : FS) TA = _)]
    rw [show findS (⟨100000, [([97], q)], [([97], q)], [], true, false, 0, [⟨q, u, m⟩, ⟨r, NEW3, 3⟩]⟩ : FS) TB = (none, 12) from rfl]
    unfold filS
    dsimp only
    rw [(filQ_two hq _ _ _ _).1]
    exact ⟨rfl, rfl⟩
end Go.Proofs.Ytbgjcopgipganaa
