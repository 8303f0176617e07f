/- The chapter's examples, as mathematics. -/
import Derived.Test.YtbgjcopgipganaaFilesDirs
set_option maxRecDepth 20000
set_option linter.unusedSimpArgs false
namespace Go.Proofs.Ytbgjcopgipganaa
open Go.RowKit Go.Maps Go.Shelf

abbrev TA : ByteArray := ⟨#[97]⟩
abbrev TB : ByteArray := ⟨#[98]⟩
abbrev XYZ : ByteArray := ⟨#[120, 121, 122]⟩
abbrev XYZU : ByteArray := ⟨#[120, 121, 122, 117]⟩
def F1 (q : Nat) : FS := ⟨100, [([97], q)], [], [.mk [97] q], true, false, 0, [⟨q, ⟨#[]⟩, 0⟩]⟩
def F2 (q : Nat) : FS := ⟨100, [([97], q)], [], [.mk [97] q], true, false, 0, [⟨q, XYZ, 0⟩]⟩
def F3 (q : Nat) : FS := ⟨100, [], [], [], true, false, 0, [⟨q, XYZ, 0⟩]⟩
theorem aw_f1 (q : Nat) : createS (emptyS 100) TA q = (0, F1 q) := rfl
theorem filQ_one (q : Nat) (s : ByteArray) (k : Nat) : filQ [⟨q, s, k⟩] q = some ⟨q, s, k⟩ := by simp [filQ]
theorem updQ_one (q : Nat) (s t : ByteArray) (k j : Nat) : updQ [⟨q, s, k⟩] q t j = [⟨q, t, j⟩] := by simp [updQ]
theorem find_a {S : FS} {q : Nat} (h1 : S.on = true) (h2 : S.now = [([97], q)]) : findS S TA = (some q, 0) := by
  unfold findS checkS
  rw [h1, h2]; rfl
theorem used_one {S : FS} {n : Nm} {q k : Nat} {s : ByteArray} (h2 : S.now = [(n, q)]) (h3 : S.fil = [⟨q, s, k⟩]) : usedS S = s.size := by
  unfold usedS
  rw [h2, h3]
  show szQ _ q + 0 = _
  unfold szQ; rw [filQ_one]; rfl
theorem app_a {S : FS} {q k : Nat} {s t : ByteArray} (h1 : S.on = true) (h2 : S.now = [([97], q)]) (h3 : S.fil = [⟨q, s, k⟩]) (h4 : (s.size : Int) + (t.size : Int) ≤ S.room) (h5 : S.armed = false) : appendS S TA t = (0, { S with fil := [⟨q, s ++ t, k⟩] }) := by
  unfold appendS
  rw [find_a h1 h2]
  dsimp only
  rw [used_one h2 h3, if_neg (by omega)]
  unfold filS
  rw [h3, filQ_one]
  show stepD (updS S q (s ++ t) k) = _
  unfold stepD stepS updS
  rw [if_pos h5, h3, updQ_one]; rfl
theorem aw_f2 (q : Nat) : appendS (F1 q) TA XYZ = (0, F2 q) := by
  rw [app_a rfl rfl rfl (by show _ ≤ (100 : Int); decide) rfl]; rfl
theorem aw_f3 (q : Nat) : crashS (F2 q) [] = F3 q := rfl
def G2 (q : Nat) : FS := ⟨100, [([97], q)], [([97], q)], [], true, false, 0, [⟨q, ⟨#[]⟩, 0⟩]⟩
def G3 (q : Nat) : FS := ⟨100, [([97], q)], [([97], q)], [], true, false, 0, [⟨q, XYZ, 0⟩]⟩
def G4 (q : Nat) : FS := ⟨100, [([97], q)], [([97], q)], [], true, false, 0, [⟨q, XYZ, 3⟩]⟩
def G5 (q : Nat) : FS := ⟨100, [([97], q)], [([97], q)], [], true, false, 0, [⟨q, XYZ ++ ⟨#[117, 118]⟩, 3⟩]⟩
def G6 (q : Nat) : FS := ⟨100, [([97], q)], [([97], q)], [], true, false, 0, [⟨q, (XYZ ++ ⟨#[117, 118]⟩ : ByteArray).extract 0 4, 4⟩]⟩
theorem aw_g2 (q : Nat) : syncDirS (F1 q) = (0, G2 q) := rfl
theorem aw_g3 (q : Nat) : appendS (G2 q) TA XYZ = (0, G3 q) := by
  rw [app_a rfl rfl rfl (by show _ ≤ (100 : Int); decide) rfl]; rfl
theorem aw_g4 (q : Nat) : syncS (G3 q) TA = (0, G4 q) := by
  unfold syncS
  rw [find_a rfl rfl]
  dsimp only
  rw [if_pos (show (stepS (G3 q)).1 = true from rfl)]
  unfold filS updS
  rw [show (stepS (G3 q)).2 = G3 q from rfl, show (G3 q).fil = [⟨q, XYZ, 0⟩] from rfl, filQ_one, updQ_one]; rfl
theorem aw_g5 (q : Nat) : appendS (G4 q) TA ⟨#[117, 118]⟩ = (0, G5 q) := by
  rw [app_a rfl rfl rfl (by show _ ≤ (100 : Int); decide) rfl]; rfl
theorem aw_g6 (q : Nat) : crashS (G5 q) [0, 1] = G6 q := by
  have e : crashS (G5 q) [0, 1] = { G5 q with fil := cutQ [0, 1] 1 q [⟨q, XYZ ++ ⟨#[117, 118]⟩, 3⟩] } := rfl
  rw [e]; unfold cutQ
  rw [filQ_one]; dsimp only
  rw [updQ_one]; rfl
theorem aw_g7 (q : Nat) : readS (G6 q) TA = (XYZU, 0) := by
  unfold readS
  rw [find_a rfl rfl]
  dsimp only
  unfold filS
  rw [show (G6 q).fil = [⟨q, (XYZ ++ ⟨#[117, 118]⟩ : ByteArray).extract 0 4, 4⟩] from rfl, filQ_one]
  show ((XYZ ++ ⟨#[117, 118]⟩ : ByteArray).extract 0 4, (0 : Int)) = _
  rw [show (XYZ ++ ⟨#[117, 118]⟩ : ByteArray).extract 0 4 = XYZU by decide]
def H2 (q r : Nat) : FS := ⟨100, [([97], q), ([98], r)], [], [.mk [97] q, .mk [98] r], true, false, 0, [⟨q, ⟨#[]⟩, 0⟩, ⟨r, ⟨#[]⟩, 0⟩]⟩
theorem aw_h2 (q r : Nat) : createS (F1 q) TB r = (0, H2 q r) := rfl
theorem aw_h3 (q r : Nat) : (crashS (H2 q r) [1]).now = [([97], q)] := rfl
end Go.Proofs.Ytbgjcopgipganaa
