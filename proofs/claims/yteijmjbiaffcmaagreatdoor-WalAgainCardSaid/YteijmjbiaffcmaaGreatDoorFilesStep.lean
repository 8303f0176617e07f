/- Steps, power, the room; which names may be. -/
import Derived.Test.YteijmjbiaffcmaaGreatDoorFilesAt
import Derived.Lib.Hide
import Derived.Deep.CutRange
import Derived.Deep.LoopGhost
import Derived.WalkMore
set_option maxRecDepth 20000
set_option linter.unusedSimpArgs false
namespace Go.Proofs.YteijmjbiaffcmaaGreatDoor.Fi
open Go.RowKit Go.Maps Go.Shelf

def stepS (S : FS) : Bool × FS := if S.armed = false then (true, S) else if 0 < S.left then (true, { S with left := S.left - 1 }) else (false, { S with on := false })
def tell (b : Bool) : Int := if b then 0 else 14
theorem FsAt.cells {w : World} {b : Nat} {S : FS} {L : Lay} (h : FsAt w b S L) : w.cell? ⟨b, 0, none⟩ = some (.int .i64 S.room) ∧ w.cell? ⟨b, 1, none⟩ = some (.map L.bn) ∧ w.cell? ⟨b, 2, none⟩ = some (.map L.bf) ∧ w.cell? ⟨b, 3, none⟩ = some L.vc ∧ w.cell? ⟨b, 4, none⟩ = some (.bool S.on) ∧ w.cell? ⟨b, 5, none⟩ = some (.bool S.armed) ∧ w.cell? ⟨b, 6, none⟩ = some (.int .i64 S.left) :=
  ⟨cell_of h.hb, cell_of h.hb, cell_of h.hb, cell_of h.hb, cell_of h.hb, cell_of h.hb, cell_of h.hb⟩
/-- A method has answered e. -/
def FDone (b : Nat) (S S' : FS) (L : Lay) (v : Value) (w : World) (e : Ending) (w' : World) : Prop := ∃ L', e = .returned v ∧ Went w w' b S S' L L'
theorem step_is (b : Nat) (S : FS) (L : Lay) (w : World) (h : FsAt w b S L) (hl : 0 ≤ S.left ∧ S.left ≤ 9223372036854775807) : Calls Tryz.prog 91 #[.pointer (some ⟨b, 0, none⟩)] w fun e w' => e = .returned (.int .i64 (tell (stepS S).1)) ∧ Went w w' b S (stepS S).2 L L := by
  obtain ⟨-, -, -, -, c4, c5, c6⟩ := h.cells
  have f4 := frozen_of (j := 4) h.hb
  have f6 := frozen_of (j := 6) h.hb
  cases ha : S.armed with
  | false =>
    have HS := Lib.hid (show stepS S = (true, S) from if_pos ha)
    have HW := Lib.hid (Went.refl h)
    rw [ha] at c5
    clear h
    go_enter Tryz.func91, Tryz.ntmps91
    go_wp2
    go_ret
    exact ⟨by rw [HS.out]; rfl, by rw [HS.out]; exact HW.out⟩
  | true =>
    rw [ha] at c5
    by_cases hp : 0 < S.left
    · have HS := Lib.hid (show stepS S = (true, { S with left := S.left - 1 }) by unfold stepS; rw [if_neg (by rw [ha]; decide), if_pos hp])
      have HW := Lib.hid (Went.set h { S with left := S.left - 1 } 6 (.int .i64 (S.left - 1)) rfl rfl rfl rfl rfl)
      have hwr : IntKind.i64.wrap (S.left - 1) = S.left - 1 := by rw [IntKind.wrap_i64]; omega
      clear h
      go_enter Tryz.func91, Tryz.ntmps91
      go_wp2
      go_ret
      exact ⟨by rw [HS.out]; rfl, by rw [HS.out]; exact HW.out⟩
    · have HS := Lib.hid (show stepS S = (false, { S with on := false }) by unfold stepS; rw [if_neg (by rw [ha]; decide), if_neg hp])
      have HW := Lib.hid (Went.set h { S with on := false } 4 (.bool false) rfl rfl rfl rfl rfl)
      clear h
      go_enter Tryz.func91, Tryz.ntmps91
      go_wp2
      go_ret
      exact ⟨by rw [HS.out]; rfl, by rw [HS.out]; exact HW.out⟩
def roomI (n : Int) : Int := min (max n 0) 1099511627776
theorem limit_is (b : Nat) (S : FS) (L : Lay) (n : Int) (w : World) (h : FsAt w b S L) : Calls Tryz.prog 27 #[.pointer (some ⟨b, 0, none⟩), .int .i64 n] w fun e w' => e = .returned (.tuple #[]) ∧ Went w w' b S { S with room := roomI n } L L := by
  have f0 := frozen_of (j := 0) h.hb
  obtain ⟨c0, -⟩ := h.cells
  have HW := Lib.hid (Went.set h { S with room := roomI n } 0 (.int .i64 (roomI n)) rfl rfl rfl rfl rfl)
  clear h
  go_enter Tryz.func27, Tryz.ntmps27
  go_wp2
  go_end0
  exact ⟨rfl, HW.out⟩
theorem arm_is (b : Nat) (S : FS) (L : Lay) (n : Int) (w : World) (h : FsAt w b S L) : Calls Tryz.prog 28 #[.pointer (some ⟨b, 0, none⟩), .int .i64 n] w fun e w' => e = .returned (.tuple #[]) ∧ Went w w' b S { S with armed := true, left := max n 0 } L L := by
  have f5 := frozen_of (j := 5) h.hb
  have f6 := frozen_of (j := 6) h.hb
  obtain ⟨-, -, -, -, -, c5, c6⟩ := h.cells
  have h1 := Went.set h { S with armed := true } 5 (.bool true) rfl rfl rfl rfl rfl
  have HW := Lib.hid (h1.trans (Went.set h1.at_ { S with armed := true, left := max n 0 } 6 (.int .i64 (max n 0)) rfl rfl rfl rfl rfl))
  clear h h1
  go_enter Tryz.func28, Tryz.ntmps28
  go_wp2
  go_end0
  exact ⟨rfl, HW.out⟩
/-- The bytes that a name may have. -/
def inN (b : UInt8) : Bool := (97 ≤ b.toNat && b.toNat ≤ 122) || (48 ≤ b.toNat && b.toNat ≤ 57) || b.toNat == 46
def okN (n : Nm) : Bool := decide (1 ≤ n.length) && decide (n.length ≤ 20) && n.all inN
theorem inname_is (x : UInt8) (w : World) : Calls Tryz.prog 132 #[.int .u8 (x.toNat : Int)] w fun e w' => e = .returned (.bool (inN x)) ∧ w = w' := by
  obtain ⟨z, hz⟩ : ∃ z, inN x = z := ⟨_, rfl⟩
  have HZ := Lib.hid hz
  rw [hz]
  unfold inN at hz
  obtain ⟨m, hm⟩ : ∃ m, x.toNat = m := ⟨_, rfl⟩
  rw [hm] at hz ⊢
  clear hm
  by_cases h1 : 97 ≤ m
  · have g1 : (97 : Int) ≤ (m : Int) := by omega
    by_cases h2 : m ≤ 122
    · have g2 : (m : Int) ≤ 122 := by omega
      have hzt := Lib.hid (show true = z by rw [← hz]; simp [h1, h2])
      clear hz h1 h2
      go_enter Tryz.func132, Tryz.ntmps132
      go_wp2
      go_ret
      exact ⟨by rw [← hzt.out]; rfl, rfl⟩
    · have g2 : ¬ (m : Int) ≤ 122 := by omega
      have g3 : (48 : Int) ≤ (m : Int) := by omega
      have g4 : ¬ (m : Int) ≤ 57 := by omega
      have g5 : ((m : Int) == 46) = false := by simp; omega
      have hzt := Lib.hid (show false = z by rw [← hz]; simp [h2]; omega)
      clear hz h1 h2
      go_enter Tryz.func132, Tryz.ntmps132
      go_wp2
      go_ret
      exact ⟨by rw [← hzt.out]; rfl, rfl⟩
  · have g1 : ¬ (97 : Int) ≤ (m : Int) := by omega
    by_cases h2 : 48 ≤ m
    · have g2 : (48 : Int) ≤ (m : Int) := by omega
      by_cases h3 : m ≤ 57
      · have g3 : (m : Int) ≤ 57 := by omega
        have hzt := Lib.hid (show true = z by rw [← hz]; simp [h2, h3])
        clear hz h1 h2 h3
        go_enter Tryz.func132, Tryz.ntmps132
        go_wp2
        go_ret
        exact ⟨by rw [← hzt.out]; rfl, rfl⟩
      · have g3 : ¬ (m : Int) ≤ 57 := by omega
        have g5 : ((m : Int) == 46) = false := by simp; omega
        have hzt := Lib.hid (show false = z by rw [← hz]; simp [h1, h3]; omega)
        clear hz h1 h2 h3
        go_enter Tryz.func132, Tryz.ntmps132
        go_wp2
        go_ret
        exact ⟨by rw [← hzt.out]; rfl, rfl⟩
    · have g2 : ¬ (48 : Int) ≤ (m : Int) := by omega
      by_cases h3 : m = 46
      · subst h3
        have hzt := Lib.hid (show true = z by rw [← hz]; rfl)
        clear hz h1 h2 g1 g2
        go_enter Tryz.func132, Tryz.ntmps132
        go_wp2
        go_ret
        exact ⟨by rw [← hzt.out]; rfl, rfl⟩
      · have g5 : ((m : Int) == 46) = false := by simp; omega
        have hzt := Lib.hid (show false = z by rw [← hz]; simp [h1, h2, h3])
        clear hz h1 h2 h3
        go_enter Tryz.func132, Tryz.ntmps132
        go_wp2
        go_ret
        exact ⟨by rw [← hzt.out]; rfl, rfl⟩
end Go.Proofs.YteijmjbiaffcmaaGreatDoor.Fi
