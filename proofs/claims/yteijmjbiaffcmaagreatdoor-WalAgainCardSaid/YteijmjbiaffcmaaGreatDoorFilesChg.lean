/- Look-ups in folders, and the three changes of names, as closures. -/
import Derived.Test.YteijmjbiaffcmaaGreatDoorFilesNames
import Derived.Maps.OwnOps
import Derived.Maps.OwnSet
import Derived.BigQuiet
import Derived.Below
set_option maxRecDepth 20000
set_option linter.unusedSimpArgs false
namespace Go.Proofs.YteijmjbiaffcmaaGreatDoor.Fi
open Go.RowKit Go.Maps Go.Shelf

def nm (s : ByteArray) : Nm := s.data.toList
theorem nm_len (s : ByteArray) : (nm s).length = s.size := by unfold nm; rw [Array.length_toList]; rfl
theorem nm_inj {s t : ByteArray} (h : nm s = nm t) : s = t := by
  cases s; cases t; unfold nm at h; congr 1; exact Array.toList_inj.1 h
def ptrV : Option Nat → Value
  | none => .pointer none
  | some q => .pointer (some ⟨q, 0, none⟩)
theorem key_is {s : ByteArray} (h : s.size ≤ maxLen) : keyOf Tryz.prog 9 (.string s) = some (.string (nm s)) := WideMaps.keyOf_string_mk Tryz.underlying9 h
theorem look_run {w : World} {b : Nat} {M : FM} (h : MapIs w b M) (s : ByteArray) (hs : s.size ≤ maxLen) : (Instr.lookup 76 (.map (some b)) (.string s) false).run Tryz.prog w = .ok (ptrV (look M (nm s))) w := by
  obtain ⟨v, ps, hrun, hv⟩ := World.ownsMap.lookup h law Tryz.underlying76 (z := .pointer none) (by kernel_rfl) (zd := .lit (.int .i64 (-1))) (zp := []) rfl (key_is hs)
  rw [hrun]
  rw [dOf_at] at hv
  rcases ptrR_inv hv with ⟨rfl, e⟩ | ⟨q, rfl, e⟩
  · cases e2 : look M (nm s) with
    | none => rfl
    | some q =>
      rw [e2] at e
      injection e with e _
      injection e with e
      injection e with _ e
      omega
  · cases e2 : look M (nm s) with
    | none =>
      rw [e2] at e
      injection e with e _
      injection e with e
      injection e with _ e
      omega
    | some q' =>
      rw [e2] at e
      injection e with e _
      injection e with e
      injection e with _ e
      have : q' = q := by omega
      rw [this]; rfl
theorem ptrR_some (q : Nat) : ptrR (.pointer (some ⟨q, 0, none⟩)) = some (.lit (.int .i64 (q : Int)), []) := rfl
theorem mk_is (b c1 c2 q : Nat) (s : ByteArray) (M : FM) (w : World) (h : MapIs w b M) (hM : M.length ≤ 1000) (hs : s.size ≤ maxLen) (y1 : w.cell? ⟨c1, 0, none⟩ = some (.pointer (some ⟨q, 0, none⟩))) (y2 : w.cell? ⟨c2, 0, none⟩ = some (.string s)) :
    Calls Tryz.prog 111 #[.map (some b), .pointer (some ⟨c1, 0, none⟩), .pointer (some ⟨c2, 0, none⟩)] w fun e w' => e = .returned (.tuple #[]) ∧ MapIs w' b (putM (nm s) q M) ∧ w.grownBy w' (some b) := by
  have hk := key_is hs
  have h0 : w.ownsMap Tryz.prog 9 ptrR b M.length (dOf M) := h
  have hroom : M.length < maxLen := by unfold maxLen; omega
  clear h
  go_enter Tryz.func111, Tryz.ntmps111
  go_wp2_with (at_mapUpdate; refine wpList_mapUpdate_own _ rfl _ _ _ 76 rfl 9 86 law Tryz.underlying76 ptrR b M.length (dOf M) rfl h0 hroom _ _ (.string (nm s)) rfl rfl hk (.lit (.int .i64 (q : Int))) [] (ptrR_some q) ?_; intro w1 hown hg)
  rw [dOf_put] at hown
  have HO := Lib.hid (MapIs.of hown)
  have HG := Lib.hid hg
  clear hown hg
  go_wp2
  go_end0
  exact ⟨rfl, HO.out, HG.out⟩
theorem turned_grown {w w' : World} {b : Nat} (h : w.mapTurned w' b) : w.grownBy w' (some b) := h.grown
theorem del_is (b c1 : Nat) (s : ByteArray) (M : FM) (w : World) (h : MapIs w b M) (hs : s.size ≤ maxLen) (y1 : w.cell? ⟨c1, 0, none⟩ = some (.string s)) :
    Calls Tryz.prog 112 #[.map (some b), .pointer (some ⟨c1, 0, none⟩)] w fun e w' => e = .returned (.tuple #[]) ∧ MapIs w' b (delM (nm s) M) ∧ w.grownBy w' (some b) := by
  have hk := key_is hs
  have h0 : w.ownsMap Tryz.prog 9 ptrR b M.length (dOf M) := h
  clear h
  go_enter Tryz.func112, Tryz.ntmps112
  go_wp2_with (at_delete; refine wpList_delete_own _ rfl _ _ 76 9 rfl 86 law Tryz.underlying76 ptrR b M.length (dOf M) rfl h0 _ (.string (nm s)) rfl hk ?_; intro w1 hown hg)
  rw [dOf_del] at hown
  have HO := Lib.hid (MapIs.of hown)
  have HG := Lib.hid hg.grown
  clear hown hg
  go_wp2
  go_end0
  exact ⟨rfl, HO.out, HG.out⟩
end Go.Proofs.YteijmjbiaffcmaaGreatDoor.Fi
