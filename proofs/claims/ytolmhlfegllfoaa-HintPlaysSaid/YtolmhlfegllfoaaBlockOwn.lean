/- The contracts of slices.Clone at points, and of own. -/
import Derived.Test.YtolmhlfegllfoaaBlockRow
import Derived.Test.YtolmhlfegllfoaaVintB
import Derived.Deep.RegionHeld
import Derived.Test.YtolmhlfegllfoaaBlockSorted
import Derived.Lib.SliceRun
set_option maxRecDepth 20000
set_option linter.unusedSimpArgs false
namespace Go.Proofs.Ytolmhlfegllfoaa
open Go.RowKit Go.Proofs.Ytolmhlfegllfoaa.Vi Go.Proofs.Ytolmhlfegllfoaa.Mk

/-- Of lists of points: what a function hands out is its own row. -/
def OwnDone (l : List Pt) (w : World) (e : Ending) (w' : World) : Prop := ∃ v, e = .returned v ∧ PRow w' w.heap.size v l ∧ Below w.heap.size w w'
theorem setCell_noop {w : World} {b o : Nat} {v : Value} (h : w.cell? ⟨b, o, none⟩ = some v) : w.setCell ⟨b, o, none⟩ v = w := by
  unfold World.cell? at h
  unfold World.setCell
  obtain ⟨heap, tape, drawn, os, output⟩ := w
  dsimp only at *
  congr 1
  apply Array.ext
  · simp
  · intro i h1 h2
    rw [Array.getElem_modify]
    split
    · rename_i e
      subst e
      have hb : heap[b]? = some heap[b] := Array.getElem?_eq_getElem h2
      rw [hb] at h
      cases hq : heap[b] with
      | cells c t f =>
        rw [hq] at h
        simp at h
        simp only [Option.isSome_none, Bool.false_eq_true, if_false]
        congr 1
        apply Array.ext
        · simp
        · intro j g1 g2
          rw [Array.getElem_setIfInBounds]
          split
          · rename_i e
            subst e
            rw [Array.getElem?_eq_getElem g2] at h
            exact (Option.some.inj h).symm
          · rfl
      | _ => rfl
    · rfl

set_option maxHeartbeats 4000000 in
theorem clone6_is (a0 : Option Addr) (c0 : Nat) (l : List Pt) (w : World) (hS : Lst w w.heap.size a0 c0 l) (hl : l.length ≤ 900000) : Calls Try.prog 54 #[.slice a0 l.length c0] w (OwnDone l w) := by
  cases a0 with
  | none =>
    have h1 := hS.cap
    have h2 := hS.no rfl
    obtain rfl : l = [] := List.eq_nil_of_length_eq_zero (by omega)
    clear h1 hS
    subst h2
    have he := fun w => Lib.run_eql_slice_nil (P := Try.prog) w PTT 31 none 0 0 0 0 Try.underlying36
    go_enter Try.func54, Try.ntmps54
    go_wp2
    go_ret
    exact ⟨_, rfl, PRow.nil _ _, Below.refl _ _⟩
  | some ad =>
    have HS := Lib.hid hS
    have HE := Lib.hid (show PRow (w.alloc (.cells #[] 31)) w.heap.size (.slice (some ⟨w.heap.size, 0, none⟩) 0 0) [] from World.ownsRow_made w #[] 0 (Nat.le_refl _) (by decide) (by simp))
    have he := fun w => Lib.run_eql_slice_nil (P := Try.prog) w PTT 31 (some ad) l.length c0 0 0 Try.underlying36
    clear hS
    go_enter Try.func54, Try.ntmps54
    go_wp2_with (at_builtin; refine wpList_appN rfl _ _ rfl w.heap.size 0 _ [] l (some ad) l.length c0 w.heap.size rfl rfl rfl (Lib.hid rfl) HE.out (HS.out.below ((Below.refl _ _).alloc (Nat.le_refl _) _)) ?c1 ?c2 ?_)
    case c1 => omega
    case c2 => simp
    intro a' c' w' hrow _ hb _
    have HR := Lib.hid hrow.out
    have HB := Lib.hid (((Below.refl w.heap.size w).alloc (Nat.le_refl _) _).trans hb)
    clear hrow hb
    go_wp2
    go_ret
    exact ⟨_, rfl, by simpa using HR.out, HB.out⟩
theorem PRow.soft {w : World} {B b o n c : Nat} {l : List Pt} (h : PRow w B (.slice (some ⟨b, o, none⟩) n c) l) (i : Nat) : w.frozen? ⟨b, i, none⟩ = false := by
  rcases h.2 with ⟨e, _⟩ | ⟨g, cap, cur, e, _, hb, _⟩
  · cases e
  · injection e with e1
    injection e1 with e1
    injection e1 with e1 e2
    subst e1
    unfold World.frozen?
    dsimp only
    rw [hb]
    simp

end Go.Proofs.Ytolmhlfegllfoaa
