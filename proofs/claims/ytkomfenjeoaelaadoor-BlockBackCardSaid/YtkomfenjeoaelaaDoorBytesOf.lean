/- A text made into a new slice of bytes, a byte of it stored, and the slice made into a text again. It is of no program. -/
import Derived.WalkKit
import Derived.Handy
import Derived.Below
import Derived.Laws.IdiomStrings
import Derived.Laws.AppendOwn
import Derived.Laws.BitsAllLaws
namespace Go.Proofs.YtkomfenjeoaelaaDoor
open Go.RowKit

/-- Block b holds the bytes l, from its head on, and they may be written. -/
def BytesAt (w : World) (b : Nat) (l : List UInt8) : Prop := ∀ j (h : j < l.length), w.cell? ⟨b, j, none⟩ = some (.int .u8 (l[j].toNat : Int)) ∧ w.frozen? ⟨b, j, none⟩ = false

theorem bytes_made (P : Program) (src dst e : TypeId) (s : ByteArray) (hs : P.underlying src = some .string) (hd : P.underlying dst = some (.slice e)) (he : P.underlying e = some (.int .u8)) (w : World) :
    ∃ cap w', s.size ≤ cap ∧ (convert src dst (.string s)).run P w = .ok (.slice (some ⟨w.heap.size, 0, none⟩) s.size cap) w' ∧ Below w.heap.size w w' ∧ BytesAt w' w.heap.size s.data.toList ∧ w.heap.size < w'.heap.size := by
  refine ⟨grownCap w s.size 0 e, _, ?_, run_bytes_of_string w src dst e s hs hd he, ((Below.refl _ _).drew).alloc (by simp) _, ?_, by simp⟩
  · exact grownCap_ge w s.size 0 e
  · intro j hj
    have hj' : j < s.data.size := by simpa using hj
    constructor
    · rw [show w.heap.size = w.drew.heap.size from rfl, World.cell?_alloc_mark, bytesRow_at _ _ _ hj']
      simp
    · rw [show w.heap.size = w.drew.heap.size from rfl, World.frozen?_alloc_mark]
      have : j < (bytesRow s (grownCap w s.size 0 e)).size := by unfold bytesRow; rw [Array.size_append, Array.size_map]; omega
      simp; omega

theorem BytesAt.stored {w : World} {b : Nat} {l : List UInt8} (h : BytesAt w b l) (n : Nat) (x : UInt8) (z : Int) (hz : z = (x.toNat : Int)) : BytesAt (w.setCell ⟨b, n, none⟩ (.int .u8 z)) b (l.set n x) := by
  subst hz
  intro j hj
  have hj' : j < l.length := by simpa using hj
  have hf : (w.setCell ⟨b, n, none⟩ (.int .u8 (x.toNat : Int))).frozen? ⟨b, j, none⟩ = false := by simp [go_sem, (h j hj').2]
  refine ⟨?_, hf⟩
  rw [List.getElem_set]
  by_cases e : n = j
  · subst e
    simp [go_sem, (h n hj').1]
  · rw [if_neg e]
    rw [World.cell?_setCell_other]
    · exact (h j hj').1
    · intro e2
      exact e (congrArg Addr.off e2)

theorem BytesAt.back {P : Program} {w : World} {b : Nat} {l : List UInt8} (h : BytesAt w b l) (src dst e : TypeId) (hs : P.underlying src = some (.slice e)) (he : P.underlying e = some (.int .u8)) (hd : P.underlying dst = some .string) (n cap : Nat) (hn : n = l.length) :
    (convert src dst (.slice (some ⟨b, 0, none⟩) n cap)).run P w = .ok (.string ⟨l.toArray⟩) w := by
  subst hn
  refine run_convert_bytes_back (P := P) w src dst e ⟨b, 0, none⟩ cap l hs he hd fun j hj => ?_
  have hp : (⟨b, 0, none⟩ : Addr).add j = ⟨b, j, none⟩ := by unfold Addr.add; split <;> simp_all
  rw [hp]; exact (h j hj).1
theorem BytesAt.below {w w' : World} {b B : Nat} {l : List UInt8} (h : BytesAt w b l) (k : Below B w w') (hB : b < B) : BytesAt w' b l := fun j hj =>
  ⟨(k.cell (p := ⟨b, j, none⟩) hB).trans (h j hj).1, (k.frozen (p := ⟨b, j, none⟩) hB).trans (h j hj).2⟩
theorem xor8_is (a b : UInt8) : bits .xor .u8 (a.toNat : Int) (b.toNat : Int) = ((a ^^^ b).toNat : Int) := by
  rw [u8_xor_nat _ _ a.toNat_lt b.toNat_lt, UInt8.toNat_xor]
/-- A text's bytes in a new slice, the n-th one stored anew, and the text that then stands there. -/
theorem turned_text (P : Program) (ts tb te : TypeId) (hs : P.underlying ts = some .string) (hb : P.underlying tb = some (.slice te)) (he : P.underlying te = some (.int .u8)) (u v : ByteArray) (n : Nat) (hn : n < u.data.toList.length) (y : UInt8)
    (hv : v = ⟨(u.data.toList.set n y).toArray⟩) (w : World) :
    ∃ cap w', u.size ≤ cap ∧ (convert ts tb (.string u)).run P w = .ok (.slice (some ⟨w.heap.size, 0, none⟩) u.size cap) w' ∧ w'.cell? ⟨w.heap.size, n, none⟩ = some (.int .u8 (u.data.toList[n].toNat : Int)) ∧ w'.frozen? ⟨w.heap.size, n, none⟩ = false ∧
      (convert tb ts (.slice (some ⟨w.heap.size, 0, none⟩) u.size cap)).run P (w'.setCell ⟨w.heap.size, n, none⟩ (.int .u8 (y.toNat : Int))) = .ok (.string v) (w'.setCell ⟨w.heap.size, n, none⟩ (.int .u8 (y.toNat : Int))) ∧
      Below w.heap.size w (w'.setCell ⟨w.heap.size, n, none⟩ (.int .u8 (y.toNat : Int))) := by
  obtain ⟨cap, w', h1, h2, h3, h4, _⟩ := bytes_made P ts tb te u hs hb he w
  refine ⟨cap, w', h1, h2, (h4 n hn).1, (h4 n hn).2, ?_, h3.setCell (Nat.le_refl _) _⟩
  rw [hv]
  exact (h4.stored n y _ rfl).back tb ts te hb he hs u.size cap (by simp)

/-- The place that a law takes of any number: its rest by m, of one below 0 that of its complement; in the walk's two spellings. -/
theorem place (at_ : Int) (m : Nat) (h0 : 0 < m) : ∃ n : Nat, n < m ∧ (0 ≤ at_ → at_ % (m : Int) = (n : Int)) ∧ (at_ < 0 → (at_ + 1).tmod (m : Int) = -(n : Int)) := by
  by_cases h : 0 ≤ at_
  · have h1 := Int.emod_nonneg at_ (b := (m : Int)) (by omega)
    have h2 := Int.emod_lt_of_pos at_ (b := (m : Int)) (by omega)
    exact ⟨(at_ % (m : Int)).toNat, by omega, fun _ => by omega, fun h' => by omega⟩
  · have h1 := Int.emod_nonneg (-(at_ + 1)) (b := (m : Int)) (by omega)
    have h2 := Int.emod_lt_of_pos (-(at_ + 1)) (b := (m : Int)) (by omega)
    refine ⟨((-(at_ + 1)) % (m : Int)).toNat, by omega, fun h' => by omega, fun _ => ?_⟩
    have e := Int.tmod_eq_emod_of_nonneg (a := -(at_ + 1)) (b := (m : Int)) (by omega)
    rw [Int.neg_tmod] at e
    omega
end Go.Proofs.YtkomfenjeoaelaaDoor
