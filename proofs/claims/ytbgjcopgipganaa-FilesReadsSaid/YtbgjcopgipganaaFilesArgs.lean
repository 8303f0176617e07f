/- Slices of numbers and of texts that came in. -/
import Derived.Test.YtbgjcopgipganaaFilesNilWalk
import Derived.Lib.SmallJoins
import Derived.Deep.Strs
import Derived.OpenShut
import Derived.SliceStrings
import Derived.ChangeSlices
import Derived.Deep.DeepHandedRow
namespace Go.Proofs.Ytbgjcopgipganaa
open Go.RowKit

/-- A slice of numbers that came in: empty, or each of its cells holds a number. -/
def ArgInts (w : World) (a : Option Addr) (len cap : Nat) : Prop :=
  len = 0 ∨ ∃ (b off : Nat) (l : List Int), a = some ⟨b, off, none⟩ ∧ l.length = len ∧ len ≤ cap ∧ cap ≤ maxLen ∧ (∀ j (h : j < l.length), w.cell? ⟨b, off + j, none⟩ = some (.int .i64 l[j])) ∧ ∀ n ∈ l, -9223372036854775808 ≤ n ∧ n ≤ 9223372036854775807
/-- A slice of texts that came in. -/
def ArgStrs (w : World) (a : Option Addr) (len cap : Nat) : Prop :=
  len = 0 ∨ ∃ (b off : Nat) (l : List ByteArray), a = some ⟨b, off, none⟩ ∧ l.length = len ∧ len ≤ cap ∧ cap ≤ maxLen ∧ (∀ j (h : j < l.length), w.cell? ⟨b, off + j, none⟩ = some (.string l[j])) ∧ ∀ s ∈ l, s.size ≤ maxLen

theorem argInts_of {H : Type} {enc : TypeId × Value → H} {w : World} {base fuel : Nat} {sp : Nat → Bool} {hd : Bool} {a : Option Addr} {len cap : Nat} {t e : TypeId} {x : DataW H × List MemPlace}
    (ht : Try.prog.underlying t = some (.slice e)) (he : Try.prog.underlying e = some (.int .i64)) (hc : Try.prog.cellsOf e = 1)
    (h : DataW.trod enc Try.prog w base sp hd fuel t [.slice a len cap] = some x) : ArgInts w a len cap := by
  rcases Go.ChangeShapes.open_ints ht he hc h with ⟨hcs, _⟩ | ⟨y, l, c, zs, hcs, _, hl, hm, hz, _, hcell, hwf⟩
  · simp at hcs
    exact Or.inl hcs.2.1
  · simp at hcs
    obtain ⟨rfl, rfl, rfl⟩ := hcs
    by_cases h0 : len = 0
    · exact Or.inl h0
    · have hlen : len ≤ zs.length := by rw [hz]; split <;> omega
      obtain ⟨b, off, spot⟩ := y
      have hc := hcell 0 (by omega)
      have hspot : spot = none := by simpa [Addr.add] using World.cell?_spot hc
      subst hspot
      have hp : ∀ j, (⟨b, off, none⟩ : Addr).add j = ⟨b, off + j, none⟩ := fun j => by unfold Addr.add; split <;> simp_all
      refine Or.inr ⟨b, off, zs.take len, rfl, by rw [List.length_take]; omega, hl, hm, fun j hj => ?_, fun n hn => ?_⟩
      · rw [List.length_take] at hj
        rw [← hp, hcell j (by omega), List.getElem_take, List.getD_eq_getElem?_getD, List.getElem?_eq_getElem (by omega)]; rfl
      · have := bounds_i64 (hwf n (List.mem_of_mem_take hn))
        omega
theorem argStrs_of {H : Type} {enc : TypeId × Value → H} {w : World} {base fuel : Nat} {sp : Nat → Bool} {hd : Bool} {a : Option Addr} {len cap : Nat} {t e : TypeId} {x : DataW H × List MemPlace}
    (ht : Try.prog.underlying t = some (.slice e)) (he : Try.prog.underlying e = some .string) (hc : Try.prog.cellsOf e = 1)
    (h : DataW.trod enc Try.prog w base sp hd fuel t [.slice a len cap] = some x) : ArgStrs w a len cap := by
  rcases Go.ChangeShapes.open_strings ht he hc h with ⟨hcs, _⟩ | ⟨y, l, c, zs, hcs, _, hl, hm, hz, _, hcell, hwf⟩
  · simp at hcs
    exact Or.inl hcs.2.1
  · simp at hcs
    obtain ⟨rfl, rfl, rfl⟩ := hcs
    by_cases h0 : len = 0
    · exact Or.inl h0
    · have hlen : len ≤ zs.length := by rw [hz]; split <;> omega
      obtain ⟨b, off, spot⟩ := y
      have hc := hcell 0 (by omega)
      have hspot : spot = none := by simpa [Addr.add] using World.cell?_spot hc
      subst hspot
      have hp : ∀ j, (⟨b, off, none⟩ : Addr).add j = ⟨b, off + j, none⟩ := fun j => by unfold Addr.add; split <;> simp_all
      refine Or.inr ⟨b, off, zs.take len, rfl, by rw [List.length_take]; omega, hl, hm, fun j hj => ?_, fun s hs => hwf s (List.mem_of_mem_take hs)⟩
      rw [List.length_take] at hj
      rw [← hp, hcell j (by omega), List.getElem_take, List.getD_eq_getElem?_getD, List.getElem?_eq_getElem (by omega)]; rfl

theorem ss_of_args {w : World} {a : Option Addr} {len cap : Nat} (h : ArgStrs w a len cap) : ∃ l : List ByteArray, l.length = len ∧ Ss w (.slice a len cap) l := by
  rcases h with h0 | ⟨b, off, l, h1, h2, h3, h4, h5, h6⟩
  · subst h0
    exact ⟨[], rfl, ⟨⟨a, cap, rfl, Or.inl rfl⟩, fun s hs => by simp at hs, by simp⟩⟩
  · refine ⟨l, h2, ⟨⟨a, cap, by rw [h2], ?_⟩, h6, by unfold maxLen at h4; omega⟩⟩
    by_cases h0 : l = []
    · exact Or.inl h0
    · have hl : 0 < l.length := List.length_pos_iff.2 h0
      have hc := h5 0 hl
      exact Or.inr ⟨b, off, h1, World.block_lt_of_cell? w _ hc, h5⟩
theorem is_of_args {w : World} {a : Option Addr} {len cap : Nat} (h : ArgInts w a len cap) : ∃ l : List Int, l.length = len ∧ Is w (.slice a len cap) l := by
  rcases h with h0 | ⟨b, off, l, h1, h2, h3, h4, h5, h6⟩
  · subst h0
    exact ⟨[], rfl, ⟨⟨a, cap, rfl, Or.inl rfl⟩, fun s hs => by simp at hs, by simp⟩⟩
  · refine ⟨l, h2, ⟨⟨a, cap, by rw [h2], ?_⟩, h6, by unfold maxLen at h4; omega⟩⟩
    by_cases h0 : l = []
    · exact Or.inl h0
    · have hl : 0 < l.length := List.length_pos_iff.2 h0
      have hc := h5 0 hl
      exact Or.inr ⟨b, off, h1, World.block_lt_of_cell? w _ hc, h5⟩
theorem Is.cell0 {w : World} {a : Option Addr} {n c : Nat} {x : Int} {t : List Int} (h : Is w (.slice a n c) (x :: t)) (_hn : n = t.length + 1) : ∃ b off, a = some ⟨b, off, none⟩ ∧ b < w.heap.size ∧ w.cell? ⟨b, off, none⟩ = some (.int .i64 x) := by
  obtain ⟨a', cap, h1, h2⟩ := h.shape
  injection h1 with e1 e2 e3
  subst e1
  rcases h2 with h2 | ⟨b, off, h3, h4, h5⟩
  · cases h2
  · exact ⟨b, off, h3, h4, h5 0 (by simp)⟩
def cutB (s : ByteArray) (n : Nat) : ByteArray := if n < s.size then s.extract 0 n else s
theorem cutB_size (s : ByteArray) (n : Nat) : (cutB s n).size ≤ n := by
  unfold cutB
  split
  · rw [ByteArray.size_extract]; omega
  · omega
theorem short_is (s t : ByteArray) (n : Nat) (m : Int) (w : World) (hm : m = (n : Int)) (hn : n ≤ 2000) (ht : Hid (cutB s n = t)) : Calls Try.prog 13 #[.string s, .int .i64 m] w fun e w' => e = .returned (.string t) ∧ w = w' := by
  by_cases h : n < s.size
  · have H := Lib.hid (show s.extract 0 n = t by rw [← ht.out]; exact (if_pos h).symm)
    subst hm
    go_enter Try.func13, Try.ntmps13
    go_wp2
    go_ret
    exact ⟨by rw [← H.out]; rfl, rfl⟩
  · have H := Lib.hid (show s = t by rw [← ht.out]; exact (if_neg h).symm)
    subst hm
    go_enter Try.func13, Try.ntmps13
    go_wp2
    go_ret
    exact ⟨by rw [← H.out]; rfl, rfl⟩
end Go.Proofs.Ytbgjcopgipganaa
