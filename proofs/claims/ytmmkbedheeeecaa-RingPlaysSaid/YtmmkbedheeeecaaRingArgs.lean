/- Slices of numbers and of texts that came in. -/
import Derived.Test.YtmmkbedheeeecaaRingAwake
import Derived.Lib.SmallJoins
import Derived.Deep.Strs
import Derived.OpenShut
import Derived.SliceStrings
import Derived.ChangeSlices
import Derived.Deep.DeepHandedRow
namespace Go.Proofs.Ytmmkbedheeeecaa
open Go.RowKit

/-- A slice of numbers that came in: empty, or each of its cells holds a number. -/
def ArgInts (w : World) (a : Option Addr) (len cap : Nat) : Prop :=
  len = 0 ∨ ∃ (b off : Nat) (l : List Int), a = some ⟨b, off, none⟩ ∧ l.length = len ∧ len ≤ cap ∧ cap ≤ maxLen ∧ (∀ j (h : j < l.length), w.cell? ⟨b, off + j, none⟩ = some (.int .i64 l[j])) ∧ ∀ n ∈ l, -9223372036854775808 ≤ n ∧ n ≤ 9223372036854775807
/-- A slice of texts that came in. -/
def ArgStrs (w : World) (a : Option Addr) (len cap : Nat) : Prop :=
  len = 0 ∨ ∃ (b off : Nat) (l : List ByteArray), a = some ⟨b, off, none⟩ ∧ l.length = len ∧ len ≤ cap ∧ cap ≤ maxLen ∧ (∀ j (h : j < l.length), w.cell? ⟨b, off + j, none⟩ = some (.string l[j])) ∧ ∀ s ∈ l, s.size ≤ maxLen

theorem argInts_of {H : Type} {enc : TypeId × Value → H} {w : World} {base fuel : Nat} {sp : Nat → Bool} {hd : Bool} {a : Option Addr} {len cap : Nat} {t e : TypeId} {x : DataW H × List MemPlace}
    (ht : Try.prog.underlying t = some (.slice e)) (he : Try.prog.underlying e = some (.int .i64)) (hc : Try.prog.cellsOf e = 1)
    (h : DataW.trod enc Try.prog w base sp hd fuel t [.slice a len cap] = some x) : ArgInts w a len cap := by
  rcases Go.ChangeShapes.open_ints ht he hc h with ⟨hcs, _⟩ | ⟨y, l, c, zs, hcs, _, hl, hm, hz, _, hcell, hwf⟩
  · simp at hcs
    exact Or.inl hcs.2.1
  · simp at hcs
    obtain ⟨rfl, rfl, rfl⟩ := hcs
    by_cases h0 : len = 0
    · exact Or.inl h0
    · have hlen : len ≤ zs.length := by rw [hz]; split <;> omega
      obtain ⟨b, off, spot⟩ := y
      have hc := hcell 0 (by omega)
      have hspot : spot = none := by simpa [Addr.add] using World.cell?_spot hc
      subst hspot
      have hp : ∀ j, (⟨b, off, none⟩ : Addr).add j = ⟨b, off + j, none⟩ := fun j => by unfold Addr.add; split <;> simp_all
      refine Or.inr ⟨b, off, zs.take len, rfl, by rw [List.length_take]; omega, hl, hm, fun j hj => ?_, fun n hn => ?_⟩
      · rw [List.length_take] at hj
        rw [← hp, hcell j (by omega), List.getElem_take, List.getD_eq_getElem?_getD, List.getElem?_eq_getElem (by omega)]; rfl
      · have := bounds_i64 (hwf n (List.mem_of_mem_take hn))
        omega
theorem argStrs_of {H : Type} {enc : TypeId × Value → H} {w : World} {base fuel : Nat} {sp : Nat → Bool} {hd : Bool} {a : Option Addr} {len cap : Nat} {t e : TypeId} {x : DataW H × List MemPlace}
    (ht : Try.prog.underlying t = some (.slice e)) (he : Try.prog.underlying e = some .string) (hc : Try.prog.cellsOf e = 1)
    (h : DataW.trod enc Try.prog w base sp hd fuel t [.slice a len cap] = some x) : ArgStrs w a len cap := by
  rcases Go.ChangeShapes.open_strings ht he hc h with ⟨hcs, _⟩ | ⟨y, l, c, zs, hcs, _, hl, hm, hz, _, hcell, hwf⟩
  · simp at hcs
    exact Or.inl hcs.2.1
  · simp at hcs
    obtain ⟨rfl, rfl, rfl⟩ := hcs
    by_cases h0 : len = 0
    · exact Or.inl h0
    · have hlen : len ≤ zs.length := by rw [hz]; split <;> omega
      obtain ⟨b, off, spot⟩ := y
      have hc := hcell 0 (by omega)
      have hspot : spot = none := by simpa [Addr.add] using World.cell?_spot hc
      subst hspot
      have hp : ∀ j, (⟨b, off, none⟩ : Addr).add j = ⟨b, off + j, none⟩ := fun j => by unfold Addr.add; split <;> simp_all
      refine Or.inr ⟨b, off, zs.take len, rfl, by rw [List.length_take]; omega, hl, hm, fun j hj => ?_, fun s hs => hwf s (List.mem_of_mem_take hs)⟩
      rw [List.length_take] at hj
      rw [← hp, hcell j (by omega), List.getElem_take, List.getD_eq_getElem?_getD, List.getElem?_eq_getElem (by omega)]; rfl

/-- What a slice of numbers that came in is. -/
theorem ns_of_args {w : World} {a : Option Addr} {len cap : Nat} (h : ArgInts w a len cap) : ∃ l : List Int, Ns w (.slice a len cap) l ∧ Hid (∃ a' n c, Value.slice a len cap = .slice a' n c ∧ n ≤ c) := by
  rcases h with rfl | ⟨b, off, l, rfl, hl, hlc, hm, hcell, hw⟩
  · exact ⟨[], ⟨⟨a, cap, rfl, Or.inl rfl⟩, fun n h => by simp at h, by simp, Nat.le_refl _⟩, Lib.hid ⟨_, _, _, rfl, Nat.zero_le _⟩⟩
  · subst hl
    have hm' : cap ≤ 9223372036854775807 := by unfold maxLen at hm; omega
    refine ⟨l, ⟨⟨_, _, rfl, ?_⟩, hw, by omega, Nat.le_refl _⟩, Lib.hid ⟨_, _, _, rfl, hlc⟩⟩
    by_cases h0 : l = []
    · exact Or.inl h0
    · have : 0 < l.length := List.length_pos_iff.2 h0
      exact Or.inr ⟨b, off, rfl, World.block_lt_of_cell? w _ (hcell 0 this), hcell⟩
/-- What is asked: a key, an epoch, how many nodes, a node, a place. -/
structure KeyI where
  s : ByteArray
  e : Int
  m : Int
  n : Int
  p : Int
def KeyI.v (k : KeyI) : Value := .agg #[.string k.s, .int .i64 k.e, .int .i64 k.m, .int .i64 k.n, .int .i64 k.p]
structure KeyI.fits (k : KeyI) : Prop where
  s : k.s.size ≤ maxLen
  e : -9223372036854775808 ≤ k.e ∧ k.e ≤ 9223372036854775807
  m : -9223372036854775808 ≤ k.m ∧ k.m ≤ 9223372036854775807
  n : -9223372036854775808 ≤ k.n ∧ k.n ≤ 9223372036854775807
  p : -9223372036854775808 ≤ k.p ∧ k.p ≤ 9223372036854775807
theorem array5 {α : Type} {cs : Array α} (h : cs.size = 5) : ∃ c0 c1 c2 c3 c4, cs = #[c0, c1, c2, c3, c4] := by
  obtain ⟨l⟩ := cs
  match l, h with
  | [c0, c1, c2, c3, c4], _ => exact ⟨c0, c1, c2, c3, c4, rfl⟩
theorem cellsKey : Try.prog.cellsOf 29 = 5 := by kernel_rfl
theorem cellsInt : Try.prog.cellsOf 3 = 1 := by kernel_rfl
theorem cellsStr : Try.prog.cellsOf 9 = 1 := by kernel_rfl
theorem open_key {H : Type} {enc : TypeId × Value → H} {w : World} {base b0 : Nat} {sp : Nat → Bool} {held : Bool} {v : Value} {d : DataW H} {p : List MemPlace}
    (hv : Value.okWide Try.prog w .any b0 29 v) (h : DataW.Trod enc Try.prog w base sp held 29 v d p) : ∃ k : KeyI, v = k.v ∧ k.fits := by
  obtain ⟨cs, rfl, hsz⟩ := Go.WideShapes.okWide_struct Try.underlying29 hv
  rw [cellsKey] at hsz
  obtain ⟨c0, c1, c2, c3, c4, rfl⟩ := array5 hsz
  obtain ⟨fuel, hf⟩ := h
  obtain ⟨xs, n, _, _, _, hlen, hg⟩ := DataW.trod_struct Try.underlying29 hf
  match xs, hlen with
  | [y0, y1, y2, y3, y4], _ =>
    have g0 : DataW.trod enc Try.prog w base sp held n 9 (([c0, c1, c2, c3, c4].drop 0).take (Try.prog.cellsOf 9)) = some y0 := hg 0 _ rfl
    rw [cellsStr] at g0
    have g1 : DataW.trod enc Try.prog w base sp held n 3 (([c0, c1, c2, c3, c4].drop 1).take (Try.prog.cellsOf 3)) = some y1 := hg 1 _ rfl
    rw [cellsInt] at g1
    have g2 : DataW.trod enc Try.prog w base sp held n 3 (([c0, c1, c2, c3, c4].drop 2).take (Try.prog.cellsOf 3)) = some y2 := hg 2 _ rfl
    rw [cellsInt] at g2
    have g3 : DataW.trod enc Try.prog w base sp held n 3 (([c0, c1, c2, c3, c4].drop 3).take (Try.prog.cellsOf 3)) = some y3 := hg 3 _ rfl
    rw [cellsInt] at g3
    have g4 : DataW.trod enc Try.prog w base sp held n 3 (([c0, c1, c2, c3, c4].drop 4).take (Try.prog.cellsOf 3)) = some y4 := hg 4 _ rfl
    rw [cellsInt] at g4
    simp only [List.drop_zero, List.take_succ_cons, List.take_zero, List.drop_succ_cons] at g0 g1 g2 g3 g4
    obtain ⟨s, e0, _, hs⟩ := DataW.trod_string Try.underlying9 g0
    obtain ⟨n1, e1, _, w1⟩ := DataW.trod_int Try.underlying3 g1
    obtain ⟨n2, e2, _, w2⟩ := DataW.trod_int Try.underlying3 g2
    obtain ⟨n3, e3, _, w3⟩ := DataW.trod_int Try.underlying3 g3
    obtain ⟨n4, e4, _, w4⟩ := DataW.trod_int Try.underlying3 g4
    simp at e0 e1 e2 e3 e4
    have b1 := bounds_i64 w1
    have b2 := bounds_i64 w2
    have b3 := bounds_i64 w3
    have b4 := bounds_i64 w4
    exact ⟨⟨s, n1, n2, n3, n4⟩, by rw [e0, e1, e2, e3, e4]; rfl, ⟨hs, by dsimp only; omega, by dsimp only; omega, by dsimp only; omega, by dsimp only; omega⟩⟩
end Go.Proofs.Ytmmkbedheeeecaa
