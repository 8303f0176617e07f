/- Picks; what a crash leaves of a file. -/
import Derived.Test.YteijmjbiaffcmaaGreatDoorFilesCreate
import Derived.Deep.RegionWith
import Derived.BigQuiet
set_option maxRecDepth 20000
set_option linter.unusedSimpArgs false
namespace Go.Proofs.YteijmjbiaffcmaaGreatDoor.Fi
open Go.RowKit Go.Maps Go.Shelf

/-- v is a slice of the numbers l. -/
structure Is (w : World) (v : Value) (l : List Int) : Prop where
  shape : ∃ a cap, v = .slice a l.length cap ∧ (l = [] ∨ ∃ b off, a = some ⟨b, off, none⟩ ∧ b < w.heap.size ∧ ∀ j (h : j < l.length), w.cell? ⟨b, off + j, none⟩ = some (.int .i64 l[j]))
  wide : ∀ n ∈ l, -9223372036854775808 ≤ n ∧ n ≤ 9223372036854775807
  size : l.length ≤ 9223372036854775807
theorem Is.nil (w : World) : Is w (.slice none 0 0) [] := ⟨⟨_, _, rfl, Or.inl rfl⟩, fun s h => (by simp at h), by simp⟩
theorem Is.keep {w w' : World} {v : Value} {l : List Int} (h : Is w v l) (hk : ∀ b off, v = .slice (some ⟨b, off, none⟩) l.length (match v with | .slice _ _ c => c | _ => 0) → b < w.heap.size → w'.heap[b]? = w.heap[b]?) (hs : w.heap.size ≤ w'.heap.size) : Is w' v l := by
  obtain ⟨⟨a, cap, h1, h2⟩, h3, h4⟩ := h
  subst h1
  refine ⟨⟨a, cap, rfl, ?_⟩, h3, h4⟩
  rcases h2 with h | ⟨b, off, rfl, hb, hc⟩
  · exact Or.inl h
  · exact Or.inr ⟨b, off, rfl, Nat.lt_of_lt_of_le hb hs, fun j hj => (World.cell?_of_block (a := ⟨b, off + j, none⟩) (hk b off rfl hb)).trans (hc j hj)⟩
theorem Is.later {w w' : World} {v : Value} {l : List Int} (h : Is w v l) (k : Below w.heap.size w w') : Is w' v l := h.keep (fun b _ _ hb => k.block b hb) k.size
theorem Is.cell {w : World} {a : Option Addr} {n cap : Nat} {l : List Int} (h : Is w (.slice a n cap) l) (h0 : 0 < l.length) : ∃ b off, a = some ⟨b, off, none⟩ ∧ ∀ j (h : j < l.length), w.cell? ⟨b, off + j, none⟩ = some (.int .i64 l[j]) := by
  obtain ⟨a', cap', h1, h2⟩ := h.shape
  injection h1 with e1 e2 e3
  subst e1 e2
  rcases h2 with rfl | ⟨b, off, h3, _, h4⟩
  · simp at h0
  · exact ⟨b, off, h3, h4⟩
theorem Is.slice {w : World} {v : Value} {l : List Int} (h : Is w v l) : ∃ a cap, v = .slice a l.length cap := by
  obtain ⟨⟨a, cap, h1, _⟩, _⟩ := h; exact ⟨a, cap, h1⟩
def absI (p : Int) : Int := if p < 0 then -(p + 1) else p
def pickI (l : List Int) (i : Nat) (n : Nat) : Nat := match l[i]? with | some p => (absI p % ((n : Int) + 1)).toNat | none => 0
theorem pickI_le (l : List Int) (i n : Nat) : pickI l i n ≤ n := by
  unfold pickI
  split
  · rename_i p _
    have h1 := Int.emod_lt_of_pos (absI p) (show (0 : Int) < (n : Int) + 1 by omega)
    omega
  · omega
theorem picked_is (v : Value) (l : List Int) (i n : Nat) (w : World) (h : Is w v l) (hi : i ≤ 9223372036854775807) (hn : n ≤ 1099511627776) : Calls Tryz.prog 64 #[v, .int .i64 (i : Int), .int .i64 (n : Int)] w fun e w' => e = .returned (.int .i64 (pickI l i n : Int)) ∧ w = w' := by
  obtain ⟨a, cap, rfl⟩ := h.slice
  have hsz := h.size
  obtain ⟨len, hlen⟩ : ∃ len, l.length = len := ⟨_, rfl⟩
  obtain ⟨z, hz⟩ : ∃ z, pickI l i n = z := ⟨_, rfl⟩
  have HZ := Lib.hid hz
  have HL := Lib.hid hlen
  rw [hz]
  by_cases h1 : i < len
  · have hil : i < l.length := by rw [hlen]; exact h1
    obtain ⟨b, off, rfl, hc⟩ := h.cell (by omega)
    have c1 := hc i hil
    have hw := h.wide l[i] (List.getElem_mem _)
    obtain ⟨p, hp⟩ : ∃ p, l[i] = p := ⟨_, rfl⟩
    rw [hp] at c1 hw
    rw [hlen] at hsz ⊢
    have hpk : ((z : Nat) : Int) = absI p % ((n : Int) + 1) := by
      rw [← hz]; unfold pickI
      rw [List.getElem?_eq_getElem hil, hp]
      have := Int.emod_nonneg (absI p) (show (n : Int) + 1 ≠ 0 by omega)
      dsimp only
      omega
    have HPK := Lib.hid hpk
    have hi1 : ¬ (len : Int) ≤ (i : Int) := by omega
    have hi2 : (i : Int) < (len : Int) := by omega
    have hn1 : IntKind.i64.wrap ((n : Int) + 1) = (n : Int) + 1 := by rw [IntKind.wrap_i64]; omega
    have hn2 : (n : Int) + 1 ≠ 0 := by omega
    clear h hc hp hz hlen hpk
    by_cases hneg : p < 0
    · have hp1 : IntKind.i64.wrap (p + 1) = p + 1 := by rw [IntKind.wrap_i64]; omega
      have hp2 : IntKind.i64.wrap (-(p + 1)) = -(p + 1) := by rw [IntKind.wrap_i64]; omega
      have hm : Int.tmod (-(p + 1)) ((n : Int) + 1) = (z : Int) := by rw [HPK.out, Int.tmod_eq_emod_of_nonneg (by omega)]; unfold absI; rw [if_pos hneg]
      have hzw : IntKind.i64.wrap (z : Int) = (z : Int) := by
        have h3 := Int.emod_lt_of_pos (absI p) (show (0 : Int) < (n : Int) + 1 by omega)
        rw [IntKind.wrap_i64, HPK.out]
        have := Int.emod_nonneg (absI p) hn2
        omega
      go_enter Tryz.func64, Tryz.ntmps64
      go_wp2
      go_ret
      exact ⟨rfl, rfl⟩
    · have hm : Int.tmod p ((n : Int) + 1) = (z : Int) := by rw [HPK.out, Int.tmod_eq_emod_of_nonneg (by omega)]; unfold absI; rw [if_neg hneg]
      have hzw : IntKind.i64.wrap (z : Int) = (z : Int) := by
        have h3 := Int.emod_lt_of_pos (absI p) (show (0 : Int) < (n : Int) + 1 by omega)
        rw [IntKind.wrap_i64, HPK.out]
        have := Int.emod_nonneg (absI p) hn2
        omega
      go_enter Tryz.func64, Tryz.ntmps64
      go_wp2
      go_ret
      exact ⟨rfl, rfl⟩
  · have hi1 : (len : Int) ≤ (i : Int) := by omega
    have hz0 := Lib.hid (show 0 = z by rw [← hz]; unfold pickI; rw [List.getElem?_eq_none (by omega)])
    rw [hlen]
    clear h hz hlen
    go_enter Tryz.func64, Tryz.ntmps64
    go_wp2
    go_ret
    exact ⟨by rw [← hz0.out]; rfl, rfl⟩
end Go.Proofs.YteijmjbiaffcmaaGreatDoor.Fi
