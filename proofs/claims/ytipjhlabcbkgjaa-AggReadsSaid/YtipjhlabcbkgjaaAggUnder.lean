/- Contracts: Under. -/
import Derived.Test.YtipjhlabcbkgjaaAggAt
import Derived.Deep.CutRange
set_option maxRecDepth 20000
namespace Go.Proofs.Ytipjhlabcbkgjaa.Ag
open Go.RowKit Go.Proofs.Ytipjhlabcbkgjaa Go.Proofs.Ytipjhlabcbkgjaa.Wd Go.Proofs.Ytipjhlabcbkgjaa.Vi Go.Proofs.Ytipjhlabcbkgjaa.Mk

/-- So many are in the first k buckets, as ints add. -/
def unS (f : Nat → Int) : Nat → Int
  | 0 => 0
  | k + 1 => w64 (unS f k + f k)
def upK (bucket : Int) : Nat := if bucket < 0 then 0 else if 9 < bucket then 9 else bucket.toNat
theorem AgAt.bucket {w : World} {b : Nat} {a : Ag} (h : AgAt w b a) (k : Nat) (hk : k < 9) : w.cell? ⟨b, 9 + k, none⟩ = some (.int .i64 (a.b k)) := by
  have hc : k = 0 ∨ k = 1 ∨ k = 2 ∨ k = 3 ∨ k = 4 ∨ k = 5 ∨ k = 6 ∨ k = 7 ∨ k = 8 := by omega
  rcases hc with rfl | rfl | rfl | rfl | rfl | rfl | rfl | rfl | rfl <;> exact h.cell _ rfl
theorem unName {w W : World} {b : Nat} {a : Ag} (h : AgAt W b a) (hb : Below w.heap.size w W) : ∃ x, x = W ∧ AgAt x b a ∧ Below w.heap.size w x := ⟨W, rfl, h, hb⟩
set_option maxHeartbeats 1000000 in
theorem runder_is (a : Ag) (bucket : Int) (w : World) : Calls Try.prog 30 #[agV a, .int .i64 bucket] w fun e w' => e = .returned (.int .i64 (unS a.b (upK bucket))) ∧ Below w.heap.size w w' := by
  have h0 := (AgW.new w a 29).at_
  have hb0 := (Below.refl w.heap.size w).alloc (Nat.le_refl _) (.cells (cells18 a).toArray 29)
  simp only [cells18] at h0 hb0
  have H0 := Lib.hid h0
  have HB := Lib.hid hb0
  obtain ⟨m, hm⟩ : ∃ m, upK bucket = m := ⟨_, rfl⟩
  have hm9 : m ≤ 9 := by rw [← hm]; unfold upK; split <;> (try split) <;> omega
  have hlt : ∀ k : Nat, k < 9 → ((k : Int) < bucket ↔ k < m) := fun k hk => by rw [← hm]; unfold upK; split <;> (try split) <;> omega
  have HLT := Lib.hid hlt
  rw [hm]
  unfold agV
  clear h0 hb0 hm hlt
  go_enter Try.func30, Try.ntmps30
  go_wp2
  obtain ⟨w0, hw0, h1, hb1⟩ := unName H0.out HB.out
  rw [← hw0]
  clear hw0
  have H1 := Lib.hid h1
  have HB1 := Lib.hid hb1
  clear h1 hb1
  go_loopw [5, 6] (fun n i wr => ∃ k : Nat, n = .int .i64 (unS a.b k) ∧ i = .int .i64 (k : Int) ∧ k ≤ m ∧ w0 = wr) (fun _ i _ => 9 - (intOf i).toNat)
  case atStart => exact ⟨0, rfl, rfl, Nat.zero_le _, rfl⟩
  case round =>
    obtain ⟨k, rfl, rfl, hk, hwr⟩ := hrel
    subst hwr
    by_cases hkm : k < m
    · have hk9 : k < 9 := by omega
      have hk9i : (k : Int) < 9 := by omega
      have hkb : (k : Int) < bucket := (HLT.out k hk9).mpr hkm
      have hcell := H1.out.bucket k hk9
      have hwk : IntKind.i64.wrap ((k : Int) + 1) = (k : Int) + 1 := by rw [IntKind.wrap_i64]; omega
      have hcell' : w0.cell? ⟨w.heap.size, k + 9, none⟩ = some (.int .i64 (a.b k)) := by rw [Nat.add_comm]; exact hcell
      go_wp2
      go_roundw
      case rel =>
        refine ⟨k + 1, ?_, by go_num, by omega, trivial⟩
        rw [unS, w64, IntKind.wrap_i64, wrap64]
      case measure => simp [intOf]; omega
    · have hkm' : k = m := by omega
      subst hkm'
      by_cases hk9 : k < 9
      · have hk9i : (k : Int) < 9 := by omega
        have hkb : ¬ (k : Int) < bucket := fun hc => hkm ((HLT.out k hk9).mp hc)
        go_wp2
        go_ret
        exact ⟨rfl, HB1.out⟩
      · have hk9i : ¬ (k : Int) < 9 := by omega
        go_wp2
        go_ret
        exact ⟨rfl, HB1.out⟩
set_option maxHeartbeats 1000000 in
theorem under_is (a : Ag) (bucket : Int) (w : World) : Calls Try.prog 29 #[agV a, .int .i64 bucket] w fun e w' => e = .returned (.int .i64 (unS a.b (upK bucket))) ∧ Below w.heap.size w w' := by
  have h0 := (AgW.new w a 29).at_
  have hb0 := (Below.refl w.heap.size w).alloc (Nat.le_refl _) (.cells (cells18 a).toArray 29)
  simp only [cells18] at h0 hb0
  have H0 := Lib.hid h0
  have HB := Lib.hid hb0
  obtain ⟨m, hm⟩ : ∃ m, upK bucket = m := ⟨_, rfl⟩
  have hm9 : m ≤ 9 := by rw [← hm]; unfold upK; split <;> (try split) <;> omega
  have hm0i : 0 ≤ (m : Int) := by omega
  have hm9i : (m : Int) ≤ 9 := by omega
  have hmm : min (max bucket 0) 9 = (m : Int) := by rw [← hm]; unfold upK; split <;> (try split) <;> omega
  rw [hm]
  unfold agV
  clear h0 hb0 hm
  go_enter Try.func29, Try.ntmps29
  go_wp2
  obtain ⟨w0, hw0, h1, hb1⟩ := unName H0.out HB.out
  rw [← hw0]
  clear hw0
  have H1 := Lib.hid h1
  have HB1 := Lib.hid hb1
  clear h1 hb1
  go_loopw [5, 7, 14] (fun n _ i wr => ∃ k : Nat, n = .int .i64 (unS a.b k) ∧ i = .int .i64 (k : Int) ∧ k ≤ m ∧ w0 = wr) (fun _ _ i _ => 9 - (intOf i).toNat)
  case atStart => exact ⟨0, rfl, rfl, Nat.zero_le _, rfl⟩
  case round =>
    obtain ⟨k, rfl, rfl, hk, hwr⟩ := hrel
    subst hwr
    by_cases hkm : k < m
    · have hk9 : k < 9 := by omega
      have hkb : (k : Int) < (m : Int) := by omega
      have hcell := H1.out.bucket k hk9
      have hwk : IntKind.i64.wrap ((k : Int) + 1) = (k : Int) + 1 := by rw [IntKind.wrap_i64]; omega
      have hcell' : w0.cell? ⟨w.heap.size, k + 9, none⟩ = some (.int .i64 (a.b k)) := by rw [Nat.add_comm]; exact hcell
      go_wp2
      go_roundw
      case rel =>
        refine ⟨k + 1, ?_, by go_num, by omega, trivial⟩
        rw [unS, w64, IntKind.wrap_i64, wrap64]
      case measure => simp [intOf]; omega
    · have hkm' : k = m := by omega
      subst hkm'
      go_wp2
      go_ret
      exact ⟨rfl, HB1.out⟩
end Go.Proofs.Ytipjhlabcbkgjaa.Ag
