/- The document's network: who is parted. -/
import Derived.Test.YtnjabhjcnkbgpaaNetRef
set_option maxRecDepth 20000
set_option linter.unusedSimpArgs false
set_option linter.unusedVariables false
namespace Go.Proofs.Ytnjabhjcnkbgpaa
open Go.RowKit

theorem aeq_run (a b c d : Int) (w : World) : (Op.equalIn 10000 47 (.agg #[.int .i64 a, .int .i64 b]) (.agg #[.int .i64 c, .int .i64 d])).run Try.prog w = .ok (a == c && b == d) w := by
  have u3 := Try.underlying3
  have a3 := Try.isAgg3
  have z3 := Try.sizeOf3
  rw [show (10000 : Nat) = 9999 + 1 from rfl, Op.equalIn]
  simp only [Sem.run_bind, run_underlying Try.underlying47, Result.andThen_ok]
  simp only [Std.Legacy.Range.forIn_eq_forIn_range', Std.Legacy.Range.size, Nat.sub_zero, Nat.add_sub_cancel, Nat.div_one, List.range'_succ, List.range'_zero, List.forIn_cons, List.forIn_nil]
  go_simp
  by_cases h1 : a = c <;> by_cases h2 : b = d <;> simp [h1, h2]
section
variable {w : World} {B r : Nat} {VL VP : Value} {R : RN}
set_option maxHeartbeats 2000000 in
theorem is_is (a b : Int) (h : RAt w B r VL VP R) : Calls Try.prog 35 #[.pointer (some ⟨r, 0, none⟩), .int .i64 a, .int .i64 b] w fun e w' => e = .returned (.bool (isP R.ps a b)) ∧ Below w.heap.size w w' := by
  obtain ⟨pa, pc, rfl⟩ := h.rowP.slice
  obtain ⟨n, hn⟩ : ∃ n, R.ps.length = n := ⟨_, rfl⟩
  have HN := Lib.hid hn
  have hlp := h.lenp
  rw [hn] at h hlp
  have H := Lib.hid h
  obtain ⟨x, hx⟩ : ∃ x, (pairI a b).1 = x := ⟨_, rfl⟩
  obtain ⟨y, hy⟩ : ∃ y, (pairI a b).2 = y := ⟨_, rfl⟩
  have kp := fun W => rpair_is a b W
  rw [hx, hy] at kp
  have HXY := Lib.hid (show pairI a b = (x, y) by rw [← hx, ← hy])
  clear h hn hx hy
  go_enter Try.func35, Try.ntmps35
  go_wp2
  go_loopw [7] (fun i wr => ∃ k : Nat, k ≤ n ∧ i = .int .i64 (k : Int) ∧ Below w.heap.size w wr ∧ Hid (∀ j (h : j < R.ps.length), j < k → R.ps[j] ≠ (x, y))) (fun i _ => n - (intOf i).toNat)
  case atStart => exact ⟨0, by omega, rfl, Below.refl _ _, Lib.hid fun j _ h => absurd h (Nat.not_lt_zero _)⟩
  case round =>
    obtain ⟨k, hk, rfl, hbel, hall⟩ := hrel
    obtain ⟨w3, hw3⟩ : ∃ x, x = wr := ⟨_, rfl⟩
    subst hw3
    have HB := Lib.hid hbel
    have h3 := H.out.later hbel
    obtain ⟨-, -, c2, -⟩ := h3.c0
    have H3 := Lib.hid h3
    clear hbel
    by_cases hkn : k < n
    · have hki : (k : Int) < (n : Int) := by omega
      have hkw : IntKind.i64.wrap ((k : Int) + 1) = (k : Int) + 1 := by rw [IntKind.wrap_i64]; omega
      have hkp : k < R.ps.length := by rw [HN.out]; exact hkn
      have hrp := h3.rowP
      obtain ⟨g, rfl, hgl, hpc⟩ := hrp.block (by omega)
      obtain ⟨d0, d1⟩ := hpc k hkp
      obtain ⟨p, hp⟩ : ∃ p, R.ps[k] = p := ⟨_, rfl⟩
      rw [hp] at d0 d1
      obtain ⟨p1, p2⟩ := p
      dsimp only at d0 d1
      have HC := Lib.hid (fun (W : World) (hB : Below w3.heap.size w3 W) => show W.cell? ⟨r, 2, none⟩ = some (.slice (some ⟨g, 0, none⟩) n pc) ∧ W.cell? ⟨g, k * 2, none⟩ = some (.int .i64 p1) ∧ W.cell? ⟨g, k * 2 + 1, none⟩ = some (.int .i64 p2) from
        ⟨(hB.cell (p := ⟨r, 2, none⟩) h3.lt).trans c2, (hB.cell (p := ⟨g, k * 2, none⟩) hgl).trans d0, (hB.cell (p := ⟨g, k * 2 + 1, none⟩) hgl).trans d1⟩)
      have e2' := (HC.out w3.drew (Below.refl _ _).drew)
      have HP := Lib.hid hp
      clear hpc hrp hp hkn h3
      have HEQ := Lib.hid (fun W => aeq_run p1 p2 x y W)
      by_cases hxy : (p1, p2) = (x, y)
      · injection hxy with h1 h2
        subst h1 h2
        have heq := fun W => HEQ.out W
        simp only [beq_self_eq_true, Bool.and_true] at heq
        have HYES := Lib.hid (show isP R.ps a b = true by
          unfold isP
          rw [List.any_eq_true]
          exact ⟨R.ps[k], List.getElem_mem hkp, by rw [HP.out, HXY.out]; simp⟩)
        go_upto_region 4 with fail
        go_region_with (go_at_call 45; (refine (kp _).mono ?_); rintro e w4 ⟨rfl, hB4⟩; (obtain ⟨t0, t1, t2⟩ := HC.out w4 ((Below.refl _ _).drew.trans hB4)); (have HB4 := Lib.hid (show Below w3.heap.size w3 w4 from (Below.refl _ _).drew.trans hB4)); clear hB4)
        all_goals go_wp2
        all_goals (go_ret; exact ⟨by rw [HYES.out]; rfl, bel_next HB.out HB4.out⟩)
      · have hne : (p1 == x && p2 == y) = false := by
          rw [Bool.eq_false_iff]
          intro e
          simp only [Bool.and_eq_true, beq_iff_eq] at e
          exact hxy (by rw [e.1, e.2])
        have heq := fun W => HEQ.out W
        simp only [hne] at heq
        have HALL := Lib.hid (show ∀ j (h : j < R.ps.length), j < k + 1 → R.ps[j] ≠ (x, y) from fun j h hj => by
          by_cases e : j = k
          · subst e; rw [HP.out]; exact hxy
          · exact hall.out j h (by omega))
        clear hne hxy
        go_upto_region 4 with fail
        go_region_with (go_at_call 45; (refine (kp _).mono ?_); rintro e w4 ⟨rfl, hB4⟩; (obtain ⟨t0, t1, t2⟩ := HC.out w4 ((Below.refl _ _).drew.trans hB4)); (have HB4 := Lib.hid (show Below w3.heap.size w3 w4 from (Below.refl _ _).drew.trans hB4)); clear hB4)
        all_goals go_wp2
        all_goals go_roundw
        all_goals (first | (simp [intOf]; omega) | exact ⟨k + 1, by omega, by go_num, bel_next HB.out HB4.out, HALL⟩)
    · have hki : ¬ (k : Int) < (n : Int) := by omega
      obtain rfl : k = n := by omega
      have HNO := Lib.hid (show isP R.ps a b = false by
        unfold isP
        rw [List.any_eq_false]
        intro p hp
        obtain ⟨j, hj, rfl⟩ := List.getElem_of_mem hp
        have := hall.out j hj (by rw [← HN.out]; exact hj)
        rw [HXY.out]; simpa using this)
      clear hkn
      go_wp2
      go_ret
      exact ⟨by rw [HNO.out]; rfl, HB.out⟩
end
end Go.Proofs.Ytnjabhjcnkbgpaa
