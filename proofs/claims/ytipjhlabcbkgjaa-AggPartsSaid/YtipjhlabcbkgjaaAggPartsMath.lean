/- Plain mathematics of AggParts. -/
import Derived.Test.YtipjhlabcbkgjaaAggLaws
import Derived.Test.YtipjhlabcbkgjaaAggMeansMath
import Derived.Test.YtipjhlabcbkgjaaAggRight
import Derived.Test.YtipjhlabcbkgjaaAggBack
set_option maxRecDepth 20000
namespace Go.Proofs.Ytipjhlabcbkgjaa.Ag
open Go.RowKit Go.Proofs.Ytipjhlabcbkgjaa Go.Proofs.Ytipjhlabcbkgjaa.Wd Go.Proofs.Ytipjhlabcbkgjaa.Vi Go.Proofs.Ytipjhlabcbkgjaa.Mk

theorem rfN_mono (x : Nat) : ∀ y k, x ≤ y → rfN x k ≤ rfN y k := by
  induction x using Nat.strongRecOn with
  | ind x ih =>
    intro y k hxy
    by_cases h : 0 < x
    · rw [rfN_step h, rfN_step (show 0 < y by omega)]
      exact ih (x / 10) (by omega) (y / 10) (k + 1) (Nat.div_le_div_right hxy)
    · rw [rfN_end h]; exact rfN_ge y k
theorem bk_mono {x y : Int} (h : x ≤ y) : bk x ≤ bk y := by
  unfold bk
  split
  · omega
  · rw [if_neg (by omega), bk_rf _ _ (by omega), bk_rf _ _ (by omega)]
    have := rfN_mono x.toNat y.toNat 1 (by omega)
    omega
theorem pcnt_all (l : List Pt) : cntB l 0 + cntB l 1 + cntB l 2 + cntB l 3 + cntB l 4 + cntB l 5 + cntB l 6 + cntB l 7 + cntB l 8 = l.length := by
  refine snoc_ind (P := fun l => cntB l 0 + cntB l 1 + cntB l 2 + cntB l 3 + cntB l 4 + cntB l 5 + cntB l 6 + cntB l 7 + cntB l 8 = l.length) rfl (fun l p ih => ?_) l
  rw [List.length_append]
  simp only [cntB_snoc, List.length_singleton]
  have hb := bk_le p.v
  generalize bk p.v = k at *
  have hc : k = 0 ∨ k = 1 ∨ k = 2 ∨ k = 3 ∨ k = 4 ∨ k = 5 ∨ k = 6 ∨ k = 7 ∨ k = 8 := by omega
  rcases hc with rfl | rfl | rfl | rfl | rfl | rfl | rfl | rfl | rfl <;> simp <;> omega
theorem cntB_pos {l : List Pt} {i : Nat} : 0 < cntB l i ↔ ∃ p ∈ l, bk p.v = i := by
  unfold cntB
  rw [List.countP_pos_iff]
  simp
/-- Folds of points with stamps that may be, may be. -/
theorem fold_ok (l : List Pt) (hf : ∀ p ∈ l, p.fits) (hs : ∀ p ∈ l, p.st.ok = true) (hl : l.length ≤ 1000000) : okA (foldA l) = true := by
  by_cases hz : l = []
  · subst hz
    unfold okA
    rw [decide_eq_true (show AgSame (foldA []) Ag.zero from AgSame.refl _)]
    rfl
  · have K := fold_known l hf hl
    have hp : 0 < l.length := List.length_pos_iff.2 hz
    obtain ⟨⟨p1, m1, v1⟩, ⟨p2, m2, v2⟩, ⟨p3, m3, s3, v3⟩⟩ := K.mem hz
    generalize foldA l = g at *
    unfold okA
    rw [Bool.or_eq_true, Bool.and_eq_true, Bool.and_eq_true, Bool.and_eq_true, decide_eq_true_eq, decide_eq_true_eq]
    refine Or.inr ⟨by rw [K.n]; omega, ?_, ?_, by rw [← s3]; exact hs p3 m3⟩
    · unfold vOk
      rw [decide_eq_true_eq]
      have q1 := K.lo p2 m2
      have q2 := K.lo p3 m3
      have q3 := K.hi p3 m3
      have q4 := sum_lo l g.mn K.lo
      have q5 := sum_hi l g.mx K.hi
      rw [K.n, K.s]
      exact ⟨by omega, by omega, by omega, q4, q5⟩
    · refine bOk_iff.2 ⟨fun i hi => ?_, ?_, ?_, ?_⟩
      · unfold bGood
        rw [K.b, K.n]
        have := cntB_le l i
        refine ⟨by omega, by omega, fun h => ?_⟩
        obtain ⟨p, hp, rfl⟩ := cntB_pos.1 (show 0 < cntB l i by omega)
        exact ⟨bk_mono (K.lo p hp), bk_mono (K.hi p hp)⟩
      · have h := pcnt_all l
        rw [K.n, ← h]
        simp only [accB, K.b]
        push_cast
        omega
      · rw [K.b, ← v1]
        have := cntB_pos.2 ⟨p1, m1, rfl⟩
        omega
      · rw [K.b, ← v2]
        have := cntB_pos.2 ⟨p2, m2, rfl⟩
        omega
/-- The stamps are unlike: they count. -/
def Num (m : List Pt) : Prop := ∀ i (h : i < m.length), m[i].st.q = (i : Int) + 1
theorem rt_num (l : List Pt) : Num (rtL l) := by
  have : ∀ xs : List Pt, xs = (l.take 40).mapIdx rtP → Num xs := by
    rintro xs rfl i h
    rw [List.getElem_mapIdx]
    rfl
  exact this _ rfl
theorem rt_ok {l : List Pt} {p : Pt} (hp : p ∈ rtL l) : p.st.ok = true := by
  unfold rtL rtN at hp
  obtain ⟨i, hi, rfl⟩ := List.mem_mapIdx.1 hp
  rw [List.length_take] at hi
  refine St.ok_iff.2 ?_
  show 1 ≤ 1 + _ % 8 ∧ 1 + _ % 8 ≤ 1099511627776 ∧ 0 ≤ _ % 8 ∧ _ % 8 ≤ 7 ∧ 1 ≤ (i : Int) + 1 ∧ (i : Int) + 1 ≤ 1099511627776
  omega
theorem num_apart {m : List Pt} (h : Num m) (c : Nat) {p q : Pt} (hp : p ∈ m.take c) (hq : q ∈ m.drop c) : p.st ≠ q.st := by
  obtain ⟨i, hi, rfl⟩ := List.mem_iff_getElem.1 hp
  obtain ⟨j, hj, rfl⟩ := List.mem_iff_getElem.1 hq
  rw [List.length_take] at hi
  rw [List.length_drop] at hj
  rw [List.getElem_take, List.getElem_drop]
  intro e
  have e1 := h i (by omega)
  have e2 := h (c + j) (by omega)
  rw [e] at e1
  omega
theorem fold_pair (m : List Pt) (c : Nat) (hl : m.length ≤ 1000000) : mgA (foldA (m.take c)) (foldA (m.drop c)) = foldA m := by
  have h : (m.take c).length + (m.drop c).length = m.length := by rw [← List.length_append, List.take_append_drop]
  rw [← fold_append _ _ (by omega), List.take_append_drop]
theorem fold_swap {m : List Pt} (c : Nat) (hn : Num m) (hf : ∀ p ∈ m, p.fits) (hl : m.length ≤ 1000000) : mgA (foldA (m.drop c)) (foldA (m.take c)) = foldA m := by
  have h : (m.take c).length + (m.drop c).length = m.length := by rw [← List.length_append, List.take_append_drop]
  rw [← mg_comm (fold_cnt (m.take c) (by omega)) (fold_cnt (m.drop c) (by omega)) ?_, fold_pair m c hl]
  intro h1 h2
  have K1 := fold_known (m.take c) (fun p hp => hf p (List.mem_of_mem_take hp)) (by omega)
  have K2 := fold_known (m.drop c) (fun p hp => hf p (List.mem_of_mem_drop hp)) (by omega)
  obtain ⟨-, -, p, hp, ep, -⟩ := K1.mem (fun e => h1 (by rw [e]; rfl))
  obtain ⟨-, -, q, hq, eq, -⟩ := K2.mem (fun e => h2 (by rw [e]; rfl))
  rw [← ep, ← eq]
  exact num_apart hn c hp hq
/-- All that the parts come to. -/
theorem parts {m : List Pt} (hn : Num m) (hf : ∀ p ∈ m, p.fits) (hl : m.length ≤ 1000000) (c d : Nat) (hcd : c ≤ d) :
    mgA (foldA (m.take c)) (foldA ((m.drop c).take (d - c))) = foldA (m.take d) ∧
    mgA (foldA ((m.drop c).take (d - c))) (foldA (m.drop d)) = foldA (m.drop c) ∧
    mgA (foldA (m.take d)) (foldA (m.drop d)) = foldA m ∧ mgA (foldA (m.take c)) (foldA (m.drop c)) = foldA m ∧
    mgA (foldA (m.drop d)) (foldA (m.take d)) = foldA m ∧ mgA (foldA (m.drop c)) (foldA (m.take c)) = foldA m := by
  refine ⟨?_, ?_, fold_pair m d hl, fold_pair m c hl, fold_swap d hn hf hl, fold_swap c hn hf hl⟩
  · have h := fold_pair (m.take d) c (by rw [List.length_take]; omega)
    rw [List.take_take, Nat.min_eq_left hcd, List.drop_take] at h
    exact h
  · have h := fold_pair (m.drop c) (d - c) (by rw [List.length_drop]; omega)
    rw [List.drop_drop, show c + (d - c) = d by omega] at h
    exact h
/-- Which place a number stands for. -/
def cutK (k : Int) (n : Nat) : Nat := ((if k < 0 then -(k + 1) else k) % ((n : Int) + 1)).toNat
theorem cutK_le (k : Int) (n : Nat) : cutK k n ≤ n := by
  unfold cutK
  generalize (if k < 0 then -(k + 1) else k) = x
  have h1 := Int.emod_nonneg x (show (n : Int) + 1 ≠ 0 by omega)
  have h2 := Int.emod_lt_of_pos x (show (0 : Int) < (n : Int) + 1 by omega)
  omega
theorem cutK_neg {k : Int} (n : Nat) (h : k < 0) : (-(k + 1)).tmod ((n : Int) + 1) = (cutK k n : Int) := by
  unfold cutK
  rw [if_pos h, Int.tmod_eq_emod_of_nonneg (by omega)]
  have h1 := Int.emod_nonneg (-(k + 1)) (show (n : Int) + 1 ≠ 0 by omega)
  omega
theorem cutK_pos {k : Int} (n : Nat) (h : ¬ k < 0) : k.tmod ((n : Int) + 1) = (cutK k n : Int) := by
  unfold cutK
  rw [if_neg h, Int.tmod_eq_emod_of_nonneg (by omega)]
  have h1 := Int.emod_nonneg k (show (n : Int) + 1 ≠ 0 by omega)
  omega
theorem Pts.drop {w : World} {B : Nat} {b off : Nat} {l : List Pt} (h : Pts w B (some ⟨b, off, none⟩) l) (n : Nat) : Pts w B (some ⟨b, off + n * 6, none⟩) (l.drop n) := by
  rcases h.at_ with h | ⟨b', off', e, hb, hc⟩
  · exact ⟨Or.inl (by rw [h]; simp)⟩
  · injection e with e
    injection e with e1 e2
    subst e1 e2
    refine ⟨Or.inr ⟨b, off + n * 6, rfl, hb, fun j hj => ?_⟩⟩
    rw [List.length_drop] at hj
    have h := hc (n + j) (by omega)
    rw [List.getElem_drop, show off + n * 6 + j * 6 = off + (n + j) * 6 by omega]
    exact h
end Go.Proofs.Ytipjhlabcbkgjaa.Ag
