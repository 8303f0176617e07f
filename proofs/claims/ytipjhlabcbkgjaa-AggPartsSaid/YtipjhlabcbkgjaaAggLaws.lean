/- Plain mathematics of folds: what is known of points, and that parts come together to the same. -/
import Derived.Test.YtipjhlabcbkgjaaAggFold
set_option maxRecDepth 20000
namespace Go.Proofs.Ytipjhlabcbkgjaa.Ag
open Go.RowKit Go.Proofs.Ytipjhlabcbkgjaa Go.Proofs.Ytipjhlabcbkgjaa.Wd Go.Proofs.Ytipjhlabcbkgjaa.Vi Go.Proofs.Ytipjhlabcbkgjaa.Mk

theorem lt_iff {a b : St} : a.lt b = true ↔ (a.c < b.c ∨ a.c = b.c ∧ (a.s < b.s ∨ a.s = b.s ∧ a.q < b.q)) := by unfold St.lt; rw [decide_eq_true_iff]
theorem lt_irrefl (a : St) : a.lt a = false := by rw [Bool.eq_false_iff, Ne, lt_iff]; omega
theorem lt_asymm {a b : St} (h : a.lt b = true) : b.lt a = false := by rw [lt_iff] at h; rw [Bool.eq_false_iff, Ne, lt_iff]; omega
theorem lt_trans' {a b c : St} (h : a.lt b = true) (k : b.lt c = true) : a.lt c = true := by rw [lt_iff] at *; omega
theorem lt_total {a b : St} (h : a ≠ b) (k : a.lt b = false) : b.lt a = true := by
  rw [Bool.eq_false_iff, Ne, lt_iff] at k
  rw [lt_iff]
  have : ¬ (a.c = b.c ∧ a.s = b.s ∧ a.q = b.q) := fun e => h (St.ext' e.1 e.2.1 e.2.2)
  omega
theorem lt_weak {a b c : St} (h : a.lt b = false) (k : b.lt c = false) : a.lt c = false := by
  rw [Bool.eq_false_iff, Ne, lt_iff] at *
  omega
/-- It is of m samples; of none it is nothing. -/
structure Cnt (a : Ag) (m : Nat) : Prop where
  n : a.n = (m : Int)
  z : m = 0 → a = Ag.zero
theorem cnt_zero : Cnt Ag.zero 0 := ⟨rfl, fun _ => rfl⟩
theorem cnt_one (v : Int) (st : St) : Cnt (oneA v st) 1 := ⟨rfl, fun h => by cases h⟩
theorem mg_left {a c : Ag} (h : a.n = 0) : mgA a c = c := by unfold mgA; rw [if_pos h]
theorem mg_right {a c : Ag} (h : a.n ≠ 0) (k : c.n = 0) : mgA a c = a := by unfold mgA; rw [if_neg h, if_pos k]
theorem mg_both {a c : Ag} (h : a.n ≠ 0) (k : c.n ≠ 0) : mgA a c = ⟨w64 (a.n + c.n), sm (a.s + c.s), min a.mn c.mn, max a.mx c.mx, if a.st.lt c.st then c.la else a.la, if a.st.lt c.st then c.st else a.st, fun i => w64 (a.b i + c.b i)⟩ := by unfold mgA; rw [if_neg h, if_neg k]
theorem Cnt.mg {a c : Ag} {i j : Nat} (ha : Cnt a i) (hc : Cnt c j) (h : i + j < 4611686018427387904) : Cnt (mgA a c) (i + j) := by
  by_cases hi : i = 0
  · rw [mg_left (by rw [ha.n, hi]; rfl)]; rw [hi, Nat.zero_add]; exact hc
  · by_cases hj : j = 0
    · rw [mg_right (by rw [ha.n]; omega) (by rw [hc.n, hj]; rfl)]; rw [hj, Nat.add_zero]; exact ha
    · rw [mg_both (by rw [ha.n]; omega) (by rw [hc.n]; omega)]
      exact ⟨by show w64 (a.n + c.n) = _; rw [ha.n, hc.n, w64_self (by omega)]; omega, fun h => by omega⟩
theorem sm_l (x y : Int) : sm (sm x + y) = sm (x + y) := by unfold sm; omega
theorem sm_r (x y : Int) : sm (x + sm y) = sm (x + y) := by unfold sm; omega
theorem w64_l (x y : Int) : w64 (w64 x + y) = w64 (x + y) := by unfold w64; simp only [IntKind.wrap_i64]; omega
theorem w64_r (x y : Int) : w64 (x + w64 y) = w64 (x + y) := by unfold w64; simp only [IntKind.wrap_i64]; omega
theorem mg_assoc {a b c : Ag} {i j k : Nat} (ha : Cnt a i) (hb : Cnt b j) (hc : Cnt c k) (h : i + j + k < 4611686018427387904) : mgA (mgA a b) c = mgA a (mgA b c) := by
  by_cases hi : i = 0
  · rw [mg_left (c := b) (by rw [ha.n, hi]; rfl), mg_left (c := mgA b c) (by rw [ha.n, hi]; rfl)]
  have hi' : a.n ≠ 0 := by rw [ha.n]; omega
  by_cases hj : j = 0
  · rw [mg_right hi' (by rw [hb.n, hj]; rfl), mg_left (a := b) (by rw [hb.n, hj]; rfl)]
  have hj' : b.n ≠ 0 := by rw [hb.n]; omega
  have h1 := ha.mg hb (by omega)
  have h1' : (mgA a b).n ≠ 0 := by rw [h1.n]; omega
  by_cases hk : k = 0
  · rw [mg_right h1' (by rw [hc.n, hk]; rfl), mg_right hj' (by rw [hc.n, hk]; rfl)]
  have hk' : c.n ≠ 0 := by rw [hc.n]; omega
  have h2 := hb.mg hc (by omega)
  have h2' : (mgA b c).n ≠ 0 := by rw [h2.n]; omega
  rw [mg_both h1' hk', mg_both hi' h2', mg_both hi' hj', mg_both hj' hk']
  have est : (if (if a.st.lt b.st then b.st else a.st).lt c.st then c.st else (if a.st.lt b.st then b.st else a.st)) = (if a.st.lt (if b.st.lt c.st then c.st else b.st) then (if b.st.lt c.st then c.st else b.st) else a.st) ∧
      (if (if a.st.lt b.st then b.st else a.st).lt c.st then c.la else (if a.st.lt b.st then b.la else a.la)) = (if a.st.lt (if b.st.lt c.st then c.st else b.st) then (if b.st.lt c.st then c.la else b.la) else a.la) := by
    cases h1 : a.st.lt b.st with
    | true =>
      cases h2 : b.st.lt c.st with
      | true => have := lt_trans' h1 h2; simp [h2, this]
      | false => simp [h1, h2]
    | false =>
      cases h2 : b.st.lt c.st with
      | true => simp
      | false => have := lt_weak h1 h2; simp [h1, this]
  dsimp only
  rw [est.1, est.2]
  congr 1
  · rw [w64_l, w64_r, Int.add_assoc]
  · rw [sm_l, sm_r, Int.add_assoc]
  · omega
  · omega
  · funext q; rw [w64_l, w64_r, Int.add_assoc]
theorem mg_comm {a c : Ag} {i j : Nat} (ha : Cnt a i) (hc : Cnt c j) (hst : i ≠ 0 → j ≠ 0 → a.st ≠ c.st) : mgA a c = mgA c a := by
  by_cases hi : i = 0
  · rw [mg_left (by rw [ha.n, hi]; rfl)]
    by_cases hj : j = 0
    · rw [mg_left (by rw [hc.n, hj]; rfl), ha.z hi, hc.z hj]
    · rw [mg_right (by rw [hc.n]; omega) (by rw [ha.n, hi]; rfl)]
  have hi' : a.n ≠ 0 := by rw [ha.n]; omega
  by_cases hj : j = 0
  · rw [mg_right hi' (by rw [hc.n, hj]; rfl), mg_left (by rw [hc.n, hj]; rfl)]
  have hj' : c.n ≠ 0 := by rw [hc.n]; omega
  rw [mg_both hi' hj', mg_both hj' hi']
  have hne := hst hi hj
  have est : (if a.st.lt c.st then c.st else a.st) = (if c.st.lt a.st then a.st else c.st) ∧ (if a.st.lt c.st then c.la else a.la) = (if c.st.lt a.st then a.la else c.la) := by
    cases h1 : a.st.lt c.st with
    | true => have := lt_asymm h1; simp [this]
    | false => have := lt_total hne h1; simp [this]
  rw [est.1, est.2]
  congr 1
  · rw [Int.add_comm]
  · rw [Int.add_comm]
  · omega
  · omega
  · funext q; rw [Int.add_comm]
/-- Induction from the end. -/
theorem snoc_ind {α : Type} {P : List α → Prop} (h0 : P []) (h1 : ∀ l a, P l → P (l ++ [a])) (l : List α) : P l := by
  have key : ∀ l : List α, P l.reverse := fun l => by
    induction l with
    | nil => exact h0
    | cons a t ih => rw [List.reverse_cons]; exact h1 _ _ ih
  have := key l.reverse
  rwa [List.reverse_reverse] at this
theorem fold_cnt (l : List Pt) : l.length < 4611686018427387904 → Cnt (foldA l) l.length := by
  refine snoc_ind (P := fun l => l.length < 4611686018427387904 → Cnt (foldA l) l.length) (fun _ => cnt_zero) (fun l a ih h => ?_) l
  rw [List.length_append] at h ⊢
  rw [foldA_snoc]
  exact (ih (by simp at h; omega)).mg (cnt_one _ _) (by simpa using h)
theorem fold_append (l1 l2 : List Pt) : l1.length + l2.length < 4611686018427387904 → foldA (l1 ++ l2) = mgA (foldA l1) (foldA l2) := by
  refine snoc_ind (P := fun l2 => l1.length + l2.length < 4611686018427387904 → foldA (l1 ++ l2) = mgA (foldA l1) (foldA l2)) (fun h => ?_) (fun l2 a ih h => ?_) l2
  · rw [List.append_nil]
    show _ = mgA _ Ag.zero
    have c1 := fold_cnt l1 (by simpa using h)
    by_cases h0 : l1.length = 0
    · rw [c1.z h0]; rfl
    · rw [mg_right (by rw [c1.n]; omega) rfl]
  · rw [List.length_append] at h
    simp at h
    rw [← List.append_assoc, foldA_snoc, foldA_snoc, ih (by omega)]
    exact mg_assoc (fold_cnt l1 (by omega)) (fold_cnt l2 (by omega)) (cnt_one _ _) (by omega)
def sumV (l : List Pt) : Int := (l.map fun p => p.v).sum
theorem sumV_snoc (l : List Pt) (p : Pt) : sumV (l ++ [p]) = sumV l + p.v := by unfold sumV; rw [List.map_append, List.sum_append]; simp
def cntB (l : List Pt) (i : Nat) : Nat := l.countP fun p => bk p.v == i
theorem cntB_snoc (l : List Pt) (p : Pt) (i : Nat) : cntB (l ++ [p]) i = cntB l i + (if bk p.v = i then 1 else 0) := by
  unfold cntB
  rw [List.countP_append, List.countP_singleton]
  by_cases h : bk p.v = i <;> simp [h]
theorem cntB_le (l : List Pt) (i : Nat) : cntB l i ≤ l.length := List.countP_le_length
/-- What a fold of points (fewer than 2^20, say) knows. -/
structure Known (l : List Pt) (a : Ag) : Prop where
  n : a.n = (l.length : Int)
  s : a.s = sumV l
  b : ∀ i, a.b i = (cntB l i : Int)
  lo : ∀ p ∈ l, a.mn ≤ p.v
  hi : ∀ p ∈ l, p.v ≤ a.mx
  mem : l ≠ [] → (∃ p ∈ l, p.v = a.mn) ∧ (∃ p ∈ l, p.v = a.mx) ∧ (∃ p ∈ l, p.st = a.st ∧ p.v = a.la)
  late : ∀ p ∈ l, a.st.lt p.st = false
theorem sum_bound (l : List Pt) (hf : ∀ p ∈ l, p.fits) : -(9223372036854775808 * (l.length : Int)) ≤ sumV l ∧ sumV l ≤ 9223372036854775808 * (l.length : Int) := by
  induction l with
  | nil => simp [sumV]
  | cons p t ih =>
    have h1 := (hf p List.mem_cons_self).v
    have h2 := ih (fun q hq => hf q (List.mem_cons_of_mem _ hq))
    have e : sumV (p :: t) = p.v + sumV t := by simp [sumV]
    rw [e, List.length_cons]
    omega
theorem fold_known (l : List Pt) : (∀ p ∈ l, p.fits) → l.length ≤ 1000000 → Known l (foldA l) := by
  refine snoc_ind (P := fun l => (∀ p ∈ l, p.fits) → l.length ≤ 1000000 → Known l (foldA l)) (fun _ _ => ?_) (fun l p ih hf hl => ?_) l
  · refine ⟨rfl, rfl, fun i => rfl, ?_, ?_, fun h => absurd rfl h, ?_⟩ <;> (intro p hp; cases hp)
  · have hfl : ∀ q ∈ l, q.fits := fun q hq => hf q (List.mem_append_left _ hq)
    have hfp : p.fits := hf p (List.mem_append_right _ (List.mem_singleton.2 rfl))
    rw [List.length_append] at hl
    simp at hl
    have K := ih hfl (by omega)
    rw [foldA_snoc]
    have hbs := sum_bound (l ++ [p]) hf
    rw [sumV_snoc, List.length_append] at hbs
    simp at hbs
    have hv := hfp.v
    by_cases h0 : l.length = 0
    · have hl0 := List.eq_nil_of_length_eq_zero h0
      subst hl0
      rw [show mgA (foldA []) (oneA p.v p.st) = oneA p.v p.st from mg_left rfl]
      refine ⟨rfl, by rw [sumV_snoc]; simp [sumV, oneA], fun i => ?_, fun q hq => ?_, fun q hq => ?_, fun _ => ?_, fun q hq => ?_⟩
      · rw [cntB_snoc]
        by_cases hb : i = bk p.v
        · subst hb; simp [oneA, cntB]
        · have hb' : ¬ bk p.v = i := fun e => hb e.symm
          simp [oneA, cntB, hb, hb']
      · simp at hq; subst hq; exact Int.le_refl _
      · simp at hq; subst hq; exact Int.le_refl _
      · exact ⟨⟨p, by simp, rfl⟩, ⟨p, by simp, rfl⟩, ⟨p, by simp, rfl, rfl⟩⟩
      · simp at hq; subst hq; exact lt_irrefl _
    · rw [mg_both (by rw [K.n]; omega) (show (1 : Int) ≠ 0 by decide)]
      have hne : l ≠ [] := fun e => h0 (by rw [e]; rfl)
      obtain ⟨⟨q1, hq1, e1⟩, ⟨q2, hq2, e2⟩, ⟨q3, hq3, e3, e4⟩⟩ := K.mem hne
      refine ⟨?_, ?_, fun i => ?_, fun q hq => ?_, fun q hq => ?_, fun _ => ⟨?_, ?_, ?_⟩, fun q hq => ?_⟩
      · show w64 (_ + 1) = _
        rw [K.n, w64_self (by omega), List.length_append]; simp
      · show sm (_ + p.v) = _
        rw [K.s, sumV_snoc, sm_self ⟨by omega, by omega⟩]
      · show w64 (_ + if i = bk p.v then 1 else 0) = _
        have hcl := cntB_le l i
        rw [K.b, cntB_snoc]
        by_cases hb : i = bk p.v
        · rw [if_pos hb, if_pos hb.symm, w64_self (by omega)]; omega
        · rw [if_neg hb, if_neg (fun e => hb e.symm), w64_self (by omega)]; omega
      · show min _ p.v ≤ q.v
        rcases List.mem_append.1 hq with h | h
        · have := K.lo q h; omega
        · rw [List.mem_singleton.1 h]; omega
      · show q.v ≤ max _ p.v
        rcases List.mem_append.1 hq with h | h
        · have := K.hi q h; omega
        · rw [List.mem_singleton.1 h]; omega
      · show ∃ q ∈ l ++ [p], q.v = min (foldA l).mn p.v
        by_cases hm : p.v < (foldA l).mn
        · exact ⟨p, by simp, by omega⟩
        · exact ⟨q1, List.mem_append_left _ hq1, by omega⟩
      · show ∃ q ∈ l ++ [p], q.v = max (foldA l).mx p.v
        by_cases hm : (foldA l).mx < p.v
        · exact ⟨p, by simp, by omega⟩
        · exact ⟨q2, List.mem_append_left _ hq2, by omega⟩
      · show ∃ q ∈ l ++ [p], q.st = (if (foldA l).st.lt p.st then p.st else (foldA l).st) ∧ q.v = (if (foldA l).st.lt p.st then p.v else (foldA l).la)
        cases hs : (foldA l).st.lt p.st with
        | true => exact ⟨p, by simp, by simp, by simp⟩
        | false => exact ⟨q3, List.mem_append_left _ hq3, by simpa using e3, by simpa using e4⟩
      · show (if (foldA l).st.lt p.st then p.st else (foldA l).st).lt q.st = false
        cases hs : (foldA l).st.lt p.st with
        | true =>
          simp only [if_true]
          rcases List.mem_append.1 hq with h | h
          · exact lt_weak (lt_asymm hs) (K.late q h)
          · rw [List.mem_singleton.1 h]; exact lt_irrefl _
        | false =>
          simp only [Bool.false_eq_true, if_false]
          rcases List.mem_append.1 hq with h | h
          · exact K.late q h
          · rw [List.mem_singleton.1 h]; exact hs
end Go.Proofs.Ytipjhlabcbkgjaa.Ag
