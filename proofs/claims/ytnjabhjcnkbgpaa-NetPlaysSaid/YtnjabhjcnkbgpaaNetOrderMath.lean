/- What is ready, what is shut, and how they turn. -/
import Derived.Test.YtnjabhjcnkbgpaaNetMath
set_option maxRecDepth 20000
set_option linter.unusedVariables false
namespace Go.Proofs.Ytnjabhjcnkbgpaa
open Go.RowKit

theorem whr_nth (p : Ml → Bool) (l : List Ml) : ∀ n, n ≤ l.length → ∀ j (h : j < (whr p l n).length), ∃ m, l[(whr p l n)[j]]? = some m ∧ p m = true ∧ ((l.take (whr p l n)[j]).filter p).length = j
  | 0, _, j, h => by simp [whr] at h
  | n + 1, hn, j, h => by
    have ih := whr_nth p l n (by omega)
    have hl : n < l.length := by omega
    by_cases hp : p l[n] = true
    · have e : whr p l (n + 1) = whr p l n ++ [n] := by rw [whr_step hl, if_pos hp]
      have e2 : (whr p l (n + 1))[j]? = (whr p l n ++ [n])[j]? := by rw [e]
      rw [List.getElem?_eq_getElem h] at e2
      have hlen : (whr p l (n + 1)).length = (whr p l n).length + 1 := by rw [e, List.length_append]; rfl
      by_cases hj : j < (whr p l n).length
      · rw [List.getElem?_append_left hj, List.getElem?_eq_getElem hj] at e2
        injection e2 with e2
        rw [e2]; exact ih j hj
      · have hj2 : j = (whr p l n).length := by omega
        subst hj2
        rw [List.getElem?_append_right (Nat.le_refl _), Nat.sub_self] at e2
        simp at e2
        rw [e2]
        refine ⟨l[n], List.getElem?_eq_getElem hl, hp, ?_⟩
        rw [← atL_whr p l n (by omega), atL_len fun i hi => (whr_lt n hi).2]
    · have e : whr p l (n + 1) = whr p l n := by rw [whr_step hl, if_neg hp]
      have e2 : (whr p l (n + 1))[j]? = (whr p l n)[j]? := by rw [e]
      have hj : j < (whr p l n).length := by rw [e] at h; exact h
      rw [List.getElem?_eq_getElem h, List.getElem?_eq_getElem hj] at e2
      injection e2 with e2
      rw [e2]; exact ih j hj
theorem filter_split (p : Ml → Bool) {l : List Ml} {i : Nat} {m : Ml} (h : l[i]? = some m) : l = l.take i ++ m :: l.drop (i + 1) := by
  obtain ⟨hi, rfl⟩ := List.getElem?_eq_some_iff.1 h
  rw [← List.drop_eq_getElem_cons hi, List.take_append_drop]
theorem filter_remove (p : Ml → Bool) {l : List Ml} {i : Nat} {m : Ml} (h : l[i]? = some m) (hp : p m = true) : (l.take i ++ l.drop (i + 1)).filter p = (l.filter p).eraseIdx ((l.take i).filter p).length := by
  have e : l.filter p = (l.take i).filter p ++ m :: (l.drop (i + 1)).filter p := by
    have h2 := congrArg (List.filter p) (filter_split p h)
    rw [List.filter_append, List.filter_cons, if_pos hp] at h2
    exact h2
  rw [e, List.eraseIdx_append_of_length_le (Nat.le_refl _), Nat.sub_self, List.filter_append]; rfl
theorem filter_keep (p : Ml → Bool) {l : List Ml} {i : Nat} {m : Ml} (h : l[i]? = some m) (hp : p m = false) : (l.take i ++ l.drop (i + 1)).filter p = l.filter p := by
  have h2 := congrArg (List.filter p) (filter_split p h)
  rw [List.filter_append, List.filter_cons, if_neg (by rw [hp]; decide)] at h2
  rw [h2, List.filter_append]
def shutL (S : NS) : List Ml := S.mail.filter fun m => !openB S.par m
/-- What Take does, told over what is ready. -/
structure Took (S : NS) (x : Int) (m : Ml) (S' : NS) : Prop where
  got : (readyL S)[pickN x (readyL S).length]? = some m
  took : takeM S x = some m
  par : S'.par = S.par
  last : S'.last = S.last
  ready : readyL S' = (readyL S).eraseIdx (pickN x (readyL S).length)
  shut : shutL S' = shutL S
  place : ∃ i, S.mail[i]? = some m ∧ S' = removeS S i
  one : S'.mail.length + 1 = S.mail.length
  open_ : openB S.par m = true
theorem takes (S : NS) (x : Int) (h0 : 0 < (readyL S).length) : ∃ m, Took S x m (takeS S x) := by
  have hl := ready_len S
  have hk := (pick_lt x h0).2.2.2
  obtain ⟨k, hk2⟩ : ∃ k, pickN x (readyL S).length = k := ⟨_, rfl⟩
  rw [hk2] at hk
  obtain ⟨m, hm, hp, hc⟩ := whr_nth (openB S.par) S.mail S.mail.length (Nat.le_refl _) k (by show k < (openP S).length; omega)
  obtain ⟨i, hi⟩ : ∃ i, (whr (openB S.par) S.mail S.mail.length)[k]'(by show k < (openP S).length; omega) = i := ⟨_, rfl⟩
  rw [hi] at hm hc
  have eI : takeI S x = some i := by
    unfold takeI
    rw [if_neg (by omega), hl, hk2, List.getElem?_eq_getElem (by omega)]
    exact congrArg some hi
  have eS : takeS S x = removeS S i := by unfold takeS; rw [eI]
  have eM : takeM S x = some m := by unfold takeM; rw [eI]; exact hm
  have hil := (List.getElem?_eq_some_iff.1 hm).1
  refine ⟨m, ?_⟩
  rw [eS]
  refine ⟨?_, eM, rfl, rfl, ?_, ?_, ⟨i, hm, rfl⟩, ?_, hp⟩
  · rw [hk2, ← ready_at, atL_get (l := S.mail) (ps := openP S) (fun j hj => (whr_lt _ hj).2) k (by omega)]
    have : (openP S)[k]'(by omega) = i := hi
    rw [this]; exact hm
  · rw [hk2]
    have := filter_remove (openB S.par) hm hp
    rw [hc] at this
    exact this
  · exact filter_keep (fun m => !openB S.par m) hm (by rw [hp]; rfl)
  · unfold removeS
    rw [List.length_append, List.length_take, List.length_drop]; omega
theorem take_head {S : NS} {m : Ml} {r : List Ml} (h : readyL S = m :: r) : Took S 0 m (takeS S 0) ∧ readyL (takeS S 0) = r := by
  obtain ⟨m', h2⟩ := takes S 0 (by rw [h]; simp)
  have hp : pickN 0 (readyL S).length = 0 := by
    unfold pickN pickI
    rw [if_neg (by decide), Int.zero_tmod]; rfl
  have e := h2.got
  rw [hp, h] at e
  simp at e
  subst e
  refine ⟨h2, ?_⟩
  rw [h2.ready, hp, h]; rfl
theorem take_empty {S : NS} (x : Int) (h : readyL S = []) : takeM S x = none ∧ takeS S x = S := by
  have e : takeI S x = none := by unfold takeI; rw [if_pos (by rw [h]; rfl)]
  exact ⟨by unfold takeM; rw [e], by unfold takeS; rw [e]⟩
/-- Numbers rise. -/
structure Rise (S : NS) : Prop where
  pair : S.mail.Pairwise fun x y => x.n < y.n
  low : ∀ m ∈ S.mail, 1 ≤ m.n ∧ m.n ≤ S.last
theorem inc_low {x : Int} (h : 0 ≤ x) (h2 : x ≤ 1000000) : inc x = x + 1 := by unfold inc; rw [IntKind.wrap_i64]; omega
theorem Rise.add {S : NS} (h : Rise S) (h0 : 0 ≤ S.last) (h1 : S.last ≤ 1000000) (f t : Int) (s : ByteArray) : Rise (addS S f t s) := by
  unfold addS
  rw [inc_low h0 h1]
  refine ⟨?_, fun m hm => ?_⟩
  · refine List.pairwise_append.2 ⟨h.pair, List.pairwise_singleton _ _, fun x hx y hy => ?_⟩
    simp at hy
    subst hy
    have := (h.low x hx).2
    show x.n < S.last + 1
    omega
  · rcases List.mem_append.1 hm with hm | hm
    · have := h.low m hm
      show 1 ≤ m.n ∧ m.n ≤ S.last + 1
      omega
    · simp at hm
      subst hm
      show 1 ≤ S.last + 1 ∧ S.last + 1 ≤ S.last + 1
      omega
theorem ready_add (S : NS) (f t : Int) (s : ByteArray) : readyL (addS S f t s) = readyL S ++ (if openB S.par ⟨inc S.last, f, t, s, 0⟩ then [⟨inc S.last, f, t, s, 0⟩] else []) := by
  unfold readyL addS
  rw [List.filter_append, List.filter_cons, List.filter_nil]
theorem shut_add (S : NS) (f t : Int) (s : ByteArray) : shutL (addS S f t s) = shutL S ++ (if openB S.par ⟨inc S.last, f, t, s, 0⟩ then [] else [⟨inc S.last, f, t, s, 0⟩]) := by
  unfold shutL addS
  rw [List.filter_append, List.filter_cons, List.filter_nil]
  cases openB S.par ⟨inc S.last, f, t, s, 0⟩ <;> rfl
def idsN (l : List Ml) : List Nat := l.map fun m => m.n.toNat
theorem ids_at {l : List Ml} {j : Nat} (h : j < l.length) (h2 : j < (idsN l).length) : (idsN l)[j] = l[j].n.toNat := List.getElem_map (fun m : Ml => m.n.toNat)
theorem two_low {x y : Nat} (hx : x < 4) (hy : y < 4) : twoB (x : Int) (y : Int) = !(decide (x = y)) := by
  unfold twoB endB
  rw [decide_eq_true (show (0 : Int) ≤ (x : Int) by omega), decide_eq_true (show (x : Int) < 64 by omega), decide_eq_true (show (0 : Int) ≤ (y : Int) by omega), decide_eq_true (show (y : Int) < 64 by omega)]
  by_cases h : x = y
  · subst h; simp
  · rw [decide_eq_false h]
    have : ((x : Int) == (y : Int)) = false := by rw [beq_eq_false_iff_ne]; omega
    rw [this]; rfl
/-- Which ends are parted in the laws: a and b, unless they are one. -/
def parAB (a b : Nat) : Nat → Bool := (setS NS.new (a : Int) (b : Int) true).par
theorem par_is {a b : Nat} (ha : a < 4) (hb : b < 4) : parAB a b = if a = b then fun _ => false else turnP (fun _ => false) (a : Int) (b : Int) true := by
  unfold parAB setS sameAs
  rw [two_low ha hb]
  by_cases h : a = b
  · rw [if_pos h, decide_eq_true h]; rfl
  · rw [if_neg h, decide_eq_false h]; rfl
theorem par_spot {a b x y : Nat} (ha : a < 4) (hb : b < 4) (hx : x < 4) (hy : y < 4) (hxy : x ≠ y) : parAB a b (spot (x : Int) (y : Int)) = (decide (x = a ∧ y = b) || decide (x = b ∧ y = a)) := by
  rw [par_is ha hb]
  by_cases h : a = b
  · subst h
    rw [if_pos rfl, decide_eq_false (by omega)]; rfl
  · rw [if_neg h]
    unfold turnP
    rw [spot_nat, spot_nat, spot_nat]
    by_cases h1 : x = a ∧ y = b
    · rw [if_pos (Or.inl (by omega)), decide_eq_true h1]; rfl
    · by_cases h2 : x = b ∧ y = a
      · rw [if_pos (Or.inr (by omega)), decide_eq_true h2, Bool.or_true]
      · rw [if_neg (by omega), decide_eq_false h1, decide_eq_false h2]; rfl
/-- Joined again, nobody is parted. -/
theorem join_none {a b : Nat} (ha : a < 4) (hb : b < 4) {S : NS} (h : S.par = parAB a b) : (setS S (a : Int) (b : Int) false).par = (fun _ => false) ∧ (setS S (a : Int) (b : Int) false).mail = S.mail := by
  unfold setS sameAs
  rw [two_low ha hb, h, par_is ha hb]
  by_cases e : a = b
  · rw [decide_eq_true e, if_pos e]
    refine ⟨?_, rfl⟩
    show S.par = _
    rw [h, par_is ha hb, if_pos e]
  · rw [decide_eq_false e, if_neg e]
    have h1 : turnP (fun _ => false) (a : Int) (b : Int) true (spot (a : Int) (b : Int)) = true := by unfold turnP; rw [if_pos (Or.inl rfl)]
    rw [h1]
    rw [if_neg (by decide)]
    refine ⟨?_, rfl⟩
    show turnP (turnP (fun _ => false) (a : Int) (b : Int) true) (a : Int) (b : Int) false = _
    funext k
    unfold turnP
    by_cases hk : k = spot (a : Int) (b : Int) ∨ k = spot (b : Int) (a : Int)
    · rw [if_pos hk]
    · rw [if_neg hk, if_neg hk]
theorem ready_none {S : NS} (h : S.par = fun _ => false) : readyL S = S.mail := by
  unfold readyL openB
  rw [h]; simp
theorem shut_all {S : NS} (h : readyL S = []) : shutL S = S.mail := by
  unfold readyL at h
  unfold shutL
  refine List.filter_eq_self.2 fun m hm => ?_
  have := List.filter_eq_nil_iff.1 h m hm
  simpa using this
end Go.Proofs.Ytnjabhjcnkbgpaa
