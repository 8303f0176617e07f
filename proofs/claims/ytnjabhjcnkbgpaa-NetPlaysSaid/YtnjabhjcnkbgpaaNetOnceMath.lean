/- What is owed: of each message as many as were sent and doubled. -/
import Derived.Test.YtnjabhjcnkbgpaaNetOrderMath
set_option maxRecDepth 20000
set_option linter.unusedVariables false
namespace Go.Proofs.Ytnjabhjcnkbgpaa
open Go.RowKit

/-- A message that was sent: its kind, its ends, its bytes. -/
structure Sn where
  k : Int
  f : Int
  t : Int
  s : ByteArray
instance : DecidableEq Ml := fun a b => by
  cases a; cases b; simp only [Ml.mk.injEq]; infer_instance
/-- Is the message m such as x was sent? -/
def isOf (x : Sn) (m : Ml) : Bool := decide (x.f = m.f ∧ x.t = m.t ∧ x.s = m.s)
theorem isOf_iff (x : Sn) (m : Ml) : isOf x m = true ↔ x.f = m.f ∧ x.t = m.t ∧ x.s = m.s := by unfold isOf; exact decide_eq_true_iff
/-- How many such messages wait. -/
def cntM (l : List Ml) (m : Ml) : Nat := l.countP fun y => decide (y.f = m.f ∧ y.t = m.t ∧ y.s = m.s)
/-- How many such messages are owed. -/
def owedFor (m : Ml) : List Sn → List Nat → Nat
  | x :: xs, o :: os => (if isOf x m then o else 0) + owedFor m xs os
  | _, _ => 0
structure Owes (l : List Ml) (xs : List Sn) (os : List Nat) : Prop where
  len : xs.length = os.length
  sum : ∀ m, cntM l m = owedFor m xs os
theorem owed_snoc (m : Ml) : ∀ (xs : List Sn) (os : List Nat), xs.length = os.length → ∀ x o, owedFor m (xs ++ [x]) (os ++ [o]) = owedFor m xs os + (if isOf x m then o else 0)
  | [], [], _, x, o => by simp [owedFor]
  | y :: ys, p :: ps, h, x, o => by
    have := owed_snoc m ys ps (by simpa using h) x o
    simp only [List.cons_append, owedFor, this]; omega
theorem owed_set (m : Ml) : ∀ (xs : List Sn) (os : List Nat) (j : Nat) (x : Sn) (o o' : Nat), xs[j]? = some x → os[j]? = some o → owedFor m xs (os.set j o') + (if isOf x m then o else 0) = owedFor m xs os + (if isOf x m then o' else 0)
  | y :: ys, p :: ps, 0, x, o, o', h1, h2 => by
    simp at h1 h2
    subst h1 h2
    simp only [List.set_cons_zero, owedFor]; omega
  | y :: ys, p :: ps, j + 1, x, o, o', h1, h2 => by
    have := owed_set m ys ps j x o o' (by simpa using h1) (by simpa using h2)
    simp only [List.set_cons_succ, owedFor]; omega
  | [], _, j, x, o, o', h1, h2 => by simp at h1
  | _ :: _, [], j, x, o, o', h1, h2 => by simp at h2
/-- One of those that are owed is found. -/
theorem owed_pos (m : Ml) : ∀ (xs : List Sn) (os : List Nat), xs.length = os.length → 0 < owedFor m xs os → ∃ (j : Nat) (x : Sn) (o : Nat), xs[j]? = some x ∧ os[j]? = some o ∧ isOf x m = true ∧ 0 < o
  | [], [], _, h => by simp [owedFor] at h
  | y :: ys, p :: ps, hl, h => by
    by_cases h1 : isOf y m = true ∧ 0 < p
    · exact ⟨0, y, p, rfl, rfl, h1.1, h1.2⟩
    · have h2 : 0 < owedFor m ys ps := by
        simp only [owedFor] at h
        by_cases h3 : isOf y m = true
        · rw [if_pos h3] at h
          have : ¬ 0 < p := fun hp => h1 ⟨h3, hp⟩
          omega
        · rw [if_neg h3] at h; omega
      obtain ⟨j, x, o, a, b, c, d⟩ := owed_pos m ys ps (by simpa using hl) h2
      exact ⟨j + 1, x, o, by simpa using a, by simpa using b, c, d⟩
theorem owed_zero (m : Ml) : ∀ (xs : List Sn) (os : List Nat), owedFor m xs os = 0 → ∀ (j : Nat) (x : Sn) (o : Nat), xs[j]? = some x → os[j]? = some o → isOf x m = true → o = 0
  | y :: ys, p :: ps, h, 0, x, o, h1, h2, h3 => by
    simp at h1 h2
    subst h1 h2
    simp only [owedFor] at h
    rw [if_pos h3] at h; omega
  | y :: ys, p :: ps, h, j + 1, x, o, h1, h2, h3 => by
    simp only [owedFor] at h
    exact owed_zero m ys ps (by omega) j x o (by simpa using h1) (by simpa using h2) h3
  | [], _, _, j, x, o, h1, _, _ => by simp at h1
  | _ :: _, [], _, j, x, o, _, h2, _ => by simp at h2
theorem cnt_app (l : List Ml) (x m : Ml) : cntM (l ++ [x]) m = cntM l m + (if x.f = m.f ∧ x.t = m.t ∧ x.s = m.s then 1 else 0) := by
  unfold cntM
  rw [List.countP_append, List.countP_cons, List.countP_nil]
  by_cases h : x.f = m.f ∧ x.t = m.t ∧ x.s = m.s
  · rw [if_pos h, decide_eq_true h]; rfl
  · rw [if_neg h, decide_eq_false h]; rfl
theorem cnt_rm {l : List Ml} {i : Nat} {x : Ml} (h : l[i]? = some x) (m : Ml) : cntM (l.take i ++ l.drop (i + 1)) m + (if x.f = m.f ∧ x.t = m.t ∧ x.s = m.s then 1 else 0) = cntM l m := by
  have e := filter_split (fun _ => true) h
  have e2 : cntM l m = cntM (l.take i ++ x :: l.drop (i + 1)) m := by rw [← e]
  rw [e2]
  unfold cntM
  rw [List.countP_append, List.countP_append, List.countP_cons]
  by_cases h : x.f = m.f ∧ x.t = m.t ∧ x.s = m.s
  · rw [if_pos h, decide_eq_true h]; simp; omega
  · rw [if_neg h, decide_eq_false h]; simp
theorem isOf_self (k f t : Int) (s : ByteArray) (n a : Int) : isOf ⟨k, f, t, s⟩ ⟨n, f, t, s, a⟩ = true := (isOf_iff _ _).2 ⟨rfl, rfl, rfl⟩
theorem Owes.sent {l : List Ml} {xs : List Sn} {os : List Nat} (h : Owes l xs os) (k f t : Int) (s : ByteArray) (n a : Int) : Owes (l ++ [⟨n, f, t, s, a⟩]) (xs ++ [⟨k, f, t, s⟩]) (os ++ [1]) := by
  refine ⟨by rw [List.length_append, List.length_append, h.len]; rfl, fun m => ?_⟩
  rw [cnt_app, owed_snoc m xs os h.len, h.sum m]
  unfold isOf
  dsimp only
  by_cases e : f = m.f ∧ t = m.t ∧ s = m.s
  · rw [if_pos e, decide_eq_true e]; rfl
  · rw [if_neg e, decide_eq_false e]; rfl
/-- The last one that was sent is doubled. -/
theorem Owes.doubled {l : List Ml} {xs : List Sn} {os : List Nat} (k f t : Int) (s : ByteArray) (n n' a a' : Int) {o : Nat} (h : Owes l (xs ++ [⟨k, f, t, s⟩]) (os ++ [o])) : Owes (l ++ [⟨n', f, t, s, a'⟩]) (xs ++ [⟨k, f, t, s⟩]) (os ++ [o + 1]) := by
  have hl : xs.length = os.length := by have := h.len; rw [List.length_append, List.length_append] at this; simpa using this
  refine ⟨by rw [List.length_append, List.length_append, hl]; rfl, fun m => ?_⟩
  rw [cnt_app, h.sum m, owed_snoc m xs os hl, owed_snoc m xs os hl]
  unfold isOf
  dsimp only
  by_cases e : f = m.f ∧ t = m.t ∧ s = m.s
  · rw [if_pos e, decide_eq_true e]; simp only [if_true]; omega
  · rw [if_neg e, decide_eq_false e]; simp
/-- The first one that is owed. -/
theorem Owes.take {l : List Ml} {xs : List Sn} {os : List Nat} (h : Owes l xs os) {i : Nat} {m : Ml} (hm : l[i]? = some m) {j : Nat} {x : Sn} {o : Nat} (hx : xs[j]? = some x) (ho : os[j]? = some (o + 1)) (hi : isOf x m = true) : Owes (l.take i ++ l.drop (i + 1)) xs (os.set j o) := by
  refine ⟨by rw [List.length_set]; exact h.len, fun y => ?_⟩
  have e1 := cnt_rm hm y
  have e2 := owed_set y xs os j x (o + 1) o hx ho
  rw [h.sum y] at e1
  have e3 : isOf x y = decide (m.f = y.f ∧ m.t = y.t ∧ m.s = y.s) := by
    obtain ⟨a, b, c⟩ := (isOf_iff x m).1 hi
    unfold isOf
    rw [a, b, c]
  rw [e3] at e2
  by_cases e : m.f = y.f ∧ m.t = y.t ∧ m.s = y.s
  · rw [if_pos e] at e1
    rw [decide_eq_true e, if_pos rfl, if_pos rfl] at e2
    omega
  · rw [if_neg e] at e1
    rw [decide_eq_false e, if_neg (by decide), if_neg (by decide)] at e2
    omega
theorem cnt_pos {l : List Ml} {i : Nat} {m : Ml} (h : l[i]? = some m) : 0 < cntM l m := by
  have := cnt_rm h m
  rw [if_pos ⟨rfl, rfl, rfl⟩] at this
  omega
theorem Owes.found {l : List Ml} {xs : List Sn} {os : List Nat} (h : Owes l xs os) {i : Nat} {m : Ml} (hm : l[i]? = some m) : ∃ (j : Nat) (x : Sn) (o : Nat), xs[j]? = some x ∧ os[j]? = some o ∧ isOf x m = true ∧ 0 < o :=
  owed_pos m xs os h.len (by rw [← h.sum m]; exact cnt_pos hm)
theorem Owes.none {xs : List Sn} {os : List Nat} (h : Owes [] xs os) : ∀ o ∈ os, o = 0 := by
  intro o ho
  obtain ⟨j, hj, rfl⟩ := List.getElem_of_mem ho
  have hx : j < xs.length := by rw [h.len]; exact hj
  exact owed_zero ⟨0, xs[j].f, xs[j].t, xs[j].s, 0⟩ xs os (by rw [← h.sum]; rfl) j xs[j] os[j] (List.getElem?_eq_getElem hx) (List.getElem?_eq_getElem hj) ((isOf_iff _ _).2 ⟨rfl, rfl, rfl⟩)
end Go.Proofs.Ytnjabhjcnkbgpaa
