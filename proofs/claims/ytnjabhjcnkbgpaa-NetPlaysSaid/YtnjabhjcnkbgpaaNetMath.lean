/- A network as plain mathematics. -/
import Derived.RowKit
import Derived.Lib.Hide
namespace Go.Proofs.Ytnjabhjcnkbgpaa
open Go.RowKit

/-- A message: its number, its ends, its bytes, its age. -/
structure Ml where
  n : Int
  f : Int
  t : Int
  s : ByteArray
  a : Int
/-- A network: what waits, the last number, which ends are parted (an end times 64, and the other one). -/
structure NS where
  mail : List Ml
  last : Int
  par : Nat → Bool
def NS.new : NS := ⟨[], 0, fun _ => false⟩
def endB (a : Int) : Bool := decide (0 ≤ a) && decide (a < 64)
def twoB (a b : Int) : Bool := endB a && endB b && !(a == b)
def spot (a b : Int) : Nat := (a * 64 + b).toNat
theorem endB_yes {a : Int} (h : endB a = true) : ∃ x : Nat, a = (x : Int) ∧ x < 64 := by
  unfold endB at h
  simp at h
  obtain ⟨x, rfl⟩ := Int.eq_ofNat_of_zero_le h.1
  exact ⟨x, rfl, by omega⟩
theorem twoB_yes {a b : Int} (h : twoB a b = true) : ∃ x y : Nat, a = (x : Int) ∧ b = (y : Int) ∧ x < 64 ∧ y < 64 ∧ x ≠ y := by
  unfold twoB at h
  simp only [Bool.and_eq_true, Bool.not_eq_true', beq_eq_false_iff_ne] at h
  obtain ⟨x, rfl, hx⟩ := endB_yes h.1.1
  obtain ⟨y, rfl, hy⟩ := endB_yes h.1.2
  exact ⟨x, y, rfl, rfl, hx, hy, fun e => h.2 (by rw [e])⟩
theorem spot_nat (x y : Nat) : spot (x : Int) (y : Int) = x * 64 + y := by unfold spot; omega
theorem spot_lt {x y : Nat} (hx : x < 64) (hy : y < 64) : x * 64 + y < 4096 := by omega
/-- The selected one of k things. -/
def pickI (x : Int) (k : Nat) : Int := (if x < 0 then -(x + 1) else x).tmod (k : Int)
def pickN (x : Int) (k : Nat) : Nat := (pickI x k).toNat
theorem pick_lt (x : Int) {k : Nat} (hk : 0 < k) : 0 ≤ pickI x k ∧ pickI x k < (k : Int) ∧ pickI x k = (pickN x k : Int) ∧ pickN x k < k := by
  have h0 : 0 ≤ (if x < 0 then -(x + 1) else x) := by split <;> omega
  have h1 : 0 ≤ pickI x k := Int.tmod_nonneg _ h0
  have h2 : pickI x k < (k : Int) := Int.tmod_lt_of_pos _ (by omega)
  unfold pickN
  omega
def inc (x : Int) : Int := IntKind.i64.wrap (x + 1)
def addS (S : NS) (f t : Int) (s : ByteArray) : NS := { S with mail := S.mail ++ [⟨inc S.last, f, t, s, 0⟩], last := inc S.last }
def fullB (S : NS) : Bool := decide (2000 ≤ S.mail.length)
def refuse (S : NS) (f t : Int) (s : ByteArray) : Bool := !twoB f t || decide (80000 < s.size) || fullB S
def sendS (S : NS) (f t : Int) (s : ByteArray) : NS := if refuse S f t s then S else addS S f t s
def sendN (S : NS) (f t : Int) (s : ByteArray) : Int := if refuse S f t s then 0 else inc S.last
def turnP (par : Nat → Bool) (a b : Int) (v : Bool) : Nat → Bool := fun k => if k = spot a b ∨ k = spot b a then v else par k
def sameAs (S : NS) (a b : Int) (v : Bool) : Bool := !twoB a b || (S.par (spot a b) == v)
def setS (S : NS) (a b : Int) (v : Bool) : NS := if sameAs S a b v then S else { S with par := turnP S.par a b v }
def healS (S : NS) : NS := { S with par := fun _ => false }
def partedB (S : NS) (a b : Int) : Bool := twoB a b && S.par (spot a b)
def older (m : Ml) : Ml := { m with a := inc m.a }
def tickS (S : NS) : NS := { S with mail := S.mail.map older }
def openB (par : Nat → Bool) (m : Ml) : Bool := !par (spot m.f m.t)
/-- The places, of the first k, of those for which p holds. -/
def whr (p : Ml → Bool) (l : List Ml) : Nat → List Nat
  | 0 => []
  | k + 1 => match l[k]? with
    | some m => if p m then whr p l k ++ [k] else whr p l k
    | none => whr p l k
theorem whr_lt {p : Ml → Bool} {l : List Ml} : ∀ k {i : Nat}, i ∈ whr p l k → i < k ∧ i < l.length
  | 0, i, h => by simp [whr] at h
  | k + 1, i, h => by
    unfold whr at h
    cases e : l[k]? with
    | none => rw [e] at h; have := whr_lt k h; omega
    | some m =>
      rw [e] at h
      have hk := (List.getElem?_eq_some_iff.1 e).1
      dsimp only at h
      split at h
      · rcases List.mem_append.1 h with h | h
        · have := whr_lt k h; omega
        · simp at h; omega
      · have := whr_lt k h; omega
theorem whr_len (p : Ml → Bool) (l : List Ml) : ∀ k, (whr p l k).length ≤ k
  | 0 => Nat.le_refl _
  | k + 1 => by
    have := whr_len p l k
    unfold whr
    cases l[k]? with
    | none => exact Nat.le_trans this (Nat.le_succ k)
    | some m =>
      dsimp only
      split
      · rw [List.length_append]; simp; omega
      · omega
theorem whr_step {p : Ml → Bool} {l : List Ml} {k : Nat} (h : k < l.length) : whr p l (k + 1) = if p l[k] then whr p l k ++ [k] else whr p l k := by
  rw [whr, List.getElem?_eq_getElem h]
/-- What stands at some places. -/
def atL (l : List Ml) (ps : List Nat) : List Ml := ps.filterMap fun i => l[i]?
theorem atL_whr (p : Ml → Bool) (l : List Ml) : ∀ k, k ≤ l.length → atL l (whr p l k) = (l.take k).filter p
  | 0, _ => by simp [whr, atL]
  | k + 1, h => by
    have ih := atL_whr p l k (by omega)
    rw [whr_step (by omega), List.take_succ_eq_append_getElem (by omega), List.filter_append]
    by_cases hp : p l[k] = true
    · rw [if_pos hp]
      unfold atL at ih ⊢
      rw [List.filterMap_append, ih]
      simp [List.getElem?_eq_getElem (show k < l.length by omega), hp]
    · rw [if_neg hp, ih]
      simp [hp]
theorem atL_len {l : List Ml} {ps : List Nat} (h : ∀ i ∈ ps, i < l.length) : (atL l ps).length = ps.length := by
  unfold atL
  induction ps with
  | nil => rfl
  | cons i r ih =>
    rw [List.filterMap_cons, List.getElem?_eq_getElem (h i (by simp))]
    simp [ih fun j hj => h j (by simp [hj])]
theorem atL_get {l : List Ml} {ps : List Nat} (h : ∀ i ∈ ps, i < l.length) (j : Nat) (hj : j < ps.length) : (atL l ps)[j]? = l[ps[j]]? := by
  unfold atL
  induction ps generalizing j with
  | nil => simp at hj
  | cons i r ih =>
    rw [List.filterMap_cons, List.getElem?_eq_getElem (h i (by simp))]
    cases j with
    | zero => simp [List.getElem?_eq_getElem (h i (by simp))]
    | succ j => simpa using ih (fun x hx => h x (by simp [hx])) j (by simpa using hj)
def openP (S : NS) : List Nat := whr (openB S.par) S.mail S.mail.length
def readyL (S : NS) : List Ml := S.mail.filter (openB S.par)
theorem ready_at (S : NS) : atL S.mail (openP S) = readyL S := by
  unfold openP readyL
  rw [atL_whr _ _ _ (Nat.le_refl _), List.take_of_length_le (Nat.le_refl _)]
theorem ready_len (S : NS) : (openP S).length = (readyL S).length := by
  rw [← ready_at]; exact (atL_len (ps := openP S) fun i hi => (whr_lt _ hi).2).symm
def removeS (S : NS) (i : Nat) : NS := { S with mail := S.mail.take i ++ S.mail.drop (i + 1) }
/-- Which message is taken: its place. -/
def takeI (S : NS) (x : Int) : Option Nat := if (readyL S).length = 0 then none else (openP S)[pickN x (openP S).length]?
def takeS (S : NS) (x : Int) : NS := match takeI S x with | some i => removeS S i | none => S
def takeM (S : NS) (x : Int) : Option Ml := match takeI S x with | some i => S.mail[i]? | none => none
def dropS (S : NS) (x : Int) : NS := if S.mail.length = 0 then S else removeS S (pickN x S.mail.length)
def doubleB (S : NS) : Bool := !(S.mail.length == 0) && !fullB S
def doubleS (S : NS) (x : Int) : NS := if doubleB S then match S.mail[pickN x S.mail.length]? with | some m => addS S m.f m.t m.s | none => S else S
def loseB (e : Int) (m : Ml) : Bool := !(m.f == e) && !(m.t == e)
def loseS (S : NS) (e : Int) : NS := { S with mail := S.mail.filter (loseB e) }
def loseN (S : NS) (e : Int) : Int := (S.mail.length : Int) - ((S.mail.filter (loseB e)).length : Int)
def oldestS (S : NS) : Int := match S.mail with | [] => 0 | m :: _ => m.a
end Go.Proofs.Ytnjabhjcnkbgpaa
