/- The hints, as plain mathematics: points that are kept for nodes; the order in which a node's points are told. -/
import Derived.Test.YtolmhlfegllfoaaBlockMath
import Derived.Test.YtolmhlfegllfoaaSampleG
import Derived.Test.YtolmhlfegllfoaaQuRow
set_option maxRecDepth 20000
set_option linter.unusedSimpArgs false
set_option linter.unusedVariables false
namespace Go.Proofs.Ytolmhlfegllfoaa.Qu.Hi
open Go.RowKit Go.Proofs.Ytolmhlfegllfoaa.Vi Go.Proofs.Ytolmhlfegllfoaa.Mk

/-- A point and the node for which it is kept. -/
structure Hk where
  p : Pt
  n : Int
theorem Hk.ext' {a b : Hk} (h1 : a.p = b.p) (h2 : a.n = b.n) : a = b := by
  obtain ⟨p, n⟩ := a
  obtain ⟨q, m⟩ := b
  dsimp only at h1 h2
  subst h1 h2
  rfl
instance : DecidableEq Hk := fun a b => decidable_of_iff (a.p = b.p ∧ a.n = b.n) ⟨fun h => Hk.ext' h.1 h.2, fun h => by subst h; exact ⟨rfl, rfl⟩⟩
/-- What may be kept. -/
structure Hk.fine (x : Hk) : Prop where
  ok : x.p.err = 0
  fits : x.p.fits
  node : 0 ≤ x.n ∧ x.n < 16

def hasB (L : List Hk) (x : Hk) : Bool := decide (x ∈ L)
/-- The numbers from 0 to 15 of a set. -/
def pickN (p : Int → Bool) (k : Nat) : List Int := ((List.range k).map fun i : Nat => (i : Int)).filter p
def pick (p : Int → Bool) : List Int := pickN p 16
theorem pick_mem {p : Int → Bool} {n : Int} : n ∈ pick p ↔ (0 ≤ n ∧ n < 16) ∧ p n = true := by
  unfold pick pickN
  rw [List.mem_filter, List.mem_map]
  constructor
  · rintro ⟨⟨i, hi, rfl⟩, h⟩
    have := List.mem_range.1 hi
    exact ⟨by omega, h⟩
  · rintro ⟨h1, h2⟩
    exact ⟨⟨n.toNat, List.mem_range.2 (by omega), by omega⟩, h2⟩
theorem pick_len (p : Int → Bool) : (pick p).length ≤ 16 := by
  unfold pick pickN
  refine Nat.le_trans (List.length_filter_le _ _) ?_
  simp
theorem pick_congr {p q : Int → Bool} (h : ∀ n, 0 ≤ n → n < 16 → p n = q n) : pick p = pick q := by
  unfold pick pickN
  refine List.filter_congr fun n hn => ?_
  obtain ⟨i, hi, rfl⟩ := List.mem_map.1 hn
  have := List.mem_range.1 hi
  exact h _ (by omega) (by omega)
/-- What is new for some nodes. -/
def newB (L : List Hk) (p : Pt) (l : List Int) (n : Int) : Bool := inL l n && !hasB L ⟨p, n⟩
def freshL (L : List Hk) (p : Pt) (l : List Int) : List Hk := (pick (newB L p l)).map fun n => ⟨p, n⟩
theorem fresh_mem {L : List Hk} {p : Pt} {l : List Int} {x : Hk} : x ∈ freshL L p l ↔ x.p = p ∧ (0 ≤ x.n ∧ x.n < 16) ∧ x.n ∈ l ∧ x ∉ L := by
  unfold freshL
  rw [List.mem_map]
  constructor
  · rintro ⟨n, hn, rfl⟩
    obtain ⟨h1, h2⟩ := pick_mem.1 hn
    unfold newB inL hasB at h2
    simp only [Bool.and_eq_true, decide_eq_true_eq, Bool.not_eq_true', decide_eq_false_iff_not] at h2
    exact ⟨rfl, h1, h2.1, h2.2⟩
  · rintro ⟨rfl, h1, h2, h3⟩
    refine ⟨x.n, pick_mem.2 ⟨h1, ?_⟩, rfl⟩
    unfold newB inL hasB
    simp only [Bool.and_eq_true, decide_eq_true_eq, Bool.not_eq_true', decide_eq_false_iff_not]
    exact ⟨h2, h3⟩
theorem fresh_len (L : List Hk) (p : Pt) (l : List Int) : (freshL L p l).length ≤ 16 := by
  unfold freshL
  rw [List.length_map]
  exact pick_len _
theorem range_nodup : ((List.range 16).map fun i : Nat => (i : Int)).Nodup := by decide
theorem pick_nodup (p : Int → Bool) : (pick p).Nodup := range_nodup.filter _
theorem fresh_nodup (L : List Hk) (p : Pt) (l : List Int) : (freshL L p l).Nodup := by
  unfold freshL
  exact List.Pairwise.map _ (fun a b (h : a ≠ b) e => h (by injection e)) (pick_nodup _)

/-- The hints of a collection, with what is always so of them. -/
structure Good (L : List Hk) : Prop where
  nodup : L.Nodup
  fine : ∀ x ∈ L, x.fine
theorem Good.nil : Good [] := ⟨List.nodup_nil, fun x hx => by cases hx⟩
theorem Good.add {L : List Hk} (h : Good L) {p : Pt} (hp : p.err = 0) (hf : p.fits) (l : List Int) : Good (L ++ freshL L p l) := by
  refine ⟨List.nodup_append.2 ⟨h.nodup, fresh_nodup _ _ _, fun a ha b hb e => ?_⟩, fun x hx => ?_⟩
  · subst e
    exact (fresh_mem.1 hb).2.2.2 ha
  · rcases List.mem_append.1 hx with hx | hx
    · exact h.fine x hx
    · obtain ⟨rfl, h1, -, -⟩ := fresh_mem.1 hx
      exact ⟨hp, hf, h1⟩
theorem Good.filter {L : List Hk} (h : Good L) (q : Hk → Bool) : Good (L.filter q) := ⟨h.nodup.filter _, fun x hx => h.fine x (List.mem_filter.1 hx).1⟩

/-- .. and what is acknowledged. -/
def ackL (L : List Hk) (n : Int) (ps : List Pt) : List Hk := L.filter fun x => !(decide (x.n = n) && decide (x.p ∈ ps))
def dropL (L : List Hk) (t : Int) : List Hk := L.filter fun x => decide (t ≤ x.p.t)
def ofL (L : List Hk) (n : Int) : List Pt := (L.filter fun x => decide (x.n = n)).map Hk.p
def owedL (L : List Hk) (p : Pt) : List Int := pick fun n => hasB L ⟨p, n⟩
def anyB (L : List Hk) (n : Int) : Bool := L.any fun x => decide (x.n = n)
def nodesH (L : List Hk) : List Int := pick (anyB L)
def addOk (L : List Hk) (room : Int) (p : Pt) (l : List Int) : Bool := decide (p.err = 0) && decide (((L.length + (freshL L p l).length : Nat) : Int) ≤ room)
def addL (L : List Hk) (room : Int) (p : Pt) (l : List Int) : List Hk := if addOk L room p l = true then L ++ freshL L p l else L

/-- The order in which points are told. -/
def ahB (a b : Pt) : Bool := a.before b || (a.eqp b && (a.st.lt b.st || (decide (a.st = b.st) && decide (a.v < b.v))))
theorem stlt_self (a : St) : a.lt a = false := by
  cases h : a.lt a with
  | false => rfl
  | true => exact absurd (St.lt_trans h h) (by
      unfold St.lt at h ⊢
      simp at h ⊢)
theorem ah_self (a : Pt) : ahB a a = false := by unfold ahB; rw [bef_self, stlt_self]; simp
theorem ah_trans {a b c : Pt} (h : ahB a b = true) (k : ahB b c = true) : ahB a c = true := by
  unfold ahB at *
  simp only [Bool.or_eq_true, Bool.and_eq_true, decide_eq_true_eq] at *
  rcases h with h | ⟨h1, h2⟩
  · rcases k with k | ⟨k1, -⟩
    · exact Or.inl (bef_trans h k)
    · exact Or.inl (by rw [← bef_right k1]; exact h)
  · rcases k with k | ⟨k1, k2⟩
    · exact Or.inl (by rw [bef_left h1]; exact k)
    · refine Or.inr ⟨Pt.eqp_trans h1 k1, ?_⟩
      rcases h2 with h2 | ⟨h2, h3⟩
      · rcases k2 with k2 | ⟨k2, -⟩
        · exact Or.inl (St.lt_trans h2 k2)
        · exact Or.inl (by rw [← k2]; exact h2)
      · rcases k2 with k2 | ⟨k2, k3⟩
        · exact Or.inl (by rw [h2]; exact k2)
        · exact Or.inr ⟨h2.trans k2, by omega⟩
theorem ah_tri {a b : Pt} (h : ahB a b = false) (k : ahB b a = false) : a = b := by
  unfold ahB at *
  simp only [Bool.or_eq_false_iff, Bool.and_eq_false_iff] at h k
  have e := bef_tri h.1 k.1
  obtain ⟨e1, e2⟩ := Pt.eqp_iff.1 e
  have h2 := h.2.resolve_left (by rw [e]; simp)
  have k2 := k.2.resolve_left (by rw [Pt.eqp_symm e]; simp)
  have e3 : a.st = b.st := St.lt_eq h2.1 k2.1
  have h3 := h2.2.resolve_left (by simp [e3])
  have k3 := k2.2.resolve_left (by simp [e3])
  simp only [decide_eq_false_iff_not] at h3 k3
  exact Pt.same_iff.1 (by unfold Pt.same; simp [e1, e2, e3]; omega)
theorem ah_not {a b : Pt} (h : ahB a b = true) : ahB b a = false := by
  cases k : ahB b a with
  | false => rfl
  | true => have := ah_trans h k; rw [ah_self] at this; cases this
/-- Points in order. -/
def srtO (l : List Pt) : List Pt := l.mergeSort fun x y => !(ahB y x)
theorem srtO_perm (l : List Pt) : (srtO l).Perm l := List.mergeSort_perm _ _
theorem srtO_len (l : List Pt) : (srtO l).length = l.length := (srtO_perm l).length_eq
def leO (x y : Pt) : Prop := ahB y x = false
theorem leO_trans {a b c : Pt} (h : leO a b) (k : leO b c) : leO a c := by
  unfold leO at *
  cases e : ahB c a with
  | false => rfl
  | true =>
    cases f : ahB a b with
    | true => have := ah_trans e f; rw [k] at this; cases this
    | false => have := ah_tri f h; subst this; rw [k] at e; cases e
theorem srtO_pair (l : List Pt) : (srtO l).Pairwise leO := by
  have := List.pairwise_mergeSort (le := fun x y : Pt => !(ahB y x)) (fun a b c h1 h2 => by
    have h1' : leO a b := by unfold leO; simpa using h1
    have h2' : leO b c := by unfold leO; simpa using h2
    have := leO_trans h1' h2'
    unfold leO at this
    rw [this]; rfl) (fun a b => by
    cases h : ahB b a with
    | false => rfl
    | true => rw [ah_not h]; rfl) l
  refine this.imp fun {a b} h => ?_
  unfold leO
  simpa using h
theorem srtO_uniq {l m : List Pt} (hp : m.Perm l) (hs : m.Pairwise leO) : m = srtO l :=
  List.Perm.eq_of_pairwise (le := leO) (fun a b _ _ h1 h2 => ah_tri h2 h1) hs (srtO_pair l) (hp.trans (srtO_perm l).symm)
theorem srtO_cong {l m : List Pt} (h : l.Perm m) : srtO l = srtO m := srtO_uniq ((srtO_perm l).trans h) (srtO_pair l)
/-- What is told of a node. -/
def forL (L : List Hk) (n most : Int) : List Pt := (srtO (ofL L n)).take most.toNat
end Go.Proofs.Ytolmhlfegllfoaa.Qu.Hi
