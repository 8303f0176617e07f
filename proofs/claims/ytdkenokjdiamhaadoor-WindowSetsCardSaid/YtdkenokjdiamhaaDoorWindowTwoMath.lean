/- Plain mathematics: how many times spans have; two sets side by side. -/
import Derived.Test.YtdkenokjdiamhaaDoorWindowAwake
import Derived.Test.YtdkenokjdiamhaaDoorWindowHas
set_option maxRecDepth 20000
namespace Go.Proofs.YtdkenokjdiamhaaDoor
open Go.RowKit

/-- How many numbers below K have p. -/
def cntB (p : Int → Bool) : Nat → Int
  | 0 => 0
  | k + 1 => cntB p k + cond (p (k : Int)) 1 0
theorem cntB_congr {p q : Int → Bool} (K : Nat) (h : ∀ x : Int, 0 ≤ x → x < (K : Int) → p x = q x) : cntB p K = cntB q K := by
  induction K with
  | zero => rfl
  | succ k ih =>
    simp only [cntB]
    rw [ih fun x h1 h2 => h x h1 (by omega), h k (by omega) (by omega)]
theorem cntB_or {p q : Int → Bool} (K : Nat) (h : ∀ x, ¬ (p x = true ∧ q x = true)) : cntB (fun x => p x || q x) K = cntB p K + cntB q K := by
  induction K with
  | zero => rfl
  | succ k ih =>
    simp only [cntB]
    rw [ih]
    have := h (k : Int)
    revert this
    cases p (k : Int) <;> cases q (k : Int) <;> intro this
    · simp
    · simp; omega
    · simp; omega
    · exact absurd ⟨rfl, rfl⟩ this
theorem cntB_span (f t : Int) (hf : 0 ≤ f) (hft : f ≤ t) (K : Nat) : cntB (fun x => decide (f ≤ x ∧ x < t)) K = if t ≤ (K : Int) then t - f else if f ≤ (K : Int) then (K : Int) - f else 0 := by
  induction K with
  | zero =>
    simp only [cntB]
    by_cases e : t ≤ ((0 : Nat) : Int)
    · rw [if_pos e]; omega
    · rw [if_neg e]
      by_cases e2 : f ≤ ((0 : Nat) : Int)
      · rw [if_pos e2]; omega
      · rw [if_neg e2]
  | succ k ih =>
    simp only [cntB]
    rw [ih]
    by_cases h : f ≤ (k : Int) ∧ (k : Int) < t
    · rw [decide_eq_true h, cond_true]
      rw [if_neg (by omega : ¬ t ≤ (k : Int)), if_pos h.1]
      by_cases e : t ≤ ((k + 1 : Nat) : Int)
      · rw [if_pos e]; omega
      · rw [if_neg e, if_pos (by omega)]; omega
    · rw [decide_eq_false h, cond_false]
      by_cases e : t ≤ (k : Int)
      · rw [if_pos e, if_pos (by omega)]; omega
      · rw [if_neg e, if_neg (by omega)]
        by_cases e3 : t ≤ ((k + 1 : Nat) : Int)
        · rw [if_pos e3]; omega
        rw [if_neg e3]
        by_cases e2 : f ≤ ((k + 1 : Nat) : Int)
        · rw [if_pos e2]; omega
        · rw [if_neg e2]; omega
theorem hasD_cons (p : Sp) (L : List Sp) (x : Int) : hasD (p :: L) x = (decide (p.f ≤ x ∧ x < p.t) || hasD L x) := by unfold hasD; rw [List.any_cons]
theorem sumS_cnt (K : Nat) : ∀ {L : List Sp}, Canon L → (∀ x, inS L x → x < (K : Int)) → sumS L = cntB (hasD L) K := by
  intro L
  induction L with
  | nil =>
    intro _ _
    have : ∀ k, cntB (hasD []) k = 0 := by
      intro k
      induction k with
      | zero => rfl
      | succ k ih => show cntB (hasD []) k + cond (hasD [] k) 1 0 = 0; rw [ih]; rfl
    rw [this]; rfl
  | cons p L ih =>
    intro hC hK
    have hp := hC.pos p List.mem_cons_self
    have hK2 : ∀ x, inS L x → x < (K : Int) := fun x hx => hK x (Canon.in_cons.2 (Or.inr hx))
    have htop : p.t ≤ (K : Int) := by have := hK (p.t - 1) (Canon.in_cons.2 (Or.inl ⟨by omega, by omega⟩)); omega
    have e : hasD (p :: L) = fun x => decide (p.f ≤ x ∧ x < p.t) || hasD L x := by funext x; exact hasD_cons p L x
    rw [e, cntB_or K (fun x h => by
      have h1 : p.f ≤ x ∧ x < p.t := of_decide_eq_true h.1
      have := hC.head (hasD_iff.1 h.2)
      omega), cntB_span p.f p.t (by omega) (by omega) K, if_pos htop, ← ih hC.tail hK2]
    unfold sumS
    simp
/-- The span s has the time x. -/
def cov (s : Sp) (x : Int) : Prop := s.some_ = true ∧ s.f ≤ x ∧ x < s.t
theorem size_less {L1 L2 : List Sp} {s : Sp} {K : Nat} (h1 : Canon L1) (h2 : Canon L2) (hK : ∀ x, inS L1 x → x < (K : Int)) (hs : ∀ x, cov s x → inS L1 x) (hd : ∀ x, inS L2 x ↔ inS L1 x ∧ ¬ cov s x) (hv : s.is = true) : sumS L2 = sumS L1 - (s.t - s.f) := by
  obtain ⟨v1, v2, v3⟩ := Sp.is_iff.1 hv
  have hcov : ∀ x, cov s x ↔ (s.f ≤ x ∧ x < s.t) := fun x => by
    unfold cov
    rw [Sp.some_iff]
    omega
  have hK2 : ∀ x, inS L2 x → x < (K : Int) := fun x hx => hK x ((hd x).1 hx).1
  have hst : s.t ≤ (K : Int) ∨ s.f = s.t := by
    by_cases e : s.f = s.t
    · exact Or.inr e
    · have := hK (s.t - 1) (hs _ ((hcov _).2 ⟨by omega, by omega⟩)); exact Or.inl (by omega)
  rw [sumS_cnt K h1 hK, sumS_cnt K h2 hK2]
  have e : cntB (hasD L1) K = cntB (fun x => hasD L2 x || decide (s.f ≤ x ∧ x < s.t)) K := cntB_congr K fun x _ _ => by
    rw [Bool.eq_iff_iff, Bool.or_eq_true, hasD_iff, hasD_iff, hd x, decide_eq_true_eq, ← hcov x]
    constructor
    · intro h
      by_cases hx : cov s x
      · exact Or.inr hx
      · exact Or.inl ⟨h, hx⟩
    · rintro (h | h)
      · exact h.1
      · exact hs x h
  rw [e, cntB_or K (fun x h => by
    have := ((hd x).1 (hasD_iff.1 h.1)).2
    exact this ((hcov x).2 (of_decide_eq_true h.2))), cntB_span s.f s.t v1 v2 K]
  rcases hst with h | h
  · rw [if_pos h]; omega
  · split <;> (try split) <;> omega
theorem Canon.top {L : List Sp} {K : Int} (h : Canon L) (ht : ∀ x, inS L x → x < K) : ∀ p ∈ L, p.t ≤ K := fun p hp => by
  have := h.pos p hp
  have := ht (p.t - 1) ⟨p, hp, by omega, by omega⟩
  omega
theorem fewOk {L : List Sp} (h : Canon L) (ht : ∀ x, inS L x → x < 1000) : FewOk L := ⟨by have := h.len_le (K := 1000) ht; omega, fun s hs => by have := h.pos s hs; have := h.top ht s hs; omega⟩
/-- A set is as it was where another one is turned. -/
theorem SetAt.other {w w' : World} {b b' : Nat} {u v v' : Value} {L : List Sp} (h : SetAt w b u L) (k : Moves w w' b' v v') (h1 : b ≠ b') (h2 : v.ownBlock ≠ some b) (h3 : u.ownBlock ≠ some b') (h4 : ∀ q, u.ownBlock = some q → v.ownBlock ≠ some q) : SetAt w' b u L := by
  have hb := k.block b h.room h1 (Ne.symm h2)
  refine ⟨(World.cell?_of_block (a := ⟨b, 0, none⟩) hb).trans h.cell, (World.frozen?_of_block (a := ⟨b, 0, none⟩) hb).trans h.free, h.row.1, ?_⟩
  rcases h.row.2 with e | ⟨g, cap, cur, e, hB, hg, hrest⟩
  · exact Or.inl e
  · have hgl : g < w.heap.size := (Array.getElem?_eq_some_iff.1 hg).1
    have e1 : u.ownBlock = some g := by rw [e]; rfl
    exact Or.inr ⟨g, cap, cur, e, hB, (k.block g hgl (fun e2 => h3 (by rw [e1, e2])) (Ne.symm (h4 g e1))).trans hg, hrest⟩
/-- Two sets, neither in the other's memory. -/
structure Two (w : World) (ba bb : Nat) (va vb : Value) (La Lb : List Sp) : Prop where
  a : SetAt w ba va La
  b : SetAt w bb vb Lb
  ne : ba ≠ bb
  n1 : va.ownBlock ≠ some bb
  n2 : vb.ownBlock ≠ some ba
  n3 : ∀ q, va.ownBlock = some q → vb.ownBlock ≠ some q
theorem Two.keep {w w' : World} {ba bb : Nat} {va vb : Value} {La Lb : List Sp} (h : Two w ba bb va vb La Lb) (k : Below w.heap.size w w') : Two w' ba bb va vb La Lb := ⟨h.a.later k, h.b.later k, h.ne, h.n1, h.n2, h.n3⟩
theorem Two.swap {w : World} {ba bb : Nat} {va vb : Value} {La Lb : List Sp} (h : Two w ba bb va vb La Lb) : Two w bb ba vb va Lb La := ⟨h.b, h.a, Ne.symm h.ne, h.n2, h.n1, fun q e e2 => h.n3 q e2 e⟩
theorem Two.moveA {w w' : World} {ba bb : Nat} {va va' vb : Value} {La La' Lb : List Sp} (h : Two w ba bb va vb La Lb) (k : Moves w w' ba va va') (hs : SetAt w' ba va' La') : Two w' ba bb va' vb La' Lb := by
  refine ⟨hs, h.b.other k (Ne.symm h.ne) h.n1 h.n2 (fun q e e2 => h.n3 q e2 e), h.ne, k.not h.n1 h.b.room, h.n2, fun q e e2 => ?_⟩
  rcases k.foot with e3 | ⟨q2, e3, hq⟩
  · exact h.n3 q (by rw [← e3]; exact e) e2
  · have := (World.ownsRow.lt h.b.row q e2).2
    rw [e3] at e
    injection e with e
    omega
end Go.Proofs.YtdkenokjdiamhaaDoor
