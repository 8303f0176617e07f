/- Plain mathematics: bits and the fewest spans that have them. -/
import Derived.Test.YtdkenokjdiamhaaDoorWindowRSpans
namespace Go.Proofs.YtdkenokjdiamhaaDoor
open Go.RowKit

theorem padB_get (B : List Bool) (n i : Nat) : (padB B n).getD i false = B.getD i false := by
  unfold padB
  rw [List.getD_eq_getElem?_getD, List.getD_eq_getElem?_getD]
  by_cases h : i < B.length
  · rw [List.getElem?_append_left h]
  · rw [List.getElem?_append_right (by omega), List.getElem?_eq_none (l := B) (by omega), List.getElem?_replicate]
    split <;> rfl
theorem markN_get (x : Bool) (f k : Nat) (B : List Bool) (i : Nat) : (markN x f k B).1.getD i false = if f ≤ i ∧ i < f + k then x else B.getD i false := by
  induction k with
  | zero => rw [if_neg (by omega)]; rfl
  | succ k ih =>
    simp only [markN]
    have hl := padB_length (markN x f k B).1 (f + k)
    by_cases e : i = f + k
    · subst e
      rw [if_pos (by omega), List.getD_eq_getElem?_getD, List.getElem?_set_self (by omega)]
      rfl
    · rw [List.getD_eq_getElem?_getD, List.getElem?_set_ne (by omega), ← List.getD_eq_getElem?_getD, padB_get, ih]
      by_cases h : f ≤ i ∧ i < f + k
      · rw [if_pos h, if_pos (by omega)]
      · rw [if_neg h, if_neg (by omega)]
theorem markN_changed (x : Bool) (f k : Nat) (B : List Bool) : (markN x f k B).2 = true ↔ ∃ i, f ≤ i ∧ i < f + k ∧ B.getD i false ≠ x := by
  induction k with
  | zero => simp only [markN]; constructor
            · intro h; cases h
            · rintro ⟨i, h1, h2, _⟩; omega
  | succ k ih =>
    simp only [markN]
    rw [padB_get, markN_get, if_neg (by omega), Bool.or_eq_true, ih]
    constructor
    · rintro (⟨i, h1, h2, h3⟩ | h)
      · exact ⟨i, h1, by omega, h3⟩
      · exact ⟨f + k, by omega, by omega, by simpa using h⟩
    · rintro ⟨i, h1, h2, h3⟩
      by_cases e : i = f + k
      · subst e; exact Or.inr (by simpa using h3)
      · exact Or.inl ⟨i, h1, by omega, h3⟩

/-- The time x is in one of the spans. -/
def inS (l : List Sp) (x : Int) : Prop := ∃ s ∈ l, s.f ≤ x ∧ x < s.t
/-- Spans in their order, none empty, no two that touch. -/
structure Canon (l : List Sp) : Prop where
  gap : l.Pairwise fun a b => a.t < b.f
  pos : ∀ s ∈ l, 0 ≤ s.f ∧ s.f < s.t
theorem Canon.tail {a : Sp} {l : List Sp} (h : Canon (a :: l)) : Canon l := ⟨(List.pairwise_cons.1 h.gap).2, fun s hs => h.pos s (List.mem_cons_of_mem _ hs)⟩
theorem Canon.head {a : Sp} {l : List Sp} (h : Canon (a :: l)) {x : Int} (hx : inS l x) : a.t < x := by
  obtain ⟨s, hs, h1, _⟩ := hx
  have := (List.pairwise_cons.1 h.gap).1 s hs
  omega
theorem Canon.in_cons {a : Sp} {l : List Sp} {x : Int} : inS (a :: l) x ↔ (a.f ≤ x ∧ x < a.t) ∨ inS l x := by
  unfold inS
  constructor
  · rintro ⟨s, hs, h⟩
    rcases List.mem_cons.1 hs with rfl | hs
    · exact Or.inl h
    · exact Or.inr ⟨s, hs, h⟩
  · rintro (h | ⟨s, hs, h⟩)
    · exact ⟨a, List.mem_cons_self, h⟩
    · exact ⟨s, List.mem_cons_of_mem _ hs, h⟩
/-- Two such lists that have the same times are the same. -/
theorem Canon.uniq : ∀ {l m : List Sp}, Canon l → Canon m → (∀ x, inS l x ↔ inS m x) → l = m := by
  intro l
  induction l with
  | nil =>
    intro m _ hm h
    cases m with
    | nil => rfl
    | cons b m =>
      have := hm.pos b List.mem_cons_self
      obtain ⟨s, hs, _⟩ := (h b.f).2 (Canon.in_cons.2 (Or.inl ⟨by omega, by omega⟩))
      cases hs
  | cons a l ih =>
    intro m hl hm h
    have pa := hl.pos a List.mem_cons_self
    cases m with
    | nil =>
      obtain ⟨s, hs, _⟩ := (h a.f).1 (Canon.in_cons.2 (Or.inl ⟨by omega, by omega⟩))
      cases hs
    | cons b m =>
      have pb := hm.pos b List.mem_cons_self
      have ef : a.f = b.f := by
        have h1 := Canon.in_cons.1 ((h a.f).1 (Canon.in_cons.2 (Or.inl ⟨by omega, by omega⟩)))
        have h2 := Canon.in_cons.1 ((h b.f).2 (Canon.in_cons.2 (Or.inl ⟨by omega, by omega⟩)))
        have h3 : b.f ≤ a.f := by
          rcases h1 with h1 | h1
          · exact h1.1
          · have := hm.head h1; omega
        have h4 : a.f ≤ b.f := by
          rcases h2 with h2 | h2
          · exact h2.1
          · have := hl.head h2; omega
        omega
      have et : a.t = b.t := by
        rcases Int.lt_trichotomy a.t b.t with hlt | he | hgt
        · exfalso
          rcases Canon.in_cons.1 ((h a.t).2 (Canon.in_cons.2 (Or.inl ⟨by omega, hlt⟩))) with h1 | h1
          · omega
          · have := hl.head h1; omega
        · exact he
        · exfalso
          rcases Canon.in_cons.1 ((h b.t).1 (Canon.in_cons.2 (Or.inl ⟨by omega, hgt⟩))) with h1 | h1
          · omega
          · have := hm.head h1; omega
      have eab : a = b := by
        obtain ⟨f1, t1⟩ := a
        obtain ⟨f2, t2⟩ := b
        simp only at ef et
        rw [ef, et]
      subst eab
      rw [ih hl.tail hm.tail fun x => ?_]
      constructor
      · intro hx
        have hh := hl.head hx
        rcases Canon.in_cons.1 ((h x).1 (Canon.in_cons.2 (Or.inr hx))) with h1 | h1
        · omega
        · exact h1
      · intro hx
        have hh := hm.head hx
        rcases Canon.in_cons.1 ((h x).2 (Canon.in_cons.2 (Or.inr hx))) with h1 | h1
        · omega
        · exact h1
theorem in_append {l m : List Sp} {x : Int} : inS (l ++ m) x ↔ inS l x ∨ inS m x := by
  unfold inS
  constructor
  · rintro ⟨s, hs, h⟩
    rcases List.mem_append.1 hs with hs | hs
    · exact Or.inl ⟨s, hs, h⟩
    · exact Or.inr ⟨s, hs, h⟩
  · rintro (⟨s, hs, h⟩ | ⟨s, hs, h⟩)
    · exact ⟨s, List.mem_append.2 (Or.inl hs), h⟩
    · exact ⟨s, List.mem_append.2 (Or.inr hs), h⟩
theorem in_one {a : Sp} {x : Int} : inS [a] x ↔ a.f ≤ x ∧ x < a.t := by unfold inS; simp
theorem addS_nil (k : Nat) : addS [] k = [⟨(k : Int), (k : Int) + 1⟩] := by unfold addS; rw [if_neg (by simp)]; rfl
theorem addS_snoc (l : List Sp) (z : Sp) (k : Nat) : addS (l ++ [z]) k = if z.t = (k : Int) then l ++ [⟨z.f, (k : Int) + 1⟩] else (l ++ [z]) ++ [⟨(k : Int), (k : Int) + 1⟩] := by
  have h1 : (l ++ [z]).length - 1 = l.length := by simp
  have h2 : (l ++ [z]).getD l.length Sp.zero = z := by simp [List.getD_eq_getElem?_getD]
  unfold addS
  rw [h1, h2]
  by_cases h : z.t = (k : Int)
  · rw [if_pos ⟨by simp, h⟩, if_pos h, List.set_append_right _ _ (Nat.le_refl _)]
    simp
  · rw [if_neg (fun hh => h hh.2), if_neg h]
/-- What the spans of the first k bits are. -/
structure SpansOk (B : List Bool) (k : Nat) (l : List Sp) : Prop where
  canon : Canon l
  top : ∀ s ∈ l, s.t ≤ (k : Int)
  has : ∀ x : Int, inS l x ↔ 0 ≤ x ∧ x < (k : Int) ∧ B.getD x.toNat false = true
theorem spansN_ok (B : List Bool) (k : Nat) : SpansOk B k (spansN B k) := by
  induction k with
  | zero => exact ⟨⟨List.Pairwise.nil, by simp [spansN]⟩, by simp [spansN], fun x => Iff.intro (fun h => by obtain ⟨s, hs, _⟩ := h; cases hs) (fun h => by omega)⟩
  | succ k ih =>
    simp only [spansN]
    obtain ⟨⟨g, p⟩, t, h⟩ := ih
    generalize spansN B k = l at g p t h ⊢
    cases hb : B.getD k false with
    | false =>
      rw [if_neg (by simp)]
      refine ⟨⟨g, p⟩, fun s hs => by have := t s hs; omega, fun x => ?_⟩
      rw [h x]
      constructor
      · rintro ⟨h1, h2, h3⟩; exact ⟨h1, by omega, h3⟩
      · rintro ⟨h1, h2, h3⟩
        refine ⟨h1, ?_, h3⟩
        by_cases e : x = (k : Int)
        · subst e; rw [Int.toNat_natCast, hb] at h3; cases h3
        · omega
    | true =>
      rw [if_pos rfl]
      have key : ∀ x : Int, (inS l x ∨ x = (k : Int)) ↔ 0 ≤ x ∧ x < ((k + 1 : Nat) : Int) ∧ B.getD x.toNat false = true := fun x => by
        rw [h x]
        constructor
        · rintro (⟨h1, h2, h3⟩ | rfl)
          · exact ⟨h1, by omega, h3⟩
          · exact ⟨by omega, by omega, by rw [Int.toNat_natCast]; exact hb⟩
        · rintro ⟨h1, h2, h3⟩
          by_cases e : x = (k : Int)
          · exact Or.inr e
          · exact Or.inl ⟨h1, by omega, h3⟩
      rcases List.eq_nil_or_concat l with rfl | ⟨m, z, rfl⟩
      · rw [addS_nil]
        refine ⟨⟨List.pairwise_singleton _ _, fun s hs => ?_⟩, fun s hs => ?_, fun x => ?_⟩
        · rw [List.mem_singleton] at hs; subst hs; dsimp only; omega
        · rw [List.mem_singleton] at hs; subst hs; dsimp only; omega
        · rw [← key x, in_one]
          dsimp only
          constructor
          · intro hx; exact Or.inr (by omega)
          · rintro (⟨s, hs, _⟩ | hx)
            · cases hs
            · omega
      · rw [List.concat_eq_append] at *
        rw [addS_snoc]
        have hz := t z (by simp)
        have pz := p z (by simp)
        obtain ⟨g1, -, g2⟩ := List.pairwise_append.1 g
        have gz : ∀ s ∈ m, s.t < z.f := fun s hs => g2 s hs z (by simp)
        split
        · rename_i he
          refine ⟨⟨List.pairwise_append.2 ⟨g1, List.pairwise_singleton _ _, fun a ha b hb2 => ?_⟩, fun s hs => ?_⟩, fun s hs => ?_, fun x => ?_⟩
          · rw [List.mem_singleton] at hb2; subst hb2; exact gz a ha
          · rcases List.mem_append.1 hs with hs | hs
            · exact p s (List.mem_append.2 (Or.inl hs))
            · rw [List.mem_singleton] at hs; subst hs; dsimp only; omega
          · rcases List.mem_append.1 hs with hs | hs
            · have := t s (List.mem_append.2 (Or.inl hs)); omega
            · rw [List.mem_singleton] at hs; subst hs; dsimp only; omega
          · rw [← key x, in_append, in_append, in_one, in_one]
            dsimp only
            constructor
            · rintro (hx | hx)
              · exact Or.inl (Or.inl hx)
              · by_cases e : x = (k : Int)
                · exact Or.inr e
                · exact Or.inl (Or.inr (by omega))
            · rintro ((hx | hx) | hx)
              · exact Or.inl hx
              · exact Or.inr (by omega)
              · exact Or.inr (by omega)
        · rename_i he
          have lt : ∀ s ∈ m ++ [z], s.t < (k : Int) := fun s hs => by
            rcases List.mem_append.1 hs with hs | hs
            · have := gz s hs; omega
            · rw [List.mem_singleton] at hs; subst hs; omega
          refine ⟨⟨List.pairwise_append.2 ⟨g, List.pairwise_singleton _ _, fun a ha b hb2 => ?_⟩, fun s hs => ?_⟩, fun s hs => ?_, fun x => ?_⟩
          · rw [List.mem_singleton] at hb2; subst hb2; exact lt a ha
          · rcases List.mem_append.1 hs with hs | hs
            · exact p s hs
            · rw [List.mem_singleton] at hs; subst hs; dsimp only; omega
          · rcases List.mem_append.1 hs with hs | hs
            · have := t s hs; omega
            · rw [List.mem_singleton] at hs; subst hs; dsimp only; omega
          · rw [← key x, in_append, in_one]
            dsimp only
            constructor
            · rintro (hx | hx)
              · exact Or.inl hx
              · exact Or.inr (by omega)
            · rintro (hx | hx)
              · exact Or.inl hx
              · exact Or.inr (by omega)
end Go.Proofs.YtdkenokjdiamhaaDoor
