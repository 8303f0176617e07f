/- Plain mathematics: what Add and Take make of the spans of a set. -/
import Derived.Test.YtdkenokjdiamhaaDoorWindowTouched
import Derived.Test.YtdkenokjdiamhaaDoorWindowFns
namespace Go.Proofs.YtdkenokjdiamhaaDoor
open Go.RowKit

/-- The span that has s and all of l. -/
def mg (s : Sp) (l : List Sp) : Sp := l.foldl (fun a p => ⟨min a.f p.f, max a.t p.t⟩) s
theorem mg_snoc (s : Sp) (l : List Sp) (p : Sp) : mg s (l ++ [p]) = ⟨min (mg s l).f p.f, max (mg s l).t p.t⟩ := by unfold mg; rw [List.foldl_append]; rfl
structure MgOk (s : Sp) (l : List Sp) (m : Sp) : Prop where
  f : m.f ≤ s.f
  t : s.t ≤ m.t
  fs : ∀ p ∈ l, m.f ≤ p.f
  ts : ∀ p ∈ l, p.t ≤ m.t
  fe : m.f = s.f ∨ ∃ p ∈ l, m.f = p.f
  te : m.t = s.t ∨ ∃ p ∈ l, m.t = p.t
theorem mg_ok (s : Sp) (l : List Sp) : MgOk s l (mg s l) := by
  suffices h : ∀ (l k : List Sp) (m : Sp), MgOk s k m → MgOk s (k ++ l) (l.foldl (fun a p => ⟨min a.f p.f, max a.t p.t⟩) m) by
    have := h l [] s ⟨Int.le_refl _, Int.le_refl _, by simp, by simp, Or.inl rfl, Or.inl rfl⟩
    unfold mg
    simpa using this
  intro l
  induction l with
  | nil => intro k m h; simpa using h
  | cons p l ih =>
    intro k m ⟨h1, h2, h3, h4, h5, h6⟩
    have key : MgOk s (k ++ [p]) ⟨min m.f p.f, max m.t p.t⟩ := by
      refine ⟨by dsimp only; omega, by dsimp only; omega, fun q hq => ?_, fun q hq => ?_, ?_, ?_⟩
      · rcases List.mem_append.1 hq with hq | hq
        · have := h3 q hq; dsimp only; omega
        · rw [List.mem_singleton] at hq; subst hq; dsimp only; omega
      · rcases List.mem_append.1 hq with hq | hq
        · have := h4 q hq; dsimp only; omega
        · rw [List.mem_singleton] at hq; subst hq; dsimp only; omega
      · by_cases e : m.f ≤ p.f
        · have e2 : min m.f p.f = m.f := by omega
          dsimp only; rw [e2]
          rcases h5 with h5 | ⟨q, hq, h5⟩
          · exact Or.inl h5
          · exact Or.inr ⟨q, List.mem_append_left _ hq, h5⟩
        · exact Or.inr ⟨p, by simp, by dsimp only; omega⟩
      · by_cases e : p.t ≤ m.t
        · have e2 : max m.t p.t = m.t := by omega
          dsimp only; rw [e2]
          rcases h6 with h6 | ⟨q, hq, h6⟩
          · exact Or.inl h6
          · exact Or.inr ⟨q, List.mem_append_left _ hq, h6⟩
        · exact Or.inr ⟨p, by simp, by dsimp only; omega⟩
    have := ih (k ++ [p]) _ key
    rw [List.append_assoc, List.singleton_append] at this
    exact this
/-- What is left of p without the times of s. -/
def cut1 (s p : Sp) : List Sp := (if p.f < s.f then [⟨p.f, min p.t s.f⟩] else []) ++ (if s.t < p.t then [⟨max p.f s.t, p.t⟩] else [])
def cutS (s : Sp) (l : List Sp) : List Sp := l.flatMap (cut1 s)
theorem cutS_snoc (s : Sp) (l : List Sp) (p : Sp) : cutS s (l ++ [p]) = cutS s l ++ cut1 s p := by unfold cutS; rw [List.flatMap_append]; simp
theorem cut1_len (s p : Sp) : (cut1 s p).length ≤ 2 := by unfold cut1; rw [List.length_append]; split <;> split <;> simp
theorem cutS_len (s : Sp) (l : List Sp) : (cutS s l).length ≤ 2 * l.length := by
  induction l with
  | nil => simp [cutS]
  | cons p l ih =>
    have : cutS s (p :: l) = cut1 s p ++ cutS s l := by unfold cutS; simp
    rw [this, List.length_append, List.length_cons]
    have := cut1_len s p
    omega
theorem cut1_in {s p : Sp} (hs : s.f < s.t) (x : Int) : inS (cut1 s p) x ↔ (p.f ≤ x ∧ x < p.t) ∧ ¬ (s.f ≤ x ∧ x < s.t) := by
  have one : ∀ a : Sp, inS [a] x ↔ a.f ≤ x ∧ x < a.t := fun a => by unfold inS; simp
  have app : ∀ a b : List Sp, inS (a ++ b) x ↔ inS a x ∨ inS b x := fun a b => by
    unfold inS; constructor
    · rintro ⟨q, hq, h⟩
      rcases List.mem_append.1 hq with hq | hq
      · exact Or.inl ⟨q, hq, h⟩
      · exact Or.inr ⟨q, hq, h⟩
    · rintro (⟨q, hq, h⟩ | ⟨q, hq, h⟩)
      · exact ⟨q, List.mem_append_left _ hq, h⟩
      · exact ⟨q, List.mem_append_right _ hq, h⟩
  have nil : inS [] x ↔ False := by unfold inS; simp
  unfold cut1
  rw [app]
  split <;> split <;> (first | rw [one, one] | rw [one, nil] | rw [nil, one] | rw [nil]) <;> (try dsimp only) <;> (try simp only [or_false, false_or, false_iff]) <;> omega
theorem cut1_parts {s p : Sp} (hs : s.f < s.t) (hp : p.f < p.t) : (∀ a ∈ cut1 s p, p.f ≤ a.f ∧ a.f < a.t ∧ a.t ≤ p.t) ∧ (cut1 s p).Pairwise fun a b => a.t < b.f := by
  unfold cut1
  refine ⟨fun a ha => ?_, ?_⟩
  · rcases List.mem_append.1 ha with ha | ha
    · split at ha
      · rw [List.mem_singleton] at ha; subst ha; dsimp only; omega
      · cases ha
    · split at ha
      · rw [List.mem_singleton] at ha; subst ha; dsimp only; omega
      · cases ha
  · split <;> split <;> simp
    omega
theorem cutS_parts {s : Sp} (hs : s.f < s.t) : ∀ {L : List Sp}, Canon L → Canon (cutS s L) ∧ (∀ a ∈ cutS s L, ∃ p ∈ L, p.f ≤ a.f ∧ a.t ≤ p.t) ∧ ∀ x, inS (cutS s L) x ↔ inS L x ∧ ¬ (s.f ≤ x ∧ x < s.t) := by
  intro L
  induction L with
  | nil => intro _; exact ⟨⟨List.Pairwise.nil, by simp [cutS]⟩, by simp [cutS], fun x => by unfold inS cutS; simp⟩
  | cons p L ih =>
    intro h
    obtain ⟨⟨g, q⟩, u, v⟩ := ih h.tail
    have hp := h.pos p List.mem_cons_self
    obtain ⟨c1, c2⟩ := cut1_parts (s := s) hs hp.2
    have e : cutS s (p :: L) = cut1 s p ++ cutS s L := by unfold cutS; simp
    rw [e]
    refine ⟨⟨List.pairwise_append.2 ⟨c2, g, fun a ha b hb => ?_⟩, fun a ha => ?_⟩, fun a ha => ?_, fun x => ?_⟩
    · obtain ⟨r, hr, h1, _⟩ := u b hb
      have h2 := (List.pairwise_cons.1 h.gap).1 r hr
      have h3 := c1 a ha
      omega
    · rcases List.mem_append.1 ha with ha | ha
      · have := c1 a ha; omega
      · exact q a ha
    · rcases List.mem_append.1 ha with ha | ha
      · exact ⟨p, List.mem_cons_self, (c1 a ha).1, (c1 a ha).2.2⟩
      · obtain ⟨r, hr, h1⟩ := u a ha
        exact ⟨r, List.mem_cons_of_mem _ hr, h1⟩
    · rw [in_append, v x, cut1_in hs, Canon.in_cons]
      constructor
      · rintro (h | h)
        · exact ⟨Or.inl h.1, h.2⟩
        · exact ⟨Or.inr h.1, h.2⟩
      · rintro ⟨h1 | h1, h2⟩
        · exact Or.inl ⟨h1, h2⟩
        · exact Or.inr ⟨h1, h2⟩
theorem cutS_out {s : Sp} : ∀ {l : List Sp}, (∀ p ∈ l, p.f < p.t ∧ (p.t < s.f ∨ s.t < p.f) ∧ s.f ≤ s.t) → cutS s l = l := by
  intro l
  induction l with
  | nil => intro _; rfl
  | cons p l ih =>
    intro h
    obtain ⟨h1, h2, h3⟩ := h p List.mem_cons_self
    have e : cutS s (p :: l) = cut1 s p ++ cutS s l := by unfold cutS; simp
    rw [e, ih fun q hq => h q (List.mem_cons_of_mem _ hq)]
    have : cut1 s p = [p] := by
      obtain ⟨pf, pt⟩ := p
      unfold cut1
      dsimp only at h1 h2 ⊢
      rcases h2 with h2 | h2
      · rw [if_pos (by omega), if_neg (by omega)]
        have : min pt s.f = pt := by omega
        rw [this]; rfl
      · rw [if_neg (by omega), if_pos (by omega)]
        have : max pf s.t = pf := by omega
        rw [this]; rfl
    rw [this]; rfl
/-- The three parts of the spans. -/
theorem three {L : List Sp} {i j : Nat} (hij : i ≤ j) : L.take i ++ (L.drop i).take (j - i) ++ L.drop j = L := by
  have h1 : L.drop j = (L.drop i).drop (j - i) := by rw [List.drop_drop]; congr 1; omega
  rw [List.append_assoc, h1, List.take_append_drop, List.take_append_drop]
theorem TouchOk.parts {L : List Sp} {s : Sp} {i j : Nat} (h : TouchOk L s i j) : (∀ p ∈ L.take i, p.t < s.f) ∧ (∀ p ∈ (L.drop i).take (j - i), s.f ≤ p.t ∧ p.f ≤ s.t) ∧ ∀ p ∈ L.drop j, s.t < p.f := by
  have := h.le
  have := h.len
  refine ⟨fun p hp => ?_, fun p hp => ?_, fun p hp => ?_⟩
  · obtain ⟨k, hk, rfl⟩ := List.getElem_of_mem hp
    rw [List.length_take] at hk
    rw [List.getElem_take]
    exact h.lo k (by omega) (by omega)
  · obtain ⟨k, hk, rfl⟩ := List.getElem_of_mem hp
    rw [List.length_take, List.length_drop] at hk
    rw [List.getElem_take, List.getElem_drop]
    exact h.mid (i + k) (by omega) (by omega) (by omega)
  · obtain ⟨k, hk, rfl⟩ := List.getElem_of_mem hp
    rw [List.length_drop] at hk
    rw [List.getElem_drop]
    exact h.hi (j + k) (by omega) (by omega)
/-- What a set of the times of L and of s is, and one of those of L without those of s. -/
structure AddOk (L : List Sp) (s : Sp) (T : List Sp) : Prop where
  canon : Canon T
  has : ∀ x, inS T x ↔ inS L x ∨ (s.some_ = true ∧ s.f ≤ x ∧ x < s.t)
structure TakeOk (L : List Sp) (s : Sp) (T : List Sp) : Prop where
  canon : Canon T
  has : ∀ x, inS T x ↔ inS L x ∧ ¬ (s.some_ = true ∧ s.f ≤ x ∧ x < s.t)
theorem Sp.some_iff {s : Sp} : s.some_ = true ↔ 0 ≤ s.f ∧ s.f < s.t ∧ s.t ≤ 1099511627777 := by
  unfold Sp.some_
  rw [Bool.and_eq_true, Sp.is_iff]
  simp
  omega
theorem add_ok {L : List Sp} {s : Sp} {i j : Nat} (hC : Canon L) (hs : s.some_ = true) (h : TouchOk L s i j) : AddOk L s (L.take i ++ [mg s ((L.drop i).take (j - i))] ++ L.drop j) := by
  obtain ⟨s0, s1, s2⟩ := Sp.some_iff.1 hs
  obtain ⟨h1, h2, h3⟩ := h.parts
  have e := three (L := L) h.le
  have hC2 := hC
  rw [← e] at hC2
  obtain ⟨g, q⟩ := hC2
  generalize L.take i = A at *
  generalize (L.drop i).take (j - i) = M at *
  generalize L.drop j = C at *
  obtain ⟨gAM, gC, gX⟩ := List.pairwise_append.1 g
  obtain ⟨gA, gM, gY⟩ := List.pairwise_append.1 gAM
  obtain ⟨m1, m2, m3, m4, m5, m6⟩ := mg_ok s M
  generalize mg s M = m at *
  have qa : ∀ p ∈ A, 0 ≤ p.f ∧ p.f < p.t := fun p hp => q p (by simp [hp])
  have qm : ∀ p ∈ M, 0 ≤ p.f ∧ p.f < p.t := fun p hp => q p (by simp [hp])
  have qc : ∀ p ∈ C, 0 ≤ p.f ∧ p.f < p.t := fun p hp => q p (by simp [hp])
  refine ⟨⟨List.pairwise_append.2 ⟨List.pairwise_append.2 ⟨gA, List.pairwise_singleton _ _, fun a ha b hb => ?_⟩, gC, fun a ha b hb => ?_⟩, fun p hp => ?_⟩, fun x => ?_⟩
  · rw [List.mem_singleton] at hb; subst hb
    rcases m5 with m5 | ⟨p, hp, m5⟩
    · have := h1 a ha; omega
    · have := gY a ha p hp; omega
  · rcases List.mem_append.1 ha with ha | ha
    · exact gX a (List.mem_append_left _ ha) b hb
    · rw [List.mem_singleton] at ha; subst ha
      rcases m6 with m6 | ⟨p, hp, m6⟩
      · have := h3 b hb; omega
      · have := gX p (List.mem_append_right _ hp) b hb; omega
  · rcases List.mem_append.1 hp with hp | hp
    · rcases List.mem_append.1 hp with hp | hp
      · exact qa p hp
      · rw [List.mem_singleton] at hp; subst hp
        rcases m5 with m5 | ⟨p, hp, m5⟩
        · omega
        · have := qm p hp; omega
    · exact qc p hp
  · have hl : inS L x ↔ inS (A ++ M ++ C) x := by rw [e]
    rw [hl, in_append, in_append, in_append, in_append, in_one]
    have key : (m.f ≤ x ∧ x < m.t) ↔ inS M x ∨ (s.f ≤ x ∧ x < s.t) := by
      constructor
      · rintro ⟨k1, k2⟩
        by_cases c1 : x < s.f
        · rcases m5 with m5 | ⟨p, hp, m5⟩
          · omega
          · have := h2 p hp; exact Or.inl ⟨p, hp, by omega, by omega⟩
        · by_cases c2 : s.t ≤ x
          · rcases m6 with m6 | ⟨p, hp, m6⟩
            · omega
            · have := h2 p hp; exact Or.inl ⟨p, hp, by omega, by omega⟩
          · exact Or.inr (by omega)
      · rintro (⟨p, hp, k1, k2⟩ | k)
        · have := m3 p hp; have := m4 p hp; omega
        · omega
    rw [key]
    constructor
    · rintro ((k | k | k) | k)
      · exact Or.inl (Or.inl (Or.inl k))
      · exact Or.inl (Or.inl (Or.inr k))
      · exact Or.inr ⟨hs, k⟩
      · exact Or.inl (Or.inr k)
    · rintro (((k | k) | k) | ⟨-, k⟩)
      · exact Or.inl (Or.inl k)
      · exact Or.inl (Or.inr (Or.inl k))
      · exact Or.inr k
      · exact Or.inl (Or.inr (Or.inr k))
theorem take_ok {L : List Sp} {s : Sp} {i j : Nat} (hC : Canon L) (hs : s.some_ = true) (h : TouchOk L s i j) : TakeOk L s (L.take i ++ cutS s ((L.drop i).take (j - i)) ++ L.drop j) := by
  obtain ⟨s0, s1, s2⟩ := Sp.some_iff.1 hs
  obtain ⟨h1, h2, h3⟩ := h.parts
  have e := three (L := L) h.le
  have e1 : cutS s (L.take i) = L.take i := cutS_out fun p hp => ⟨(hC.pos p (List.mem_of_mem_take hp)).2, Or.inl (h1 p hp), by omega⟩
  have e2 : cutS s (L.drop j) = L.drop j := cutS_out fun p hp => ⟨(hC.pos p (List.mem_of_mem_drop hp)).2, Or.inr (h3 p hp), by omega⟩
  have e3 : L.take i ++ cutS s ((L.drop i).take (j - i)) ++ L.drop j = cutS s L := by
    conv => rhs; rw [← e]
    unfold cutS at e1 e2 ⊢
    rw [List.flatMap_append, List.flatMap_append, e1, e2]
  rw [e3]
  obtain ⟨k1, -, k2⟩ := cutS_parts s1 hC
  exact ⟨k1, fun x => by rw [k2 x]; simp [hs]⟩
theorem add_not {L : List Sp} {s : Sp} (hC : Canon L) (hs : s.some_ = false) : AddOk L s L := ⟨hC, fun x => by simp [hs]⟩
theorem take_not {L : List Sp} {s : Sp} (hC : Canon L) (hs : s.some_ = false) : TakeOk L s L := ⟨hC, fun x => by simp [hs]⟩
/-- So few spans as times. -/
theorem Canon.len_le {L : List Sp} {K : Nat} (h : Canon L) (ht : ∀ x, inS L x → x < (K : Int)) : L.length ≤ K := by
  have key : ∀ k (hk : k < L.length), (k : Int) ≤ L[k].f := by
    intro k
    induction k with
    | zero => intro hk; have := h.at_ hk; omega
    | succ k ih =>
      intro hk
      have h1 := ih (by omega)
      have h2 := h.lt hk (show k < k + 1 by omega)
      have h3 := h.at_ (show k < L.length by omega)
      omega
  by_cases h0 : L.length = 0
  · omega
  · have k1 := key (L.length - 1) (by omega)
    have k2 := h.at_ (show L.length - 1 < L.length by omega)
    have k3 := ht L[L.length - 1].f ⟨_, List.getElem_mem _, Int.le_refl _, k2.2⟩
    omega
end Go.Proofs.YtdkenokjdiamhaaDoor
