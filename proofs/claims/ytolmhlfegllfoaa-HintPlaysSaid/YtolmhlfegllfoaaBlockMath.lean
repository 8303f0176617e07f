/- Sorted points: putting one in, putting two lists together, and that both come to the same. -/
import Derived.Test.YtolmhlfegllfoaaSampleG
set_option maxRecDepth 20000
namespace Go.Proofs.Ytolmhlfegllfoaa
open Go.RowKit Go.Proofs.Ytolmhlfegllfoaa.Vi Go.Proofs.Ytolmhlfegllfoaa.Mk

/-- Two points of one place. -/
def Pt.eqp (a b : Pt) : Bool := decide (a.s = b.s) && decide (a.t = b.t)
theorem Pt.eqp_iff {a b : Pt} : a.eqp b = true ↔ a.s = b.s ∧ a.t = b.t := by unfold Pt.eqp; simp
theorem Pt.eqp_self (a : Pt) : a.eqp a = true := by simp [Pt.eqp]
theorem Pt.eqp_symm {a b : Pt} (h : a.eqp b = true) : b.eqp a = true := by rw [Pt.eqp_iff] at *; exact ⟨h.1.symm, h.2.symm⟩
theorem Pt.eqp_trans {a b c : Pt} (h : a.eqp b = true) (k : b.eqp c = true) : a.eqp c = true := by rw [Pt.eqp_iff] at *; exact ⟨h.1.trans k.1, h.2.trans k.2⟩
theorem bef_s {a b : Pt} (h : a.s = b.s) : a.before b = decide (a.t < b.t) := by unfold Pt.before; rw [h, lessB_self]; simp
theorem bef_ne {a b : Pt} (h : a.s ≠ b.s) : a.before b = lessB a.s b.s := by unfold Pt.before; simp [h]
theorem bef_self (a : Pt) : a.before a = false := by rw [bef_s rfl]; simp
theorem bef_not {a b : Pt} (h : a.before b = true) : b.before a = false := by
  by_cases e : a.s = b.s
  · rw [bef_s e] at h; rw [bef_s e.symm]; have := of_decide_eq_true h; exact decide_eq_false (by omega)
  · rw [bef_ne e] at h; rw [bef_ne fun k => e k.symm]; exact lessB_not h
theorem bef_eqp {a b : Pt} (h : a.before b = true) : a.eqp b = false := by
  apply Bool.eq_false_iff.2
  intro k
  obtain ⟨k1, k2⟩ := Pt.eqp_iff.1 k
  rw [bef_s k1] at h
  have := of_decide_eq_true h
  omega
theorem bef_tri {a b : Pt} (h : a.before b = false) (k : b.before a = false) : a.eqp b = true := by
  by_cases e : a.s = b.s
  · rw [bef_s e] at h; rw [bef_s e.symm] at k
    have h := of_decide_eq_false h
    have k := of_decide_eq_false k
    exact Pt.eqp_iff.2 ⟨e, by omega⟩
  · rw [bef_ne e] at h
    rw [bef_ne fun k => e k.symm] at k
    rw [lessB_or e h] at k
    cases k
theorem bef_trans {a b c : Pt} (h : a.before b = true) (k : b.before c = true) : a.before c = true := by
  by_cases e1 : a.s = b.s
  · by_cases e2 : b.s = c.s
    · rw [bef_s e1] at h; rw [bef_s e2] at k
      rw [bef_s (e1.trans e2)]
      have h := of_decide_eq_true h
      have k := of_decide_eq_true k
      exact decide_eq_true (by omega)
    · rw [bef_ne e2] at k
      rw [bef_ne (by rw [e1]; exact e2), e1]; exact k
  · rw [bef_ne e1] at h
    by_cases e2 : b.s = c.s
    · rw [bef_ne (by rw [← e2]; exact e1), ← e2]; exact h
    · rw [bef_ne e2] at k
      have := lessB_trans h k
      rw [bef_ne (lessB_ne this)]; exact this
theorem bef_left {a a' b : Pt} (h : a.eqp a' = true) : a.before b = a'.before b := by
  obtain ⟨h1, h2⟩ := Pt.eqp_iff.1 h
  unfold Pt.before; rw [h1, h2]
theorem bef_right {a b b' : Pt} (h : b.eqp b' = true) : a.before b = a.before b' := by
  obtain ⟨h1, h2⟩ := Pt.eqp_iff.1 h
  unfold Pt.before; rw [h1, h2]
theorem newer_eqp {a b : Pt} (h : a.newer b = true) : a.eqp b = true := by
  unfold Pt.newer at h
  rw [Bool.and_eq_true, Bool.and_eq_true] at h
  exact Pt.eqp_iff.2 ⟨of_decide_eq_true h.1.1, of_decide_eq_true h.1.2⟩
theorem newer_at {a b : Pt} (h : a.eqp b = true) : a.newer b = b.st.lt a.st := by
  obtain ⟨h1, h2⟩ := Pt.eqp_iff.1 h
  unfold Pt.newer; simp [h1, h2]

/-- Sorted: each one ahead of the next one. -/
def srtB : List Pt → Bool
  | a :: b :: t => a.before b && srtB (b :: t)
  | _ => true
theorem srtB_cons {a : Pt} {l : List Pt} (h : srtB (a :: l) = true) : srtB l = true := by
  cases l with
  | nil => rfl
  | cons b t => unfold srtB at h; rw [Bool.and_eq_true] at h; exact h.2
theorem srtB_all {a : Pt} {l : List Pt} (h : srtB (a :: l) = true) : ∀ x ∈ l, a.before x = true := by
  induction l generalizing a with
  | nil => intro x hx; cases hx
  | cons b t ih =>
    have h0 := h
    unfold srtB at h
    rw [Bool.and_eq_true] at h
    intro x hx
    rcases List.mem_cons.1 hx with rfl | hx
    · exact h.1
    · exact bef_trans h.1 (ih h.2 x hx)
theorem srtB_mk {a : Pt} {l : List Pt} (h : ∀ x ∈ l, a.before x = true) (k : srtB l = true) : srtB (a :: l) = true := by
  cases l with
  | nil => rfl
  | cons b t => unfold srtB; rw [Bool.and_eq_true]; exact ⟨h b (List.mem_cons_self ..), k⟩
/-- A sorted list is told by what it has. -/
theorem srtB_ext : ∀ {l m : List Pt}, srtB l = true → srtB m = true → (∀ x, x ∈ l ↔ x ∈ m) → l = m
  | [], [], _, _, _ => rfl
  | [], b :: m, _, _, h => by have := (h b).2 (List.mem_cons_self ..); cases this
  | a :: l, [], _, _, h => by have := (h a).1 (List.mem_cons_self ..); cases this
  | a :: l, b :: m, hl, hm, h => by
    have e : a = b := by
      rcases List.mem_cons.1 ((h a).1 (List.mem_cons_self ..)) with e | e
      · exact e
      · rcases List.mem_cons.1 ((h b).2 (List.mem_cons_self ..)) with e2 | e2
        · exact e2.symm
        · have h1 := srtB_all hm a e
          have h2 := srtB_all hl b e2
          rw [bef_not h1] at h2; cases h2
    subst e
    have hl1 := srtB_all hl
    have hm1 := srtB_all hm
    rw [srtB_ext (srtB_cons hl) (srtB_cons hm) fun x => ⟨fun hx => ?_, fun hx => ?_⟩]
    · rcases List.mem_cons.1 ((h x).1 (List.mem_cons_of_mem _ hx)) with rfl | k
      · have := hl1 x hx; rw [bef_self] at this; cases this
      · exact k
    · rcases List.mem_cons.1 ((h x).2 (List.mem_cons_of_mem _ hx)) with rfl | k
      · have := hm1 x hx; rw [bef_self] at this; cases this
      · exact k

/-- Two sorted lists put together, the first one's ahead where stamps are the same. -/
def mg : List Pt → List Pt → List Pt
  | [], b => b
  | p :: a, [] => p :: a
  | p :: a, q :: b =>
    if p.before q = true then p :: mg a (q :: b)
    else if q.before p = true then q :: mg (p :: a) b
    else if q.newer p = true then q :: mg a b else p :: mg a b
termination_by a b => a.length + b.length
theorem mg_nil (b : List Pt) : mg [] b = b := by unfold mg; rfl
theorem mg_nil' (a : List Pt) : mg a [] = a := by cases a <;> (unfold mg; rfl)
theorem mg_lt {p q : Pt} (a b : List Pt) (h : p.before q = true) : mg (p :: a) (q :: b) = p :: mg a (q :: b) := by rw [mg]; exact if_pos h
theorem mg_gt {p q : Pt} (a b : List Pt) (h : p.before q = false) (k : q.before p = true) : mg (p :: a) (q :: b) = q :: mg (p :: a) b := by rw [mg, if_neg (by simp [h]), if_pos k]
theorem mg_new {p q : Pt} (a b : List Pt) (h : p.before q = false) (k : q.before p = false) (n : q.newer p = true) : mg (p :: a) (q :: b) = q :: mg a b := by rw [mg, if_neg (by simp [h]), if_neg (by simp [k]), if_pos n]
theorem mg_old {p q : Pt} (a b : List Pt) (h : p.before q = false) (k : q.before p = false) (n : q.newer p = false) : mg (p :: a) (q :: b) = p :: mg a b := by rw [mg, if_neg (by simp [h]), if_neg (by simp [k]), if_neg (by simp [n])]

/-- The point at a place. -/
def look (l : List Pt) (p : Pt) : Option Pt := l.find? (fun x => x.eqp p)
/-- Of two points for one place the one that stands. -/
def cb : Option Pt → Option Pt → Option Pt
  | none, y => y
  | some x, none => some x
  | some x, some y => if y.newer x = true then some y else some x
theorem cb_none (x : Option Pt) : cb x none = x := by cases x <;> rfl
theorem cb_assoc {x y z : Option Pt} (h : ∀ a b, (x = some a ∨ y = some a ∨ z = some a) → (x = some b ∨ y = some b ∨ z = some b) → a.eqp b = true) : cb (cb x y) z = cb x (cb y z) := by
  cases x with
  | none => rfl
  | some a =>
    cases y with
    | none => rfl
    | some b =>
      cases z with
      | none => rw [cb_none, cb_none]
      | some c =>
        have hab := h b a (by simp) (by simp)
        have hcb := h c b (by simp) (by simp)
        have hca := h c a (by simp) (by simp)
        simp only [cb]
        rw [newer_at hab, newer_at hcb]
        cases e1 : a.st.lt b.st with
        | true =>
          rw [if_pos rfl]
          cases e2 : b.st.lt c.st with
          | true => simp only [if_pos]; rw [if_pos (by rw [newer_at hcb, e2]), if_pos (by rw [newer_at hca]; exact St.lt_trans e1 e2)]
          | false => rw [if_neg (by simp)]; simp only []; rw [if_neg (by rw [newer_at hcb, e2]; simp), if_pos (by rw [newer_at hab, e1])]
        | false =>
          rw [if_neg (by simp)]
          cases e2 : b.st.lt c.st with
          | true => rw [if_pos rfl]
          | false =>
            rw [if_neg (by simp)]
            simp only []
            rw [if_neg (show ¬ b.newer a = true by rw [newer_at hab, e1]; simp), if_neg]
            rw [newer_at hca]
            intro e3
            cases e4 : b.st.lt a.st with
            | true => have := St.lt_trans e4 e3; rw [e2] at this; cases this
            | false => have := St.lt_eq e1 e4; rw [this, e2] at e3; cases e3
theorem look_cons (a : Pt) (l : List Pt) (p : Pt) : look (a :: l) p = if a.eqp p = true then some a else look l p := by
  unfold look; rw [List.find?_cons]; split <;> simp_all
theorem look_mem {l : List Pt} {p x : Pt} (h : look l p = some x) : x ∈ l ∧ x.eqp p = true := by
  unfold look at h
  exact ⟨List.mem_of_find?_eq_some h, by have := List.find?_some h; simpa using this⟩
theorem look_none {l : List Pt} {p : Pt} (h : ∀ x ∈ l, p.before x = true) : look l p = none := by
  unfold look
  rw [List.find?_eq_none]
  intro x hx e
  have := bef_eqp (h x hx)
  rw [Pt.eqp_symm e] at this; cases this
theorem look_self {l : List Pt} (h : srtB l = true) {x : Pt} (hx : x ∈ l) : look l x = some x := by
  induction l with
  | nil => cases hx
  | cons a t ih =>
    rw [look_cons]
    rcases List.mem_cons.1 hx with rfl | hx
    · rw [if_pos (Pt.eqp_self _)]
    · have := bef_eqp (srtB_all h x hx)
      rw [if_neg (by simp [this]), ih (srtB_cons h) hx]
theorem look_ext {l m : List Pt} (hl : srtB l = true) (hm : srtB m = true) (h : ∀ p, look l p = look m p) : l = m := by
  refine srtB_ext hl hm fun x => ⟨fun hx => ?_, fun hx => ?_⟩
  · have := look_self hl hx; rw [h] at this; exact (look_mem this).1
  · have := look_self hm hx; rw [← h] at this; exact (look_mem this).1
theorem mg_mem : ∀ {a b : List Pt} {x : Pt}, x ∈ mg a b → x ∈ a ∨ x ∈ b := by
  intro a b
  induction a, b using mg.induct with
  | case1 b => intro x h; rw [mg_nil] at h; exact Or.inr h
  | case2 p a => intro x h; rw [mg_nil'] at h; exact Or.inl h
  | case3 p a q b h1 ih =>
    intro x h
    rw [mg_lt a b h1] at h
    rcases List.mem_cons.1 h with rfl | h
    · exact Or.inl (List.mem_cons_self ..)
    · rcases ih h with h | h
      · exact Or.inl (List.mem_cons_of_mem _ h)
      · exact Or.inr h
  | case4 p a q b h1 h2 ih =>
    intro x h
    rw [mg_gt a b (by simpa using h1) h2] at h
    rcases List.mem_cons.1 h with rfl | h
    · exact Or.inr (List.mem_cons_self ..)
    · rcases ih h with h | h
      · exact Or.inl h
      · exact Or.inr (List.mem_cons_of_mem _ h)
  | case5 p a q b h1 h2 h3 ih =>
    intro x h
    rw [mg_new a b (by simpa using h1) (by simpa using h2) h3] at h
    rcases List.mem_cons.1 h with rfl | h
    · exact Or.inr (List.mem_cons_self ..)
    · rcases ih h with h | h
      · exact Or.inl (List.mem_cons_of_mem _ h)
      · exact Or.inr (List.mem_cons_of_mem _ h)
  | case6 p a q b h1 h2 h3 ih =>
    intro x h
    rw [mg_old a b (by simpa using h1) (by simpa using h2) (by simpa using h3)] at h
    rcases List.mem_cons.1 h with rfl | h
    · exact Or.inl (List.mem_cons_self ..)
    · rcases ih h with h | h
      · exact Or.inl (List.mem_cons_of_mem _ h)
      · exact Or.inr (List.mem_cons_of_mem _ h)
theorem mg_srt : ∀ {a b : List Pt}, srtB a = true → srtB b = true → srtB (mg a b) = true := by
  intro a b
  induction a, b using mg.induct with
  | case1 b => intro _ h; rw [mg_nil]; exact h
  | case2 p a => intro h _; rw [mg_nil']; exact h
  | case3 p a q b h1 ih =>
    intro ha hb
    rw [mg_lt a b h1]
    refine srtB_mk (fun x hx => ?_) (ih (srtB_cons ha) hb)
    rcases mg_mem hx with hx | hx
    · exact srtB_all ha x hx
    · rcases List.mem_cons.1 hx with rfl | hx
      · exact h1
      · exact bef_trans h1 (srtB_all hb x hx)
  | case4 p a q b h1 h2 ih =>
    intro ha hb
    rw [mg_gt a b (by simpa using h1) h2]
    refine srtB_mk (fun x hx => ?_) (ih ha (srtB_cons hb))
    rcases mg_mem hx with hx | hx
    · rcases List.mem_cons.1 hx with rfl | hx
      · exact h2
      · exact bef_trans h2 (srtB_all ha x hx)
    · exact srtB_all hb x hx
  | case5 p a q b h1 h2 h3 ih =>
    intro ha hb
    have he := bef_tri (by simpa using h1) (by simpa using h2)
    rw [mg_new a b (by simpa using h1) (by simpa using h2) h3]
    refine srtB_mk (fun x hx => ?_) (ih (srtB_cons ha) (srtB_cons hb))
    rcases mg_mem hx with hx | hx
    · rw [← bef_left he]; exact srtB_all ha x hx
    · exact srtB_all hb x hx
  | case6 p a q b h1 h2 h3 ih =>
    intro ha hb
    have he := bef_tri (by simpa using h1) (by simpa using h2)
    rw [mg_old a b (by simpa using h1) (by simpa using h2) (by simpa using h3)]
    refine srtB_mk (fun x hx => ?_) (ih (srtB_cons ha) (srtB_cons hb))
    rcases mg_mem hx with hx | hx
    · exact srtB_all ha x hx
    · rw [bef_left he]; exact srtB_all hb x hx
theorem look_none_of {l : List Pt} {a p : Pt} (h : srtB (a :: l) = true) (k : a.eqp p = true) : look l p = none :=
  look_none fun x hx => by rw [← bef_left k]; exact srtB_all h x hx
theorem mg_look : ∀ {a b : List Pt}, srtB a = true → srtB b = true → ∀ p, look (mg a b) p = cb (look a p) (look b p) := by
  intro a b
  induction a, b using mg.induct with
  | case1 b => intro _ _ p; rw [mg_nil]; rfl
  | case2 q a => intro _ _ p; rw [mg_nil']; exact (cb_none _).symm
  | case3 x a y b h1 ih =>
    intro ha hb p
    rw [mg_lt a b h1, look_cons, look_cons x a, ih (srtB_cons ha) hb]
    split
    · rename_i hx
      have : look (y :: b) p = none := look_none fun z hz => by
        rw [← bef_left hx]
        rcases List.mem_cons.1 hz with rfl | hz
        · exact h1
        · exact bef_trans h1 (srtB_all hb z hz)
      rw [this]; rfl
    · rfl
  | case4 x a y b h1 h2 ih =>
    intro ha hb p
    rw [mg_gt a b (by simpa using h1) h2, look_cons, look_cons y b, ih ha (srtB_cons hb)]
    split
    · rename_i hy
      have : look (x :: a) p = none := look_none fun z hz => by
        rw [← bef_left hy]
        rcases List.mem_cons.1 hz with rfl | hz
        · exact h2
        · exact bef_trans h2 (srtB_all ha z hz)
      rw [this]; rfl
    · rfl
  | case5 x a y b h1 h2 h3 ih =>
    intro ha hb p
    have he := bef_tri (by simpa using h1) (by simpa using h2)
    rw [mg_new a b (by simpa using h1) (by simpa using h2) h3, look_cons, look_cons x, look_cons y, ih (srtB_cons ha) (srtB_cons hb)]
    by_cases hy : y.eqp p = true
    · rw [if_pos hy, if_pos (Pt.eqp_trans he hy), if_pos hy]
      exact (if_pos h3).symm
    · rw [if_neg hy, if_neg (fun k => hy (Pt.eqp_trans (Pt.eqp_symm he) k)), if_neg hy]
  | case6 x a y b h1 h2 h3 ih =>
    intro ha hb p
    have he := bef_tri (by simpa using h1) (by simpa using h2)
    rw [mg_old a b (by simpa using h1) (by simpa using h2) (by simpa using h3), look_cons, look_cons x, look_cons y, ih (srtB_cons ha) (srtB_cons hb)]
    by_cases hy : x.eqp p = true
    · rw [if_pos hy, if_pos hy, if_pos (Pt.eqp_trans (Pt.eqp_symm he) hy)]
      exact (if_neg h3).symm
    · rw [if_neg hy, if_neg hy, if_neg (fun k => hy (Pt.eqp_trans he k))]
theorem mg_assoc {a b c : List Pt} (ha : srtB a = true) (hb : srtB b = true) (hc : srtB c = true) : mg (mg a b) c = mg a (mg b c) := by
  refine look_ext (mg_srt (mg_srt ha hb) hc) (mg_srt ha (mg_srt hb hc)) fun p => ?_
  rw [mg_look (mg_srt ha hb) hc, mg_look ha hb, mg_look ha (mg_srt hb hc), mg_look hb hc]
  refine cb_assoc fun x y hx hy => ?_
  have e : ∀ z, (look a p = some z ∨ look b p = some z ∨ look c p = some z) → z.eqp p = true := fun z hz => by
    rcases hz with h | h | h <;> exact (look_mem h).2
  exact Pt.eqp_trans (e x hx) (Pt.eqp_symm (e y hy))

/-- A point put among sorted ones, as the document says. -/
def ins (p : Pt) : List Pt → List Pt
  | [] => [p]
  | x :: l => if x.before p = true then x :: ins p l else if x.eqp p = true then (if p.newer x = true then p else x) :: l else p :: x :: l
def srtR (l : List Pt) : List Pt := l.foldl (fun o p => ins p o) []
theorem ins_mg {p : Pt} : ∀ {o : List Pt}, srtB o = true → ins p o = mg o [p]
  | [], _ => by rw [mg_nil]; rfl
  | x :: o, h => by
    unfold ins
    by_cases h1 : x.before p = true
    · rw [if_pos h1, mg_lt _ _ h1, ins_mg (srtB_cons h)]
    · have h1 : x.before p = false := by simpa using h1
      rw [if_neg (by simp [h1])]
      by_cases h2 : x.eqp p = true
      · have h3 : p.before x = false := by
          apply Bool.eq_false_iff.2
          intro k
          have := bef_eqp k
          rw [Pt.eqp_symm h2] at this; cases this
        rw [if_pos h2]
        by_cases h4 : p.newer x = true
        · rw [if_pos h4, mg_new _ _ h1 h3 h4, mg_nil']
        · rw [if_neg h4, mg_old _ _ h1 h3 (by simpa using h4), mg_nil']
      · rw [if_neg h2]
        have h3 : p.before x = true := by
          cases e : p.before x with
          | true => rfl
          | false => exact absurd (bef_tri h1 e) h2
        rw [mg_gt _ _ h1 h3, mg_nil']
theorem srtR_snoc (l : List Pt) (p : Pt) : srtR (l ++ [p]) = ins p (srtR l) := by unfold srtR; rw [List.foldl_append]; rfl
theorem srtB_one (p : Pt) : srtB [p] = true := rfl
theorem ins_srt {p : Pt} {o : List Pt} (h : srtB o = true) : srtB (ins p o) = true := by rw [ins_mg h]; exact mg_srt h (srtB_one p)
theorem foldl_ins_srt : ∀ (l o : List Pt), srtB o = true → srtB (l.foldl (fun o p => ins p o) o) = true
  | [], _, h => h
  | _ :: l, _, h => foldl_ins_srt l _ (ins_srt h)
theorem srtR_srt (l : List Pt) : srtB (srtR l) = true := foldl_ins_srt l [] rfl
theorem foldl_ins_mg : ∀ (l o : List Pt), srtB o = true → l.foldl (fun o p => ins p o) o = mg o (srtR l)
  | [], o, h => (mg_nil' o).symm
  | p :: l, o, h => by
    have e : srtR (p :: l) = mg [p] (srtR l) := foldl_ins_mg l [p] rfl
    rw [List.foldl_cons, foldl_ins_mg l _ (ins_srt h), ins_mg h, e, mg_assoc h (srtB_one p) (srtR_srt l)]
theorem srtR_append (a b : List Pt) : srtR (a ++ b) = mg (srtR a) (srtR b) := by
  unfold srtR; rw [List.foldl_append]; exact foldl_ins_mg b _ (srtR_srt a)
theorem mg_cons_sorted {p : Pt} {l : List Pt} (h : srtB (p :: l) = true) : mg [p] l = p :: l := by
  cases l with
  | nil => exact mg_nil' _
  | cons q t => rw [mg_lt _ _ (srtB_all h q (List.mem_cons_self ..)), mg_nil]
theorem srtR_sorted : ∀ {l : List Pt}, srtB l = true → srtR l = l
  | [], _ => rfl
  | p :: l, h => by
    have e : srtR (p :: l) = mg [p] (srtR l) := foldl_ins_mg l [p] rfl
    rw [e, srtR_sorted (srtB_cons h), mg_cons_sorted h]
theorem srtR_self (l : List Pt) : srtR (srtR l) = srtR l := srtR_sorted (srtR_srt l)
/-- What the program does: halves, put together. -/
theorem srtR_half (l : List Pt) (n : Nat) : mg (srtR (l.take n)) (srtR (l.drop n)) = srtR l := by
  rw [← srtR_append, List.take_append_drop]
theorem mg_len : ∀ (a b : List Pt), (mg a b).length ≤ a.length + b.length := by
  intro a b
  induction a, b using mg.induct with
  | case1 b => rw [mg_nil]; simp
  | case2 p a => rw [mg_nil']; simp
  | case3 p a q b h1 ih => rw [mg_lt a b h1]; simp at *; omega
  | case4 p a q b h1 h2 ih => rw [mg_gt a b (by simpa using h1) h2]; simp at *; omega
  | case5 p a q b h1 h2 h3 ih => rw [mg_new a b (by simpa using h1) (by simpa using h2) h3]; simp at *; omega
  | case6 p a q b h1 h2 h3 ih => rw [mg_old a b (by simpa using h1) (by simpa using h2) (by simpa using h3)]; simp at *; omega
theorem ins_mem {p x : Pt} : ∀ {o : List Pt}, x ∈ ins p o → x = p ∨ x ∈ o
  | [], h => by unfold ins at h; simp at h; exact Or.inl h
  | y :: o, h => by
    unfold ins at h
    split at h
    · rcases List.mem_cons.1 h with rfl | h
      · exact Or.inr (List.mem_cons_self ..)
      · rcases ins_mem h with h | h
        · exact Or.inl h
        · exact Or.inr (List.mem_cons_of_mem _ h)
    · split at h
      · split at h <;> (rcases List.mem_cons.1 h with rfl | h)
        · exact Or.inl rfl
        · exact Or.inr (List.mem_cons_of_mem _ h)
        · exact Or.inr (List.mem_cons_self ..)
        · exact Or.inr (List.mem_cons_of_mem _ h)
      · rcases List.mem_cons.1 h with rfl | h
        · exact Or.inl rfl
        · exact Or.inr h
theorem srtR_mem : ∀ (l : List Pt) {x : Pt}, x ∈ srtR l → x ∈ l := by
  intro l
  have : ∀ (l o : List Pt) {x : Pt}, x ∈ l.foldl (fun o p => ins p o) o → x ∈ o ∨ x ∈ l := by
    intro l
    induction l with
    | nil => intro o x h; exact Or.inl h
    | cons p l ih =>
      intro o x h
      rcases ih _ h with h | h
      · rcases ins_mem h with rfl | h
        · exact Or.inr (List.mem_cons_self ..)
        · exact Or.inl h
      · exact Or.inr (List.mem_cons_of_mem _ h)
  intro x h
  rcases this l [] h with h | h
  · cases h
  · exact h
theorem ins_len (p : Pt) : ∀ o : List Pt, (ins p o).length ≤ o.length + 1
  | [] => by simp [ins]
  | x :: o => by
    unfold ins
    split
    · have := ins_len p o; simp; omega
    · split <;> simp
theorem srtR_len (l : List Pt) : (srtR l).length ≤ l.length := by
  have : ∀ (l o : List Pt), (l.foldl (fun o p => ins p o) o).length ≤ o.length + l.length := by
    intro l
    induction l with
    | nil => intro o; simp
    | cons p l ih => intro o; have h1 := ih (ins p o); have h2 := ins_len p o; simp only [List.foldl_cons, List.length_cons]; omega
  have := this l []
  simpa [srtR] using this

/-- Each place's latest one: what sorting comes to. -/
structure Rep (l m : List Pt) : Prop where
  srt : srtB m = true
  mem : ∀ x ∈ m, x ∈ l
  top : ∀ x ∈ m, ∀ y ∈ l, y.newer x = false
  all : ∀ y ∈ l, ∃ x ∈ m, x.eqp y = true
theorem newer_no_self (x : Pt) : x.newer x = false := by rw [newer_at (Pt.eqp_self x)]; exact St.lt_self _
theorem look_some {l : List Pt} {p x : Pt} (hx : x ∈ l) (h : x.eqp p = true) : ∃ y, look l p = some y := by
  cases e : look l p with
  | some y => exact ⟨y, rfl⟩
  | none =>
    unfold look at e
    rw [List.find?_eq_none] at e
    exact absurd h (e x hx)
theorem rep_ins {l o : List Pt} {p : Pt} (h : Rep l o) : Rep (l ++ [p]) (ins p o) := by
  have hs := ins_srt (p := p) h.srt
  have hl : ∀ q, look (ins p o) q = cb (look o q) (look [p] q) := fun q => by rw [ins_mg h.srt]; exact mg_look h.srt (srtB_one p) q
  refine ⟨hs, fun x hx => ?_, fun x hx y hy => ?_, fun y hy => ?_⟩
  · rcases ins_mem hx with rfl | hx
    · simp
    · exact List.mem_append_left _ (h.mem x hx)
  · have e := look_self hs hx
    rw [hl, look_cons] at e
    cases hn : y.newer x with
    | false => rfl
    | true =>
      exfalso
      have hyx := newer_eqp hn
      have hlt := (newer_at hyx).symm.trans hn
      cases eo : look o x with
      | none =>
        rw [eo] at e
        have : x = p := by
          by_cases k : p.eqp x = true
          · rw [if_pos k] at e; exact (Option.some.inj e).symm
          · rw [if_neg k] at e; cases e
        subst this
        rcases List.mem_append.1 hy with hy | hy
        · obtain ⟨z, hz, hzy⟩ := h.all y hy
          obtain ⟨u, hu⟩ := look_some hz (Pt.eqp_trans hzy hyx)
          rw [hu] at eo; cases eo
        · rw [List.mem_singleton] at hy; subst hy; rw [newer_no_self] at hn; cases hn
      | some z =>
        obtain ⟨hz, hzx⟩ := look_mem eo
        rw [eo] at e
        have hyz := Pt.eqp_trans hyx (Pt.eqp_symm hzx)
        by_cases k : p.eqp x = true
        · rw [if_pos k] at e
          have hpz := Pt.eqp_trans k (Pt.eqp_symm hzx)
          simp only [cb] at e
          rcases List.mem_append.1 hy with hy | hy
          · have ht := h.top z hz y hy
            rw [newer_at hyz] at ht
            split at e
            · rename_i hpn
              obtain rfl := Option.some.inj e
              rw [newer_at hpz] at hpn
              rw [St.lt_trans hpn hlt] at ht; cases ht
            · obtain rfl := Option.some.inj e
              rw [hlt] at ht; cases ht
          · rw [List.mem_singleton] at hy; subst hy
            split at e
            · obtain rfl := Option.some.inj e
              rw [newer_no_self] at hn; cases hn
            · rename_i hpn
              obtain rfl := Option.some.inj e
              exact hpn hn
        · rw [if_neg k] at e
          obtain rfl := Option.some.inj ((cb_none _).symm.trans e)
          rcases List.mem_append.1 hy with hy | hy
          · have ht := h.top z hz y hy
            rw [hn] at ht; cases ht
          · rw [List.mem_singleton] at hy; subst hy
            exact k hyx
  · have hf : ∃ u, look (ins p o) y = some u := by
      rw [hl, look_cons]
      rcases List.mem_append.1 hy with hy | hy
      · obtain ⟨z, hz, hzy⟩ := h.all y hy
        obtain ⟨u, hu⟩ := look_some hz hzy
        rw [hu]
        split
        · show ∃ v, (if p.newer u = true then some p else some u) = some v
          split <;> exact ⟨_, rfl⟩
        · exact ⟨u, rfl⟩
      · rw [List.mem_singleton] at hy; subst hy
        rw [if_pos (Pt.eqp_self y)]
        cases look o y with
        | none => exact ⟨_, rfl⟩
        | some z =>
          show ∃ v, (if y.newer z = true then some y else some z) = some v
          split <;> exact ⟨_, rfl⟩
    obtain ⟨u, hu⟩ := hf
    exact ⟨u, (look_mem hu).1, (look_mem hu).2⟩
theorem rep_srtR (l : List Pt) : Rep l (srtR l) := by
  have : ∀ (n : Nat), n ≤ l.length → Rep (l.take n) (srtR (l.take n)) := by
    intro n
    induction n with
    | zero => intro _; exact ⟨rfl, fun x hx => (by cases hx), fun x hx => (by cases hx), fun y hy => (by simp at hy)⟩
    | succ n ih =>
      intro hn
      rw [List.take_succ_eq_append_getElem (by omega), srtR_snoc]
      exact rep_ins (ih (by omega))
  have := this l.length (Nat.le_refl _)
  rwa [List.take_length] at this
/-- Where no two stamps are the same, the order does not matter. -/
theorem rep_uniq {l l' m m' : List Pt} (hd : ∀ x ∈ l, ∀ y ∈ l, x.st = y.st → x = y) (he : ∀ x, x ∈ l ↔ x ∈ l') (h : Rep l m) (h' : Rep l' m') : m = m' := by
  have key : ∀ {a b m m' : List Pt}, (∀ x ∈ a, ∀ y ∈ a, x.st = y.st → x = y) → (∀ x, x ∈ a ↔ x ∈ b) → Rep a m → Rep b m' → ∀ x, x ∈ m → x ∈ m' := by
    intro a b m m' hd he h h' x hx
    have hxa := h.mem x hx
    obtain ⟨y, hy, hyx⟩ := h'.all x ((he x).1 hxa)
    have hya := (he y).2 (h'.mem y hy)
    have t1 := h.top x hx y hya
    have t2 := h'.top y hy x ((he x).1 hxa)
    rw [newer_at hyx] at t1
    rw [newer_at (Pt.eqp_symm hyx)] at t2
    rw [hd x hxa y hya (St.lt_eq t1 t2)]; exact hy
  refine srtB_ext h.srt h'.srt fun x => ⟨key hd he h h' x, key (fun x hx y hy => hd x ((he x).2 hx) y ((he y).2 hy)) (fun x => (he x).symm) h' h x⟩
end Go.Proofs.Ytolmhlfegllfoaa
