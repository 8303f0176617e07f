/- Records of a log that come out of a buffer: whatever the order in which they were offered, all of them, each behind what it depends on. -/
import Derived.Test.YthifmfgnblecbaaCbMath
set_option maxRecDepth 20000
set_option linter.unusedSimpArgs false
set_option linter.unusedVariables false
namespace Go.Proofs.Ythifmfgnblecbaa.Og.Cb
open Go.RowKit Go.Proofs.Ythifmfgnblecbaa.Vi Go.Proofs.Ythifmfgnblecbaa.Mk

/-- It has come out. -/
def outB (O : List Int) (r : Rec) : Bool := decide (r.st.q ≤ atL O r.st.s)
def outL (O : List Int) (l : List Rec) : List Rec := l.filter (outB O)
theorem outL_le (O : List Int) (l : List Rec) : (outL O l).length ≤ l.length := List.length_filter_le _ _
theorem chain_above {v : List Int} {l : List Rec} (h : chain v l) : ∀ r ∈ l, atL v r.st.s < r.st.q := by
  induction l generalizing v with
  | nil => intro r hr; cases hr
  | cons a t ih =>
    intro r hr
    have hp := Rec.ok_parts h.1
    rcases List.mem_cons.1 hr with e | hr2
    · rw [e, h.2.1]; omega
    · have h1 := ih h.2.2.2 r hr2
      have hr3 := Rec.ok_parts (chain_ok h.2.2.2 r hr2)
      have h2 := with_up (v := v) (r := a) h.2.1 ⟨hp.2.2.2.2.1, hp.2.2.2.2.2⟩ (x := r.st.s) ⟨by omega, by omega⟩
      omega
theorem chain_apart {v : List Int} {l : List Rec} (h : chain v l) : Apart l := by
  induction l generalizing v with
  | nil => exact trivial
  | cons a t ih =>
    refine ⟨fun x hx k => ?_, ih h.2.2.2⟩
    have hp := Rec.ok_parts h.1
    have h1 := chain_above h.2.2.2 x hx
    rw [← k.1, atL_withI _ _ _ ⟨by omega, by omega⟩, if_pos rfl, cl_in (by omega) (by omega)] at h1
    have := k.2
    omega
/-- Records that are told apart, and are all of l, are not more. -/
theorem apart_len : ∀ (l A : List Rec), Apart A → (∀ r ∈ A, r ∈ l) → A.length ≤ l.length := by
  intro l
  induction l with
  | nil =>
    intro A _ h
    cases A with
    | nil => exact Nat.le_refl _
    | cons a t => have := h a (List.mem_cons_self ..); cases this
  | cons a t ih =>
    intro A hA h
    by_cases ha : a ∈ A
    · have h1 := delL_len hA ha
      have h2 := ih (delL A a.st.s a.st.q) (hA.filter _) fun r hr => by
        obtain ⟨h3, h4⟩ := delL_mem.1 hr
        rcases List.mem_cons.1 (h r h3) with e | e
        · rw [e] at h4; exact absurd ⟨rfl, rfl⟩ h4
        · exact e
      rw [List.length_cons]
      omega
    · have h2 := ih A hA fun r hr => by
        rcases List.mem_cons.1 (h r hr) with e | e
        · rw [e] at hr; exact absurd hr ha
        · exact e
      rw [List.length_cons]
      omega
theorem outL_next {O : List Int} {l : List Rec} (hA : Apart l) (hok : ∀ x ∈ l, x.ok = true) {r : Rec} (hr : r ∈ l) (hq : r.st.q = atL O r.st.s + 1) : (outL (withL O r.st.s r.st.q) l).length = (outL O l).length + 1 := by
  have key : ∀ x : Rec, x.ok = true → outB (withL O r.st.s r.st.q) x = (outB O x || (decide (x.st.s = r.st.s ∧ x.st.q = r.st.q))) := fun x hx => by
    have hp := Rec.ok_parts hx
    have hr2 := Rec.ok_parts (hok r hr)
    unfold outB
    rw [atL_withI _ _ _ ⟨by omega, by omega⟩]
    by_cases e : x.st.s = r.st.s
    · rw [if_pos e, cl_in (by omega) (by omega), e]
      rw [Bool.eq_iff_iff, Bool.or_eq_true, decide_eq_true_eq, decide_eq_true_eq, decide_eq_true_eq]
      omega
    · rw [if_neg e, Bool.eq_iff_iff, Bool.or_eq_true, decide_eq_true_eq, decide_eq_true_eq]
      simp [e]
  have gen : ∀ m : List Rec, Apart m → (∀ x ∈ m, x.ok = true) → (r ∈ m → (outL (withL O r.st.s r.st.q) m).length = (outL O m).length + 1) ∧ ((∀ x ∈ m, ¬ (x.st.s = r.st.s ∧ x.st.q = r.st.q)) → (outL (withL O r.st.s r.st.q) m).length = (outL O m).length) := by
    intro m
    induction m with
    | nil => intro _ _; exact ⟨fun h => (by cases h), fun _ => rfl⟩
    | cons a t ih =>
      intro hAm hokm
      obtain ⟨i1, i2⟩ := ih hAm.2 fun x hx => hokm x (List.mem_cons_of_mem _ hx)
      have ka := key a (hokm a (List.mem_cons_self ..))
      constructor
      · intro hm
        by_cases e : a.st.s = r.st.s ∧ a.st.q = r.st.q
        · have h2 := i2 fun x hx k => hAm.1 x hx ⟨e.1.trans k.1.symm, e.2.trans k.2.symm⟩
          have h3 : outB O a = false := by unfold outB; rw [decide_eq_false_iff_not, e.1, e.2, hq]; omega
          unfold outL at h2 ⊢
          rw [List.filter_cons, List.filter_cons, ka, h3, decide_eq_true e]
          simp only [Bool.or_true, if_true, Bool.false_eq_true, if_false, List.length_cons]
          omega
        · have hm2 : r ∈ t := by
            rcases List.mem_cons.1 hm with e2 | e2
            · rw [← e2] at e; exact absurd ⟨rfl, rfl⟩ e
            · exact e2
          have h2 := i1 hm2
          unfold outL at h2 ⊢
          rw [List.filter_cons, List.filter_cons, ka, decide_eq_false e, Bool.or_false]
          split <;> first | omega | (simp only [List.length_cons]; omega)
      · intro hm
        have h2 := i2 fun x hx => hm x (List.mem_cons_of_mem _ hx)
        have e := hm a (List.mem_cons_self ..)
        unfold outL at h2 ⊢
        rw [List.filter_cons, List.filter_cons, ka, decide_eq_false e, Bool.or_false]
        split <;> first | omega | (simp only [List.length_cons]; omega)
  exact (gen l hA hok).1 hr
/-- A buffer that gets the records of a log. -/
structure OInv (l : List Rec) (S : CS) : Prop where
  ch : chain [] l
  few : l.length ≤ 40
  rm : S.room = 400
  good : CGood S
  sub : ∀ r ∈ S.L, r ∈ l
def Seen (S : CS) (r : Rec) : Prop := outB S.out r = true ∨ r ∈ S.L
theorem OInv.new {l : List Rec} (h : chain [] l) (hl : l.length ≤ 40) : OInv l (newC 400 []) := ⟨h, hl, rfl, newC_good _ _, fun r hr => (by cases hr)⟩
theorem new_none : nextR (newC 400 []) = none := rfl
theorem OInv.len {l : List Rec} {S : CS} (h : OInv l S) : S.L.length ≤ l.length := apart_len l S.L h.good.apart h.sub
theorem OInv.start {l : List Rec} (h : chain [] l) : (outL [] l).length = 0 := by
  unfold outL
  rw [List.length_eq_zero_iff, List.filter_eq_nil_iff]
  intro r hr
  have := chain_above h r hr
  rw [atL_nil] at this
  unfold outB
  rw [atL_nil]
  simp; omega
theorem OInv.off {l : List Rec} {S : CS} (h : OInv l S) {r : Rec} (hr : r ∈ l) : OInv l (offS S r) ∧ Seen (offS S r) r ∧ (offS S r).out = S.out ∧ (∀ x, Seen S x → Seen (offS S r) x) := by
  have hok := chain_ok h.ch r hr
  by_cases e : offE S r = 0
  · rw [offS_yes e]
    refine ⟨⟨h.ch, h.few, h.rm, by have := h.good.off r; rw [offS_yes e] at this; exact this, fun x hx => ?_⟩, Or.inr (List.mem_append_right _ (List.mem_singleton.2 rfl)), rfl, fun x hx => hx.imp id fun k => List.mem_append_left _ k⟩
    rcases List.mem_append.1 hx with hx | hx
    · exact h.sub x hx
    · rw [List.mem_singleton] at hx; rw [hx]; exact hr
  · rw [offS_no e]
    refine ⟨h, ?_, rfl, fun x hx => hx⟩
    have hk : knownB S r = true := by
      cases k : knownB S r with
      | true => rfl
      | false =>
        have h1 := h.len
        have h2 := h.rm
        have h3 := h.few
        exact absurd (offE_held hok k fun f => by omega) e
    unfold knownB at hk
    rcases Bool.or_eq_true_iff.1 hk with k | k
    · have k := of_decide_eq_true k
      exact Or.inl (decide_eq_true (by omega))
    · obtain ⟨x, hx, h1, h2⟩ := hasB_iff.1 k
      have := (chain_apart h.ch).same (h.sub x hx) hr ⟨h1, h2⟩
      rw [this] at hx
      exact Or.inr hx
theorem OInv.next {l : List Rec} {S : CS} (h : OInv l S) {r : Rec} (hn : nextR S = some r) : OInv l (nextS S) ∧ (outL (nextS S).out l).length = (outL S.out l).length + 1 ∧ (nextS S).out = withL S.out r.st.s r.st.q ∧ (nextS S).L.length + 1 = S.L.length ∧ (∀ x ∈ l, Seen S x → Seen (nextS S) x) := by
  obtain ⟨h1, h2⟩ := nextR_some hn
  have hok := h.good.ok r h1
  have hg := h.good.next
  rw [nextS_some hn] at hg ⊢
  refine ⟨⟨h.ch, h.few, h.rm, hg, fun x hx => h.sub x (delL_mem.1 hx).1⟩, outL_next (chain_apart h.ch) (chain_ok h.ch) (h.sub r h1) (dueB_iff.1 h2).1, rfl, delL_len h.good.apart h1, fun x hx hs => ?_⟩
  rcases hs with k | k
  · left
    have k := of_decide_eq_true k
    have := out_up (x := x.st.s) hok h2
    exact decide_eq_true (by dsimp only; omega)
  · by_cases e : x.st.s = r.st.s ∧ x.st.q = r.st.q
    · left
      have hp := Rec.ok_parts hok
      refine decide_eq_true ?_
      dsimp only
      rw [e.1, e.2, out_at hok ⟨by omega, by omega⟩, if_pos rfl]
      omega
    · exact Or.inr (delL_mem.2 ⟨k, e⟩)
/-- Once all was offered, and nothing is due, all is out. -/
theorem all_out {S : CS} (hg : CGood S) (hn : nextR S = none) : ∀ (l : List Rec) (v : List Int), chain v l → (∀ x : Int, atL v x ≤ atL S.out x) → (∀ r ∈ l, Seen S r) → ∀ r ∈ l, outB S.out r = true := by
  intro l
  induction l with
  | nil => intro v _ _ _ r hr; cases hr
  | cons a t ih =>
    intro v hc hv hs
    have hp := Rec.ok_parts hc.1
    have ha : outB S.out a = true := by
      rcases hs a (List.mem_cons_self ..) with k | k
      · exact k
      · have h1 := hg.above a k
        have h2 := hv a.st.s
        have h3 := hc.2.1
        have h4 : dueB S a = true := dueB_iff.2 ⟨by omega, cov_trans hv hc.2.2.1⟩
        rw [nextR_none hg.apart hn k ⟨by omega, by omega⟩] at h4
        cases h4
    have ha2 := of_decide_eq_true ha
    intro r hr
    rcases List.mem_cons.1 hr with e | hr2
    · rw [e]; exact ha
    · refine ih _ hc.2.2.2 (fun x => ?_) (fun y hy => hs y (List.mem_cons_of_mem _ hy)) r hr2
      by_cases hx : 0 ≤ x ∧ x ≤ 7
      · rw [atL_withI _ _ _ hx]
        split
        · rename_i e
          rw [cl_in (by omega) (by omega), e]; exact ha2
        · exact hv x
      · rw [atL_out (by omega), atL_out (by omega)]; omega
theorem OInv.fin {l : List Rec} {S : CS} (h : OInv l S) (hn : nextR S = none) (hs : ∀ r ∈ l, Seen S r) : (outL S.out l).length = l.length ∧ S.L = [] := by
  have ha := all_out h.good hn l [] h.ch (fun x => by rw [atL_nil]; exact (atL_bounds _ _).1) hs
  refine ⟨?_, ?_⟩
  · unfold outL
    rw [List.filter_eq_self.2 ha]
  · cases e : S.L with
    | nil => rfl
    | cons a t =>
      have h1 : a ∈ S.L := by rw [e]; exact List.mem_cons_self ..
      have h2 := of_decide_eq_true (ha a (h.sub a h1))
      have h3 := h.good.above a h1
      omega
theorem OInv.empty {l : List Rec} {S : CS} (h : OInv l S) (h0 : l = []) : S.L = [] ∧ (outL S.out l).length = 0 := by
  subst h0
  refine ⟨?_, rfl⟩
  cases e : S.L with
  | nil => rfl
  | cons a t => have := h.sub a (by rw [e]; exact List.mem_cons_self ..); cases this
end Go.Proofs.Ythifmfgnblecbaa.Og.Cb
