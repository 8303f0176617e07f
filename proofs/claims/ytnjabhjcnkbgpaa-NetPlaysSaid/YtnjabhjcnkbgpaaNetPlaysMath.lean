/- Two networks that say the same: the program's and the document's. -/
import Derived.Test.YtnjabhjcnkbgpaaNetRefJn
import Derived.Test.YtnjabhjcnkbgpaaNetRefDb
import Derived.Test.YtnjabhjcnkbgpaaNetOrderMath
set_option maxRecDepth 20000
set_option linter.unusedVariables false
namespace Go.Proofs.Ytnjabhjcnkbgpaa
open Go.RowKit

/-- After k steps. -/
structure Eqv (S : NS) (R : RN) (k : Nat) : Prop where
  mail : R.mail = S.mail
  last : R.last = S.last
  par : ∀ a b, isP R.ps a b = partedB S a b
  psl : R.ps.length ≤ k
  len : S.mail.length ≤ k
  lo : 0 ≤ S.last
  hi : S.last ≤ k
  ids : S.mail.Pairwise fun a b => a.n < b.n
  top : ∀ m ∈ S.mail, m.n ≤ S.last
  two : ∀ m ∈ S.mail, twoB m.f m.t = true
  age : ∀ m ∈ S.mail, 0 ≤ m.a ∧ m.a ≤ k
  old : S.mail.Pairwise fun a b => b.a ≤ a.a
theorem Eqv.new : Eqv NS.new ⟨[], 0, []⟩ 0 :=
  ⟨rfl, rfl, fun a b => by unfold partedB NS.new isP; simp, by simp, by simp [NS.new], by simp [NS.new], by simp [NS.new], List.Pairwise.nil, by simp [NS.new], by simp [NS.new], by simp [NS.new], List.Pairwise.nil⟩
section
variable {S : NS} {R : RN} {k : Nat}
theorem Eqv.mono (h : Eqv S R k) {k' : Nat} (hk : k ≤ k') : Eqv S R k' :=
  ⟨h.mail, h.last, h.par, by have := h.psl; omega, by have := h.len; omega, h.lo, by have := h.hi; omega, h.ids, h.top, h.two, fun m hm => by have := h.age m hm; omega, h.old⟩
theorem Eqv.thin (h : Eqv S R k) {l : List Ml} (hs : l.Sublist S.mail) : Eqv { S with mail := l } { R with mail := l } k :=
  ⟨rfl, h.last, h.par, h.psl, Nat.le_trans hs.length_le h.len, h.lo, h.hi, h.ids.sublist hs, fun m hm => h.top m (hs.subset hm), fun m hm => h.two m (hs.subset hm), fun m hm => h.age m (hs.subset hm), h.old.sublist hs⟩
theorem inc_eq {x : Int} (h : 0 ≤ x) (h2 : x ≤ 1000000) : inc x = x + 1 := by unfold inc; rw [IntKind.wrap_i64]; omega
theorem Eqv.add (h : Eqv S R k) (hk : k ≤ 1000) (f t : Int) (s : ByteArray) (h2 : twoB f t = true) : Eqv (addS S f t s) { R with mail := R.mail ++ [⟨inc R.last, f, t, s, 0⟩], last := inc R.last } (k + 1) := by
  have e : inc S.last = S.last + 1 := inc_eq h.lo (by have := h.hi; omega)
  have h1 := h.lo
  have h3 := h.hi
  refine ⟨?_, ?_, h.par, Nat.le_succ_of_le h.psl, ?_, ?_, ?_, ?_, ?_, ?_, ?_, ?_⟩
  · show R.mail ++ _ = S.mail ++ _
    rw [h.mail, h.last]
  · show inc R.last = inc S.last
    rw [h.last]
  · show (S.mail ++ _).length ≤ _
    have := h.len
    rw [List.length_append]; simp; omega
  · show 0 ≤ inc S.last
    omega
  · show inc S.last ≤ _
    omega
  · refine List.pairwise_append.2 ⟨h.ids, List.pairwise_singleton _ _, fun a ha b hb => ?_⟩
    rw [List.mem_singleton] at hb
    subst hb
    have := h.top a ha
    show a.n < inc S.last
    omega
  · intro m hm
    rcases List.mem_append.1 hm with hm | hm
    · have := h.top m hm
      show m.n ≤ inc S.last
      omega
    · rw [List.mem_singleton] at hm
      subst hm
      exact Int.le_refl _
  · intro m hm
    rcases List.mem_append.1 hm with hm | hm
    · exact h.two m hm
    · rw [List.mem_singleton] at hm
      subst hm
      exact h2
  · intro m hm
    rcases List.mem_append.1 hm with hm | hm
    · have := h.age m hm
      omega
    · rw [List.mem_singleton] at hm
      subst hm
      exact ⟨Int.le_refl _, by show (0 : Int) ≤ _; omega⟩
  · refine List.pairwise_append.2 ⟨h.old, List.pairwise_singleton _ _, fun a ha b hb => ?_⟩
    rw [List.mem_singleton] at hb
    subst hb
    exact (h.age a ha).1
theorem Eqv.refuse (h : Eqv S R k) (f t : Int) (s : ByteArray) : rrefuse R f t s = refuse S f t s := by
  unfold rrefuse Go.Proofs.Ytnjabhjcnkbgpaa.refuse fullB; rw [h.mail]
theorem Eqv.sendN (h : Eqv S R k) (f t : Int) (s : ByteArray) : rsendN R f t s = sendN S f t s := by
  unfold rsendN Go.Proofs.Ytnjabhjcnkbgpaa.sendN; rw [h.refuse, h.last]
theorem Eqv.send (h : Eqv S R k) (hk : k ≤ 1000) (f t : Int) (s : ByteArray) : Eqv (sendS S f t s) (rsendR R f t s) (k + 1) := by
  unfold rsendR sendS
  rw [h.refuse]
  by_cases hr : Go.Proofs.Ytnjabhjcnkbgpaa.refuse S f t s = true
  · rw [if_pos hr, if_pos hr]; exact h.mono (Nat.le_succ k)
  · rw [if_neg hr, if_neg hr]
    refine h.add hk f t s ?_
    unfold Go.Proofs.Ytnjabhjcnkbgpaa.refuse at hr
    revert hr
    cases twoB f t <;> simp
theorem Eqv.ready (h : Eqv S R k) : rreadyL R = readyL S := by
  unfold rreadyL readyL
  rw [h.mail]
  refine List.filter_congr fun m hm => ?_
  rw [h.par]
  unfold partedB openB
  rw [h.two m hm, Bool.true_and]
theorem filter_rm : ∀ (l : List Ml) (i : Nat) (m : Ml), l.Pairwise (fun a b => a.n < b.n) → l[i]? = some m → l.filter (fun y => !(y.n == m.n)) = l.take i ++ l.drop (i + 1)
  | [], i, m, _, h => by simp at h
  | y :: l, 0, m, hp, h => by
    simp at h
    subst h
    rw [List.filter_cons, if_neg (by simp), List.take_zero, List.nil_append]
    show _ = l
    refine List.filter_eq_self.2 fun z hz => ?_
    have := (List.pairwise_cons.1 hp).1 z hz
    simp; omega
  | y :: l, i + 1, m, hp, h => by
    have hi : l[i]? = some m := by simpa using h
    have hm : m ∈ l := List.mem_of_getElem? hi
    have := (List.pairwise_cons.1 hp).1 m hm
    rw [List.filter_cons, if_pos (by simp; omega), filter_rm l i m (List.pairwise_cons.1 hp).2 hi]
    rfl
theorem Eqv.taken (h : Eqv S R k) {i : Nat} {m : Ml} (hm : S.mail[i]? = some m) : Eqv (removeS S i) (rtakeR R m) k := by
  have e : rtakeR R m = { R with mail := (removeS S i).mail } := by
    unfold rtakeR removeS
    rw [h.mail, filter_rm _ _ _ h.ids hm]
  rw [e]
  refine h.thin ?_
  have h2 := filter_split (fun _ => true) hm
  show (S.mail.take i ++ S.mail.drop (i + 1)).Sublist S.mail
  conv => rhs; rw [h2]
  exact (List.Sublist.refl _).append (List.sublist_cons_self _ _)
theorem Eqv.take_no (h : Eqv S R k) (x : Int) (h0 : (readyL S).length = 0) : rreadyL R = [] ∧ takeS S x = S ∧ takeM S x = none := by
  have e : takeI S x = none := by unfold takeI; rw [if_pos h0]
  exact ⟨by rw [h.ready]; exact List.length_eq_zero_iff.1 h0, by unfold takeS; rw [e], by unfold takeM; rw [e]⟩
theorem Eqv.take_yes (h : Eqv S R k) (x : Int) (h0 : 0 < (readyL S).length) : ∃ m, (rreadyL R)[pickN x (rreadyL R).length]? = some m ∧ takeM S x = some m ∧ Eqv (takeS S x) (rtakeR R m) k := by
  obtain ⟨m, T⟩ := takes S x h0
  obtain ⟨i, hi, e⟩ := T.place
  exact ⟨m, by rw [h.ready]; exact T.got, T.took, by rw [e]; exact h.taken hi⟩
theorem Eqv.drop_yes (h : Eqv S R k) (x : Int) (h0 : 0 < S.mail.length) : ∃ m, R.mail[pickN x R.mail.length]? = some m ∧ Eqv (dropS S x) (rtakeR R m) k := by
  have hp := (pick_lt x h0).2.2.2
  refine ⟨S.mail[pickN x S.mail.length], by rw [h.mail]; exact List.getElem?_eq_getElem hp, ?_⟩
  have e : dropS S x = removeS S (pickN x S.mail.length) := by unfold dropS; rw [if_neg (by omega)]
  rw [e]
  exact h.taken (List.getElem?_eq_getElem hp)
theorem Eqv.double_b (h : Eqv S R k) : rdoubleB R = doubleB S := by unfold rdoubleB doubleB fullB; rw [h.mail]
theorem Eqv.double_no (h : Eqv S R k) (x : Int) (hb : doubleB S = false) : Eqv (doubleS S x) R (k + 1) := by
  unfold doubleS
  rw [hb]
  exact h.mono (Nat.le_succ k)
theorem Eqv.double_yes (h : Eqv S R k) (hk : k ≤ 1000) (x : Int) (hb : doubleB S = true) : R.mail.length < 2000 ∧ ∃ m, R.mail[pickN x R.mail.length]? = some m ∧ Eqv (doubleS S x) { R with mail := R.mail ++ [⟨inc R.last, m.f, m.t, m.s, 0⟩], last := inc R.last } (k + 1) := by
  have h0 : 0 < S.mail.length := by
    unfold doubleB at hb
    simp only [Bool.and_eq_true, Bool.not_eq_true', beq_eq_false_iff_ne] at hb
    omega
  have hp := (pick_lt x h0).2.2.2
  have hl := h.len
  refine ⟨by rw [h.mail]; omega, S.mail[pickN x S.mail.length], by rw [h.mail]; exact List.getElem?_eq_getElem hp, ?_⟩
  have e : doubleS S x = addS S S.mail[pickN x S.mail.length].f S.mail[pickN x S.mail.length].t S.mail[pickN x S.mail.length].s := by
    unfold doubleS
    rw [if_pos hb, List.getElem?_eq_getElem hp]
  rw [e]
  exact h.add hk _ _ _ (h.two _ (List.getElem_mem hp))
theorem pair_iff (a b x y : Int) : pairI a b = pairI x y ↔ (x = a ∧ y = b) ∨ (x = b ∧ y = a) := by
  unfold pairI
  split <;> split <;> simp only [Prod.mk.injEq] <;> omega
theorem two_comm (a b : Int) : twoB a b = twoB b a := by
  have : (a == b) = (b == a) := by rw [Bool.eq_iff_iff, beq_iff_eq, beq_iff_eq]; omega
  unfold twoB
  rw [this, Bool.and_comm (endB a)]
theorem spot_iff {a b x y : Int} (h : twoB a b = true) (h2 : twoB x y = true) : (spot x y = spot a b ∨ spot x y = spot b a) ↔ pairI a b = pairI x y := by
  obtain ⟨p, q, rfl, rfl, hp, hq, -⟩ := twoB_yes h
  obtain ⟨u, v, rfl, rfl, hu, hv, -⟩ := twoB_yes h2
  rw [pair_iff, spot_nat, spot_nat, spot_nat]
  omega
theorem pair_two {a b x y : Int} (h : twoB a b = true) (e : pairI a b = pairI x y) : twoB x y = true := by
  rcases (pair_iff _ _ _ _).1 e with ⟨rfl, rfl⟩ | ⟨rfl, rfl⟩
  · exact h
  · rw [two_comm]; exact h
theorem Eqv.turned (h : Eqv S R k) {a b : Int} (h2 : twoB a b = true) (v : Bool) (ps : List (Int × Int)) (hl : ps.length ≤ k + 1)
    (hps : ∀ x y, isP ps x y = if pairI a b = pairI x y then v else isP R.ps x y) : Eqv { S with par := turnP S.par a b v } { R with ps := ps } (k + 1) := by
  have g := h.mono (Nat.le_succ k)
  refine ⟨g.mail, g.last, fun x y => ?_, hl, g.len, g.lo, g.hi, g.ids, g.top, g.two, g.age, g.old⟩
  show isP ps x y = (twoB x y && turnP S.par a b v (spot x y))
  rw [hps, h.par]
  unfold partedB turnP
  by_cases h3 : twoB x y = true
  · rw [h3, Bool.true_and, Bool.true_and]
    by_cases e : pairI a b = pairI x y
    · rw [if_pos e, if_pos ((spot_iff h2 h3).2 e)]
    · rw [if_neg e, if_neg (fun c => e ((spot_iff h2 h3).1 c))]
  · have e : ¬ pairI a b = pairI x y := fun e => h3 (pair_two h2 e)
    rw [if_neg e, Bool.eq_false_iff.2 h3, Bool.false_and, Bool.false_and]
theorem Eqv.part_b (h : Eqv S R k) (a b : Int) : (!sameAs S a b true) = rpartB R a b := by
  unfold sameAs rpartB
  rw [h.par]
  unfold partedB
  cases twoB a b <;> cases S.par (spot a b) <;> rfl
theorem Eqv.part_no (h : Eqv S R k) (a b : Int) (hb : rpartB R a b = false) : Eqv (setS S a b true) R (k + 1) := by
  have e := h.part_b a b
  rw [hb] at e
  have e2 : sameAs S a b true = true := by simpa using e
  unfold setS
  rw [if_pos e2]
  exact h.mono (Nat.le_succ k)
theorem Eqv.part_yes (h : Eqv S R k) (a b : Int) (hb : rpartB R a b = true) : Eqv (setS S a b true) { R with ps := R.ps ++ [pairI a b] } (k + 1) := by
  have e := h.part_b a b
  rw [hb] at e
  have e2 : ¬ sameAs S a b true = true := by simpa using e
  unfold setS
  rw [if_neg e2]
  have h2 : twoB a b = true := by
    unfold rpartB at hb
    revert hb
    cases twoB a b <;> simp
  refine h.turned h2 true _ (by have := h.psl; rw [List.length_append]; simp; omega) fun x y => ?_
  unfold isP
  rw [List.any_append, List.any_cons, List.any_nil, Bool.or_false]
  by_cases e : pairI a b = pairI x y
  · rw [if_pos e, decide_eq_true e, Bool.or_true]
  · rw [if_neg e, decide_eq_false e, Bool.or_false]
theorem Eqv.join_b (h : Eqv S R k) (a b : Int) : (!sameAs S a b false) = isP R.ps a b := by
  unfold sameAs
  rw [h.par]
  unfold partedB
  cases twoB a b <;> cases S.par (spot a b) <;> rfl
theorem isP_mem {ps : List (Int × Int)} {x y : Int} : isP ps x y = true ↔ pairI x y ∈ ps := by
  unfold isP
  rw [List.any_eq_true]
  constructor
  · rintro ⟨p, hp, e⟩
    rw [← of_decide_eq_true e]; exact hp
  · intro h
    exact ⟨_, h, decide_eq_true rfl⟩
theorem mem_notP {ps : List (Int × Int)} {a b : Int} {p : Int × Int} : p ∈ ps.filter (notP a b) ↔ p ∈ ps ∧ p ≠ pairI a b := by
  rw [List.mem_filter]
  unfold notP
  simp
theorem Eqv.join (h : Eqv S R k) (a b : Int) : Eqv (setS S a b false) { R with ps := R.ps.filter (notP a b) } (k + 1) := by
  have e := h.join_b a b
  by_cases hb : isP R.ps a b = true
  · rw [hb] at e
    have e2 : ¬ sameAs S a b false = true := by simpa using e
    unfold setS
    rw [if_neg e2]
    have h2 : twoB a b = true := by
      rw [h.par] at hb
      unfold partedB at hb
      revert hb
      cases twoB a b <;> simp
    refine h.turned h2 false _ (Nat.le_trans (List.length_filter_le _ _) (Nat.le_succ_of_le h.psl)) fun x y => ?_
    by_cases e : pairI a b = pairI x y
    · rw [if_pos e, Bool.eq_false_iff]
      intro c
      exact (mem_notP.1 (isP_mem.1 c)).2 e.symm
    · rw [if_neg e, Bool.eq_iff_iff, isP_mem, isP_mem, mem_notP]
      exact ⟨fun c => c.1, fun c => ⟨c, fun d => e d.symm⟩⟩
  · have hf : isP R.ps a b = false := Bool.eq_false_iff.2 hb
    rw [hf] at e
    have e2 : sameAs S a b false = true := by simpa using e
    have e3 : R.ps.filter (notP a b) = R.ps := List.filter_eq_self.2 fun p hp => by
      unfold notP
      rw [decide_eq_false (fun c => hb (isP_mem.2 (by rw [← c]; exact hp)))]; rfl
    rw [e3]
    unfold setS
    rw [if_pos e2]
    exact h.mono (Nat.le_succ k)
theorem Eqv.heal (h : Eqv S R k) : Eqv (healS S) { R with ps := [] } k :=
  ⟨h.mail, h.last, fun a b => by show isP [] a b = (twoB a b && false); rw [Bool.and_false]; rfl, Nat.zero_le _, h.len, h.lo, h.hi, h.ids, h.top, h.two, h.age, h.old⟩
theorem Eqv.tick (h : Eqv S R k) (hk : k ≤ 1000) : Eqv (tickS S) { R with mail := R.mail.map older } (k + 1) := by
  have hi : ∀ m ∈ S.mail, (older m).a = m.a + 1 := fun m hm => by
    have := h.age m hm
    exact inc_eq this.1 (by omega)
  refine ⟨?_, h.last, h.par, Nat.le_succ_of_le h.psl, ?_, h.lo, ?_, ?_, ?_, ?_, ?_, ?_⟩
  · show R.mail.map older = S.mail.map older
    rw [h.mail]
  · show (S.mail.map older).length ≤ _
    have := h.len
    rw [List.length_map]; omega
  · have := h.hi
    show S.last ≤ _
    omega
  · refine List.pairwise_map.2 (h.ids.imp fun hab => ?_)
    exact hab
  · intro m hm
    obtain ⟨x, hx, rfl⟩ := List.mem_map.1 hm
    exact h.top x hx
  · intro m hm
    obtain ⟨x, hx, rfl⟩ := List.mem_map.1 hm
    exact h.two x hx
  · intro m hm
    obtain ⟨x, hx, rfl⟩ := List.mem_map.1 hm
    have := h.age x hx
    rw [hi x hx]
    omega
  · refine List.pairwise_map.2 (h.old.imp_of_mem fun ha hb hab => ?_)
    rw [hi _ ha, hi _ hb]
    omega
theorem Eqv.lose (h : Eqv S R k) (e : Int) : Eqv (loseS S e) { R with mail := R.mail.filter (loseB e) } k := by
  rw [h.mail]
  exact h.thin List.filter_sublist
theorem Eqv.loseN (h : Eqv S R k) (e : Int) : ((R.mail.length : Int) - ((R.mail.filter (loseB e)).length : Int)) = Go.Proofs.Ytnjabhjcnkbgpaa.loseN S e := by
  unfold Go.Proofs.Ytnjabhjcnkbgpaa.loseN
  rw [h.mail]
theorem max_stays : ∀ (l : List Ml) (mx : Int), (∀ m ∈ l, m.a ≤ mx) → l.foldl (fun mx m => if mx < m.a then m.a else mx) mx = mx
  | [], _, _ => rfl
  | m :: l, mx, h => by
    rw [List.foldl_cons, if_neg (by have := h m (by simp); omega)]
    exact max_stays l mx fun x hx => h x (by simp [hx])
theorem Eqv.oldest (h : Eqv S R k) : maxA R.mail = oldestS S := by
  rw [h.mail]
  unfold maxA oldestS
  have ho := h.old
  have ha := h.age
  revert ho ha
  cases S.mail with
  | nil => intro _ _; rfl
  | cons m l =>
    intro ho ha
    have e : (if (0 : Int) < m.a then m.a else 0) = m.a := by
      have := (ha m (by simp)).1
      split <;> omega
    rw [List.foldl_cons, e]
    exact max_stays l m.a fun x hx => (List.pairwise_cons.1 ho).1 x hx
end
end Go.Proofs.Ytnjabhjcnkbgpaa
