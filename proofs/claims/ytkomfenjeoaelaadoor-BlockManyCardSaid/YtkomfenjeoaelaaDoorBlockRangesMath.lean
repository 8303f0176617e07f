/- Spans side by side; each series once; all points of all series. -/
import Derived.Test.YtkomfenjeoaelaaDoorBlockFrom
set_option maxRecDepth 20000
namespace Go.Proofs.YtkomfenjeoaelaaDoor
open Go.RowKit Go.Proofs.YtkomfenjeoaelaaDoor.Vi Go.Proofs.YtkomfenjeoaelaaDoor.Mk

theorem rngL_cons (p : Pt) (l : List Pt) (s : ByteArray) (f t : Int) : rngL (p :: l) s f t = if inR s f t p = true then p :: rngL l s f t else rngL l s f t := by unfold rngL; rw [List.filter_cons]
theorem inR_iff {s : ByteArray} {f t : Int} {x : Pt} : inR s f t x = true ↔ x.s = s ∧ f ≤ x.t ∧ x.t < t := by unfold inR; simp
theorem rng_join {s : ByteArray} {f t u : Int} (h1 : f ≤ t) (h2 : t ≤ u) : ∀ {l : List Pt}, srtB l = true → rngL l s f t ++ rngL l s t u = rngL l s f u
  | [], _ => rfl
  | p :: l, h => by
    have ih := rng_join (s := s) (l := l) h1 h2 (srtB_cons h)
    rw [rngL_cons, rngL_cons, rngL_cons]
    by_cases c1 : p.s = s ∧ f ≤ p.t ∧ p.t < t
    · rw [if_pos (inR_iff.2 c1), if_neg (fun h => by have := inR_iff.1 h; omega), if_pos (inR_iff.2 ⟨c1.1, c1.2.1, by omega⟩), List.cons_append, ih]
    · rw [if_neg (fun h => c1 (inR_iff.1 h))]
      by_cases c2 : p.s = s ∧ t ≤ p.t ∧ p.t < u
      · have e : rngL l s f t = [] := by
          unfold rngL
          refine List.filter_eq_nil_iff.2 fun x hx hin => ?_
          have hb := srtB_all h x hx
          have hi := inR_iff.1 hin
          rw [bef_s (c2.1.trans hi.1.symm)] at hb
          have := of_decide_eq_true hb
          omega
        rw [e, List.nil_append] at ih
        rw [if_pos (inR_iff.2 c2), if_pos (inR_iff.2 ⟨c2.1, by omega, c2.2.2⟩), e, List.nil_append, ih]
      · rw [if_neg (fun h => c2 (inR_iff.1 h)), if_neg (fun h => by
          have hi := inR_iff.1 h
          by_cases hh : p.t < t
          · exact c1 ⟨hi.1, hi.2.1, hh⟩
          · exact c2 ⟨hi.1, by omega, hi.2.2⟩), ih]
theorem find_self {l : List Pt} (h : srtB l = true) {x : Pt} (hx : x ∈ l) : findL l x.s x.t = (x, true) := by
  have e : look l (plc x.s x.t) = look l x := by unfold look; congr 1
  unfold findL
  rw [e, look_self h hx]
/-- Between two points of one series there are only its own. -/
theorem mid_s {a b c : Pt} (h1 : a.before b = true) (h2 : b.before c = true) (h : a.s = c.s) : b.s = c.s := by
  by_cases e : a.s = b.s
  · exact e.symm.trans h
  · by_cases e2 : b.s = c.s
    · exact e2
    · rw [bef_ne e] at h1
      rw [bef_ne e2, ← h] at h2
      rw [lessB_not h1] at h2; cases h2
theorem srt_at {l : List Pt} (h : srtB l = true) : ∀ i j (hi : i < l.length) (hj : j < l.length), i < j → (l[i]).before l[j] = true := by
  induction l with
  | nil => intro i j hi; simp at hi
  | cons p l ih =>
    intro i j hi hj hij
    cases j with
    | zero => omega
    | succ j =>
      cases i with
      | zero => exact srtB_all h _ (List.getElem_mem _)
      | succ i => exact ih (srtB_cons h) i j (by simpa using hi) (by simpa using hj) (by omega)
theorem serN_at (l : List Pt) : ∀ k, k ≤ l.length → ∀ s ∈ serN l k, ∃ q, ∃ (h : q < l.length), q < k ∧ (l[q]).s = s
  | 0, _, s, h => by cases h
  | k + 1, hk, s, h => by
    rw [serN, dif_pos (by omega)] at h
    rcases List.mem_append.1 h with h | h
    · obtain ⟨q, h1, h2, h3⟩ := serN_at l k (by omega) s h
      exact ⟨q, h1, by omega, h3⟩
    · refine ⟨k, by omega, by omega, ?_⟩
      split at h
      · exact (List.mem_singleton.1 h).symm
      · split at h
        · cases h
        · exact (List.mem_singleton.1 h).symm
theorem serN_has (l : List Pt) : ∀ k, k ≤ l.length → ∀ q (h : q < l.length), q < k → (l[q]).s ∈ serN l k
  | 0, _, q, _, hq => by omega
  | k + 1, hk, q, h, hq => by
    by_cases e : q = k
    · subst e
      by_cases h0 : q = 0
      · rw [serN_new h (Or.inl h0)]; simp
      · by_cases hs : (l[q]).s = (l[q - 1]).s
        · rw [serN_old h h0 hs, hs]
          exact serN_has l q (by omega) (q - 1) (by omega) (by omega)
        · rw [serN_new h (Or.inr hs)]; simp
    · have := serN_has l k (by omega) q h (by omega)
      rw [serN, dif_pos (by omega)]
      exact List.mem_append_left _ this
theorem serN_nodup {l : List Pt} (hs : srtB l = true) : ∀ k, k ≤ l.length → (serN l k).Nodup
  | 0, _ => List.nodup_nil
  | k + 1, hk => by
    have ih := serN_nodup hs k (by omega)
    have hkl : k < l.length := by omega
    by_cases h0 : k = 0
    · subst h0
      rw [serN_new hkl (Or.inl rfl)]
      simp [serN]
    · by_cases hh : (l[k]).s = (l[k - 1]).s
      · rw [serN_old hkl h0 hh]; exact ih
      · rw [serN_new hkl (Or.inr hh)]
        refine List.nodup_append.2 ⟨ih, by simp, fun a ha b hb hab => ?_⟩
        rw [List.mem_singleton] at hb
        subst hab
        obtain ⟨q, h1, h2, h3⟩ := serN_at l k (by omega) a ha
        by_cases e : q = k - 1
        · subst e; exact hh (by rw [← hb, h3])
        · have g1 := srt_at hs q (k - 1) h1 (by omega) (by omega)
          have g2 := srt_at hs (k - 1) k (by omega) hkl (by omega)
          exact hh (mid_s g1 g2 (h3.trans hb)).symm
/-- The points whose times may be. -/
def okN (l : List Pt) : Nat := (l.filter fun x => decide (0 ≤ x.t ∧ x.t ≤ 1099511627776)).length
def allR (l : List Pt) (s : ByteArray) : List Pt := rngL l s 0 1099511627777
theorem sum_one {N : List ByteArray} (hd : N.Nodup) {s : ByteArray} (hs : s ∈ N) (c : Nat) : (N.map fun n => if s = n then c else 0).sum = c := by
  induction N with
  | nil => cases hs
  | cons a N ih =>
    have ⟨h1, h2⟩ := List.nodup_cons.1 hd
    rw [List.map_cons, List.sum_cons]
    rcases List.mem_cons.1 hs with rfl | hs
    · have e : (N.map fun n => if s = n then c else 0) = N.map fun _ => 0 := List.map_congr_left fun n hn => if_neg fun (e : s = n) => h1 (by rw [e]; exact hn)
      rw [if_pos rfl, e]
      have : ∀ M : List ByteArray, (M.map fun _ => 0).sum = 0 := fun M => by induction M <;> simp_all
      rw [this]; rfl
    · rw [if_neg (fun (e : s = a) => h1 (by rw [← e]; exact hs)), ih h2 hs]; omega
theorem sum_add (N : List ByteArray) (f g : ByteArray → Nat) : (N.map fun n => f n + g n).sum = (N.map f).sum + (N.map g).sum := by
  induction N with
  | nil => rfl
  | cons a N ih => simp only [List.map_cons, List.sum_cons, ih]; omega
theorem sum_all {N : List ByteArray} (hd : N.Nodup) : ∀ (l : List Pt), (∀ p ∈ l, p.s ∈ N) → (N.map fun n => (allR l n).length).sum = okN l
  | [], _ => by
    have : ∀ M : List ByteArray, (M.map fun n => (allR [] n).length).sum = 0 := fun M => by induction M <;> simp_all [allR, rngL]
    rw [this]; rfl
  | p :: l, h => by
    have ih := sum_all hd l fun q hq => h q (List.mem_cons_of_mem _ hq)
    have e : (fun n => (allR (p :: l) n).length) = fun n => (if p.s = n then (if 0 ≤ p.t ∧ p.t ≤ 1099511627776 then 1 else 0) else 0) + (allR l n).length := by
      funext n
      unfold allR
      rw [rngL_cons]
      by_cases h1 : p.s = n
      · rw [if_pos h1]
        by_cases h2 : 0 ≤ p.t ∧ p.t ≤ 1099511627776
        · rw [if_pos h2, if_pos (inR_iff.2 ⟨h1, h2.1, by omega⟩), List.length_cons]; omega
        · rw [if_neg h2, if_neg (fun k => h2 (by have := inR_iff.1 k; omega))]; omega
      · rw [if_neg h1, if_neg (fun k => h1 (inR_iff.1 k).1)]; omega
    rw [e, sum_add, ih, sum_one hd (h p (List.mem_cons_self ..))]
    unfold okN
    rw [List.filter_cons]
    by_cases h2 : 0 ≤ p.t ∧ p.t ≤ 1099511627776
    · rw [if_pos h2, if_pos (decide_eq_true h2), List.length_cons]; omega
    · rw [if_neg h2, if_neg (by simpa using h2)]; omega
theorem sum_ser {l : List Pt} (hs : srtB l = true) : ((serL l).map fun n => (allR l n).length).sum = okN l :=
  sum_all (serN_nodup hs _ (Nat.le_refl _)) l fun p hp => by
    obtain ⟨i, hi, rfl⟩ := List.getElem_of_mem hp
    exact serN_has l _ (Nat.le_refl _) i hi hi
theorem sum_le {N : List ByteArray} (f : ByteArray → Nat) (k : Nat) : ((N.take k).map f).sum ≤ (N.map f).sum := by
  have e := List.take_append_drop k N
  have : (N.map f).sum = ((N.take k).map f).sum + ((N.drop k).map f).sum := by
    conv => lhs; rw [← e, List.map_append, List.sum_append]
  omega
theorem sum_step {N : List ByteArray} (f : ByteArray → Nat) {k : Nat} (h : k < N.length) : ((N.take (k + 1)).map f).sum = ((N.take k).map f).sum + f N[k] := by
  rw [List.take_succ_eq_append_getElem h, List.map_append, List.sum_append]; simp
theorem okN_snoc (l : List Pt) (k : Nat) (h : k < l.length) : okN (l.take (k + 1)) = okN (l.take k) + (if 0 ≤ (l[k]).t ∧ (l[k]).t ≤ 1099511627776 then 1 else 0) := by
  unfold okN
  rw [List.take_succ_eq_append_getElem h, List.filter_append, List.length_append]
  congr 1
  rw [List.filter_cons]
  by_cases h2 : 0 ≤ (l[k]).t ∧ (l[k]).t ≤ 1099511627776
  · rw [if_pos (decide_eq_true h2), if_pos h2]; rfl
  · rw [if_neg (by simpa using h2), if_neg h2]; rfl
end Go.Proofs.YtkomfenjeoaelaaDoor
namespace Go.Proofs.YtkomfenjeoaelaaDoor.blockRanges
open Go.RowKit Go.Proofs.YtkomfenjeoaelaaDoor Go.Proofs.YtkomfenjeoaelaaDoor.Vi Go.Proofs.YtkomfenjeoaelaaDoor.Mk
theorem six_pt {a : World} {b : Nat} {z : Pt} (h : ZP a b) : PtAt ((((((a.setCell ⟨b, 0, none⟩ (.string z.s)).setCell ⟨b, 1, none⟩ (.int .i64 z.t)).setCell ⟨b, 2, none⟩ (.int .i64 z.v)).setCell ⟨b, 3, none⟩ (.int .i64 z.st.c)).setCell ⟨b, 4, none⟩ (.int .i64 z.st.s)).setCell ⟨b, 5, none⟩ (.int .i64 z.st.q)) b z := by
  have := setP_pt (w := a) (g := b) (o := 0) (p := z) (q := Pt.zero) ⟨h.z0.1, h.z1.1, h.z2.1, h.z3.1, h.z4.1, h.z5.1⟩
  exact ⟨this.c0, this.c1, this.c2, this.c3, this.c4, this.c5⟩
/-- Held: a point of a list, and what was found. -/
structure PZ (w : World) (g i : Nat) (y : Pt) (T : Nat) (z : Pt) (wr : World) : Prop where
  x : PtO wr g i y
  y : PtAt wr T z
  bel : Below w.heap.size w wr
theorem PZ.keep {w w1 w2 : World} {g i : Nat} {y : Pt} {T : Nat} {z : Pt} (h : PZ w g i y T z w1) (k : Below w1.heap.size w1 w2) : PZ w g i y T z w2 := ⟨h.x.below k h.x.room, h.y.later k, bel_next h.bel k⟩
theorem PZ.drew {w w1 : World} {g i : Nat} {y : Pt} {T : Nat} {z : Pt} (h : PZ w g i y T z w1) : PZ w g i y T z w1.drew := h.keep ((Below.refl _ _).drew)
end Go.Proofs.YtkomfenjeoaelaaDoor.blockRanges
