/- Looking up in sorted points: where a place is, a series' points in a span, the series. -/
import Derived.Test.YtcjcbbpolhpphaaBlockMath
set_option maxRecDepth 20000
namespace Go.Proofs.Ytcjcbbpolhpphaa
open Go.RowKit Go.Proofs.Ytcjcbbpolhpphaa.Vi Go.Proofs.Ytcjcbbpolhpphaa.Mk

theorem srt_while {l : List Pt} (h : srtB l = true) (p : Pt) : l.takeWhile (fun x => x.before p) = l.filter (fun x => x.before p) ∧ l.dropWhile (fun x => x.before p) = l.filter (fun x => !x.before p) := by
  induction l with
  | nil => exact ⟨rfl, rfl⟩
  | cons a t ih =>
    obtain ⟨i1, i2⟩ := ih (srtB_cons h)
    cases e : a.before p with
    | true => simp [e, i1, i2]
    | false =>
      have k : ∀ x ∈ t, x.before p = false := fun x hx => by
        apply Bool.eq_false_iff.2
        intro k
        have := bef_trans (srtB_all h x hx) k
        rw [e] at this; cases this
      have f1 : t.filter (fun x => x.before p) = [] := List.filter_eq_nil_iff.2 fun x hx => by simp [k x hx]
      have f2 : t.filter (fun x => !x.before p) = t := List.filter_eq_self.2 fun x hx => by simp [k x hx]
      simp [e, f1, f2]
/-- How many are ahead of a place. -/
def lowN (l : List Pt) (p : Pt) : Nat := (l.takeWhile fun x => x.before p).length
theorem lowN_le (l : List Pt) (p : Pt) : lowN l p ≤ l.length := List.IsPrefix.length_le (List.takeWhile_prefix _)
theorem lowN_take (l : List Pt) (p : Pt) : l.take (lowN l p) = l.takeWhile fun x => x.before p := by
  have e := List.takeWhile_append_dropWhile (p := fun x : Pt => x.before p) (l := l)
  have : (l.takeWhile (fun x => x.before p) ++ l.dropWhile fun x => x.before p).take (lowN l p) = l.takeWhile fun x => x.before p := by
    unfold lowN; rw [List.take_left']; rfl
  rwa [e] at this
theorem lowN_drop (l : List Pt) (p : Pt) : l.drop (lowN l p) = l.dropWhile fun x => x.before p := by
  have e := List.takeWhile_append_dropWhile (p := fun x : Pt => x.before p) (l := l)
  have : (l.takeWhile (fun x => x.before p) ++ l.dropWhile fun x => x.before p).drop (lowN l p) = l.dropWhile fun x => x.before p := by
    unfold lowN; rw [List.drop_left']; rfl
  rwa [e] at this
theorem lowN_lt {l : List Pt} {p : Pt} {i : Nat} (h : i < lowN l p) : ∃ hi : i < l.length, (l[i]).before p = true := by
  have hl := lowN_le l p
  refine ⟨by omega, ?_⟩
  have hm : l[i]'(by omega) ∈ l.take (lowN l p) := List.mem_take_iff_getElem.2 ⟨i, by omega, rfl⟩
  rw [lowN_take] at hm
  have := List.all_takeWhile (l := l) (p := fun x : Pt => x.before p)
  rw [List.all_eq_true] at this
  exact this _ hm
theorem lowN_ge {l : List Pt} (hs : srtB l = true) {p : Pt} {i : Nat} (h : lowN l p ≤ i) (hi : i < l.length) : (l[i]).before p = false := by
  have hm : l[i] ∈ l.drop (lowN l p) := List.mem_drop_iff_getElem.2 ⟨i - lowN l p, by omega, by congr 1; omega⟩
  rw [lowN_drop, (srt_while hs p).2] at hm
  have := (List.mem_filter.1 hm).2
  simpa using this
theorem lowN_iff {l : List Pt} (hs : srtB l = true) {p : Pt} {i : Nat} (hi : i < l.length) : (l[i]).before p = decide (i < lowN l p) := by
  by_cases h : i < lowN l p
  · rw [decide_eq_true h]; exact (lowN_lt h).2
  · rw [decide_eq_false h]; exact lowN_ge hs (by omega) hi
/-- Is there one at a place? -/
def hasN (l : List Pt) (p : Pt) : Bool := if h : lowN l p < l.length then (l[lowN l p]).eqp p else false
theorem drop_srt {l : List Pt} (h : srtB l = true) : ∀ n, srtB (l.drop n) = true := by
  induction l with
  | nil => intro n; simp [srtB]
  | cons a t ih => intro n; cases n with
    | zero => exact h
    | succ n => rw [List.drop_succ_cons]; exact ih (srtB_cons h) n
theorem take_srt {l : List Pt} (h : srtB l = true) : ∀ n, srtB (l.take n) = true := by
  induction l with
  | nil => intro n; simp [srtB]
  | cons a t ih => intro n; cases n with
    | zero => rfl
    | succ n => rw [List.take_succ_cons]; exact srtB_mk (fun x hx => srtB_all h x (List.mem_of_mem_take hx)) (ih (srtB_cons h) n)
theorem look_has {l : List Pt} (hs : srtB l = true) (p : Pt) : look l p = if h : lowN l p < l.length then (if (l[lowN l p]).eqp p = true then some (l[lowN l p]) else none) else none := by
  have e : ∀ x ∈ l.take (lowN l p), x.eqp p = false := fun x hx => by
    obtain ⟨i, hi, rfl⟩ := List.mem_take_iff_getElem.1 hx
    exact bef_eqp (lowN_lt (l := l) (p := p) (by omega)).2
  have e1 : look l p = look (l.drop (lowN l p)) p := by
    conv => lhs; rw [← List.take_append_drop (lowN l p) l]
    unfold look
    rw [List.find?_append, List.find?_eq_none.2 fun x hx => by simp [e x hx]]
    rfl
  rw [e1]
  split
  · rename_i h
    rw [List.drop_eq_getElem_cons h, look_cons]
    split
    · rfl
    · rename_i hne
      have hs2 := drop_srt hs (lowN l p)
      rw [List.drop_eq_getElem_cons h] at hs2
      have h1 := lowN_ge hs (p := p) (Nat.le_refl _) h
      have h2 : p.before (l[lowN l p]) = true := by
        cases k : p.before (l[lowN l p]) with
        | true => rfl
        | false => exact absurd (bef_tri h1 k) hne
      exact look_none fun x hx => bef_trans h2 (srtB_all hs2 x hx)
  · rename_i h
    rw [List.drop_of_length_le (by omega)]; rfl
theorem hasN_look {l : List Pt} (hs : srtB l = true) (p : Pt) : hasN l p = (look l p).isSome := by
  rw [look_has hs]; unfold hasN
  split
  · split <;> simp_all
  · rfl
/-- The place of a time of a series. -/
def plc (s : ByteArray) (t : Int) : Pt := ⟨s, t, 0, ⟨0, 0, 0⟩⟩
/-- A series' points in a span. -/
def inR (s : ByteArray) (f t : Int) (x : Pt) : Bool := decide (x.s = s) && (decide (f ≤ x.t) && decide (x.t < t))
def rngL (l : List Pt) (s : ByteArray) (f t : Int) : List Pt := l.filter (inR s f t)
theorem rng_two {l : List Pt} (hs : srtB l = true) (s : ByteArray) (f t : Int) : (l.drop (lowN l (plc s f))).take (lowN (l.drop (lowN l (plc s f))) (plc s t)) = rngL l s f t := by
  rw [lowN_take, (srt_while (drop_srt hs _) _).1, lowN_drop, (srt_while hs _).2, List.filter_filter]
  unfold rngL
  apply List.filter_congr
  intro x _
  unfold inR
  by_cases e : x.s = s
  · rw [bef_s (show x.s = (plc s f).s from e), bef_s (show x.s = (plc s t).s from e), decide_eq_true e]
    show (decide (x.t < t) && !decide (x.t < f)) = _
    by_cases h1 : x.t < t <;> by_cases h2 : x.t < f <;> simp [h1, h2] <;> omega
  · rw [bef_ne (show x.s ≠ (plc s f).s from e), bef_ne (show x.s ≠ (plc s t).s from e), decide_eq_false e]
    show (lessB x.s s && !lessB x.s s) = _
    cases lessB x.s s <;> rfl
theorem rngL_srt {l : List Pt} (hs : srtB l = true) (s : ByteArray) (f t : Int) : srtB (rngL l s f t) = true := by
  rw [← rng_two hs]; exact take_srt (drop_srt hs _) _
theorem rngL_len (l : List Pt) (s : ByteArray) (f t : Int) : (rngL l s f t).length ≤ l.length := List.length_filter_le _ _
theorem rngL_snoc (l : List Pt) (k : Nat) (h : k < l.length) (s : ByteArray) (f t : Int) : rngL (l.take (k + 1)) s f t = rngL (l.take k) s f t ++ (if inR s f t l[k] = true then [l[k]] else []) := by
  unfold rngL
  rw [List.take_succ_eq_append_getElem h, List.filter_append]
  congr 1
  rw [List.filter_cons]; rfl
def frmL (l : List Pt) (t : Int) : List Pt := l.filter fun x => decide (t ≤ x.t)
theorem frmL_snoc (l : List Pt) (k : Nat) (h : k < l.length) (t : Int) : frmL (l.take (k + 1)) t = frmL (l.take k) t ++ (if t ≤ (l[k]).t then [l[k]] else []) := by
  unfold frmL
  rw [List.take_succ_eq_append_getElem h, List.filter_append]
  congr 1
  rw [List.filter_cons]
  simp
/-- The series, up to a point. -/
def serN (l : List Pt) : Nat → List ByteArray
  | 0 => []
  | k + 1 => if h : k < l.length then serN l k ++ (if k = 0 then [(l[k]).s] else if (l[k]).s = (l[k - 1]).s then [] else [(l[k]).s]) else serN l k
def serL (l : List Pt) : List ByteArray := serN l l.length
theorem serN_new {l : List Pt} {k : Nat} (h : k < l.length) (h0 : k = 0 ∨ (l[k]).s ≠ (l[k - 1]).s) : serN l (k + 1) = serN l k ++ [(l[k]).s] := by
  rw [serN, dif_pos h]
  rcases h0 with h0 | h0
  · rw [if_pos h0]
  · by_cases e : k = 0
    · rw [if_pos e]
    · rw [if_neg e, if_neg h0]
theorem serN_old {l : List Pt} {k : Nat} (h : k < l.length) (h0 : k ≠ 0) (h1 : (l[k]).s = (l[k - 1]).s) : serN l (k + 1) = serN l k := by
  rw [serN, dif_pos h, if_neg h0, if_pos h1, List.append_nil]
theorem serN_len (l : List Pt) : ∀ k, (serN l k).length ≤ k
  | 0 => Nat.le_refl _
  | k + 1 => by
    have := serN_len l k
    rw [serN]
    split
    · rw [List.length_append]
      split
      · simp; omega
      · split <;> simp <;> omega
    · omega
theorem serN_mem (l : List Pt) : ∀ k, ∀ s ∈ serN l k, ∃ p ∈ l, p.s = s
  | 0, s, h => by cases h
  | k + 1, s, h => by
    rw [serN] at h
    split at h
    · rename_i hk
      rcases List.mem_append.1 h with h | h
      · exact serN_mem l k s h
      · refine ⟨l[k], List.getElem_mem hk, ?_⟩
        split at h
        · exact (List.mem_singleton.1 h).symm
        · split at h
          · cases h
          · exact (List.mem_singleton.1 h).symm
    · exact serN_mem l k s h
end Go.Proofs.Ytcjcbbpolhpphaa
