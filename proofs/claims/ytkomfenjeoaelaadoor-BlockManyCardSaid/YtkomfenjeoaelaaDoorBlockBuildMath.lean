/- A block's bytes: the numbers of series and points, and each series' points one behind the other. -/
import Derived.Test.YtkomfenjeoaelaaDoorBlockBPut
import Derived.Test.YtkomfenjeoaelaaDoorBlockRangesMath
set_option maxRecDepth 20000
set_option linter.unusedSimpArgs false
namespace Go.Proofs.YtkomfenjeoaelaaDoor
open Go.RowKit Go.Proofs.YtkomfenjeoaelaaDoor.Vi Go.Proofs.YtkomfenjeoaelaaDoor.Mk

/-- The point ahead of the k-th one: none ahead of the first. -/
def priorP (m : List Pt) : Nat → Pt
  | 0 => Pt.zero
  | k + 1 => m.getD k Pt.zero
theorem priorP_zero (m : List Pt) : priorP m 0 = Pt.zero := rfl
theorem priorP_succ {m : List Pt} {k : Nat} (h : k < m.length) : priorP m (k + 1) = m[k] := by
  show m.getD k Pt.zero = m[k]
  rw [List.getD_eq_getElem?_getD, List.getElem?_eq_getElem h]; rfl
/-- The bytes of a series' points, up to a point. -/
def putsN (m : List Pt) : Nat → List UInt8
  | 0 => []
  | k + 1 => if h : k < m.length then putsN m k ++ putA m[k] (priorP m k) else putsN m k
def putsL (m : List Pt) : List UInt8 := putsN m m.length
theorem putsN_step {m : List Pt} {k : Nat} (h : k < m.length) : putsN m (k + 1) = putsN m k ++ putA m[k] (priorP m k) := by rw [putsN, dif_pos h]
/-- The points of one series that may be, in order: each time is a number that Put takes. -/
def Steps (m : List Pt) : Prop := ∀ k (h : k < m.length), 0 ≤ (m[k]).t - (priorP m k).t ∧ (m[k]).t - (priorP m k).t ≤ 1099511627776
theorem allR_at (l : List Pt) (s : ByteArray) {x : Pt} (h : x ∈ allR l s) : x.s = s ∧ 0 ≤ x.t ∧ x.t ≤ 1099511627776 := by
  unfold allR rngL at h
  obtain ⟨h1, h2, h3⟩ := inR_iff.1 (List.mem_filter.1 h).2
  exact ⟨h1, h2, by omega⟩
theorem allR_steps {l : List Pt} (hs : srtB l = true) (s : ByteArray) : Steps (allR l s) := by
  intro k hk
  obtain ⟨e1, g1, g2⟩ := allR_at l s (List.getElem_mem hk)
  cases k with
  | zero => rw [priorP_zero]; show 0 ≤ _ - (0 : Int) ∧ _ - (0 : Int) ≤ _; omega
  | succ j =>
    have hj : j < (allR l s).length := by omega
    rw [priorP_succ hj]
    obtain ⟨e2, g3, g4⟩ := allR_at l s (List.getElem_mem hj)
    have hb := srt_at (rngL_srt hs s 0 1099511627777) j (j + 1) hj hk (by omega)
    have hb' : ((allR l s)[j]).before ((allR l s)[j + 1]) = true := hb
    rw [bef_s (e2.trans e1.symm)] at hb'
    have := of_decide_eq_true hb'
    omega
theorem putsN_len {m : List Pt} (h : Steps m) : ∀ k, (putsN m k).length ≤ 50 * k
  | 0 => Nat.le_refl _
  | k + 1 => by
    have ih := putsN_len h k
    by_cases e : k < m.length
    · rw [putsN_step e, List.length_append]
      have := putA_len m[k] (priorP m k) (h k e)
      omega
    · rw [putsN, dif_neg e]; omega
/-- The bytes of a series. -/
def serA (s : ByteArray) (m : List Pt) : List UInt8 := (enc s.size ++ s.data.toList) ++ enc m.length ++ putsL m
/-- The bytes of the series, up to one. -/
def bodyN (l : List Pt) (N : List ByteArray) : Nat → List UInt8
  | 0 => enc N.length
  | k + 1 => if h : k < N.length then bodyN l N k ++ serA N[k] (allR l N[k]) else bodyN l N k
theorem bodyN_step {l : List Pt} {N : List ByteArray} {k : Nat} (h : k < N.length) : bodyN l N (k + 1) = bodyN l N k ++ serA N[k] (allR l N[k]) := by rw [bodyN, dif_pos h]
def bodyA (l : List Pt) : List UInt8 := bodyN l (serL l) (serL l).length
theorem serA_len {s : ByteArray} {m : List Pt} (h : Steps m) (hs : s.size ≤ 100000) (hm : m.length ≤ 100000) : (serA s m).length ≤ s.size + 20 + 50 * m.length := by
  unfold serA putsL
  have h1 := enc_len10 s.size (by omega)
  have h2 := enc_len10 m.length (by omega)
  have h3 := putsN_len h m.length
  have h4 : s.data.toList.length = s.size := by rw [Array.length_toList]; rfl
  rw [List.length_append, List.length_append, List.length_append]; omega
/-- The block's size, up to a series: the names are short, and no point stands twice. -/
theorem bodyN_len {l : List Pt} {N : List ByteArray} (hs : srtB l = true) (hl : l.length ≤ 100000) (hN : N.length ≤ 100000) (hn : ∀ s ∈ N, s.size ≤ 40) : ∀ k, k ≤ N.length → (bodyN l N k).length ≤ 10 + 60 * k + 50 * ((N.take k).map fun s => (allR l s).length).sum
  | 0, _ => by
    have := enc_len10 N.length (by omega)
    show (enc N.length).length ≤ _
    omega
  | k + 1, hk => by
    have ih := bodyN_len hs hl hN hn k (by omega)
    have hb := hn _ (List.getElem_mem (show k < N.length by omega))
    rw [bodyN_step (show k < N.length by omega), List.length_append, sum_step (fun s => (allR l s).length) (show k < N.length by omega)]
    have h1 := serA_len (s := N[k]) (m := allR l N[k]) (allR_steps hs _) (by omega) (by have := rngL_len l N[k] 0 1099511627777; unfold allR; omega)
    omega

theorem putsN_le (m : List Pt) {k j : Nat} (h : k ≤ j) : (putsN m k).length ≤ (putsN m j).length := by
  induction h with
  | refl => exact Nat.le_refl _
  | step _ ih =>
    refine Nat.le_trans ih ?_
    rw [putsN]
    split
    · rw [List.length_append]; omega
    · exact Nat.le_refl _
theorem bodyN_le (l : List Pt) (N : List ByteArray) {k j : Nat} (h : k ≤ j) : (bodyN l N k).length ≤ (bodyN l N j).length := by
  induction h with
  | refl => exact Nat.le_refl _
  | step _ ih =>
    refine Nat.le_trans ih ?_
    rw [bodyN]
    split
    · rw [List.length_append]; omega
    · exact Nat.le_refl _
/-- What is written in a series' round. -/
def midN (l : List Pt) (N : List ByteArray) (k : Nat) (s : ByteArray) (m : List Pt) (i : Nat) : List UInt8 := bodyN l N k ++ ((enc s.size ++ s.data.toList) ++ enc m.length) ++ putsN m i
theorem midN_step {l : List Pt} {N : List ByteArray} {k : Nat} {s : ByteArray} {m : List Pt} {i : Nat} (h : i < m.length) : midN l N k s m (i + 1) = midN l N k s m i ++ putA m[i] (priorP m i) := by
  unfold midN
  rw [putsN_step h]
  simp only [List.append_assoc]
theorem midN_all {l : List Pt} {N : List ByteArray} {k : Nat} (h : k < N.length) : midN l N k N[k] (allR l N[k]) (allR l N[k]).length = bodyN l N (k + 1) := by
  rw [bodyN_step h]
  unfold midN serA putsL
  simp only [List.append_assoc]
theorem midN_le {l : List Pt} {N : List ByteArray} {k : Nat} (h : k < N.length) {i : Nat} (hi : i ≤ (allR l N[k]).length) : (midN l N k N[k] (allR l N[k]) i).length ≤ (bodyN l N N.length).length := by
  refine Nat.le_trans ?_ (bodyN_le l N (show k + 1 ≤ N.length from h))
  rw [← midN_all h]
  unfold midN
  rw [List.length_append, List.length_append (bs := putsN _ (allR l N[k]).length)]
  have := putsN_le (allR l N[k]) hi
  omega

end Go.Proofs.YtkomfenjeoaelaaDoor
