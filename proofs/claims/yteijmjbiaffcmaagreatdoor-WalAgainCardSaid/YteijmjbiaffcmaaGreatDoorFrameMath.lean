/- Plain mathematics of framed bodies: what stands at the head of some bytes, all that is whole, cut off, turned, fed. It imports nothing of the program. -/
import Derived.Test.YteijmjbiaffcmaaGreatDoorVintMath
import Derived.Test.YteijmjbiaffcmaaGreatDoorCrcMath
namespace Go.Proofs.YteijmjbiaffcmaaGreatDoor.Fr
open Go.Proofs.YteijmjbiaffcmaaGreatDoor.Vi Go.Proofs.YteijmjbiaffcmaaGreatDoor.Crc

/-- A body's frame. -/
def fr (b : List UInt8) : List UInt8 := enc b.length ++ sealed b
theorem fr_len (b : List UInt8) : (fr b).length = (enc b.length).length + b.length + 4 := by unfold fr; rw [List.length_append, sealed_length]; omega
theorem fr_pos (b : List UInt8) : 0 < (fr b).length := by rw [fr_len]; omega

/-- The bytes end ahead of the end of a number's. -/
def early (s : List UInt8) : Bool := decide (s.length ≤ 9) && s.all fun b => decide (128 ≤ b.toNat)
theorem early_none {s : List UInt8} (h : early s = true) : getL 0 s = none := by
  unfold early at h
  rw [Bool.and_eq_true, List.all_eq_true] at h
  exact getL_high s 0 fun b hb => by simpa using h.2 b hb
theorem early_some {s : List UInt8} {v m : Nat} (h : getL 0 s = some (v, m)) : early s = false := by
  cases e : early s with
  | false => rfl
  | true => rw [early_none e] at h; cases h
/-- What stands at the head: which of the four, the body, and how many bytes it takes. -/
structure G where
  w : Nat
  body : List UInt8
  len : Nat
def getF (s : List UInt8) : G :=
  if s = [] then ⟨1, [], 0⟩ else if early s = true then ⟨2, [], 0⟩ else
  match getL 0 s with
  | none => ⟨3, [], 0⟩
  | some (n, m) => if 70000 < n then ⟨3, [], 0⟩ else if s.length - m < n + 4 then ⟨2, [], 0⟩ else
      if sealed ((s.drop m).take n) = (s.drop m).take (n + 4) then ⟨0, (s.drop m).take n, m + n + 4⟩ else ⟨3, [], 0⟩
theorem getF_nil : getF [] = ⟨1, [], 0⟩ := if_pos rfl
theorem getF_early {s : List UInt8} (h0 : s ≠ []) (h : early s = true) : getF s = ⟨2, [], 0⟩ := by unfold getF; rw [if_neg h0, if_pos h]
theorem getF_none {s : List UInt8} (h0 : s ≠ []) (h : early s = false) (hg : getL 0 s = none) : getF s = ⟨3, [], 0⟩ := by
  unfold getF; rw [if_neg h0, if_neg (by simp [h]), hg]
theorem getF_some {s : List UInt8} {n m : Nat} (hg : getL 0 s = some (n, m)) : getF s = if 70000 < n then ⟨3, [], 0⟩ else if s.length - m < n + 4 then ⟨2, [], 0⟩ else
      if sealed ((s.drop m).take n) = (s.drop m).take (n + 4) then ⟨0, (s.drop m).take n, m + n + 4⟩ else ⟨3, [], 0⟩ := by
  have h0 : s ≠ [] := by rintro rfl; simp [getL] at hg
  unfold getF; rw [if_neg h0, if_neg (by simp [early_some hg]), hg]
/-- What is whole is a body's frame, and the frame stands there. -/
theorem getF_is {s : List UInt8} (h : (getF s).w = 0) : (getF s).body.length ≤ 70000 ∧ (getF s).len = (fr (getF s).body).length ∧ s = fr (getF s).body ++ s.drop (getF s).len := by
  by_cases h0 : s = []
  · subst h0; rw [getF_nil] at h; cases h
  · cases he : early s with
    | true => rw [getF_early h0 he] at h; cases h
    | false =>
      cases hg : getL 0 s with
      | none => rw [getF_none h0 he hg] at h; cases h
      | some x =>
        obtain ⟨n, m⟩ := x
        rw [getF_some hg] at h ⊢
        split at h
        · cases h
        · rename_i c1
          split at h
          · cases h
          · rename_i c2
            split at h
            · rename_i c3
              rw [if_neg c1, if_neg c2, if_pos c3]
              obtain ⟨g1, -, g3, rest, g4⟩ := getL_some s 0 n m (by omega) hg
              have hml : m ≤ s.length := by rw [g4, g3, List.length_append]; omega
              have hlen : ((s.drop m).take n).length = n := by rw [List.length_take, List.length_drop]; omega
              have hfr : fr ((s.drop m).take n) = enc n ++ (s.drop m).take (n + 4) := by unfold fr; rw [hlen, c3]
              refine ⟨by rw [hlen]; omega, ?_, ?_⟩
              · rw [fr_len, hlen, g3]
              · simp only
                rw [hfr, List.append_assoc]
                have e1 : s.drop (m + n + 4) = (s.drop m).drop (n + 4) := by rw [List.drop_drop]; rfl
                rw [e1, List.take_append_drop]
                have e2 : s.drop m = rest := by rw [g4, g3]; simp
                rw [e2]; exact g4
            · cases h
theorem getF_len {s : List UInt8} (h : (getF s).w = 0) : 0 < (getF s).len ∧ (getF s).len ≤ s.length := by
  obtain ⟨h1, h2, h3⟩ := getF_is h
  have := fr_pos (getF s).body
  have h4 := congrArg List.length h3
  rw [List.length_append] at h4
  omega
theorem getF_not {s : List UInt8} (h : (getF s).w ≠ 0) : (getF s).body = [] ∧ (getF s).len = 0 := by
  by_cases h0 : s = []
  · subst h0; rw [getF_nil]; exact ⟨rfl, rfl⟩
  · cases he : early s with
    | true => rw [getF_early h0 he]; exact ⟨rfl, rfl⟩
    | false =>
      cases hg : getL 0 s with
      | none => rw [getF_none h0 he hg]; exact ⟨rfl, rfl⟩
      | some x =>
        obtain ⟨n, m⟩ := x
        rw [getF_some hg] at h ⊢
        split
        · exact ⟨rfl, rfl⟩
        · rename_i c1
          rw [if_neg c1] at h
          split
          · exact ⟨rfl, rfl⟩
          · rename_i c2
            rw [if_neg c2] at h
            split
            · rename_i c3; rw [if_pos c3] at h; exact absurd rfl h
            · exact ⟨rfl, rfl⟩
theorem getF_w (s : List UInt8) : (getF s).w ≤ 3 := by
  unfold getF
  split
  · simp
  split
  · simp
  split
  · simp
  split
  · simp
  split
  · simp
  split
  · simp
  · simp

theorem getL_fr (b : List UInt8) (rest : List UInt8) (hb : b.length ≤ 70000) : getL 0 (enc b.length ++ rest) = some (b.length, (enc b.length).length) :=
  getL_enc b.length 0 rest (by omega) (by show b.length < 18446744073709551616; omega) (by omega)
theorem getF_whole (b rest : List UInt8) (hb : b.length ≤ 70000) : getF (fr b ++ rest) = ⟨0, b, (fr b).length⟩ := by
  have e : fr b ++ rest = enc b.length ++ (sealed b ++ rest) := by unfold fr; rw [List.append_assoc]
  have hg := getL_fr b (sealed b ++ rest) hb
  rw [← e] at hg
  have hd : (fr b ++ rest).drop (enc b.length).length = sealed b ++ rest := by rw [e]; simp
  have hs : sealed b ++ rest = b ++ (be (crc b) ++ rest) := by unfold sealed; rw [List.append_assoc]
  have ht : (sealed b ++ rest).take b.length = b := by rw [hs]; simp
  have ht4 : (sealed b ++ rest).take (b.length + 4) = sealed b := List.take_left' (sealed_length b)
  rw [getF_some hg, hd, ht, ht4, if_neg (by omega), if_neg (by rw [List.length_append, fr_len]; omega), if_pos rfl, fr_len]
theorem getF_prefix (b : List UInt8) (hb : b.length ≤ 70000) (k : Nat) (h0 : 0 < k) (hk : k < (fr b).length) : getF ((fr b).take k) = ⟨2, [], 0⟩ := by
  have hl : ((fr b).take k).length = k := by rw [List.length_take]; omega
  have hne : (fr b).take k ≠ [] := fun e => by rw [e] at hl; simp at hl; omega
  have he := enc_len 2 b.length (by have : (128 : Nat) ^ (2 + 1) = 2097152 := by decide
                                    omega)
  by_cases hc : k < (enc b.length).length
  · have e : (fr b).take k = (enc b.length).take k := by unfold fr; rw [List.take_append_of_le_length (by omega)]
    refine getF_early hne ?_
    unfold early
    rw [Bool.and_eq_true, List.all_eq_true]
    refine ⟨by simp only [hl]; simp; omega, fun x hx => ?_⟩
    rw [e] at hx
    obtain ⟨j, hj, rfl⟩ := List.getElem_of_mem hx
    rw [List.length_take] at hj
    rw [List.getElem_take]
    have := enc_high b.length j (by omega) (by omega)
    simpa using this
  · have e : (fr b).take k = enc b.length ++ (sealed b).take (k - (enc b.length).length) := by unfold fr; rw [List.take_append, List.take_of_length_le (by omega)]
    have hg := getL_fr b ((sealed b).take (k - (enc b.length).length)) hb
    rw [← e] at hg
    rw [getF_some hg, if_neg (by omega), if_pos]
    rw [hl]; rw [fr_len] at hk; omega
theorem getF_turn (b : List UInt8) (hb : b.length ≤ 127) (k : Nat) (h1 : 1 ≤ k) (hk : k < (fr b).length) (x : UInt8) (hx : x ≠ 0) (rest : List UInt8) : getF ((fr b).set k ((fr b)[k] ^^^ x) ++ rest) = ⟨3, [], 0⟩ := by
  have e0 : fr b = UInt8.ofNat b.length :: sealed b := by unfold fr; rw [enc_small (by omega)]; rfl
  obtain ⟨q, rfl⟩ : ∃ q, k = q + 1 := ⟨k - 1, by omega⟩
  have hq : q < (sealed b).length := by rw [e0] at hk; simpa using hk
  have e1 : (fr b).set (q + 1) ((fr b)[q + 1] ^^^ x) = UInt8.ofNat b.length :: (sealed b).set q ((sealed b)[q] ^^^ x) := by
    simp only [e0, List.set_cons_succ, List.getElem_cons_succ]
  obtain ⟨T, hT⟩ : ∃ T, (sealed b).set q ((sealed b)[q] ^^^ x) = T := ⟨_, rfl⟩
  have hTl : T.length = b.length + 4 := by rw [← hT, List.length_set, sealed_length]
  rw [e1, hT]
  have e2 : UInt8.ofNat b.length :: T ++ rest = enc b.length ++ (T ++ rest) := by rw [enc_small (by omega)]; rfl
  have hg := getL_fr b (T ++ rest) (by omega)
  rw [e2, getF_some hg, if_neg (by omega)]
  have hel : (enc b.length).length = 1 := by rw [enc_small (by omega)]; rfl
  rw [if_neg (by rw [List.length_append, List.length_append, hel, hTl]; omega)]
  have hd : (enc b.length ++ (T ++ rest)).drop (enc b.length).length = T ++ rest := by simp
  rw [hd, if_neg]
  rw [List.take_left' hTl, List.take_append_of_le_length (by omega), ← hT]
  exact sealed_turn x hx b q hq

/-- All that is whole from the head on, how many bytes it takes, and what stands behind it. -/
def scan (s : List UInt8) : List (List UInt8) × Nat × Nat :=
  if _h : (getF s).w = 0 then
    let r := scan (s.drop (getF s).len)
    ((getF s).body :: r.1, (getF s).len + r.2.1, r.2.2)
  else ([], 0, (getF s).w)
termination_by s.length
decreasing_by
  have := getF_len _h
  rw [List.length_drop]; omega
theorem scan_step {s : List UInt8} (h : (getF s).w = 0) : scan s = ((getF s).body :: (scan (s.drop (getF s).len)).1, (getF s).len + (scan (s.drop (getF s).len)).2.1, (scan (s.drop (getF s).len)).2.2) := by
  rw [scan, dif_pos h]
theorem scan_stop {s : List UInt8} (h : (getF s).w ≠ 0) : scan s = ([], 0, (getF s).w) := by rw [scan, dif_neg h]
theorem scan_nil : scan [] = ([], 0, 1) := by rw [scan_stop (by rw [getF_nil]; simp), getF_nil]
theorem scan_one (b t : List UInt8) (hb : b.length ≤ 70000) : scan (fr b ++ t) = (b :: (scan t).1, (fr b).length + (scan t).2.1, (scan t).2.2) := by
  have e := getF_whole b t hb
  rw [scan_step (by rw [e]), e]
  simp
/-- Frames one behind the other. -/
def frs (l : List (List UInt8)) : List UInt8 := l.flatMap fr
theorem frs_nil : frs [] = [] := rfl
theorem frs_cons (b : List UInt8) (l : List (List UInt8)) : frs (b :: l) = fr b ++ frs l := by simp [frs]
theorem frs_app (a b : List (List UInt8)) : frs (a ++ b) = frs a ++ frs b := by unfold frs; rw [List.flatMap_append]
theorem frs_snoc (l : List (List UInt8)) (k : Nat) (h : k < l.length) : frs (l.take (k + 1)) = frs (l.take k) ++ fr l[k] := by
  rw [List.take_succ_eq_append_getElem h, frs_app]; simp [frs]
theorem scan_frs (l : List (List UInt8)) (t : List UInt8) (hl : ∀ b ∈ l, b.length ≤ 70000) : scan (frs l ++ t) = (l ++ (scan t).1, (frs l).length + (scan t).2.1, (scan t).2.2) := by
  induction l with
  | nil => simp [frs]
  | cons b l ih =>
    have h1 := ih fun x hx => hl x (List.mem_cons_of_mem _ hx)
    rw [frs_cons, List.append_assoc, scan_one _ _ (hl b (List.mem_cons_self ..)), h1]
    simp only [List.cons_append, List.length_append, Prod.mk.injEq, true_and, and_true]
    omega
/-- Where the k-th frame begins. -/
def start (l : List (List UInt8)) (k : Nat) : Nat := (frs (l.take k)).length
theorem start_zero (l : List (List UInt8)) : start l 0 = 0 := rfl
theorem start_succ (l : List (List UInt8)) (k : Nat) (h : k < l.length) : start l (k + 1) = start l k + (fr l[k]).length := by
  unfold start; rw [frs_snoc l k h, List.length_append]
theorem start_all (l : List (List UInt8)) : start l l.length = (frs l).length := by unfold start; rw [List.take_length]
theorem start_mono (l : List (List UInt8)) : ∀ {j k}, j ≤ k → k ≤ l.length → start l j ≤ start l k := by
  intro j k
  induction k with
  | zero => intro h _; obtain rfl : j = 0 := by omega
            exact Nat.le_refl _
  | succ k ih =>
    intro h hk
    by_cases e : j = k + 1
    · subst e; exact Nat.le_refl _
    · have := ih (by omega) (by omega)
      rw [start_succ l k (by omega)]; omega
theorem split_at (l : List (List UInt8)) (k : Nat) (h : k < l.length) : frs l = frs (l.take k) ++ (fr l[k] ++ frs (l.drop (k + 1))) := by
  have e : l = l.take k ++ (l[k] :: l.drop (k + 1)) := by rw [← List.drop_eq_getElem_cons h, List.take_append_drop]
  have e2 := congrArg frs e
  rw [frs_app, frs_cons] at e2
  exact e2
/-- Cut off within frame j. -/
theorem scan_cut (l : List (List UInt8)) (hl : ∀ b ∈ l, b.length ≤ 70000) (j k : Nat) (hj : j < l.length) (h1 : start l j ≤ k) (h2 : k < start l (j + 1)) :
    scan ((frs l).take k) = (l.take j, start l j, if k = start l j then 1 else 2) := by
  have hs := start_succ l j hj
  have e : (frs l).take k = frs (l.take j) ++ (fr l[j]).take (k - start l j) := by
    rw [split_at l j hj, List.take_append, List.take_of_length_le (show (frs (l.take j)).length ≤ k from h1)]
    congr 1
    rw [List.take_append_of_le_length (by show k - start l j ≤ _; omega)]
    rfl
  have hb := hl _ (List.getElem_mem hj)
  rw [e, scan_frs _ _ fun x hx => hl x (List.mem_of_mem_take hx)]
  by_cases e0 : k = start l j
  · rw [if_pos e0, e0, Nat.sub_self, List.take_zero, scan_nil]; simp [start]
  · rw [if_neg e0, scan_stop (by rw [getF_prefix _ hb _ (by omega) (by omega)]; simp), getF_prefix _ hb _ (by omega) (by omega)]; simp [start]
theorem scan_whole (l : List (List UInt8)) (hl : ∀ b ∈ l, b.length ≤ 70000) : scan (frs l) = (l, (frs l).length, 1) := by
  have := scan_frs l [] hl
  rw [List.append_nil, scan_nil] at this
  simpa using this
/-- Turned in one byte of body j or its sum. -/
theorem scan_turn (l : List (List UInt8)) (hl : ∀ b ∈ l, b.length ≤ 127) (j k : Nat) (hj : j < l.length) (h1 : start l j < k) (h2 : k < start l (j + 1)) (x : UInt8) (hx : x ≠ 0) (hk : k < (frs l).length) :
    scan ((frs l).set k ((frs l)[k] ^^^ x)) = (l.take j, start l j, 3) := by
  have hs := start_succ l j hj
  have e := split_at l j hj
  have hkf : k - start l j < (fr l[j]).length := by omega
  have hv : (frs l)[k] = (fr l[j])[k - start l j] := by
    simp only [e]
    rw [List.getElem_append_right (show (frs (l.take j)).length ≤ k from Nat.le_of_lt h1), List.getElem_append_left (by exact hkf)]
    rfl
  have e2 : (frs l).set k ((frs l)[k] ^^^ x) = frs (l.take j) ++ ((fr l[j]).set (k - start l j) ((fr l[j])[k - start l j] ^^^ x) ++ frs (l.drop (j + 1))) := by
    rw [hv]
    refine (congrArg (fun z : List UInt8 => z.set k ((fr l[j])[k - start l j] ^^^ x)) e).trans ?_
    show (frs (l.take j) ++ (fr l[j] ++ frs (l.drop (j + 1)))).set k _ = _
    rw [List.set_append_right _ _ (show (frs (l.take j)).length ≤ k from Nat.le_of_lt h1), List.set_append_left _ _ (by exact hkf)]
    rfl
  have ht := getF_turn l[j] (hl _ (List.getElem_mem hj)) (k - start l j) (by omega) hkf x hx (frs (l.drop (j + 1)))
  rw [e2, scan_frs _ _ (fun b hb => by have := hl b (List.mem_of_mem_take hb); omega), scan_stop (by rw [ht]; simp), ht]
  simp [start]
/-- What is left of the bytes up to p, once j bodies are taken. -/
def left (l : List (List UInt8)) (p j : Nat) : List UInt8 := ((frs l).take p).drop (start l j)
theorem left_all (l : List (List UInt8)) : left l (frs l).length l.length = [] := by
  unfold left; rw [start_all, List.take_length, List.drop_length]
theorem left_feed (l : List (List UInt8)) (p n j : Nat) (hj : start l j ≤ p) (hp : p + n ≤ (frs l).length) : left l p j ++ ((frs l).drop p).take n = left l (p + n) j := by
  unfold left
  have e : (frs l).take (p + n) = (frs l).take p ++ ((frs l).drop p).take n := by rw [List.take_add]
  rw [e, List.drop_append_of_le_length (by rw [List.length_take]; omega)]
theorem left_whole (l : List (List UInt8)) (p j : Nat) (hj : j < l.length) (h : start l (j + 1) ≤ p) : left l p j = fr l[j] ++ left l p (j + 1) := by
  have hs := start_succ l j hj
  have e1 : (frs l).drop (start l j) = fr l[j] ++ frs (l.drop (j + 1)) := by
    rw [split_at l j hj]
    exact List.drop_left' rfl
  have e2 : (frs l).drop (start l (j + 1)) = frs (l.drop (j + 1)) := by
    rw [hs, ← List.drop_drop, e1]; exact List.drop_left' rfl
  unfold left
  rw [List.drop_take, List.drop_take, e1, e2, List.take_append, List.take_of_length_le (by omega)]
  congr 2
  omega
theorem left_part (l : List (List UInt8)) (p j : Nat) (hj : j < l.length) (h1 : start l j ≤ p) (h2 : p < start l (j + 1)) : left l p j = (fr l[j]).take (p - start l j) := by
  have hs := start_succ l j hj
  have e1 : (frs l).drop (start l j) = fr l[j] ++ frs (l.drop (j + 1)) := by
    rw [split_at l j hj]
    exact List.drop_left' rfl
  unfold left
  rw [List.drop_take, e1, List.take_append_of_le_length (by omega)]
/-- Fed so far, a body comes if and only if its last byte is there. -/
theorem next_yes (l : List (List UInt8)) (hl : ∀ b ∈ l, b.length ≤ 70000) (p j : Nat) (hj : j < l.length) (h : start l (j + 1) ≤ p) : getF (left l p j) = ⟨0, l[j], (fr l[j]).length⟩ ∧ (left l p j).drop (fr l[j]).length = left l p (j + 1) := by
  rw [left_whole l p j hj h]
  exact ⟨getF_whole _ _ (hl _ (List.getElem_mem hj)), List.drop_left' rfl⟩
theorem next_no (l : List (List UInt8)) (hl : ∀ b ∈ l, b.length ≤ 70000) (p j : Nat) (hjl : j ≤ l.length) (h1 : start l j ≤ p) (h2 : j < l.length → p < start l (j + 1)) (hp : p ≤ (frs l).length) : (getF (left l p j)).w = 1 ∨ (getF (left l p j)).w = 2 := by
  by_cases hj : j < l.length
  · have h3 := h2 hj
    have hs := start_succ l j hj
    rw [left_part l p j hj h1 h3]
    by_cases e : p = start l j
    · rw [e, Nat.sub_self, List.take_zero, getF_nil]; exact Or.inl rfl
    · rw [getF_prefix _ (hl _ (List.getElem_mem hj)) _ (by omega) (by omega)]; exact Or.inr rfl
  · obtain rfl : j = l.length := by omega
    rw [start_all] at h1
    obtain rfl : p = (frs l).length := by omega
    rw [left_all, getF_nil]; exact Or.inl rfl
end Go.Proofs.YteijmjbiaffcmaaGreatDoor.Fr
