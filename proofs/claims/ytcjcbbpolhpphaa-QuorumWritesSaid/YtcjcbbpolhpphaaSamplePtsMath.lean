/- The bytes of points, and what bytes are read as points. -/
import Derived.Test.YtcjcbbpolhpphaaSampleReadMath
import Derived.Test.YtcjcbbpolhpphaaSamplePts
set_option maxRecDepth 20000
namespace Go.Proofs.Ytcjcbbpolhpphaa
open Go.RowKit Go.Proofs.Ytcjcbbpolhpphaa.Vi Go.Proofs.Ytcjcbbpolhpphaa.Mk

def Pt.bytes (p : Pt) : List UInt8 := (enc p.s.size ++ p.s.data.toList) ++ enc p.t.toNat ++ enc (zig p.v).toNat ++ p.st.bytes
def bytesP (l : List Pt) : List UInt8 := l.flatMap Pt.bytes
def ptsB (l : List Pt) : List UInt8 := enc l.length ++ bytesP l
/-- The number can be a value. -/
def Pt.vfit (p : Pt) : Prop := -9223372036854775808 ≤ p.v ∧ p.v ≤ 9223372036854775807
theorem Pt.ok_parts {p : Pt} (h : p.ok = true) : nameB p.s = true ∧ (0 ≤ p.t ∧ p.t ≤ 1099511627776) ∧ p.st.ok = true := by
  unfold Pt.ok at h
  rw [Bool.and_eq_true, Bool.and_eq_true] at h
  exact ⟨h.1.1, by simpa using h.1.2, h.2⟩
theorem bytesP_snoc (l : List Pt) (p : Pt) : bytesP (l ++ [p]) = bytesP l ++ p.bytes := by unfold bytesP; rw [List.flatMap_append]; simp
theorem bytesP_drop (l : List Pt) (k : Nat) (h : k < l.length) : bytesP (l.drop k) = (l[k]).bytes ++ bytesP (l.drop (k + 1)) := by
  rw [List.drop_eq_getElem_cons h]; simp only [bytesP, List.flatMap_cons]
theorem pt_bytes_len {p : Pt} (h : p.ok = true) (hv : p.vfit) : p.bytes.length ≤ 110 := by
  obtain ⟨h1, h2, h3⟩ := Pt.ok_parts h
  have hn := name_len h1
  have hz := zig_bounds p.v hv.1 hv.2
  have a1 := enc_len10 p.s.size (by omega)
  have a2 := enc_len10 p.t.toNat (by omega)
  have a3 := enc_len10 (zig p.v).toNat (by omega)
  have a4 := st_bytes_len p.st
  have a5 : p.s.data.toList.length = p.s.size := by simp
  unfold Pt.bytes
  rw [List.length_append, List.length_append, List.length_append, List.length_append]; omega
theorem bytesP_len (l : List Pt) (h : ∀ p ∈ l, p.ok = true ∧ p.vfit) : (bytesP l).length ≤ 110 * l.length := by
  induction l with
  | nil => simp [bytesP]
  | cons a t ih =>
    have h1 := pt_bytes_len (h a (List.mem_cons_self ..)).1 (h a (List.mem_cons_self ..)).2
    have h2 := ih fun p hp => h p (List.mem_cons_of_mem _ hp)
    have e : bytesP (a :: t) = a.bytes ++ bytesP t := by simp [bytesP]
    rw [e, List.length_append, List.length_cons]; omega

/-- One point as it is read; one that may not be spoils the reader. -/
def ptQ (r : ByteArray) (b : Bool) : Pt × ByteArray × Bool :=
  let a := textQ r b
  let c := smallQ a.2.1 a.2.2 1099511627776
  let e := numQ c.2.1 c.2.2
  let f := takeQ e.2.1 e.2.2
  let p : Pt := ⟨a.1, c.1, zag e.1, f.1⟩
  if p.ok = true then (p, f.2.1, f.2.2) else (p, ⟨#[]⟩, true)
theorem ptQ_is {r r1 r2 r3 r4 s : ByteArray} {b b1 b2 b3 b4 : Bool} {t v : Int} {a : St} (h1 : textQ r b = (s, r1, b1)) (h2 : smallQ r1 b1 1099511627776 = (t, r2, b2)) (h3 : numQ r2 b2 = (v, r3, b3)) (h4 : takeQ r3 b3 = (a, r4, b4)) :
    ptQ r b = if Pt.ok ⟨s, t, zag v, a⟩ = true then (⟨s, t, zag v, a⟩, r4, b4) else (⟨s, t, zag v, a⟩, ⟨#[]⟩, true) := by
  unfold ptQ
  simp only [h1, h2, h3, h4]
theorem ptQ_enc (p : Pt) (h : p.ok = true) (hv : p.vfit) (q : List UInt8) : ptQ (tx (p.bytes ++ q)) false = (p, tx q, false) := by
  obtain ⟨hn, ht, hst⟩ := Pt.ok_parts h
  have hn40 := name_len hn
  have hz := zig_bounds p.v hv.1 hv.2
  have e0 : p.bytes ++ q = enc p.s.size ++ (p.s.data.toList ++ (enc p.t.toNat ++ (enc (zig p.v).toNat ++ (p.st.bytes ++ q)))) := by
    unfold Pt.bytes; simp only [List.append_assoc]
  rw [e0]
  have h3 := num_enc6 (zig p.v).toNat (p.st.bytes ++ q) (by omega)
  have e4 : (((zig p.v).toNat : Nat) : Int) = zig p.v := Int.toNat_of_nonneg hz.1
  rw [e4] at h3
  rw [ptQ_is (text_enc6 p.s (by omega) _) (smallQ_enc p.t _ _ ht.1 ht.2 (by omega)) h3 (take_enc6 p.st q hst), zag_zig]
  exact if_pos h
theorem ptQ_inv {r r' : ByteArray} {b b' : Bool} {p : Pt} (H : ptQ r b = (p, r', b')) (h : b = true → r = ⟨#[]⟩) : (b' = true → r' = ⟨#[]⟩) ∧ r'.size ≤ r.size ∧ p.vfit ∧ p.s.size ≤ r.size ∧ (0 ≤ p.t ∧ p.t ≤ 1099511627776) := by
  obtain ⟨⟨s, r1, b1⟩, h1⟩ : ∃ x, textQ r b = x := ⟨_, rfl⟩
  obtain ⟨⟨t, r2, b2⟩, h2⟩ : ∃ x, smallQ r1 b1 1099511627776 = x := ⟨_, rfl⟩
  obtain ⟨⟨v, r3, b3⟩, h3⟩ : ∃ x, numQ r2 b2 = x := ⟨_, rfl⟩
  obtain ⟨⟨a, r4, b4⟩, h4⟩ : ∃ x, takeQ r3 b3 = x := ⟨_, rfl⟩
  obtain ⟨i1, j1, k1⟩ := text_inv6 h1 h
  obtain ⟨i2, -, j2⟩ := smallQ_inv h2 i1
  obtain ⟨i3, j3, v0, v1⟩ := num_inv6 h3 fun e => (i2 e).1
  obtain ⟨i4, j4⟩ := takeQ_inv h4 i3
  have ht := smallQ_range h2 (by omega)
  rw [ptQ_is h1 h2 h3 h4] at H
  split at H
  · simp only [Prod.mk.injEq] at H
    obtain ⟨rfl, rfl, rfl⟩ := H
    exact ⟨i4, by omega, zag_bounds v v0 v1, k1, ht⟩
  · simp only [Prod.mk.injEq] at H
    obtain ⟨rfl, rfl, rfl⟩ := H
    exact ⟨fun _ => rfl, Nat.zero_le _, zag_bounds v v0 v1, k1, ht⟩
theorem ptQ_good {r r' : ByteArray} {b : Bool} {p : Pt} (H : ptQ r b = (p, r', false)) (h : b = true → r = ⟨#[]⟩) : b = false ∧ p.ok = true ∧ r.data.toList = p.bytes ++ r'.data.toList := by
  obtain ⟨⟨s, r1, b1⟩, h1⟩ : ∃ x, textQ r b = x := ⟨_, rfl⟩
  obtain ⟨⟨t, r2, b2⟩, h2⟩ : ∃ x, smallQ r1 b1 1099511627776 = x := ⟨_, rfl⟩
  obtain ⟨⟨v, r3, b3⟩, h3⟩ : ∃ x, numQ r2 b2 = x := ⟨_, rfl⟩
  obtain ⟨⟨a, r4, b4⟩, h4⟩ : ∃ x, takeQ r3 b3 = x := ⟨_, rfl⟩
  obtain ⟨i1, j1, k1⟩ := text_inv6 h1 h
  obtain ⟨i2, -, j2⟩ := smallQ_inv h2 i1
  obtain ⟨i3, j3, v0, v1⟩ := num_inv6 h3 fun e => (i2 e).1
  rw [ptQ_is h1 h2 h3 h4] at H
  split at H
  · rename_i hok
    simp only [Prod.mk.injEq] at H
    obtain ⟨rfl, rfl, rfl⟩ := H
    obtain ⟨m3, -, g4⟩ := take_good6 h4 i3
    subst m3
    obtain ⟨m2, g3⟩ := num_good6 h3
    subst m2
    obtain ⟨m1, g2⟩ := smallQ_good h2
    subst m1
    obtain ⟨m0, g1⟩ := text_good6 h1
    refine ⟨m0, hok, ?_⟩
    unfold Pt.bytes
    simp only
    rw [zig_zag v v0, g1, g2, g3, g4]
    simp only [List.append_assoc]
  · simp at H

/-- How many points bytes say that they have; what is left ahead of the k-th; the k-th. -/
def cntP (S : ByteArray) : Int := (smallQ S false 1000).1
def stpP (S : ByteArray) : Nat → ByteArray × Bool
  | 0 => (smallQ S false 1000).2
  | k + 1 => (ptQ (stpP S k).1 (stpP S k).2).2
def ptP (S : ByteArray) (k : Nat) : Pt := (ptQ (stpP S k).1 (stpP S k).2).1
def outP (S : ByteArray) (k : Nat) : List Pt := (List.range k).map (ptP S)
/-- The points whose bytes they are. -/
def ptsQ (S : ByteArray) : Option (List Pt) := let n := (cntP S).toNat; if endQ (stpP S n).1 (stpP S n).2 = 0 then some (outP S n) else none
theorem cntP_bounds (S : ByteArray) : 0 ≤ cntP S ∧ cntP S ≤ 1000 := smallQ_range (show smallQ S false 1000 = (_, _, _) from rfl) (by omega)
theorem stpP_zero (S : ByteArray) : smallQ S false 1000 = (cntP S, (stpP S 0).1, (stpP S 0).2) := rfl
theorem stpP_step (S : ByteArray) (k : Nat) : ptQ (stpP S k).1 (stpP S k).2 = (ptP S k, (stpP S (k + 1)).1, (stpP S (k + 1)).2) := rfl
theorem outP_succ (S : ByteArray) (k : Nat) : outP S (k + 1) = outP S k ++ [ptP S k] := by unfold outP; rw [List.range_succ, List.map_append]; rfl
theorem outP_len (S : ByteArray) (k : Nat) : (outP S k).length = k := by unfold outP; simp
theorem stpP_inv (S : ByteArray) : ∀ k, ((stpP S k).2 = true → (stpP S k).1 = ⟨#[]⟩) ∧ (stpP S k).1.size ≤ S.size
  | 0 => by
    obtain ⟨h1, _, h3⟩ := smallQ_inv (stpP_zero S) (fun e => (by cases e))
    exact ⟨fun e => (h1 e).1, h3⟩
  | k + 1 => by
    obtain ⟨i1, i2⟩ := stpP_inv S k
    obtain ⟨h1, h2, _⟩ := ptQ_inv (stpP_step S k) i1
    exact ⟨h1, by omega⟩
theorem stpP_good {S : ByteArray} {k : Nat} (h : (stpP S (k + 1)).2 = false) : (stpP S k).2 = false := by
  have e := stpP_step S k
  rw [h] at e
  exact (ptQ_good e (stpP_inv S k).1).1
/-- Broken once, broken for good. -/
theorem stpP_bad {S : ByteArray} {k : Nat} (h : (stpP S k).2 = true) : ∀ n, k ≤ n → (stpP S n).2 = true := by
  intro n
  induction n with
  | zero => intro hk; obtain rfl : k = 0 := by omega
            exact h
  | succ n ih =>
    intro hk
    by_cases e : k = n + 1
    · rw [← e]; exact h
    · have h1 := ih (by omega)
      cases h2 : (stpP S (n + 1)).2 with
      | true => rfl
      | false => rw [stpP_good h2] at h1; cases h1
theorem outP_text {S : ByteArray} : ∀ k : Nat, (stpP S k).2 = false → S.data.toList = enc (cntP S).toNat ++ bytesP (outP S k) ++ (stpP S k).1.data.toList ∧ ∀ p ∈ outP S k, p.ok = true ∧ p.vfit
  | 0, h => by
    have e := stpP_zero S
    rw [h] at e
    have := (smallQ_good e).2
    refine ⟨by simpa [outP, bytesP] using this, fun p hp => by simp [outP] at hp⟩
  | k + 1, h => by
    obtain ⟨i1, i2⟩ := outP_text k (stpP_good h)
    have e := stpP_step S k
    rw [h] at e
    obtain ⟨g1, g2, g3⟩ := ptQ_good e (stpP_inv S k).1
    obtain ⟨-, -, g4, -⟩ := ptQ_inv e (stpP_inv S k).1
    refine ⟨by rw [i1, g3, outP_succ, bytesP_snoc]; simp only [List.append_assoc], fun p hp => ?_⟩
    rw [outP_succ] at hp
    rcases List.mem_append.1 hp with hp | hp
    · exact i2 p hp
    · rw [List.mem_singleton] at hp; subst hp; exact ⟨g2, g4⟩
/-- What is read as points are their bytes. -/
theorem ptsQ_some {S : ByteArray} {l : List Pt} (h : ptsQ S = some l) : (∀ p ∈ l, p.ok = true ∧ p.vfit) ∧ l.length ≤ 1000 ∧ tx (ptsB l) = S := by
  have hc := cntP_bounds S
  unfold ptsQ at h
  simp only at h
  split at h
  · rename_i hE
    obtain rfl := Option.some.inj h
    have hb : (stpP S (cntP S).toNat).2 = false := by
      cases hb : (stpP S (cntP S).toNat).2 with
      | false => rfl
      | true => rw [hb] at hE; simp [endQ] at hE
    rw [hb] at hE
    have hz : (stpP S (cntP S).toNat).1.size = 0 := by
      unfold endQ at hE
      rw [if_neg (by simp)] at hE
      split at hE
      · assumption
      · omega
    obtain ⟨g1, g2⟩ := outP_text _ hb
    refine ⟨g2, by rw [outP_len]; omega, ?_⟩
    have e0 : (stpP S (cntP S).toNat).1.data.toList = [] := by
      apply List.eq_nil_of_length_eq_zero
      simpa using hz
    rw [e0, List.append_nil] at g1
    apply list_inj
    rw [tx_list6, g1]
    unfold ptsB
    rw [outP_len]
  · cases h
/-- Points' bytes are read as they. -/
theorem read_pts (l : List Pt) (hl : l.length ≤ 1000) (hok : ∀ p ∈ l, p.ok = true ∧ p.vfit) (q : List UInt8) (S : ByteArray) (hS : tx (ptsB l ++ q) = S) : cntP S = (l.length : Int) ∧ ∀ k, k ≤ l.length → stpP S k = (tx (bytesP (l.drop k) ++ q), false) ∧ outP S k = l.take k := by
  have hz : smallQ S false 1000 = ((l.length : Int), tx (bytesP l ++ q), false) := by
    rw [← hS]
    unfold ptsB
    have := smallQ_enc (l.length : Int) 1000 (bytesP l ++ q) (by omega) (by omega) (by omega)
    rw [Int.toNat_natCast] at this
    rw [List.append_assoc]; exact this
  refine ⟨by unfold cntP; rw [hz], fun k => ?_⟩
  induction k with
  | zero =>
    intro _
    refine ⟨?_, by simp [outP]⟩
    show (smallQ S false 1000).2 = _
    rw [hz]; rfl
  | succ k ih =>
    intro hk
    obtain ⟨i1, i2⟩ := ih (by omega)
    have hkl : k < l.length := by omega
    obtain ⟨o1, o2⟩ := hok _ (List.getElem_mem hkl)
    have e1 : ptQ (stpP S k).1 (stpP S k).2 = (l[k], tx (bytesP (l.drop (k + 1)) ++ q), false) := by
      rw [i1, bytesP_drop l k hkl, List.append_assoc]
      exact ptQ_enc _ o1 o2 _
    have e2 := stpP_step S k
    rw [e1] at e2
    simp only [Prod.mk.injEq] at e2
    refine ⟨Prod.ext e2.2.1.symm e2.2.2.symm, ?_⟩
    rw [outP_succ, i2, ← e2.1, List.take_succ_eq_append_getElem hkl]
theorem ptsQ_enc (l : List Pt) (hl : l.length ≤ 1000) (hok : ∀ p ∈ l, p.ok = true ∧ p.vfit) : ptsQ (tx (ptsB l)) = some l := by
  obtain ⟨g1, g2⟩ := read_pts l hl hok [] (tx (ptsB l)) (by rw [List.append_nil])
  obtain ⟨g3, g4⟩ := g2 _ (Nat.le_refl _)
  have e : (cntP (tx (ptsB l))).toNat = l.length := by omega
  unfold ptsQ
  simp only [e, g3, g4, List.drop_length, List.take_length]
  exact if_pos (by decide)
end Go.Proofs.Ytcjcbbpolhpphaa
