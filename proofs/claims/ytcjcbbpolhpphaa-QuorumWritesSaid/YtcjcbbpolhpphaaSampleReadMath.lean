/- What bytes are read as a record; and that they are a record's bytes if and only if they are so read. -/
import Derived.Test.YtcjcbbpolhpphaaSampleRBytes
import Derived.Test.YtcjcbbpolhpphaaMarkReadMath
set_option maxRecDepth 20000
namespace Go.Proofs.Ytcjcbbpolhpphaa
open Go.RowKit Go.Proofs.Ytcjcbbpolhpphaa.Vi Go.Proofs.Ytcjcbbpolhpphaa.Mk

theorem tx_list6 (l : List UInt8) : (tx l).data.toList = l := by simp [tx]
theorem of_list6 {s : ByteArray} {l : List UInt8} (h : s.data.toList = l) : s = tx l := by subst h; exact (tx_list s).symm
/-- A stamp's bytes, a name's and a number's are read as they are. -/
theorem take_enc6 (a : St) (rest : List UInt8) (h : a.ok = true) : takeQ (tx (a.bytes ++ rest)) false = (a, tx rest, false) := by
  obtain ⟨b1, b2, b3, b4, b5, b6⟩ := St.ok_iff.1 h
  have e1 := smallQ_enc a.c 1099511627776 (enc a.s.toNat ++ (enc a.q.toNat ++ rest)) (by omega) (by omega) (by omega)
  have e2 := smallQ_enc a.s 7 (enc a.q.toNat ++ rest) (by omega) (by omega) (by omega)
  have e3 := smallQ_enc a.q 1099511627776 rest (by omega) (by omega) (by omega)
  have e0 : a.bytes ++ rest = enc a.c.toNat ++ (enc a.s.toNat ++ (enc a.q.toNat ++ rest)) := by rw [St.bytes_yes h]; simp [List.append_assoc]
  unfold takeQ
  simp only [e0, e1, e2, e3]
  rw [if_pos h]
theorem text_enc6 (t : ByteArray) (ht : t.size ≤ 1000) (q : List UInt8) : textQ (tx (enc t.size ++ (t.data.toList ++ q))) false = (t, tx q, false) := by
  have hl : t.data.toList.length = t.size := by simp
  unfold textQ
  rw [if_neg (by simp), numF_enc t.size _ (by omega)]
  simp only
  rw [if_pos (by rw [tx_size, List.length_append]; omega)]
  have e1 : (tx (t.data.toList ++ q)).extract 0 t.size = t := by
    apply list_inj
    rw [← hl]
    simp [tx, ByteArray.data_extract]
  have e2 : restB (tx (t.data.toList ++ q)) t.size = tx q := by
    apply list_inj
    rw [restB_list, tx_list6, tx_list6, ← hl]; simp
  rw [e1, e2]
theorem num_enc6 (n : Nat) (q : List UInt8) (h : n < 18446744073709551616) : numQ (tx (enc n ++ q)) false = ((n : Int), tx q, false) := by
  unfold numQ
  rw [if_neg (by simp), numF_enc n q h]
/-- What was read is what stood there. -/
theorem num_good6 {r r' : ByteArray} {br : Bool} {v : Int} (H : numQ r br = (v, r', false)) : br = false ∧ r.data.toList = enc v.toNat ++ r'.data.toList := by
  unfold numQ at H
  split at H
  · simp at H
  · rename_i hb
    split at H
    · simp at H
    · rename_i u r1 hf
      simp at H
      obtain ⟨rfl, rfl⟩ := H
      obtain ⟨k, hg, rfl⟩ := numF_some hf
      obtain ⟨g1, g2, g3, rest, g4⟩ := getL_some _ 0 u k (by omega) hg
      refine ⟨by simpa using hb, ?_⟩
      rw [restB_list, g4, g3]; simp
theorem text_good6 {r r' : ByteArray} {br : Bool} {t : ByteArray} (H : textQ r br = (t, r', false)) : br = false ∧ r.data.toList = enc t.size ++ (t.data.toList ++ r'.data.toList) := by
  unfold textQ at H
  split at H
  · simp at H
  · rename_i hb
    split at H
    · simp at H
    · rename_i u r1 hf
      split at H
      · rename_i hc
        simp at H
        obtain ⟨rfl, rfl⟩ := H
        obtain ⟨k, hg, rfl⟩ := numF_some hf
        obtain ⟨g1, g2, g3, rest, g4⟩ := getL_some _ 0 u k (by omega) hg
        refine ⟨by simpa using hb, ?_⟩
        have e1 : (restB r k).data.toList = rest := by rw [restB_list, g4, g3]; simp
        have e2 : ((restB r k).extract 0 u).data.toList = rest.take u := by
          rw [← e1]; simp [ByteArray.data_extract]
        have e3 : ((restB r k).extract 0 u).size = u := by simp [ByteArray.size_extract]; omega
        rw [e3, e2, restB_list, e1, List.take_append_drop, g4]
      · simp at H
theorem take_good6 {r r' : ByteArray} {br : Bool} {a : St} (H : takeQ r br = (a, r', false)) (h : br = true → r = ⟨#[]⟩) : br = false ∧ a.ok = true ∧ r.data.toList = a.bytes ++ r'.data.toList := by
  obtain ⟨v1, r1, b1, v2, r2, b2, v3, r3, b3, h1, h2, h3, i1, i2, i3, s1, s2, s3, ⟨o1, rfl, rfl, rfl, o2⟩ | ⟨_, _, _, o⟩⟩ := takeQ_parts H h
  · obtain ⟨j3, g3⟩ := smallQ_good h3
    subst j3
    obtain ⟨j2, g2⟩ := smallQ_good h2
    subst j2
    obtain ⟨j1, g1⟩ := smallQ_good h1
    refine ⟨j1, o1, ?_⟩
    rw [St.bytes_yes o1, g1, g2, g3]; simp [List.append_assoc]
  · cases o
theorem text_inv6 {r r' : ByteArray} {br br' : Bool} {t : ByteArray} (H : textQ r br = (t, r', br')) (h : br = true → r = ⟨#[]⟩) : (br' = true → r' = ⟨#[]⟩) ∧ r'.size ≤ r.size ∧ t.size ≤ r.size := by
  unfold textQ at H
  split at H
  · rename_i hb
    simp at H; obtain ⟨rfl, rfl, rfl⟩ := H
    exact ⟨fun _ => h hb, Nat.le_refl _, Nat.zero_le _⟩
  · split at H
    · simp at H; obtain ⟨rfl, rfl, rfl⟩ := H
      exact ⟨fun _ => rfl, Nat.zero_le _, Nat.zero_le _⟩
    · rename_i u r1 hf
      obtain ⟨k, hg, rfl⟩ := numF_some hf
      have hk := restB_size r k
      split at H
      · simp at H; obtain ⟨rfl, rfl, rfl⟩ := H
        refine ⟨fun e => (by cases e), by rw [restB_size]; omega, by simp [ByteArray.size_extract]; omega⟩
      · simp at H; obtain ⟨rfl, rfl, rfl⟩ := H
        exact ⟨fun _ => rfl, Nat.zero_le _, Nat.zero_le _⟩
theorem num_inv6 {r r' : ByteArray} {br br' : Bool} {v : Int} (H : numQ r br = (v, r', br')) (h : br = true → r = ⟨#[]⟩) : (br' = true → r' = ⟨#[]⟩) ∧ r'.size ≤ r.size ∧ 0 ≤ v ∧ v ≤ 18446744073709551615 := by
  obtain ⟨g1, g2, g3⟩ := numQ_bounds H
  refine ⟨?_, g3, g1, g2⟩
  unfold numQ at H
  split at H
  · rename_i hb
    simp at H; obtain ⟨rfl, rfl, rfl⟩ := H
    exact fun _ => h hb
  · split at H
    · simp at H; obtain ⟨rfl, rfl, rfl⟩ := H
      exact fun _ => rfl
    · simp at H; obtain ⟨rfl, rfl, rfl⟩ := H
      exact fun e => by cases e

/-- What stands between kind and stamp: name, time, value, tier; what is left. -/
def midQ (k : Int) (r : ByteArray) (br : Bool) : (ByteArray × Int × Int × Int) × ByteArray × Bool :=
  if k = 1 then
    let a := textQ r br
    let c := smallQ a.2.1 a.2.2 1099511627776
    let e := numQ c.2.1 c.2.2
    ((a.1, c.1, zag e.1, 0), e.2)
  else
    let a := smallQ r br 3
    let c := smallQ a.2.1 a.2.2 1099511627776
    ((⟨#[]⟩, c.1, 0, a.1), c.2)
/-- A record without its numbers. -/
def headQ (S : ByteArray) : Rec × ByteArray × Bool :=
  let a := smallQ S false 2
  let m := midQ a.1 a.2.1 a.2.2
  let t := takeQ m.2.1 m.2.2
  (⟨a.1, m.1.1, m.1.2.1, m.1.2.2.1, m.1.2.2.2, t.1, []⟩, t.2)
/-- The record whose bytes they are. -/
def recQ (S : ByteArray) : Option Rec :=
  let h := headQ S
  let n := (cntS h.2.1).toNat
  let q : Rec := { h.1 with d := outS h.2.1 n }
  if h.2.2 = false ∧ (stp h.2.1 n).2 = false ∧ outS h.2.1 n = plainL (outS h.2.1 n) ∧ (stp h.2.1 n).1.size = 0 ∧ q.ok = true then some q else none

theorem head_sample {S r1 s r2 r3 r4 r5 : ByteArray} {b1 b2 b3 b4 b5 : Bool} {k t v : Int} {a : St} (h1 : smallQ S false 2 = (k, r1, b1)) (hk : k = 1) (h2 : textQ r1 b1 = (s, r2, b2)) (h3 : smallQ r2 b2 1099511627776 = (t, r3, b3)) (h4 : numQ r3 b3 = (v, r4, b4)) (h5 : takeQ r4 b4 = (a, r5, b5)) : headQ S = (⟨k, s, t, zag v, 0, a, []⟩, r5, b5) := by
  have hm : midQ k r1 b1 = ((s, t, zag v, 0), r4, b4) := by
    unfold midQ
    rw [if_pos hk]
    simp only [h2, h3, h4]
  unfold headQ
  simp only [h1, hm, h5]
theorem head_cut {S r1 r2 r3 r5 : ByteArray} {b1 b2 b3 b5 : Bool} {k t x : Int} {a : St} (h1 : smallQ S false 2 = (k, r1, b1)) (hk : k ≠ 1) (h2 : smallQ r1 b1 3 = (x, r2, b2)) (h3 : smallQ r2 b2 1099511627776 = (t, r3, b3)) (h5 : takeQ r3 b3 = (a, r5, b5)) : headQ S = (⟨k, ⟨#[]⟩, t, 0, x, a, []⟩, r5, b5) := by
  have hm : midQ k r1 b1 = ((⟨#[]⟩, t, 0, x), r3, b3) := by
    unfold midQ
    rw [if_neg hk]
    simp only [h2, h3]
  unfold headQ
  simp only [h1, hm, h5]
theorem recQ_bad {S r : ByteArray} {q : Rec} (h : headQ S = (q, r, true)) : recQ S = none := by
  unfold recQ
  simp only [h]
  rw [if_neg]
  exact fun h => by cases h.1
theorem recQ_yes {S r : ByteArray} {q : Rec} {n : Nat} (h : headQ S = (q, r, false)) (hn : (n : Int) = cntS r) (h1 : (stp r n).2 = false) (h2 : outS r n = plainL (outS r n)) (h3 : (stp r n).1.size = 0) (h4 : Rec.ok { q with d := outS r n } = true) : recQ S = some { q with d := outS r n } := by
  have e : (cntS r).toNat = n := by omega
  unfold recQ
  simp only [h, e]
  exact if_pos ⟨trivial, h1, h2, h3, h4⟩
theorem recQ_no {S r : ByteArray} {q : Rec} {b : Bool} {n : Nat} (h : headQ S = (q, r, b)) (hn : (n : Int) = cntS r) (h1 : ¬ ((stp r n).2 = false ∧ outS r n = plainL (outS r n) ∧ (stp r n).1.size = 0 ∧ Rec.ok { q with d := outS r n } = true)) : recQ S = none := by
  have e : (cntS r).toNat = n := by omega
  unfold recQ
  simp only [h, e]
  exact if_neg fun g => h1 g.2

/-- A vector's text and what follows it. -/
theorem read_text6 (l : List Int) (hl : l = plainL l) (q : List UInt8) (s : ByteArray) (hs : tx (textL l ++ q) = s) : cntS s = (l.length : Int) ∧ ∀ k, k ≤ l.length → stp s k = (tx (encL (l.drop k) ++ q), false) ∧ outS s k = l.take k := by
  have h8 : l.length ≤ 8 := by rw [hl]; exact vec_size _
  have hfit : ∀ x ∈ l, 0 ≤ x ∧ x ≤ 1099511627776 := by rw [hl]; exact vec_fit (atL_fit l)
  have hz : smallQ s false 8 = ((l.length : Int), tx (encL l ++ q), false) := by
    rw [← hs]
    unfold textL
    have := smallQ_enc (l.length : Int) 8 (encL l ++ q) (by omega) (by omega) (by omega)
    rw [Int.toNat_natCast] at this
    rw [List.append_assoc]; exact this
  have hc : cntS s = (l.length : Int) := by unfold cntS; rw [hz]
  refine ⟨hc, fun k => ?_⟩
  clear hl
  induction k with
  | zero =>
    intro _
    refine ⟨?_, by simp [outS]⟩
    show (smallQ s false 8).2 = _
    rw [hz]; rfl
  | succ k ih =>
    intro hk
    obtain ⟨i1, i2⟩ := ih (by omega)
    have hkl : k < l.length := by omega
    have hb := hfit _ (List.getElem_mem hkl)
    have e0 : encL (l.drop k) ++ q = enc (l[k]).toNat ++ (encL (l.drop (k + 1)) ++ q) := by
      rw [List.drop_eq_getElem_cons hkl]; simp only [encL, List.flatMap_cons, List.append_assoc]
    have e1 : smallQ (stp s k).1 (stp s k).2 1099511627776 = (l[k], tx (encL (l.drop (k + 1)) ++ q), false) := by
      rw [i1, e0]
      exact smallQ_enc _ _ _ hb.1 hb.2 (by omega)
    have e2 := stp_step (s := s) (k := k) (by rw [hc]; omega)
    rw [e1] at e2
    simp only [Prod.mk.injEq] at e2
    refine ⟨Prod.ext e2.2.1.symm e2.2.2.symm, ?_⟩
    rw [outS_succ, i2, ← e2.1, List.take_succ_eq_append_getElem hkl]

/-- A record's head. -/
theorem head_enc (r : Rec) (h : r.ok = true) (hv : -9223372036854775808 ≤ r.v ∧ r.v ≤ 9223372036854775807) (q : List UInt8) : headQ (tx (enc r.k.toNat ++ r.mid ++ r.st.bytes ++ q)) = ({ r with d := [] }, tx q, false) := by
  obtain ⟨⟨t1, t2⟩, -, hst, -⟩ := Rec.head_parts (Rec.ok_head h)
  rcases Rec.ok_kind h with ⟨hk, hn, ht⟩ | ⟨hk, hs, hv0, ht1, ht2⟩
  · have hz := zig_bounds r.v hv.1 hv.2
    have hn40 := name_len hn
    have e0 : enc r.k.toNat ++ r.mid ++ r.st.bytes ++ q = enc r.k.toNat ++ (enc r.s.size ++ (r.s.data.toList ++ (enc r.t.toNat ++ (enc (zig r.v).toNat ++ (r.st.bytes ++ q))))) := by
      unfold Rec.mid; rw [if_pos hk]; simp only [List.append_assoc]
    rw [e0]
    have h4 := num_enc6 (zig r.v).toNat (r.st.bytes ++ q) (by omega)
    have e4 : (((zig r.v).toNat : Nat) : Int) = zig r.v := Int.toNat_of_nonneg hz.1
    rw [e4] at h4
    have := head_sample (smallQ_enc r.k 2 _ (by omega) (by omega) (by omega)) hk (text_enc6 r.s (by omega) _) (smallQ_enc r.t _ _ t1 t2 (by omega)) h4 (take_enc6 r.st q hst)
    rw [this, zag_zig, ← ht]
  · have e0 : enc r.k.toNat ++ r.mid ++ r.st.bytes ++ q = enc r.k.toNat ++ (enc r.tier.toNat ++ (enc r.t.toNat ++ (r.st.bytes ++ q))) := by
      unfold Rec.mid; rw [if_neg (by omega)]; simp only [List.append_assoc]
    rw [e0]
    have := head_cut (smallQ_enc r.k 2 _ (by omega) (by omega) (by omega)) (by omega) (smallQ_enc r.tier 3 _ ht1 ht2 (by omega)) (smallQ_enc r.t _ _ t1 t2 (by omega)) (take_enc6 r.st q hst)
    rw [this, ← hv0, ← hs]
/-- A record's bytes are read as it, and with anything behind as none. -/
theorem recQ_enc (r : Rec) (h : r.ok = true) (hv : -9223372036854775808 ≤ r.v ∧ r.v ≤ 9223372036854775807) (q : List UInt8) : recQ (tx (r.bytes ++ q)) = if q = [] then some r else none := by
  obtain ⟨-, hpl, -, -⟩ := Rec.head_parts (Rec.ok_head h)
  have e0 : r.bytes ++ q = enc r.k.toNat ++ r.mid ++ r.st.bytes ++ (textL r.d ++ q) := by
    unfold Rec.bytes; rw [← hpl]; simp only [List.append_assoc]
  have hh := head_enc r h hv (textL r.d ++ q)
  rw [← e0] at hh
  obtain ⟨g1, g2⟩ := read_text6 r.d hpl q _ rfl
  obtain ⟨g3, g4⟩ := g2 _ (Nat.le_refl _)
  rw [List.take_length] at g4
  rw [List.drop_length] at g3
  have e1 : encL [] ++ q = q := rfl
  rw [e1] at g3
  have er : ({ ({ r with d := [] } : Rec) with d := r.d } : Rec) = r := rfl
  by_cases hq : q = []
  · rw [if_pos hq]
    have := recQ_yes hh g1.symm (by rw [g3]) (by rw [g4]; exact hpl) (by rw [g3, hq]; rfl) (by rw [g4]; exact h)
    rw [g4] at this
    exact this
  · rw [if_neg hq]
    refine recQ_no hh g1.symm fun g => hq ?_
    have := g.2.2.1
    rw [g3, tx_size] at this
    exact List.eq_nil_of_length_eq_zero this
theorem head_good {S r : ByteArray} {q : Rec} (h : headQ S = (q, r, false)) : S.data.toList = enc q.k.toNat ++ q.mid ++ q.st.bytes ++ r.data.toList ∧ (-9223372036854775808 ≤ q.v ∧ q.v ≤ 9223372036854775807) := by
  obtain ⟨⟨k, r1, b1⟩, h1⟩ : ∃ x, smallQ S false 2 = x := ⟨_, rfl⟩
  have i1 := (smallQ_inv h1 (fun e => by cases e)).1
  by_cases hk : k = 1
  · obtain ⟨⟨s, r2, b2⟩, h2⟩ : ∃ x, textQ r1 b1 = x := ⟨_, rfl⟩
    obtain ⟨⟨t, r3, b3⟩, h3⟩ : ∃ x, smallQ r2 b2 1099511627776 = x := ⟨_, rfl⟩
    obtain ⟨⟨v, r4, b4⟩, h4⟩ : ∃ x, numQ r3 b3 = x := ⟨_, rfl⟩
    obtain ⟨⟨a, r5, b5⟩, h5⟩ : ∃ x, takeQ r4 b4 = x := ⟨_, rfl⟩
    have i2 := (text_inv6 h2 fun e => (i1 e).1).1
    have i3 := (smallQ_inv h3 i2).1
    obtain ⟨i4, -, v0, v1⟩ := num_inv6 h4 fun e => (i3 e).1
    rw [head_sample h1 hk h2 h3 h4 h5] at h
    simp only [Prod.mk.injEq] at h
    obtain ⟨rfl, rfl, rfl⟩ := h
    obtain ⟨j4, -, g5⟩ := take_good6 h5 i4
    subst j4
    obtain ⟨j3, g4⟩ := num_good6 h4
    subst j3
    obtain ⟨j2, g3⟩ := smallQ_good h3
    subst j2
    obtain ⟨j1, g2⟩ := text_good6 h2
    subst j1
    obtain ⟨-, g1⟩ := smallQ_good h1
    refine ⟨?_, zag_bounds v v0 v1⟩
    unfold Rec.mid
    simp only
    rw [if_pos hk, zig_zag v v0, g1, g2, g3, g4, g5]
    simp only [List.append_assoc]
  · obtain ⟨⟨x, r2, b2⟩, h2⟩ : ∃ x, smallQ r1 b1 3 = x := ⟨_, rfl⟩
    obtain ⟨⟨t, r3, b3⟩, h3⟩ : ∃ x, smallQ r2 b2 1099511627776 = x := ⟨_, rfl⟩
    obtain ⟨⟨a, r5, b5⟩, h5⟩ : ∃ x, takeQ r3 b3 = x := ⟨_, rfl⟩
    have i2 := (smallQ_inv h2 fun e => (i1 e).1).1
    have i3 := (smallQ_inv h3 fun e => (i2 e).1).1
    rw [head_cut h1 hk h2 h3 h5] at h
    simp only [Prod.mk.injEq] at h
    obtain ⟨rfl, rfl, rfl⟩ := h
    obtain ⟨j3, -, g5⟩ := take_good6 h5 fun e => (i3 e).1
    subst j3
    obtain ⟨j2, g3⟩ := smallQ_good h3
    subst j2
    obtain ⟨j1, g2⟩ := smallQ_good h2
    subst j1
    obtain ⟨-, g1⟩ := smallQ_good h1
    refine ⟨?_, by simp only; omega⟩
    unfold Rec.mid
    simp only
    rw [if_neg hk, g1, g2, g3, g5]
    simp only [List.append_assoc]
/-- What is read as a record are its bytes. -/
theorem recQ_some {S : ByteArray} {r : Rec} (h : recQ S = some r) : r.ok = true ∧ tx r.bytes = S ∧ (-9223372036854775808 ≤ r.v ∧ r.v ≤ 9223372036854775807) := by
  obtain ⟨⟨q, r5, b⟩, hh⟩ : ∃ x, headQ S = x := ⟨_, rfl⟩
  cases b with
  | true => rw [recQ_bad hh] at h; cases h
  | false =>
    have hc := cntS_bounds r5
    obtain ⟨n, hn⟩ : ∃ n : Nat, (n : Int) = cntS r5 := ⟨(cntS r5).toNat, by omega⟩
    by_cases hall : (stp r5 n).2 = false ∧ outS r5 n = plainL (outS r5 n) ∧ (stp r5 n).1.size = 0 ∧ Rec.ok { q with d := outS r5 n } = true
    · obtain ⟨h1, h2, h3, h4⟩ := hall
      rw [recQ_yes hh hn h1 h2 h3 h4] at h
      obtain rfl := Option.some.inj h
      obtain ⟨g1, g2⟩ := head_good hh
      refine ⟨h4, ?_, g2⟩
      have e := outS_text n (by omega) h1
      have e0 : (stp r5 n).1.data.toList = [] := by
        apply List.eq_nil_of_length_eq_zero
        simpa using h3
      rw [e0, List.append_nil] at e
      have e2 : (outS r5 n).length = (cntS r5).toNat := by unfold outS; simp; omega
      apply list_inj
      rw [tx_list6, g1, e]
      unfold Rec.bytes textL
      simp only
      rw [← h2, e2]
      rfl
    · rw [recQ_no hh hn hall] at h; cases h
/-- No two records have one text of bytes. -/
theorem bytes_inj6 {a b : Rec} (ha : a.ok = true) (hb : b.ok = true) (va : -9223372036854775808 ≤ a.v ∧ a.v ≤ 9223372036854775807) (vb : -9223372036854775808 ≤ b.v ∧ b.v ≤ 9223372036854775807) (h : tx a.bytes = tx b.bytes) : a = b := by
  have h1 := recQ_enc a ha va []
  have h2 := recQ_enc b hb vb []
  rw [List.append_nil, if_pos rfl] at h1 h2
  rw [h, h2] at h1
  exact (Option.some.inj h1).symm
/-- Cut short they are none. -/
theorem recQ_short {a : Rec} (ha : a.ok = true) (va : -9223372036854775808 ≤ a.v ∧ a.v ≤ 9223372036854775807) {p q : List UInt8} (h : a.bytes = p ++ q) (hq : q ≠ []) : recQ (tx p) = none := by
  cases hr : recQ (tx p) with
  | none => rfl
  | some r =>
    obtain ⟨h1, h2, h3⟩ := recQ_some hr
    have e := tx_inj h2
    have h4 := recQ_enc r h1 h3 q
    rw [if_neg hq, e, ← h] at h4
    have h5 := recQ_enc a ha va []
    rw [List.append_nil, if_pos rfl, h4] at h5
    cases h5
theorem Rec.bytes_ne (r : Rec) : r.bytes ≠ [] := by
  intro h
  have : (enc r.k.toNat).length = 0 := by
    have := congrArg List.length h
    unfold Rec.bytes at this
    simp only [List.length_append, List.length_nil] at this
    omega
  have := enc_len_pos r.k.toNat
  omega
end Go.Proofs.Ytcjcbbpolhpphaa
