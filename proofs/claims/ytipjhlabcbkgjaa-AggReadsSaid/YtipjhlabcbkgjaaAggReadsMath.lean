/- Plain mathematics of AggReads: what the document reads, and that it is what the program reads. -/
import Derived.Test.YtipjhlabcbkgjaaAggBack
set_option maxRecDepth 20000
namespace Go.Proofs.Ytipjhlabcbkgjaa.Ag
open Go.RowKit Go.Proofs.Ytipjhlabcbkgjaa Go.Proofs.Ytipjhlabcbkgjaa.Wd Go.Proofs.Ytipjhlabcbkgjaa.Vi Go.Proofs.Ytipjhlabcbkgjaa.Mk

theorem bnumF_dec {r r' : ByteArray} {v : Nat} (h : numF r = some (v, r')) : v < 18446744073709551616 ∧ r = tx (enc v ++ r'.data.toList) := by
  obtain ⟨m, h1, h2⟩ := numF_some h
  obtain ⟨q1, -, q3, rest, q4⟩ := getL_some _ 0 v m (by omega) h1
  refine ⟨q1, ?_⟩
  have e : r'.data.toList = rest := by rw [← h2, restB_list, q4, q3, List.drop_left]
  rw [e, ← q4, tx_list]
theorem numQ_dec {r r' : ByteArray} {b : Bool} {v : Int} (h : numQ r b = (v, r', false)) : b = false ∧ ∃ n : Nat, v = (n : Int) ∧ n < 18446744073709551616 ∧ r = tx (enc n ++ r'.data.toList) := by
  unfold numQ at h
  cases b with
  | true => simp at h
  | false =>
    rw [if_neg (by simp)] at h
    split at h
    · simp at h
    · rename_i n q hq
      simp at h
      obtain ⟨rfl, rfl⟩ := h
      exact ⟨rfl, n, rfl, bnumF_dec hq⟩
theorem smallQ_dec {r r' : ByteArray} {b : Bool} {v m : Int} (h : smallQ r b m = (v, r', false)) : b = false ∧ 0 ≤ v ∧ v ≤ m ∧ r = tx (enc v.toNat ++ r'.data.toList) := by
  unfold smallQ at h
  cases b with
  | true => simp at h
  | false =>
    rw [if_neg (by simp)] at h
    split at h
    · simp at h
    · rename_i n q hq
      split at h
      · rename_i hm
        simp at h
        obtain ⟨rfl, rfl⟩ := h
        exact ⟨rfl, by omega, hm.2, by rw [Int.toNat_natCast]; exact (bnumF_dec hq).2⟩
      · simp at h
theorem takeQ_dec {r r' : ByteArray} {b : Bool} {a : St} (h : takeQ r b = (a, r', false)) : b = false ∧ a.ok = true ∧ r = tx (a.bytes ++ r'.data.toList) := by
  unfold takeQ at h
  obtain ⟨⟨v1, r1, b1⟩, h1⟩ : ∃ x, smallQ r b 1099511627776 = x := ⟨_, rfl⟩
  rw [h1] at h
  dsimp only at h
  obtain ⟨⟨v2, r2, b2⟩, h2⟩ : ∃ x, smallQ r1 b1 7 = x := ⟨_, rfl⟩
  rw [h2] at h
  dsimp only at h
  obtain ⟨⟨v3, r3, b3⟩, h3⟩ : ∃ x, smallQ r2 b2 1099511627776 = x := ⟨_, rfl⟩
  rw [h3] at h
  dsimp only at h
  split at h
  · rename_i hok
    injection h with e1 e2
    injection e2 with e2 e3
    subst e1 e2 e3
    obtain ⟨rfl, -, -, rfl⟩ := smallQ_dec h3
    obtain ⟨rfl, -, -, rfl⟩ := smallQ_dec h2
    obtain ⟨rfl, -, -, rfl⟩ := smallQ_dec h1
    refine ⟨rfl, hok, ?_⟩
    rw [St.bytes_yes hok]
    simp [tx, List.append_assoc]
  · simp at h
theorem zz_dec {r r' : ByteArray} {b : Bool} {v : Int} (h : numQ r b = (v, r', false)) : b = false ∧ r = tx (enc (zig (zag v)).toNat ++ r'.data.toList) := by
  obtain ⟨hb, n, rfl, hn, hr⟩ := numQ_dec h
  rw [zig_zag _ (by omega), Int.toNat_natCast]
  exact ⟨hb, hr⟩
theorem mid_dec {r : ByteArray} {x y z : Int} {a : St} {r' : ByteArray} (h : midQ r = (x, y, z, a, r', false)) : a.ok = true ∧ r = tx (encs [x, y, z] ++ (a.bytes ++ r'.data.toList)) := by
  obtain ⟨v1, r1, b1, v2, r2, b2, v3, r3, b3, s, r4, b4, q1, q2, q3, q4, hmid⟩ := midQ_parts r
  rw [hmid] at h
  injection h with e1 h
  injection h with e2 h
  injection h with e3 h
  injection h with e4 h
  injection h with e5 e6
  subst e1 e2 e3 e4 e5 e6
  obtain ⟨rfl, hok, rfl⟩ := takeQ_dec q4
  obtain ⟨rfl, rfl⟩ := zz_dec q3
  obtain ⟨rfl, rfl⟩ := zz_dec q2
  obtain ⟨-, rfl⟩ := zz_dec q1
  refine ⟨hok, ?_⟩
  simp [tx, encs, List.append_assoc]
/-- The document's reader, number by number. -/
def stS (r : ByteArray) (b : Bool) : Nat → ByteArray × Bool
  | 0 => (r, b)
  | k + 1 => (smallQ (stS r b k).1 (stS r b k).2 1099511627776).2
def smS (r : ByteArray) (b : Bool) (k : Nat) : Int := (smallQ (stS r b k).1 (stS r b k).2 1099511627776).1
theorem stS_step (r : ByteArray) (b : Bool) (k : Nat) : smallQ (stS r b k).1 (stS r b k).2 1099511627776 = (smS r b k, (stS r b (k + 1)).1, (stS r b (k + 1)).2) := rfl
/-- The numbers up to the k'th. -/
theorem stS_dec (r : ByteArray) (b : Bool) : ∀ k, (stS r b k).2 = false → b = false ∧ r = tx (bksL (smS r b) k ++ (stS r b k).1.data.toList) ∧ ∀ i, i < k → 0 ≤ smS r b i
  | 0, h => ⟨h, by show r = tx ([] ++ r.data.toList); rw [List.nil_append, tx_list], fun i hi => by omega⟩
  | k + 1, h => by
    have hs := stS_step r b k
    rw [h] at hs
    obtain ⟨h1, h2, h3, h4⟩ := smallQ_dec hs
    obtain ⟨g1, g2, g3⟩ := stS_dec r b k h1
    refine ⟨g1, ?_, fun i hi => ?_⟩
    · have e : (stS r b k).1.data.toList = enc (smS r b k).toNat ++ (stS r b (k + 1)).1.data.toList := by rw [h4]; simp [tx]
      rw [e] at g2
      show r = tx ((bksL (smS r b) k ++ enc (smS r b k).toNat) ++ _)
      rw [List.append_assoc]
      exact g2
    · rcases Nat.lt_succ_iff_lt_or_eq.1 hi with hi | rfl
      · exact g3 i hi
      · exact h2
theorem stS_suf (f : Nat → Int) (c i : Nat) (hf : ∀ k, i ≤ k → k < i + c → 0 ≤ f k ∧ f k ≤ 1099511627776) : ∀ j, j ≤ c → stS (tx (sufL f c i)) false j = (tx (sufL f (c - j) (i + j)), false)
  | 0, _ => rfl
  | j + 1, hj => by
    have ih := stS_suf f c i hf j (by omega)
    have h := hf (i + j) (by omega) (by omega)
    obtain ⟨m, hm⟩ : ∃ m, c - j = m + 1 := ⟨c - j - 1, by omega⟩
    show (smallQ (stS (tx (sufL f c i)) false j).1 (stS (tx (sufL f c i)) false j).2 1099511627776).2 = _
    rw [ih, hm]
    show (smallQ (tx (enc (f (i + j)).toNat ++ sufL f m (i + j + 1))) false 1099511627776).2 = _
    rw [bsmallQ_enc _ _ _ h.1 h.2 (by omega), show c - (j + 1) = m by omega, Nat.add_assoc]
theorem smS_suf (f : Nat → Int) (c i : Nat) (hf : ∀ k, i ≤ k → k < i + c → 0 ≤ f k ∧ f k ≤ 1099511627776) (j : Nat) (hj : j < c) : smS (tx (sufL f c i)) false j = f (i + j) := by
  have ih := stS_suf f c i hf j (by omega)
  have h := hf (i + j) (by omega) (by omega)
  obtain ⟨m, hm⟩ : ∃ m, c - j = m + 1 := ⟨c - j - 1, by omega⟩
  show (smallQ (stS (tx (sufL f c i)) false j).1 (stS (tx (sufL f c i)) false j).2 1099511627776).1 = _
  rw [ih, hm]
  show (smallQ (tx (enc (f (i + j)).toNat ++ sufL f m (i + j + 1))) false 1099511627776).1 = _
  rw [bsmallQ_enc _ _ _ h.1 h.2 (by omega)]
theorem btailv_inj {d e : Nat → Int} (hd : ∀ i, 0 ≤ d i ∧ d i ≤ 255) (he : ∀ i, 0 ≤ e i ∧ e i ≤ 255) (h : tailv d 16 = tailv e 16) : ∀ k, k ≤ 16 → ∀ i, i < k → d i = e i
  | 0, _, i, hi => absurd hi (by omega)
  | k + 1, hk, i, hi => by
    have ih := btailv_inj hd he h k (by omega)
    by_cases e1 : i = k
    · subst e1
      rcases Int.lt_trichotomy (d i) (e i) with x | x | x
      · have := first_lt hd he i (by omega) ih x; omega
      · exact x
      · have := first_lt he hd i (by omega) (fun j hj => (ih j hj).symm) x; omega
    · exact ih i (by omega)
theorem bsb_wideB (h l : Int) (i : Nat) (hi : i < 16) : sb (wideB h l) i = dg h l i := by
  unfold sb
  have : (wideB h l).data.toList.getD i 0 = UInt8.ofNat (dg h l i).toNat := by
    unfold wideB
    rw [List.getD_eq_getElem?_getD]; simp [hi]
  rw [this, dg_byte]
theorem bwideB_size (h l : Int) : (wideB h l).size = 16 := by unfold wideB; rw [size_list]; simp
theorem bbytes_back {t : ByteArray} {x y : Int} (h16 : t.size = 16) (R : Rep x y (sm (tailv (sb t) 16))) : wideB x y = t := by
  have e1 := tailv_dg_eq (h := x) R.l0 R.l1
  have hr := tailv_range (sb_range t) 16
  have e2 : (256 : Int) ^ 16 = 340282366920938463463374607431768211456 := by decide
  rw [e2] at hr
  have e3 : tailv (dg x y) 16 = tailv (sb t) 16 := by
    have hc := sm_cong (tailv (sb t) 16)
    obtain ⟨p1, p2, p3, p4, p5⟩ := R
    obtain ⟨k, hk⟩ := hc
    omega
  have h := btailv_inj (dg_range x y) (sb_range t) e3 16 (Nat.le_refl _)
  apply ByteArray.ext
  apply Array.toList_inj.1
  apply List.ext_getElem
  · rw [← size_list, ← size_list, bwideB_size, h16]
  · intro i h1 h2
    have hi : i < 16 := by rw [← size_list, bwideB_size] at h1; exact h1
    have g1 := h i hi
    rw [← bsb_wideB x y i hi] at g1
    unfold sb at g1
    rw [List.getD_eq_getElem?_getD, List.getD_eq_getElem?_getD, List.getElem?_eq_getElem h1, List.getElem?_eq_getElem h2] at g1
    apply UInt8.toNat_inj.1
    have g2 : (((wideB x y).data.toList[i].toNat : Nat) : Int) = ((t.data.toList[i].toNat : Nat) : Int) := g1
    omega
/-- Sixteen bytes are those of the number that they are read as. -/
theorem wideL_dec {t : ByteArray} (h : t.size = 16) : tx (wideL (sm (tailv (sb t) 16))) = t :=
  bbytes_back h (wrep (sm_in _))
/-- What the document takes: the aggregate, and the reader then. -/
def rtakenA (S : ByteArray) : Ag × ByteArray × Bool :=
  let c := smallQ S false 1099511627776
  if 0 < c.1 then
    let m := midQ (c.2.1.extract 16 c.2.1.size)
    let s := stS m.2.2.2.2.1 m.2.2.2.2.2 9
    (⟨c.1, sm (tailv (sb (c.2.1.extract 0 16)) 16), m.1, m.2.1, m.2.2.1, m.2.2.2.1, fun i => smS m.2.2.2.2.1 m.2.2.2.2.2 i⟩, s.1, s.2)
  else (⟨c.1, 0, 0, 0, 0, ⟨0, 0, 0⟩, fun _ => 0⟩, c.2.1, c.2.2)
/-- There are not sixteen bytes where there should be. -/
def rshort (S : ByteArray) : Prop := 0 < (smallQ S false 1099511627776).1 ∧ (smallQ S false 1099511627776).2.1.size < 16
def rreadOk (S : ByteArray) : Prop := ¬ rshort S ∧ endQ (rtakenA S).2.1 (rtakenA S).2.2 = 0 ∧ okA (rtakenA S).1 = true
theorem endQ_zero {r : ByteArray} {b : Bool} (h : endQ r b = 0) : b = false ∧ r.data.toList = [] := by
  unfold endQ at h
  cases b with
  | true => simp at h
  | false =>
    rw [if_neg (by simp)] at h
    split at h
    · rename_i hz
      refine ⟨rfl, List.eq_nil_of_length_eq_zero ?_⟩
      rw [Array.length_toList]
      exact hz
    · simp at h
/-- What the document reads has just these bytes. -/
theorem doc_bytes {S : ByteArray} (h : rreadOk S) : S = tx (bytesA (rtakenA S).1) := by
  obtain ⟨hs, he, hok⟩ := h
  obtain ⟨⟨c, r1, b1⟩, hc⟩ : ∃ x, smallQ S false 1099511627776 = x := ⟨_, rfl⟩
  unfold rshort at hs
  rw [hc] at hs
  dsimp only at hs
  unfold rtakenA at he hok ⊢
  rw [hc] at he hok ⊢
  dsimp only at he hok ⊢
  by_cases h0 : 0 < c
  · rw [if_pos h0] at he hok ⊢
    have h16 : 16 ≤ r1.size := by
      rcases Nat.lt_or_ge r1.size 16 with h | h
      · exact absurd ⟨h0, h⟩ hs
      · exact h
    obtain ⟨⟨x, y, z, a, r4, b4⟩, hm⟩ : ∃ x, midQ (r1.extract 16 r1.size) = x := ⟨_, rfl⟩
    rw [hm] at he hok ⊢
    dsimp only at he hok ⊢
    obtain ⟨e1, e2⟩ := endQ_zero he
    obtain ⟨e3, e4, e5⟩ := stS_dec r4 b4 9 e1
    subst e3
    obtain ⟨hst, hr⟩ := mid_dec hm
    have hb1 : b1 = false := by
      cases b1 with
      | false => rfl
      | true =>
        exfalso
        have hi := (smallQ_inv hc (fun e => by cases e)).1 rfl
        rw [hi.1] at h16
        exact absurd h16 (by decide)
    subst hb1
    obtain ⟨-, c0, c1, hS⟩ := smallQ_dec hc
    unfold bytesA
    rw [if_pos hok]
    dsimp only
    rw [if_neg (by omega)]
    unfold headL
    dsimp only
    have hw := wideL_dec (t := r1.extract 0 16) (by simp; omega)
    have hwl : wideL (sm (tailv (sb (r1.extract 0 16)) 16)) = r1.data.toList.take 16 := by
      apply tx_inj
      rw [hw]
      apply list_inj
      simp [tx, ByteArray.data_extract]
    rw [hwl, hS]
    have hr2 : (r1.extract 16 r1.size).data.toList = r1.data.toList.drop 16 := by
      rw [ByteArray.data_extract, Array.toList_extract]
      apply List.take_of_length_le
      rw [List.length_drop, Array.length_toList]
      exact Nat.le_refl _
    have hr3 : r1.data.toList.drop 16 = encs [x, y, z] ++ (a.bytes ++ r4.data.toList) := by
      rw [← hr2, hr]; simp [tx]
    have hr5 : r4.data.toList = bksL (smS r4 false) 9 := by
      have : r4.data.toList = (tx (bksL (smS r4 false) 9 ++ (stS r4 false 9).1.data.toList)).data.toList := congrArg (fun t : ByteArray => t.data.toList) e4
      rw [e2, List.append_nil] at this
      rw [this]; simp [tx]
    have hr6 : r1.data.toList = r1.data.toList.take 16 ++ r1.data.toList.drop 16 := (List.take_append_drop 16 _).symm
    rw [hr5] at hr3
    rw [hr3] at hr6
    congr 1
    rw [List.append_assoc, List.append_assoc, List.append_assoc]
    congr 1
  · rw [if_neg h0] at he hok ⊢
    dsimp only at he hok ⊢
    obtain ⟨e1, e2⟩ := endQ_zero he
    subst e1
    obtain ⟨-, c0, c1, hS⟩ := smallQ_dec hc
    obtain rfl : c = 0 := by omega
    unfold bytesA
    rw [if_pos hok]
    dsimp only
    rw [if_pos rfl, hS, e2, List.append_nil]
    rfl
/-- What Bytes writes is what the document reads. -/
theorem rtaken_bytes {a : Ag} (ha : a.fits) (h : okA a = true) : ¬ rshort (tx (bytesA a)) ∧ endQ (rtakenA (tx (bytesA a))).2.1 (rtakenA (tx (bytesA a))).2.2 = 0 ∧ agV (rtakenA (tx (bytesA a))).1 = agV a := by
  rcases okA_cases h with hz | ⟨hn1, hn2, -, hb, hs⟩
  · have hn : a.n = 0 := hz.1
    have e : bytesA a = enc (0 : Int).toNat ++ [] := by
      unfold bytesA
      rw [if_pos h, if_pos hn, List.append_nil]
      rfl
    have hc := bsmallQ_enc 0 1099511627776 [] (by omega) (by omega) (by omega)
    rw [e]
    unfold rshort rtakenA
    rw [hc]
    dsimp only
    rw [if_neg (by omega)]
    refine ⟨fun h => absurd h.1 (by omega), by rfl, ?_⟩
    rw [same_agV hz]
    rfl
  · obtain ⟨hbg, -⟩ := bOk_iff.1 hb
    have hb2 : ∀ k, 0 ≤ k → k < 0 + 9 → 0 ≤ a.b k ∧ a.b k ≤ 1099511627776 := fun k _ hk => by
      have := hbg k (by omega); unfold bGood at this; omega
    have hn0 : ¬ a.n = 0 := by omega
    have el : bytesA a = enc a.n.toNat ++ (wideL a.s ++ (encs [a.mn, a.mx, a.la] ++ (a.st.bytes ++ sufL a.b 9 0))) := by
      unfold bytesA
      rw [if_pos h, if_neg hn0, bks_suf]
      unfold headL
      simp only [List.append_assoc]
    obtain ⟨M, hM⟩ : ∃ M, encs [a.mn, a.mx, a.la] ++ (a.st.bytes ++ sufL a.b 9 0) = M := ⟨_, rfl⟩
    have hmid := mid_back a ha hs (sufL a.b 9 0)
    rw [hM] at hmid el
    have hc := bsmallQ_enc a.n 1099511627776 (wideL a.s ++ M) (by omega) hn2 (by omega)
    have hsz : (tx (wideL a.s ++ M)).size = 16 + M.length := by rw [tx_size, List.length_append, wideL_len]
    have x1 : (tx (wideL a.s ++ M)).extract 0 16 = tx (wideL a.s) := by
      rw [btx_part, List.drop_zero, Nat.sub_zero, List.take_left' (wideL_len a.s)]
    have x2 : (tx (wideL a.s ++ M)).extract 16 (tx (wideL a.s ++ M)).size = tx M := by
      rw [btx_part, hsz, List.drop_left' (wideL_len a.s), List.take_of_length_le (by omega)]
    rw [el]
    unfold rshort rtakenA
    rw [hc]
    dsimp only
    rw [if_pos (by omega), x1, x2, hmid, wideL_back ha.s, hsz]
    dsimp only
    rw [stS_suf a.b 9 0 hb2 9 (by omega)]
    refine ⟨fun h => absurd h.2 (by omega), by rfl, ?_⟩
    have hbk : ∀ i, i < 9 → smS (tx (sufL a.b 9 0)) false i = a.b i := fun i hi => by
      rw [smS_suf a.b 9 0 hb2 i hi, Nat.zero_add]
    unfold agV
    dsimp only
    rw [hbk 0 (by omega), hbk 1 (by omega), hbk 2 (by omega), hbk 3 (by omega), hbk 4 (by omega), hbk 5 (by omega), hbk 6 (by omega), hbk 7 (by omega), hbk 8 (by omega)]
theorem rtaken_fits (S : ByteArray) : (rtakenA S).1.fits := by
  unfold rtakenA
  dsimp only
  split
  · obtain ⟨v1, r1, b1, v2, r2, b2, v3, r3, b3, a, r4, b4, q1, q2, q3, q4, hmid⟩ := midQ_parts ((smallQ S false 1099511627776).2.1.extract 16 (smallQ S false 1099511627776).2.1.size)
    rw [hmid]
    have k1 := numQ_bounds q1
    have k2 := numQ_bounds q2
    have k3 := numQ_bounds q3
    have hsm : ∀ (r : ByteArray) (b : Bool), -9223372036854775808 ≤ (smallQ r b 1099511627776).1 ∧ (smallQ r b 1099511627776).1 ≤ 9223372036854775807 := fun r b => by
      unfold smallQ
      split
      · simp
      · split
        · simp
        · split
          · rename_i hm; dsimp only; omega
          · simp
    exact ⟨hsm _ _, sm_in _, zag_bounds v1 k1.1 k1.2.1, zag_bounds v2 k2.1 k2.2.1, zag_bounds v3 k3.1 k3.2.1, fun i => hsm _ _⟩
  · rename_i h0
    have hz : (smallQ S false 1099511627776).1 = 0 := by
      unfold smallQ at h0 ⊢
      split
      · rfl
      · split
        · rfl
        · split
          · rename_i hm; simp_all
          · rfl
    rw [hz]
    exact zero_fits
/-- Both read alike. -/
theorem read_alike (S : ByteArray) : (readOk S ∧ rreadOk S ∧ agV (takenA S) = agV (rtakenA S).1) ∨ (¬ readOk S ∧ ¬ rreadOk S) := by
  by_cases h : rreadOk S
  · have hS := doc_bytes h
    have hf := rtaken_fits S
    have ht := taken_bytes hf h.2.2
    rw [← hS] at ht
    have hs := same_of_agV ht
    refine Or.inl ⟨⟨?_, ?_⟩, h, ht⟩
    · unfold errA; rw [if_pos (same_ok hs h.2.2)]
    · rw [same_bytes hs h.2.2]; exact hS.symm
  · refine Or.inr ⟨fun hr => h ?_, h⟩
    obtain ⟨h1, h2⟩ := hr
    have hok : okA (takenA S) = true := by
      unfold errA at h1
      split at h1
      · assumption
      · cases h1
    obtain ⟨g1, g2, g3⟩ := rtaken_bytes (takenA_fits S) hok
    rw [h2] at g1 g2 g3
    exact ⟨g1, g2, same_ok (same_of_agV g3) hok⟩
open Classical in
/-- The document's answer. -/
noncomputable def rreadA (S : ByteArray) : Ag × Int := if rreadOk S then ((rtakenA S).1, 0) else (Ag.zero, 10)
theorem answers (S : ByteArray) : agV (readA S).1 = agV (rreadA S).1 ∧ (readA S).2 = (rreadA S).2 := by
  unfold rreadA
  rcases read_alike S with ⟨h1, h2, h3⟩ | ⟨h1, h2⟩
  · rw [readA_yes h1, if_pos h2]; exact ⟨h3, rfl⟩
  · rw [readA_no h1, if_neg h2]; exact ⟨rfl, rfl⟩
end Go.Proofs.Ytipjhlabcbkgjaa.Ag
