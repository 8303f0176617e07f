/- What is written is read again: the mathematics of it. -/
import Derived.Test.YtipjhlabcbkgjaaAggRead
set_option maxRecDepth 20000
namespace Go.Proofs.Ytipjhlabcbkgjaa.Ag
open Go.RowKit Go.Proofs.Ytipjhlabcbkgjaa Go.Proofs.Ytipjhlabcbkgjaa.Wd Go.Proofs.Ytipjhlabcbkgjaa.Vi Go.Proofs.Ytipjhlabcbkgjaa.Mk

theorem bnumF_enc (n : Nat) (rest : List UInt8) (hn : n < 18446744073709551616) : numF (tx (enc n ++ rest)) = some (n, tx rest) := by
  have e : (tx (enc n ++ rest)).data.toList = enc n ++ rest := by simp [tx]
  have hg := getL_enc n 0 rest (by omega) (by show n < 18446744073709551616; exact hn) (by omega)
  have h2 : restB (tx (enc n ++ rest)) (enc n).length = tx rest := by
    apply list_inj
    rw [restB_list, e]; simp [tx]
  unfold numF
  rw [e, hg]
  simp only [h2]
theorem bnumQ_enc (z : Nat) (hz : z < 18446744073709551616) (q : List UInt8) : numQ (tx (enc z ++ q)) false = ((z : Int), tx q, false) := by
  unfold numQ
  rw [if_neg (by simp), bnumF_enc z q hz]
theorem bsmallQ_enc (x m : Int) (rest : List UInt8) (h0 : 0 ≤ x) (h1 : x ≤ m) (h2 : m ≤ 1099511627776) : smallQ (tx (enc x.toNat ++ rest)) false m = (x, tx rest, false) := by
  unfold smallQ
  rw [if_neg (by simp), bnumF_enc _ _ (by omega)]
  simp only
  rw [if_pos (by omega)]
  rw [Int.toNat_of_nonneg h0]
theorem btakeQ_enc (a : St) (rest : List UInt8) (h : a.ok = true) : takeQ (tx (a.bytes ++ rest)) false = (a, tx rest, false) := by
  obtain ⟨b1, b2, b3, b4, b5, b6⟩ := St.ok_iff.1 h
  have e1 := bsmallQ_enc a.c 1099511627776 (enc a.s.toNat ++ (enc a.q.toNat ++ rest)) (by omega) (by omega) (by omega)
  have e2 := bsmallQ_enc a.s 7 (enc a.q.toNat ++ rest) (by omega) (by omega) (by omega)
  have e3 := bsmallQ_enc a.q 1099511627776 rest (by omega) (by omega) (by omega)
  have e0 : a.bytes ++ rest = enc a.c.toNat ++ (enc a.s.toNat ++ (enc a.q.toNat ++ rest)) := by rw [St.bytes_yes h]; simp [List.append_assoc]
  unfold takeQ
  simp only [e0, e1, e2, e3]
  rw [if_pos h]
theorem btx_part (s : List UInt8) (l r : Nat) : (tx s).extract l r = tx ((s.drop l).take (r - l)) := by
  apply ByteArray.ext
  apply Array.toList_inj.1
  simp [tx, ByteArray.data_extract]
/-- The numbers from the i'th on. -/
def sufL (f : Nat → Int) : Nat → Nat → List UInt8
  | 0, _ => []
  | c + 1, i => enc (f i).toNat ++ sufL f c (i + 1)
theorem bks_suf (f : Nat → Int) : bksL f 9 = sufL f 9 0 := by
  simp [bksL, sufL, List.append_assoc]
theorem stN_suf (f : Nat → Int) (c i : Nat) (hf : ∀ k, i ≤ k → k < i + c → 0 ≤ f k ∧ f k ≤ 1099511627776) : ∀ j, j ≤ c → stN (tx (sufL f c i)) false j = (tx (sufL f (c - j) (i + j)), false)
  | 0, _ => rfl
  | j + 1, hj => by
    have ih := stN_suf f c i hf j (by omega)
    have h := hf (i + j) (by omega) (by omega)
    obtain ⟨m, hm⟩ : ∃ m, c - j = m + 1 := ⟨c - j - 1, by omega⟩
    show (numQ (stN (tx (sufL f c i)) false j).1 (stN (tx (sufL f c i)) false j).2).2 = _
    rw [ih, hm]
    show (numQ (tx (enc (f (i + j)).toNat ++ sufL f m (i + j + 1))) false).2 = _
    rw [bnumQ_enc _ (by omega), show c - (j + 1) = m by omega, Nat.add_assoc]
theorem nmN_suf (f : Nat → Int) (c i : Nat) (hf : ∀ k, i ≤ k → k < i + c → 0 ≤ f k ∧ f k ≤ 1099511627776) (j : Nat) (hj : j < c) : nmN (tx (sufL f c i)) false j = f (i + j) := by
  have ih := stN_suf f c i hf j (by omega)
  have h := hf (i + j) (by omega) (by omega)
  obtain ⟨m, hm⟩ : ∃ m, c - j = m + 1 := ⟨c - j - 1, by omega⟩
  show (numQ (stN (tx (sufL f c i)) false j).1 (stN (tx (sufL f c i)) false j).2).1 = _
  rw [ih, hm]
  show (numQ (tx (enc (f (i + j)).toNat ++ sufL f m (i + j + 1))) false).1 = _
  rw [bnumQ_enc _ (by omega)]
  show (((f (i + j)).toNat : Nat) : Int) = f (i + j)
  omega
theorem wideL_len (s : Int) : (wideL s).length = 16 := by simp [wideL]
theorem wideL_back {s : Int} (h : InW s) : sm (tailv (sb (tx (wideL s))) 16) = s := by
  have e : tailv (sb (tx (wideL s))) 16 = tailv (dg (wh s) (wl s)) 16 := tailv_congr 16 (fun m hm => by
    unfold sb
    have : (tx (wideL s)).data.toList.getD (15 - m) 0 = UInt8.ofNat (dg (wh s) (wl s) (15 - m)).toNat := by
      unfold wideL
      rw [List.getD_eq_getElem?_getD]
      simp [tx, show 15 - m < 16 by omega]
    rw [this, dg_byte])
  rw [e, sm_eq (tailv_dg (wrep h)), sm_self h]
theorem zz_back (n : Int) (h : -9223372036854775808 ≤ n ∧ n ≤ 9223372036854775807) (q : List UInt8) : ∃ v, numQ (tx (enc (zig n).toNat ++ q)) false = (v, tx q, false) ∧ zag v = n := by
  have hb := zig_bounds n h.1 h.2
  refine ⟨((zig n).toNat : Int), bnumQ_enc _ (by omega) q, ?_⟩
  rw [Int.toNat_of_nonneg hb.1, zag_zig]
theorem mid_back (a : Ag) (ha : a.fits) (hs : a.st.ok = true) (q : List UInt8) : midQ (tx (encs [a.mn, a.mx, a.la] ++ (a.st.bytes ++ q))) = (a.mn, a.mx, a.la, a.st, tx q, false) := by
  have e : encs [a.mn, a.mx, a.la] ++ (a.st.bytes ++ q) = enc (zig a.mn).toNat ++ (enc (zig a.mx).toNat ++ (enc (zig a.la).toNat ++ (a.st.bytes ++ q))) := by simp [encs, List.append_assoc]
  rw [e]
  obtain ⟨v1, h1, z1⟩ := zz_back a.mn ha.mn (enc (zig a.mx).toNat ++ (enc (zig a.la).toNat ++ (a.st.bytes ++ q)))
  obtain ⟨v2, h2, z2⟩ := zz_back a.mx ha.mx (enc (zig a.la).toNat ++ (a.st.bytes ++ q))
  obtain ⟨v3, h3, z3⟩ := zz_back a.la ha.la (a.st.bytes ++ q)
  have h4 := btakeQ_enc a.st q hs
  unfold midQ
  simp only [h1, h2, h3, h4, z1, z2, z3]
theorem same_agV {a b : Ag} (h : AgSame a b) : agV a = agV b := by
  obtain ⟨h1, h2, h3, h4, h5, h6, h7, h8, h9, hb⟩ := h
  obtain ⟨b0, b1, b2, b3, b4, b5, b6, b7, b8⟩ := hb
  unfold agV
  rw [h1, h2, h3, h4, h5, h6, h7, h8, h9, b0, b1, b2, b3, b4, b5, b6, b7, b8]
theorem okA_cases {a : Ag} (h : okA a = true) : AgSame a Ag.zero ∨ (1 ≤ a.n ∧ a.n ≤ 1099511627776 ∧ vOk a = true ∧ bOk a = true ∧ a.st.ok = true) := by
  unfold okA at h
  rw [Bool.or_eq_true, Bool.and_eq_true, Bool.and_eq_true, Bool.and_eq_true, decide_eq_true_eq, decide_eq_true_eq] at h
  rcases h with h | ⟨h1, h2, h3, h4⟩
  · exact Or.inl h
  · exact Or.inr ⟨h1.1, h1.2, h2, h3, h4⟩
/-- What Bytes writes is what taken takes. -/
theorem taken_bytes {a : Ag} (ha : a.fits) (h : okA a = true) : agV (takenA (tx (bytesA a))) = agV a := by
  rcases okA_cases h with hz | ⟨hn1, hn2, -, hb, hs⟩
  · rw [same_agV hz]
    have hn : a.n = 0 := hz.1
    unfold bytesA
    rw [if_pos h, if_pos hn]
    unfold takenA
    dsimp only
    have hg := getR_some (getL_enc 0 0 [] (by omega) (by decide) (by omega))
    rw [List.append_nil] at hg
    have hd : (tx (enc 0)).data.toList = enc 0 := by simp [tx]
    rw [if_pos (Or.inl (by rw [hd, hg]; rfl))]
  · obtain ⟨hbg, -⟩ := bOk_iff.1 hb
    have hb2 : ∀ k, 0 ≤ k → k < 0 + 9 → 0 ≤ a.b k ∧ a.b k ≤ 1099511627776 := fun k _ hk => by
      have := hbg k (by omega); unfold bGood at this; omega
    have hn0 : ¬ a.n = 0 := by omega
    have el : bytesA a = enc a.n.toNat ++ (wideL a.s ++ (encs [a.mn, a.mx, a.la] ++ (a.st.bytes ++ sufL a.b 9 0))) := by
      unfold bytesA
      rw [if_pos h, if_neg hn0, bks_suf]
      unfold headL
      simp only [List.append_assoc]
    obtain ⟨M, hM⟩ : ∃ M, encs [a.mn, a.mx, a.la] ++ (a.st.bytes ++ sufL a.b 9 0) = M := ⟨_, rfl⟩
    have hmid := mid_back a ha hs (sufL a.b 9 0)
    rw [hM] at hmid el
    rw [el]
    have hg := getR_some (getL_enc a.n.toNat 0 (wideL a.s ++ M) (by omega) (by show a.n.toNat < 18446744073709551616; omega) (by omega))
    have hd : (tx (enc a.n.toNat ++ (wideL a.s ++ M))).data.toList = enc a.n.toNat ++ (wideL a.s ++ M) := by simp [tx]
    have hsz : (tx (enc a.n.toNat ++ (wideL a.s ++ M))).size = (enc a.n.toNat).length + (16 + M.length) := by rw [tx_size, List.length_append, List.length_append, wideL_len]
    have x1 : (tx (enc a.n.toNat ++ (wideL a.s ++ M))).extract (enc a.n.toNat).length ((enc a.n.toNat).length + 16) = tx (wideL a.s) := by
      rw [btx_part, List.drop_left, Nat.add_sub_cancel_left, List.take_left' (wideL_len a.s)]
    have x2 : (tx (enc a.n.toNat ++ (wideL a.s ++ M))).extract ((enc a.n.toNat).length + 16) (tx (enc a.n.toNat ++ (wideL a.s ++ M))).size = tx M := by
      rw [btx_part, hsz, ← List.drop_drop, List.drop_left, List.drop_left' (wideL_len a.s), List.take_of_length_le (by omega)]
    unfold takenA
    rw [hd, hg]
    dsimp only
    rw [if_neg (by rw [hsz]; push_cast; omega), Int.toNat_natCast, x1, x2, hmid, wideL_back ha.s, Int.toNat_of_nonneg (by omega), w64_self ha.n]
    dsimp only
    have hbk : ∀ i, i < 9 → w64 (nmN (tx (sufL a.b 9 0)) false i) = a.b i := fun i hi => by
      rw [nmN_suf a.b 9 0 hb2 i hi, Nat.zero_add, w64_self (ha.b i)]
    unfold agV
    dsimp only
    rw [hbk 0 (by omega), hbk 1 (by omega), hbk 2 (by omega), hbk 3 (by omega), hbk 4 (by omega), hbk 5 (by omega), hbk 6 (by omega), hbk 7 (by omega), hbk 8 (by omega)]
theorem same_of_agV {g a : Ag} (h : agV g = agV a) : AgSame g a := by
  unfold agV at h
  simp only [Value.agg.injEq, Array.mk.injEq, List.cons.injEq, Value.int.injEq, true_and, and_true] at h
  obtain ⟨h1, h2, h3, h4, h5, h6, h7, h8, h9, b0, b1, b2, b3, b4, b5, b6, b7, b8⟩ := h
  exact ⟨h1, h2, h3, h4, h5, h6, h7, h8, h9, b0, b1, b2, b3, b4, b5, b6, b7, b8⟩
theorem same_at {g a : Ag} (h : AgSame g a) (k : Nat) (hk : k < 9) : g.b k = a.b k := by
  obtain ⟨-, -, -, -, -, -, -, -, -, g0, g1, g2, g3, g4, g5, g6, g7, g8⟩ := h
  have hc : k = 0 ∨ k = 1 ∨ k = 2 ∨ k = 3 ∨ k = 4 ∨ k = 5 ∨ k = 6 ∨ k = 7 ∨ k = 8 := by omega
  rcases hc with rfl | rfl | rfl | rfl | rfl | rfl | rfl | rfl | rfl <;> assumption
theorem same_trans {g a c : Ag} (h : AgSame g a) (k : AgSame a c) : AgSame g c := same_of_agV ((same_agV h).trans (same_agV k))
theorem acc_congr {f g : Nat → Int} (k : Nat) (h : ∀ i, i < k → f i = g i) : accB f k = accB g k := by
  induction k with
  | zero => rfl
  | succ k ih => unfold accB; rw [ih (fun i hi => h i (by omega)), h k (by omega)]
theorem bksL_congr {f g : Nat → Int} (k : Nat) (h : ∀ i, i < k → f i = g i) : bksL f k = bksL g k := by
  induction k with
  | zero => rfl
  | succ k ih => unfold bksL; rw [ih (fun i hi => h i (by omega)), h k (by omega)]
theorem same_fields {g a : Ag} (h : AgSame g a) : g.n = a.n ∧ g.s = a.s ∧ g.mn = a.mn ∧ g.mx = a.mx ∧ g.la = a.la ∧ g.st = a.st := by
  obtain ⟨h1, h2, h3, h4, h5, h6, h7, h8, h9, -⟩ := h
  refine ⟨h1, wh_wl_inj h2 h3, h4, h5, h6, ?_⟩
  cases hg : g.st
  cases ha : a.st
  rw [hg, ha] at h7 h8 h9
  dsimp only at h7 h8 h9
  rw [h7, h8, h9]
theorem same_ok {g a : Ag} (h : AgSame g a) (ha : okA a = true) : okA g = true := by
  obtain ⟨e1, e2, e3, e4, e5, e6⟩ := same_fields h
  unfold okA
  rw [Bool.or_eq_true, Bool.and_eq_true, Bool.and_eq_true, Bool.and_eq_true, decide_eq_true_eq, decide_eq_true_eq]
  rcases okA_cases ha with hz | ⟨h1, h2, hv, hb, hs⟩
  · exact Or.inl (same_trans h hz)
  · refine Or.inr ⟨by rw [e1]; exact ⟨h1, h2⟩, ?_, ?_, by rw [e6]; exact hs⟩
    · unfold vOk at hv ⊢; rw [e1, e2, e3, e4, e5]; exact hv
    · obtain ⟨k1, k2, k3, k4⟩ := bOk_iff.1 hb
      refine bOk_iff.2 ⟨fun i hi => ?_, ?_, ?_, ?_⟩
      · have := k1 i hi; unfold bGood at this ⊢; rw [same_at h i hi, e1, e3, e4]; exact this
      · rw [acc_congr 9 (fun i hi => same_at h i hi), e1]; exact k2
      · rw [e3, same_at h _ (by have := bk_le a.mn; have := bk_le a.mx; omega)]; exact k3
      · rw [e4, same_at h _ (by have := bk_le a.mn; have := bk_le a.mx; omega)]; exact k4
theorem same_bytes {g a : Ag} (h : AgSame g a) (ha : okA a = true) : bytesA g = bytesA a := by
  obtain ⟨e1, e2, e3, e4, e5, e6⟩ := same_fields h
  unfold bytesA headL
  rw [if_pos ha, if_pos (same_ok h ha), e1, e2, e3, e4, e5, e6, bksL_congr 9 (fun i hi => same_at h i hi)]
theorem bytesA_len {a : Ag} (hf : a.fits) : (bytesA a).length ≤ 1000 := by
  unfold bytesA
  split
  · rename_i h
    rcases okA_cases h with hz | ⟨hn1, hn2, -, hb, hs⟩
    · rw [if_pos (show a.n = 0 from hz.1)]
      have := enc_len10 0 (by omega)
      omega
    · obtain ⟨hbg, -⟩ := bOk_iff.1 hb
      split
      · have := enc_len10 0 (by omega)
        omega
      · have h1 := bksL_len a.b 9 (fun i hi => by have := hbg i (by omega); unfold bGood at this; exact ⟨this.1, this.2.1⟩) hn2
        have h2 := stB_len hs
        have h3 := enc_len10 a.n.toNat (by omega)
        have z1 := zig_bounds a.mn hf.mn.1 hf.mn.2
        have z2 := zig_bounds a.mx hf.mx.1 hf.mx.2
        have z3 := zig_bounds a.la hf.la.1 hf.la.2
        have h4 := enc_len10 (zig a.mn).toNat (by omega)
        have h5 := enc_len10 (zig a.mx).toNat (by omega)
        have h6 := enc_len10 (zig a.la).toNat (by omega)
        have h7 : (encs [a.mn, a.mx, a.la]).length = (enc (zig a.mn).toNat).length + ((enc (zig a.mx).toNat).length + (enc (zig a.la).toNat).length) := by simp [encs, List.length_append]
        unfold headL
        rw [List.length_append, List.length_append, List.length_append, List.length_append, wideL_len, h7]
        omega
  · simp
/-- What Read makes of it. -/
theorem read_back {a : Ag} (ha : a.fits) (h : okA a = true) : ∃ g, readA (tx (bytesA a)) = (g, 0) ∧ agV g = agV a := by
  have hg := taken_bytes ha h
  have hs := same_of_agV hg
  refine ⟨takenA (tx (bytesA a)), readA_yes ⟨?_, ?_⟩, hg⟩
  · unfold errA; rw [if_pos (same_ok hs h)]
  · rw [same_bytes hs h]
end Go.Proofs.Ytipjhlabcbkgjaa.Ag
