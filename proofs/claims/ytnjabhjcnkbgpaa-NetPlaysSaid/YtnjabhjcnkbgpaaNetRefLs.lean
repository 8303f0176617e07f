/- The document's network: lists of messages by a test. -/
import Derived.Test.YtnjabhjcnkbgpaaNetRefIs
set_option maxRecDepth 20000
set_option linter.unusedSimpArgs false
set_option linter.unusedVariables false
namespace Go.Proofs.Ytnjabhjcnkbgpaa
open Go.RowKit

/-- A message appended, in a plain region. -/
theorem wpList_mail {w : World} {ops : Array Oper} {rest : List Oper} {o : Oper} {a : Act} {Q : Exit → Act → World → Prop} (hgd : o.guard = none) (sl x : Operand)
    (ho : o.op = .call { callee := .builtin .append, args := #[sl, x], argTypes := #[27, 27] })
    (B : Nat) (v : Value) (l : List Ml) (m : Ml) (hs : a.eval sl = v) (hx : a.eval x = .slice (some ⟨w.heap.size, 0, none⟩) 1 1) (hown : MRow w B v l) (hB : B ≤ w.heap.size) (hl : l.length ≤ 2000)
    (h : ∀ v' w', MRow w' B v' (l ++ [m]) → w.grownBy w' v.ownBlock → (∀ k, v'.ownBlock = some k → v.ownBlock = some k ∨ w.heap.size ≤ k) → wpList Try.prog ops Q rest (a.put o.dst v') w') : wpList Try.prog ops Q (o :: rest) a (w.alloc (.cells #[.int .i64 m.n, .int .i64 m.f, .int .i64 m.t, .string m.s, .int .i64 m.a] 34)) := by
  obtain ⟨i0, hi, hz0, hz1, hz2⟩ := info_parts infoM
  have hr := hown.later (bel_al w (.cells #[.int .i64 m.n, .int .i64 m.f, .int .i64 m.t, .string m.s, .int .i64 m.a] 34))
  refine wpList_append_own_at (w := w.alloc (.cells #[.int .i64 m.n, .int .i64 m.f, .int .i64 m.t, .string m.s, .int .i64 m.a] 34)) hgd sl x 27 ho B 34 i0 _ 5 48 Try.underlying27 hi hz0 hz1 hz2 rfl (by decide) v l.length _ hs hr ⟨w.heap.size, 0, none⟩ 1 1 (mcells m) hx rfl (mat_src (mat_new w m)) ?_ (by unfold maxLen; omega) (by omega) (by simp; omega) ?_
  · intro u hu; exact mcells_one (l := [m]) (by simpa using hu)
  · intro v' w' h2 h3 _ h4
    refine h v' w' ?_ (World.grownBy.trans (World.grownBy_alloc w _ _) h3) fun k hk => ?_
    · unfold MRow
      rw [List.length_append, List.flatMap_append, List.flatMap_cons, List.flatMap_nil, List.append_nil]
      exact h2
    · rcases h4 with h4 | h4
      · rw [h4] at hk; exact Or.inl hk
      · rw [h4] at hk; injection hk with hk; right; simp at hk; omega
theorem filt_yes {p : Ml → Bool} {l : List Ml} {k : Nat} {m : Ml} (h : k < l.length) (hm : l[k] = m) (hp : p m = true) : (l.take (k + 1)).filter p = (l.take k).filter p ++ [m] := by
  rw [List.take_succ_eq_append_getElem h, List.filter_append, hm, List.filter_cons, if_pos hp, List.filter_nil]
theorem filt_no {p : Ml → Bool} {l : List Ml} {k : Nat} {m : Ml} (h : k < l.length) (hm : l[k] = m) (hp : p m = false) : (l.take (k + 1)).filter p = (l.take k).filter p := by
  rw [List.take_succ_eq_append_getElem h, List.filter_append, hm, List.filter_cons, if_neg (by rw [hp]; decide), List.filter_nil, List.append_nil]
section
variable {w : World} {B r : Nat} {VL VP : Value} {R : RN}
set_option maxHeartbeats 4000000 in
theorem rready_is (h : RAt w B r VL VP R) : Calls Try.prog 30 #[.pointer (some ⟨r, 0, none⟩)] w fun e w' => ∃ v, e = .returned v ∧ MRow w' w.heap.size v (R.mail.filter (fun m => !isP R.ps m.f m.t)) ∧ Below w.heap.size w w' := by
  obtain ⟨la, lc, rfl⟩ := h.rowL.slice
  obtain ⟨n, hn⟩ : ∃ n, R.mail.length = n := ⟨_, rfl⟩
  have HN := Lib.hid hn
  have hlm := h.len
  rw [hn] at h hlm
  try rw [hn]
  have H := Lib.hid h
  clear h hn
  go_enter Try.func30, Try.ntmps30
  go_wp2
  go_loopw [3, 4] (fun u i wr => ∃ k : Nat, k ≤ n ∧ i = .int .i64 (k : Int) ∧ MRow wr w.heap.size u ((R.mail.take k).filter (fun m => !isP R.ps m.f m.t)) ∧ Below w.heap.size w wr) (fun _ i _ => n - (intOf i).toNat)
  case atStart => exact ⟨0, by omega, rfl, by rw [List.take_zero]; exact MRow.nil _ _, Below.refl _ _⟩
  case round =>
    obtain ⟨k, hk, rfl, hrow, hbel⟩ := hrel
    obtain ⟨w3, hw3⟩ : ∃ x, x = wr := ⟨_, rfl⟩
    subst hw3
    obtain ⟨ua, uc, rfl⟩ := hrow.slice
    obtain ⟨un, hun⟩ : ∃ n, ((R.mail.take k).filter (fun m => !isP R.ps m.f m.t)).length = n := ⟨_, rfl⟩
    have hunk : un ≤ 2000 := by
      have := List.length_filter_le (fun m => !isP R.ps m.f m.t) (R.mail.take k)
      rw [List.length_take] at this; omega
    rw [hun] at hrow ⊢
    have HUN := Lib.hid hun
    have HROW := Lib.hid hrow
    have HB := Lib.hid hbel
    have h3 := H.out.later hbel
    have H3 := Lib.hid h3
    obtain ⟨c0, c1, c2, -⟩ := h3.c0
    have hsz := hbel.size
    clear hrow hbel hun
    by_cases hkn : k < n
    · have hki : (k : Int) < (n : Int) := by omega
      have hkw : IntKind.i64.wrap ((k : Int) + 1) = (k : Int) + 1 := by rw [IntKind.wrap_i64]; omega
      have hkl : k < R.mail.length := by rw [HN.out]; exact hkn
      obtain ⟨m, hm⟩ : ∃ m, R.mail[k] = m := ⟨_, rfl⟩
      obtain ⟨g, rfl, -, -, hgl, -, hat⟩ := h3.rowL.block (by omega)
      obtain ⟨m0, m1, m2, m3, m4⟩ := hat k hkl
      rw [hm] at m0 m1 m2 m3 m4
      have HC := Lib.hid (fun (W : World) (hB : Below w3.heap.size w3 W) => show W.cell? ⟨r, 0, none⟩ = some (.slice (some ⟨g, 0, none⟩) n lc) ∧ MAt W g (k * 5) m from
        ⟨(hB.cell (p := ⟨r, 0, none⟩) h3.lt).trans c0, ⟨(hB.cell (p := ⟨g, k * 5, none⟩) hgl).trans m0, (hB.cell (p := ⟨g, k * 5 + 1, none⟩) hgl).trans m1, (hB.cell (p := ⟨g, k * 5 + 2, none⟩) hgl).trans m2, (hB.cell (p := ⟨g, k * 5 + 3, none⟩) hgl).trans m3, (hB.cell (p := ⟨g, k * 5 + 4, none⟩) hgl).trans m4⟩⟩)
      have HYES := Lib.hid (fun (hp : (fun m => !isP R.ps m.f m.t) m = true) => filt_yes (p := (fun m => !isP R.ps m.f m.t)) hkl hm hp)
      have HNO := Lib.hid (fun (hp : (fun m => !isP R.ps m.f m.t) m = false) => filt_no (p := (fun m => !isP R.ps m.f m.t)) hkl hm hp)
      have HM := Lib.hid (show m ∈ R.mail by rw [← hm]; exact List.getElem_mem hkl)
      have KI := Lib.hid (fun (W : World) (hB : Below w3.heap.size w3 W) => is_is m.f m.t (h3.later hB))
      have ki := KI.out w3.drew (Below.refl _ _).drew
      have e0 := HC.out w3.drew (Below.refl _ _).drew
      obtain ⟨q, hq⟩ : ∃ q, isP R.ps m.f m.t = q := ⟨_, rfl⟩
      rw [hq] at ki
      have HQ := Lib.hid hq
      clear h3 hq
      clear hat hm hkl hkn
      cases hpv : (fun m => !isP R.ps m.f m.t) m with
      | true =>
        have HY := Lib.hid (HYES.out hpv)
        obtain rfl : q = false := by have := HQ.out; rw [← this]; simpa using hpv
        clear hpv
        go_upto_region 5 with fail
        go_region_with (go_at_call 35; (refine ki.mono ?_); rintro e w4 ⟨rfl, hB4⟩; (have hb4 := (show Below w3.heap.size w3 w4 from (Below.refl _ _).drew.trans hB4)); (obtain ⟨d0, n0, n1, n2, n3, n4⟩ := HC.out w4 hb4); (have HB4 := Lib.hid (bel_next HB.out hb4)); (have HR4 := Lib.hid (HROW.out.later hb4)); clear hB4 hb4 ki)
        all_goals clear m0 m1 m2 m3 m4 c0
        all_goals go_wp2_with (at_builtin; refine wpList_mail (w := w4) rfl _ _ rfl w.heap.size (.slice ua un uc) _ m rfl rfl HR4.out HB4.out.size (by rw [HUN.out]; omega) ?_; intro v5 w5 hR5 hg5 hs5; (have HB5 := Lib.hid (HB4.out.trans (grown_below hg5 HR4.out (Nat.le_refl _) HB4.out.size))); (have HR5 := Lib.hid hR5); clear hg5 hs5 hR5)
        all_goals go_roundw
        all_goals (first | (simp [intOf]; omega) | exact ⟨k + 1, by omega, by go_num, by rw [HY.out]; exact HR5.out, HB5.out⟩)
      | false =>
        have HY := Lib.hid (HNO.out hpv)
        obtain rfl : q = true := by have := HQ.out; rw [← this]; simpa using hpv
        clear hpv
        go_upto_region 5 with fail
        go_region_with (go_at_call 35; (refine ki.mono ?_); rintro e w4 ⟨rfl, hB4⟩; (have hb4 := (show Below w3.heap.size w3 w4 from (Below.refl _ _).drew.trans hB4)); (obtain ⟨d0, n0, n1, n2, n3, n4⟩ := HC.out w4 hb4); (have HB4 := Lib.hid (bel_next HB.out hb4)); (have HR4 := Lib.hid (HROW.out.later hb4)); clear hB4 hb4 ki)
        all_goals clear m0 m1 m2 m3 m4 c0
        all_goals go_wp2
        all_goals go_roundw
        all_goals (first | (simp [intOf]; omega) | exact ⟨k + 1, by omega, by go_num, by rw [HY.out]; exact HR4.out, HB4.out⟩)
    · have hki : ¬ (k : Int) < (n : Int) := by omega
      obtain rfl : k = n := by omega
      have HT := Lib.hid (show (R.mail.take k).filter (fun m => !isP R.ps m.f m.t) = R.mail.filter (fun m => !isP R.ps m.f m.t) by rw [List.take_of_length_le (l := R.mail) (by rw [HN.out]; exact Nat.le_refl _)])
      clear hkn
      go_wp2
      go_ret
      exact ⟨_, rfl, by rw [← HT.out]; exact HROW.out, HB.out⟩
set_option maxHeartbeats 4000000 in
theorem rwithout_is (id : Int) (h : RAt w B r VL VP R) : Calls Try.prog 40 #[.pointer (some ⟨r, 0, none⟩), .int .i64 id] w (RDone B r VL VP { R with mail := R.mail.filter (fun m => !(m.n == id)) } (.tuple #[]) w) := by
  obtain ⟨la, lc, rfl⟩ := h.rowL.slice
  obtain ⟨n, hn⟩ : ∃ n, R.mail.length = n := ⟨_, rfl⟩
  have HN := Lib.hid hn
  have hlm := h.len
  rw [hn] at h hlm
  try rw [hn]
  have H := Lib.hid h
  clear h hn
  go_enter Try.func40, Try.ntmps40
  go_wp2
  go_loopw [4, 5] (fun u i wr => ∃ k : Nat, k ≤ n ∧ i = .int .i64 (k : Int) ∧ MRow wr w.heap.size u ((R.mail.take k).filter (fun m => !(m.n == id))) ∧ Below w.heap.size w wr) (fun _ i _ => n - (intOf i).toNat)
  case atStart => exact ⟨0, by omega, rfl, by rw [List.take_zero]; exact MRow.nil _ _, Below.refl _ _⟩
  case round =>
    obtain ⟨k, hk, rfl, hrow, hbel⟩ := hrel
    obtain ⟨w3, hw3⟩ : ∃ x, x = wr := ⟨_, rfl⟩
    subst hw3
    obtain ⟨ua, uc, rfl⟩ := hrow.slice
    obtain ⟨un, hun⟩ : ∃ n, ((R.mail.take k).filter (fun m => !(m.n == id))).length = n := ⟨_, rfl⟩
    have hunk : un ≤ 2000 := by
      have := List.length_filter_le (fun m => !(m.n == id)) (R.mail.take k)
      rw [List.length_take] at this; omega
    rw [hun] at hrow ⊢
    have HUN := Lib.hid hun
    have HROW := Lib.hid hrow
    have HB := Lib.hid hbel
    have h3 := H.out.later hbel
    have H3 := Lib.hid h3
    obtain ⟨c0, c1, c2, -⟩ := h3.c0
    have hsz := hbel.size
    clear hrow hbel hun
    by_cases hkn : k < n
    · have hki : (k : Int) < (n : Int) := by omega
      have hkw : IntKind.i64.wrap ((k : Int) + 1) = (k : Int) + 1 := by rw [IntKind.wrap_i64]; omega
      have hkl : k < R.mail.length := by rw [HN.out]; exact hkn
      obtain ⟨m, hm⟩ : ∃ m, R.mail[k] = m := ⟨_, rfl⟩
      obtain ⟨g, rfl, -, -, hgl, -, hat⟩ := h3.rowL.block (by omega)
      obtain ⟨m0, m1, m2, m3, m4⟩ := hat k hkl
      rw [hm] at m0 m1 m2 m3 m4
      have HC := Lib.hid (fun (W : World) (hB : Below w3.heap.size w3 W) => show W.cell? ⟨r, 0, none⟩ = some (.slice (some ⟨g, 0, none⟩) n lc) ∧ MAt W g (k * 5) m from
        ⟨(hB.cell (p := ⟨r, 0, none⟩) h3.lt).trans c0, ⟨(hB.cell (p := ⟨g, k * 5, none⟩) hgl).trans m0, (hB.cell (p := ⟨g, k * 5 + 1, none⟩) hgl).trans m1, (hB.cell (p := ⟨g, k * 5 + 2, none⟩) hgl).trans m2, (hB.cell (p := ⟨g, k * 5 + 3, none⟩) hgl).trans m3, (hB.cell (p := ⟨g, k * 5 + 4, none⟩) hgl).trans m4⟩⟩)
      have HYES := Lib.hid (fun (hp : (fun m => !(m.n == id)) m = true) => filt_yes (p := (fun m => !(m.n == id))) hkl hm hp)
      have HNO := Lib.hid (fun (hp : (fun m => !(m.n == id)) m = false) => filt_no (p := (fun m => !(m.n == id))) hkl hm hp)
      have HM := Lib.hid (show m ∈ R.mail by rw [← hm]; exact List.getElem_mem hkl)
      clear h3
      clear hat hm hkl hkn
      cases hpv : (fun m => !(m.n == id)) m with
      | true =>
        have HY := Lib.hid (HYES.out hpv)
        have hne : (m.n != id) = true := hpv
        clear hpv
        go_wp2_with (at_builtin; refine wpList_mail (w := w3) rfl _ _ rfl w.heap.size (.slice ua un uc) _ m rfl rfl HROW.out hsz (by rw [HUN.out]; omega) ?_; intro v5 w5 hR5 hg5 hs5; (have HB5 := Lib.hid (HB.out.trans (grown_below hg5 HROW.out (Nat.le_refl _) hsz))); (have HR5 := Lib.hid hR5); clear hg5 hs5 hR5)
        all_goals go_roundw
        all_goals (first | (simp [intOf]; omega) | exact ⟨k + 1, by omega, by go_num, by rw [HY.out]; exact HR5.out, HB5.out⟩)
      | false =>
        have HY := Lib.hid (HNO.out hpv)
        have hne : (m.n != id) = false := hpv
        clear hpv
        go_wp2
        all_goals go_roundw
        all_goals (first | (simp [intOf]; omega) | exact ⟨k + 1, by omega, by go_num, by rw [HY.out]; exact HROW.out, HB.out⟩)
    · have hki : ¬ (k : Int) < (n : Int) := by omega
      obtain rfl : k = n := by omega
      have HT := Lib.hid (show (R.mail.take k).filter (fun m => !(m.n == id)) = R.mail.filter (fun m => !(m.n == id)) by rw [List.take_of_length_le (l := R.mail) (by rw [HN.out]; exact Nat.le_refl _)])
      clear hkn
      have HPUT := Lib.hid (fun (hr : MRow w3 w.heap.size (.slice ua un uc) (R.mail.filter (fun m => !(m.n == id)))) => H.out.mail_ (V' := .slice ua un uc) (Frm.of_below HB.out) (HB.out.block r H.out.lt) (fun i hi => HB.out.block i (World.ownsRow.lt H.out.rowP i hi).2) (hr.mono (by have := H.out.lt; have := H.out.base; omega)) (Nat.le_trans (List.length_filter_le (fun m => !(m.n == id)) R.mail) H.out.len) (fun i hi => Or.inr (World.ownsRow.lt hr i hi).1))
      have HW := Lib.hid (HPUT.out (by rw [← HT.out]; exact HROW.out))
      have f0 := H3.out.c0.2.2.2 0
      clear HPUT
      go_wp2
      go_end0
      exact ⟨_, _, rfl, HW.out⟩
set_option maxHeartbeats 4000000 in
theorem rlose_is (e : Int) (h : RAt w B r VL VP R) : Calls Try.prog 25 #[.pointer (some ⟨r, 0, none⟩), .int .i64 e] w (RDone B r VL VP { R with mail := R.mail.filter (loseB e) } (.int .i64 ((R.mail.length : Int) - ((R.mail.filter (loseB e)).length : Int))) w) := by
  obtain ⟨la, lc, rfl⟩ := h.rowL.slice
  obtain ⟨n, hn⟩ : ∃ n, R.mail.length = n := ⟨_, rfl⟩
  have HN := Lib.hid hn
  have hlm := h.len
  rw [hn] at h hlm
  try rw [hn]
  have H := Lib.hid h
  clear h hn
  go_enter Try.func25, Try.ntmps25
  go_wp2
  go_loopw [5, 6] (fun u i wr => ∃ k : Nat, k ≤ n ∧ i = .int .i64 (k : Int) ∧ MRow wr w.heap.size u ((R.mail.take k).filter (loseB e)) ∧ Below w.heap.size w wr) (fun _ i _ => n - (intOf i).toNat)
  case atStart => exact ⟨0, by omega, rfl, by rw [List.take_zero]; exact MRow.nil _ _, Below.refl _ _⟩
  case round =>
    obtain ⟨k, hk, rfl, hrow, hbel⟩ := hrel
    obtain ⟨w3, hw3⟩ : ∃ x, x = wr := ⟨_, rfl⟩
    subst hw3
    obtain ⟨ua, uc, rfl⟩ := hrow.slice
    obtain ⟨un, hun⟩ : ∃ n, ((R.mail.take k).filter (loseB e)).length = n := ⟨_, rfl⟩
    have hunk : un ≤ 2000 := by
      have := List.length_filter_le (loseB e) (R.mail.take k)
      rw [List.length_take] at this; omega
    rw [hun] at hrow ⊢
    have HUN := Lib.hid hun
    have HROW := Lib.hid hrow
    have HB := Lib.hid hbel
    have h3 := H.out.later hbel
    have H3 := Lib.hid h3
    obtain ⟨c0, c1, c2, -⟩ := h3.c0
    have hsz := hbel.size
    clear hrow hbel hun
    by_cases hkn : k < n
    · have hki : (k : Int) < (n : Int) := by omega
      have hkw : IntKind.i64.wrap ((k : Int) + 1) = (k : Int) + 1 := by rw [IntKind.wrap_i64]; omega
      have hkl : k < R.mail.length := by rw [HN.out]; exact hkn
      obtain ⟨m, hm⟩ : ∃ m, R.mail[k] = m := ⟨_, rfl⟩
      obtain ⟨g, rfl, -, -, hgl, -, hat⟩ := h3.rowL.block (by omega)
      obtain ⟨m0, m1, m2, m3, m4⟩ := hat k hkl
      rw [hm] at m0 m1 m2 m3 m4
      have HC := Lib.hid (fun (W : World) (hB : Below w3.heap.size w3 W) => show W.cell? ⟨r, 0, none⟩ = some (.slice (some ⟨g, 0, none⟩) n lc) ∧ MAt W g (k * 5) m from
        ⟨(hB.cell (p := ⟨r, 0, none⟩) h3.lt).trans c0, ⟨(hB.cell (p := ⟨g, k * 5, none⟩) hgl).trans m0, (hB.cell (p := ⟨g, k * 5 + 1, none⟩) hgl).trans m1, (hB.cell (p := ⟨g, k * 5 + 2, none⟩) hgl).trans m2, (hB.cell (p := ⟨g, k * 5 + 3, none⟩) hgl).trans m3, (hB.cell (p := ⟨g, k * 5 + 4, none⟩) hgl).trans m4⟩⟩)
      have HYES := Lib.hid (fun (hp : (loseB e) m = true) => filt_yes (p := (loseB e)) hkl hm hp)
      have HNO := Lib.hid (fun (hp : (loseB e) m = false) => filt_no (p := (loseB e)) hkl hm hp)
      have HM := Lib.hid (show m ∈ R.mail by rw [← hm]; exact List.getElem_mem hkl)
      clear h3
      clear hat hm hkl hkn
      cases hpv : (loseB e) m with
      | true =>
        have HY := Lib.hid (HYES.out hpv)
        have hf1 : (m.f != e) = true := by unfold loseB at hpv; simp only [Bool.and_eq_true] at hpv; exact hpv.1
        have hf2 : (m.t != e) = true := by unfold loseB at hpv; simp only [Bool.and_eq_true] at hpv; exact hpv.2
        clear hpv
        go_wp2_with (at_builtin; refine wpList_mail (w := w3) rfl _ _ rfl w.heap.size (.slice ua un uc) _ m rfl rfl HROW.out hsz (by rw [HUN.out]; omega) ?_; intro v5 w5 hR5 hg5 hs5; (have HB5 := Lib.hid (HB.out.trans (grown_below hg5 HROW.out (Nat.le_refl _) hsz))); (have HR5 := Lib.hid hR5); clear hg5 hs5 hR5)
        all_goals go_roundw
        all_goals (first | (simp [intOf]; omega) | exact ⟨k + 1, by omega, by go_num, by rw [HY.out]; exact HR5.out, HB5.out⟩)
      | false =>
        have HY := Lib.hid (HNO.out hpv)
        have hf : (m.f != e) = false ∨ ((m.f != e) = true ∧ (m.t != e) = false) := by
          unfold loseB at hpv
          have h1 : (!(m.f == e)) = (m.f != e) := rfl
          have h2 : (!(m.t == e)) = (m.t != e) := rfl
          rw [h1, h2] at hpv
          cases hx : (m.f != e) with
          | false => exact Or.inl rfl
          | true => rw [hx] at hpv; exact Or.inr ⟨rfl, by simpa using hpv⟩
        clear hpv
        rcases hf with hf1 | ⟨hf1, hf2⟩
        all_goals go_wp2
        all_goals go_roundw
        all_goals (first | (simp [intOf]; omega) | exact ⟨k + 1, by omega, by go_num, by rw [HY.out]; exact HROW.out, HB.out⟩)
    · have hki : ¬ (k : Int) < (n : Int) := by omega
      obtain rfl : k = n := by omega
      have HT := Lib.hid (show (R.mail.take k).filter (loseB e) = R.mail.filter (loseB e) by rw [List.take_of_length_le (l := R.mail) (by rw [HN.out]; exact Nat.le_refl _)])
      clear hkn
      have HPUT := Lib.hid (fun (hr : MRow w3 w.heap.size (.slice ua un uc) (R.mail.filter (loseB e))) => H.out.mail_ (V' := .slice ua un uc) (Frm.of_below HB.out) (HB.out.block r H.out.lt) (fun i hi => HB.out.block i (World.ownsRow.lt H.out.rowP i hi).2) (hr.mono (by have := H.out.lt; have := H.out.base; omega)) (Nat.le_trans (List.length_filter_le (loseB e) R.mail) H.out.len) (fun i hi => Or.inr (World.ownsRow.lt hr i hi).1))
      have HW := Lib.hid (HPUT.out (by rw [← HT.out]; exact HROW.out))
      have f0 := H3.out.c0.2.2.2 0
      have hul : un ≤ k := by rw [← HUN.out, HT.out]; have := List.length_filter_le (loseB e) R.mail; rw [HN.out] at this; exact this
      have hsub : IntKind.i64.wrap ((k : Int) - (un : Int)) = (k : Int) - (un : Int) := by rw [IntKind.wrap_i64]; omega
      have HSUB := Lib.hid (show ((k : Int) - ((R.mail.filter (loseB e)).length : Int)) = (k : Int) - (un : Int) by rw [← HT.out, HUN.out])
      clear HPUT
      go_wp2
      go_ret
      exact ⟨_, _, by rw [HSUB.out]; rfl, HW.out⟩
end
end Go.Proofs.Ytnjabhjcnkbgpaa
