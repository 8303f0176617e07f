/- The document's ahead, For and Nodes. -/
import Derived.Test.YtolmhlfegllfoaaHdMod
set_option maxRecDepth 20000
set_option linter.unusedSimpArgs false
set_option linter.unusedVariables false
namespace Go.Proofs.Ytolmhlfegllfoaa.Qu.Hi
open Go.RowKit Go.Maps Go.Proofs.Ytolmhlfegllfoaa.Vi Go.Proofs.Ytolmhlfegllfoaa.Mk

theorem neqS (a b : St) (w : World) : (binOp .neq 29 (.agg #[.int .i64 a.c, .int .i64 a.s, .int .i64 a.q]) (.agg #[.int .i64 b.c, .int .i64 b.s, .int .i64 b.q])).run Try.prog w = .ok (.bool (!(decide (a = b)))) w := by
  obtain ⟨c1, n1, q1⟩ := a
  obtain ⟨c2, n2, q2⟩ := b
  have e : decide (St.mk c1 n1 q1 = St.mk c2 n2 q2) = (decide (c1 = c2) && (decide (n1 = n2) && decide (q1 = q2))) := by
    rw [Bool.eq_iff_iff]; simp
  rw [e]
  dsimp only
  by_cases e4 : c1 = c2
  · by_cases e5 : n1 = n2
    · by_cases e6 : q1 = q2
      · subst e4 e5 e6; simp [go_sem]
      · have f6 : (q1 == q2) = false := by simpa using e6
        subst e4 e5; simp [go_sem, e6, f6]
    · have f5 : (n1 == n2) = false := by simpa using e5
      subst e4; simp [go_sem, e5, f5]
  · have f4 : (c1 == c2) = false := by simpa using e4
    simp [go_sem, e4, f4]
theorem ah_cases (a b : Pt) : ahB a b = if (a.before b || b.before a) = true then a.before b else if a.st = b.st then decide (a.v < b.v) else a.st.lt b.st := by
  unfold ahB
  cases h1 : a.before b with
  | true => simp
  | false =>
    cases h2 : b.before a with
    | true =>
      have : a.eqp b = false := by
        cases h : a.eqp b with
        | false => rfl
        | true => have := bef_eqp h2; rw [Pt.eqp_symm h] at this; cases this
      simp [this]
    | false =>
      rw [bef_tri h1 h2]
      by_cases h3 : a.st = b.st
      · rw [h3, stlt_self]; simp
      · simp [h3]
set_option maxHeartbeats 4000000 in
theorem rahead_is (a b : Pt) (w : World) : Calls Try.prog 38 #[ptV a, ptV b] w fun e w' => e = .returned (.bool (ahB a b)) ∧ Below w.heap.size w w' := by
  have HA := (PtAt.new w a).alloc (.cells #[.string b.s, .int .i64 b.t, .int .i64 b.v, .int .i64 b.st.c, .int .i64 b.st.s, .int .i64 b.st.q] 31)
  have HB : PtAt ((w.alloc (.cells #[.string a.s, .int .i64 a.t, .int .i64 a.v, .int .i64 a.st.c, .int .i64 a.st.s, .int .i64 a.st.q] 31)).alloc (.cells #[.string b.s, .int .i64 b.t, .int .i64 b.v, .int .i64 b.st.c, .int .i64 b.st.s, .int .i64 b.st.q] 31)) (w.heap.size + 1) b := by have := PtAt.new (w.alloc (.cells #[.string a.s, .int .i64 a.t, .int .i64 a.v, .int .i64 a.st.c, .int .i64 a.st.s, .int .i64 a.st.q] 31)) b; simpa using this
  have HG := Lib.hid (show Below w.heap.size w ((w.alloc (.cells #[.string a.s, .int .i64 a.t, .int .i64 a.v, .int .i64 a.st.c, .int .i64 a.st.s, .int .i64 a.st.q] 31)).alloc (.cells #[.string b.s, .int .i64 b.t, .int .i64 b.v, .int .i64 b.st.c, .int .i64 b.st.s, .int .i64 b.st.q] 31)) from bel_new ((Below.refl _ _).alloc (Nat.le_refl _) _) _)
  obtain ⟨x1, e1⟩ : ∃ x, a.before b = x := ⟨_, rfl⟩
  obtain ⟨x3, e3⟩ : ∃ x, b.before a = x := ⟨_, rfl⟩
  obtain ⟨x5, e5⟩ : ∃ x, a.st.lt b.st = x := ⟨_, rfl⟩
  have k1 := fun w => rbefore_is a b x1 w (Lib.hid e1)
  have k3 := fun w => rbefore_is b a x3 w (Lib.hid e3)
  have kl := fun w => rlessV a.st b.st x5 (Lib.hid e5) w
  have kq := fun W => neqS a.st b.st W
  obtain ⟨z, hz⟩ : ∃ z, ahB a b = z := ⟨_, rfl⟩
  rw [hz]
  rw [ah_cases, e1, e3, e5] at hz
  have HZ0 := Lib.hid hz
  clear hz e1 e3 e5
  unfold ptV at *
  cases x1 with
  | true =>
    have HZ := Lib.hid (show true = z from HZ0.out)
    clear HZ0
    go_enter Try.func38, Try.ntmps38
    go_wp2_with (first
    | (go_at_call 55; (with_reducible refine (k1 _).mono ?_); rintro e w1 ⟨rfl, hg1⟩; have HA1 := HA.below hg1 HA.room; have HB1 := HB.below hg1 HB.room; have HG1 := Lib.hid (bel_next HG.out hg1); (have cA := HA1.c0; have cA1 := HA1.c1; have cA2 := HA1.c2; have cA3 := HA1.c3; have cA4 := HA1.c4; have cA5 := HA1.c5; have cB := HB1.c0; have cB1 := HB1.c1; have cB2 := HB1.c2; have cB3 := HB1.c3; have cB4 := HB1.c4; have cB5 := HB1.c5); clear hg1) 
    | (go_at_call 55; (with_reducible refine (k3 _).mono ?_); rintro e w2 ⟨rfl, hg2⟩; have HA2 := HA1.below hg2 HA1.room; have HB2 := HB1.below hg2 HB1.room; have HG2 := Lib.hid (bel_next HG1.out hg2); (have cA := HA2.c0; have cA1 := HA2.c1; have cA2 := HA2.c2; have cA3 := HA2.c3; have cA4 := HA2.c4; have cA5 := HA2.c5; have cB := HB2.c0; have cB1 := HB2.c1; have cB2 := HB2.c2; have cB3 := HB2.c3; have cB4 := HB2.c4; have cB5 := HB2.c5); clear hg2) 
    | (go_at_call 56; (with_reducible refine (kl _).mono ?_); rintro e w5 ⟨rfl, hb5⟩; have HG5 := Lib.hid (bel_next HG2.out hb5); clear hb5))
    go_ret
    exact ⟨by rw [← HZ.out]; rfl, HG2.out⟩
  | false =>
   cases x3 with
   | true =>
    have HZ := Lib.hid (show false = z from HZ0.out)
    clear HZ0
    go_enter Try.func38, Try.ntmps38
    go_wp2_with (first
    | (go_at_call 55; (with_reducible refine (k1 _).mono ?_); rintro e w1 ⟨rfl, hg1⟩; have HA1 := HA.below hg1 HA.room; have HB1 := HB.below hg1 HB.room; have HG1 := Lib.hid (bel_next HG.out hg1); (have cA := HA1.c0; have cA1 := HA1.c1; have cA2 := HA1.c2; have cA3 := HA1.c3; have cA4 := HA1.c4; have cA5 := HA1.c5; have cB := HB1.c0; have cB1 := HB1.c1; have cB2 := HB1.c2; have cB3 := HB1.c3; have cB4 := HB1.c4; have cB5 := HB1.c5); clear hg1) 
    | (go_at_call 55; (with_reducible refine (k3 _).mono ?_); rintro e w2 ⟨rfl, hg2⟩; have HA2 := HA1.below hg2 HA1.room; have HB2 := HB1.below hg2 HB1.room; have HG2 := Lib.hid (bel_next HG1.out hg2); (have cA := HA2.c0; have cA1 := HA2.c1; have cA2 := HA2.c2; have cA3 := HA2.c3; have cA4 := HA2.c4; have cA5 := HA2.c5; have cB := HB2.c0; have cB1 := HB2.c1; have cB2 := HB2.c2; have cB3 := HB2.c3; have cB4 := HB2.c4; have cB5 := HB2.c5); clear hg2) 
    | (go_at_call 56; (with_reducible refine (kl _).mono ?_); rintro e w5 ⟨rfl, hb5⟩; have HG5 := Lib.hid (bel_next HG2.out hb5); clear hb5))
    go_ret
    exact ⟨by rw [← HZ.out]; rfl, HG2.out⟩
   | false =>
    by_cases h3 : a.st = b.st
    · rw [decide_eq_true h3] at kq
      have HZ0 := Lib.hid (show decide (a.v < b.v) = z by rw [← HZ0.out]; simp [h3])
      clear h3
      have HZ := Lib.hid (show decide (a.v < b.v) = z from HZ0.out)
      clear HZ0
      go_enter Try.func38, Try.ntmps38
      go_wp2_with (first
      | (go_at_call 55; (with_reducible refine (k1 _).mono ?_); rintro e w1 ⟨rfl, hg1⟩; have HA1 := HA.below hg1 HA.room; have HB1 := HB.below hg1 HB.room; have HG1 := Lib.hid (bel_next HG.out hg1); (have cA := HA1.c0; have cA1 := HA1.c1; have cA2 := HA1.c2; have cA3 := HA1.c3; have cA4 := HA1.c4; have cA5 := HA1.c5; have cB := HB1.c0; have cB1 := HB1.c1; have cB2 := HB1.c2; have cB3 := HB1.c3; have cB4 := HB1.c4; have cB5 := HB1.c5); clear hg1) 
      | (go_at_call 55; (with_reducible refine (k3 _).mono ?_); rintro e w2 ⟨rfl, hg2⟩; have HA2 := HA1.below hg2 HA1.room; have HB2 := HB1.below hg2 HB1.room; have HG2 := Lib.hid (bel_next HG1.out hg2); (have cA := HA2.c0; have cA1 := HA2.c1; have cA2 := HA2.c2; have cA3 := HA2.c3; have cA4 := HA2.c4; have cA5 := HA2.c5; have cB := HB2.c0; have cB1 := HB2.c1; have cB2 := HB2.c2; have cB3 := HB2.c3; have cB4 := HB2.c4; have cB5 := HB2.c5); clear hg2) 
      | (go_at_call 56; (with_reducible refine (kl _).mono ?_); rintro e w5 ⟨rfl, hb5⟩; have HG5 := Lib.hid (bel_next HG2.out hb5); clear hb5))
      go_ret
      exact ⟨by rw [← HZ.out]; rfl, HG2.out⟩
    · rw [decide_eq_false h3] at kq
      have HZ0 := Lib.hid (show x5 = z by rw [← HZ0.out]; simp [h3])
      clear h3
      have HZ := Lib.hid (show x5 = z from HZ0.out)
      clear HZ0
      go_enter Try.func38, Try.ntmps38
      go_wp2_with (first
      | (go_at_call 55; (with_reducible refine (k1 _).mono ?_); rintro e w1 ⟨rfl, hg1⟩; have HA1 := HA.below hg1 HA.room; have HB1 := HB.below hg1 HB.room; have HG1 := Lib.hid (bel_next HG.out hg1); (have cA := HA1.c0; have cA1 := HA1.c1; have cA2 := HA1.c2; have cA3 := HA1.c3; have cA4 := HA1.c4; have cA5 := HA1.c5; have cB := HB1.c0; have cB1 := HB1.c1; have cB2 := HB1.c2; have cB3 := HB1.c3; have cB4 := HB1.c4; have cB5 := HB1.c5); clear hg1) 
      | (go_at_call 55; (with_reducible refine (k3 _).mono ?_); rintro e w2 ⟨rfl, hg2⟩; have HA2 := HA1.below hg2 HA1.room; have HB2 := HB1.below hg2 HB1.room; have HG2 := Lib.hid (bel_next HG1.out hg2); (have cA := HA2.c0; have cA1 := HA2.c1; have cA2 := HA2.c2; have cA3 := HA2.c3; have cA4 := HA2.c4; have cA5 := HA2.c5; have cB := HB2.c0; have cB1 := HB2.c1; have cB2 := HB2.c2; have cB3 := HB2.c3; have cB4 := HB2.c4; have cB5 := HB2.c5); clear hg2) 
      | (go_at_call 56; (with_reducible refine (kl _).mono ?_); rintro e w5 ⟨rfl, hb5⟩; have HG5 := Lib.hid (bel_next HG2.out hb5); clear hb5))
      go_ret
      exact ⟨by rw [← HZ.out]; rfl, HG5.out⟩
/-- A point put in at its place. -/
theorem put_sorted {O : List Pt} {p : Pt} {k : Nat} (hO : O.Pairwise leO) (hk : k ≤ O.length) (h1 : ∀ j (h : j < O.length), j < k → ahB O[j] p = true) (h2 : ∀ h : k < O.length, ahB O[k] p = false) : (O.take k ++ [p] ++ O.drop k).Pairwise leO := by
  have e : O = O.take k ++ O.drop k := (List.take_append_drop k O).symm
  have hO2 := hO
  rw [e, List.pairwise_append] at hO2
  obtain ⟨g1, g2, g3⟩ := hO2
  have hd : ∀ y ∈ O.drop k, leO p y := fun y hy => by
    obtain ⟨j, hj, rfl⟩ := List.getElem_of_mem hy
    rw [List.length_drop] at hj
    rw [List.getElem_drop]
    have hkl : k < O.length := by omega
    have h0 : leO p O[k] := h2 hkl
    by_cases hz : j = 0
    · subst hz; exact h0
    · exact leO_trans h0 (List.pairwise_iff_getElem.1 hO k (k + j) hkl (by omega) (by omega))
  have ht : ∀ y ∈ O.take k, leO y p := fun y hy => by
    obtain ⟨j, hj, rfl⟩ := List.getElem_of_mem hy
    rw [List.length_take] at hj
    rw [List.getElem_take]
    exact ah_not (h1 j (by omega) (by omega))
  rw [List.append_assoc, List.pairwise_append]
  refine ⟨g1, List.pairwise_append.2 ⟨List.pairwise_singleton _ _, g2, fun x hx y hy => ?_⟩, fun x hx y hy => ?_⟩
  · rw [List.mem_singleton] at hx; subst hx; exact hd y hy
  · rcases List.mem_append.1 hy with hy | hy
    · rw [List.mem_singleton] at hy; subst hy; exact ht x hx
    · exact g3 x hx y hy
theorem put_perm (O : List Pt) (p : Pt) (k : Nat) : (O.take k ++ [p] ++ O.drop k).Perm (O ++ [p]) := by
  have e : O ++ [p] = O.take k ++ O.drop k ++ [p] := by rw [List.take_append_drop]
  rw [e, List.append_assoc, List.append_assoc]
  exact List.Perm.append_left _ List.perm_append_comm
theorem ofL_take_yes {L : List Hk} {k : Nat} {n : Int} (hk : k < L.length) (h : L[k].n = n) : ofL (L.take (k + 1)) n = ofL (L.take k) n ++ [L[k].p] := by
  rw [List.take_succ_eq_append_getElem hk]; exact ofL_snoc_yes h
theorem ofL_take_no {L : List Hk} {k : Nat} {n : Int} (hk : k < L.length) (h : L[k].n ≠ n) : ofL (L.take (k + 1)) n = ofL (L.take k) n := by
  rw [List.take_succ_eq_append_getElem hk]; exact ofL_snoc_no h
structure DfJ (w wr : World) (L : List Hk) (n : Int) (k r : Nat) (v : Value) (O : List Pt) : Prop where
  row : PRow wr w.heap.size v O
  len : O.length = r
  perm : O.Perm (ofL (L.take k) n)
  srt : O.Pairwise leO
  bel : Below w.heap.size w wr
theorem DfJ.later {w wr w' : World} {L : List Hk} {n : Int} {k r : Nat} {v : Value} {O : List Pt} (h : DfJ w wr L n k r v O) (hb : Below wr.heap.size wr w') : DfJ w w' L n k r v O := ⟨h.row.later hb, h.len, h.perm, h.srt, bel_next h.bel hb⟩
def RForDone (L : List Hk) (n most : Int) (w : World) (e : Ending) (w' : World) : Prop := ∃ (a' : Option Addr) (j c' : Nat), e = .returned (.slice a' j c') ∧ (forL L n most).length = j ∧ Pts w' w'.heap.size a' (forL L n most) ∧ Below w.heap.size w w'
set_option maxHeartbeats 16000000 in
theorem rfor_is {w : World} {B d : Nat} {room : Int} {L : List Hk} {a : Option Addr} {c : Nat} (h : DoAt w B d room L a c) (nd most : Int) (hmost : I64 most) : Calls Try.prog 20 #[.pointer (some ⟨d, 0, none⟩), .int .i64 nd, .int .i64 most] w (RForDone L nd most w) := by
  have H := Lib.hid h
  obtain ⟨n, hn⟩ : ∃ n, L.length = n := ⟨_, rfl⟩
  have hn6 : n ≤ 600 := by rw [← hn]; exact h.len
  have HN := Lib.hid hn
  have kah := fun (x y : Pt) (W : World) => rahead_is x y W
  have HMO := Lib.hid hmost
  clear h hn hmost
  go_enter Try.func20, Try.ntmps20
  go_wp2
  go_loopw [7, 8, 9, 10, 11] (fun s7 i s9 s10 s11 wr => ∃ (k r : Nat) (a5 : Option Addr) (c5 : Nat) (O : List Pt), k ≤ n ∧ r ≤ k ∧ i = .int .i64 (k : Int) ∧ s7 = .slice a5 r c5 ∧ Hid (DfJ w wr L nd k r (.slice a5 r c5) O)) (fun _ i _ _ _ _ => n - (intOf i).toNat)
  case atStart => exact ⟨0, 0, none, 0, [], by omega, by omega, rfl, rfl, Lib.hid ⟨PRow.nil _ _, rfl, by unfold ofL; simp, List.Pairwise.nil, Below.refl _ _⟩⟩
  case round =>
    obtain ⟨k, r, a5, c5, O, hk, hr, rfl, rfl, HJ⟩ := hrel
    obtain ⟨w8, hw8⟩ : ∃ x, x = wr := ⟨_, rfl⟩
    subst hw8
    have h8 := H.out.later HJ.out.bel
    have d1 := h8.c1
    rw [HN.out] at d1
    by_cases hlt : k < n
    · have hlt2 : (k : Int) < (n : Int) := by omega
      have hkL : k < L.length := by rw [HN.out]; exact hlt
      obtain ⟨g, hga, -, -, -, -, hc⟩ := h8.row.cell (by omega)
      subst hga
      obtain ⟨y, hy⟩ : ∃ y, L[k] = y := ⟨_, rfl⟩
      have hy7 := hc k hkL
      rw [hy] at hy7
      have HY7 := Lib.hid hy7
      obtain ⟨y0, y1, y2, y3, y4, y5, y6⟩ := hy7
      have HY := Lib.hid hy
      have HK := Lib.hid hkL
      have H8 := Lib.hid h8
      clear hc hy h8
      by_cases hyn : y.n = nd
      · have hnq : (y.n != nd) = false := by simp [hyn]
        have HOF := Lib.hid (show ofL (L.take (k + 1)) nd = ofL (L.take k) nd ++ [y.p] by rw [ofL_take_yes HK.out (by rw [HY.out]; exact hyn), HY.out])
        clear hyn
        go_wp2
        go_loopg [9, 10] (r + 1) (fun g2 j s10 wy => ∃ (m : Nat), m + g2 = r + 1 ∧ m ≤ r ∧ j = .int .i64 (m : Int) ∧ Hid (Below w8.heap.size w8 wy) ∧ Hid (∀ j (h : j < O.length), j < m → ahB O[j] y.p = true))
        case atStart => exact ⟨0, by omega, by omega, rfl, Lib.hid (Below.refl _ _), Lib.hid fun j _ hj => absurd hj (Nat.not_lt_zero _)⟩
        case round =>
          obtain ⟨m, hm, hmr, rfl, HBy, HAH⟩ := hrel
          obtain ⟨w9, hw9⟩ : ∃ x, x = wr := ⟨_, rfl⟩
          subst hw9
          have h9 := H8.out.later HBy.out
          have d2 := h9.c1
          rw [HN.out] at d2
          have hY9 := HY7.out.later HBy.out
          have HJ9 := Lib.hid (HJ.out.later HBy.out)
          have HTAIL := Lib.hid (show ∀ (h2 : ∀ h : m < O.length, ahB O[m] y.p = false), (O.take m ++ [y.p] ++ O.drop m).Pairwise leO ∧ (O.take m ++ [y.p] ++ O.drop m).Perm (ofL (L.take (k + 1)) nd) from fun h2 => ⟨put_sorted HJ.out.srt (by rw [HJ.out.len]; exact hmr) HAH.out h2, by rw [HOF.out]; exact (put_perm O y.p m).trans (HJ.out.perm.append_right _)⟩)
          obtain ⟨z0, z1, z2, z3, z4, z5, z6⟩ := hY9
          by_cases hmlt : m < r
          · have hm2 : (m : Int) < (r : Int) := by omega
            have hmO : m < O.length := by rw [HJ.out.len]; exact hmlt
            rcases HJ9.out.row.pts.at_ with he | ⟨gp, off, hap, hg, hcp⟩
            · rw [he] at hmO; simp at hmO
            · subst hap
              have hx := hcp m hmO
              obtain ⟨p, hp⟩ : ∃ p, O[m] = p := ⟨_, rfl⟩
              rw [hp] at hx
              obtain ⟨x0, x1, x2, x3, x4, x5⟩ := hx
              have HP := Lib.hid hp
              have kk := kah p y.p w9.drew
              have HBz := Lib.hid (show Below w8.heap.size w8 w9.drew from HBy.out.drew)
              have HJz := Lib.hid (HJ9.out.later (Below.refl _ _).drew)
              have HYz := Lib.hid (show K7O w9.drew g (k * 7) y from ⟨z0, z1, z2, z3, z4, z5, z6⟩)
              have h9z := h9.later (Below.refl _ _).drew
              have HDz := Lib.hid h9z
              have HMO2 := Lib.hid hmO
              unfold ptV at kk
              clear hcp hp h9 h9z
              cases hz : ahB p y.p with
              | true =>
                rw [hz] at kk
                have HNX := Lib.hid (show ∀ j (h : j < O.length), j < m + 1 → ahB O[j] y.p = true from fun j hj h1 => by
                  by_cases e : j = m
                  · subst e; rw [HP.out]; exact hz
                  · exact HAH.out j hj (by omega))
                clear hz
                go_wp2_with fail
                refine still_tail 12 (by kernel_rfl) (by kernel_rfl) ?_
                simp only [List.take_succ_cons, List.take_zero, List.drop_succ_cons, List.drop_zero]
                repeat still_step
                refine wpStill_nil ?_
                go_wp2_with (go_at_call 38; (with_reducible refine kk.mono ?_); rintro e w10 ⟨rfl, hb10⟩; (have HB10 := Lib.hid (bel_next HBz.out hb10)); clear hb10)
                cases gk with
                | zero => omega
                | succ g2 =>
                  go_roundg g2
                  case measure => omega
                  case rel => exact ⟨m + 1, by omega, by omega, by go_num, HB10, HNX⟩
              | false =>
                rw [hz] at kk
                have HT2 := Lib.hid (HTAIL.out fun h => by rw [HP.out]; exact hz)
                clear hz
                go_wp2_with fail
                refine still_tail 12 (by kernel_rfl) (by kernel_rfl) ?_
                simp only [List.take_succ_cons, List.take_zero, List.drop_succ_cons, List.drop_zero]
                repeat still_step
                refine wpStill_nil ?_
                have hOr : O.length = r := HJ.out.len
                have hcap : r ≤ c5 := by have := HJ.out.row.upto.2.1; omega
                have hcut1 := cut_to0 (some ⟨gp, off, none⟩) r c5 m (m : Int) rfl (by omega)
                have hcut2 := at_to0 (some ⟨gp, off, none⟩) r c5 m (m : Int) rfl (by omega)
                have hcut3 := cut_from (some ⟨gp, off, none⟩) r c5 m (m : Int) rfl hmr
                have hcut4 := at_from (some ⟨gp, off, none⟩) r c5 m (m : Int) rfl hmr
                have HOR := Lib.hid hOr
                have HMR := Lib.hid hmr
                clear hcap hOr
                go_wp2_with (first
                  | (go_at_call 38; (with_reducible refine kk.mono ?_); rintro e w10 ⟨rfl, hb10⟩; (have HB10 := Lib.hid (bel_next HBz.out hb10)); (have HJ10 := Lib.hid (HJz.out.later hb10)); (have HY10 := Lib.hid (HYz.out.later hb10)); (have HD10 := Lib.hid (HDz.out.later hb10)); (have HL1 := Lib.hid (show Lst w10 w10.heap.size (some ⟨gp, off, none⟩) c5 (O.take m) from by have := HJ10.out.row.lst.to_ (hi := m) (by rw [HOR.out]; exact HMR.out); rw [cutP_zero] at this; exact this)); (have HL2 := Lib.hid (show Lst w10 w10.heap.size (cutP (some ⟨gp, off, none⟩) m c5) (c5 - m) (O.drop m) from HJ10.out.row.lst.from_ (by rw [HOR.out]; exact HMR.out))); (have HBF := Lib.hid (show Below w8.heap.size w8 w10 from HB10.out)); (have HSZ := Lib.hid (show w.heap.size ≤ w10.heap.size from HJ10.out.bel.size)); clear hb10)
                  | (at_builtin; refine wpList_appN (w := w10) rfl _ _ rfl w10.heap.size 0 (.slice none 0 0) [] (O.take m) (some ⟨gp, off, none⟩) m c5 w10.heap.size rfl rfl ?hm1 (Lib.hid rfl) (PRow.nil _ _) HL1.out ?hl1 (Nat.le_refl _) ?_; (case hm1 => (rw [List.length_take, HOR.out]; omega)); (case hl1 => omega); intro a11 c11 w11 hr11 _ hb11 _; (have HR11 := hr11.out); (rw [Nat.zero_add, List.nil_append] at HR11); (have HR11 := Lib.hid HR11); (have HB11 := Lib.hid hb11); (have hY11 := HY10.out.later hb11); (obtain ⟨u0, u1, u2, u3, u4, u5, u6⟩ := hY11); (have hc11 := (HD10.out.later hb11).c1); (rw [HN.out] at hc11); (have HAL11 := Lib.hid ((Below.refl w11.heap.size w11).alloc (Nat.le_refl _) (.cells #[.string y.p.s, .int .i64 y.p.t, .int .i64 y.p.v, .int .i64 y.p.st.c, .int .i64 y.p.st.s, .int .i64 y.p.st.q] 31))); clear hr11 hb11)
                  | (at_builtin; refine wpList_appP (w := w11) rfl _ _ rfl w10.heap.size m (.slice a11 m c11) (O.take m) y.p w11.heap.size rfl rfl rfl ?hr2 HR11.out ?hl2 HB11.out.size ?_; (case hr2 => exact Lib.hid (by rw [List.length_take, HOR.out]; omega)); (case hl2 => omega); intro a12 c12 w12 hr12 _ hb12 _; (have HR12 := Lib.hid hr12.out); (have HB12 := Lib.hid (HB11.out.trans hb12)); (have HL12 := Lib.hid ((HL2.out.below HB12.out).mono HB12.out.size)); clear hr12 hb12)
                  | (at_builtin; refine wpList_appN (w := w12) rfl _ _ rfl w10.heap.size (m + 1) (.slice a12 (m + 1) c12) (O.take m ++ [y.p]) (O.drop m) (cutP (some ⟨gp, off, none⟩) m c5) (r - m) (c5 - m) w12.heap.size rfl rfl ?hm3 ?hr3 HR12.out HL12.out ?hl3 HB12.out.size ?_; (case hm3 => (rw [List.length_drop, HOR.out])); (case hr3 => exact Lib.hid (by rw [List.length_append, List.length_take, HOR.out]; simp <;> omega)); (case hl3 => omega); intro a13 c13 w13 hr13 _ hb13 _; (have HR13 := Lib.hid hr13.out); (have HB13 := Lib.hid (HB12.out.trans hb13)); clear hr13 hb13))
                have HRL := Lib.hid (show m + 1 + (r - m) = r + 1 by have := HMR.out; omega)
                rw [HRL.out]
                rw [HRL.out] at HR13
                go_roundw
                case rel => exact ⟨k + 1, r + 1, a13, c13, O.take m ++ [y.p] ++ O.drop m, by omega, by omega, by go_num, rfl, Lib.hid ⟨HR13.out.base HSZ.out, by rw [List.length_append, List.length_append, List.length_take, List.length_drop, HOR.out]; have := HMR.out; simp <;> omega, HT2.out.2, HT2.out.1, bel_next HJ.out.bel (HBF.out.trans (HB13.out.mono HBF.out.size))⟩⟩
                case measure => simp [intOf]; omega
          · obtain rfl : m = r := by omega
            have hm2 : ¬ (m : Int) < (m : Int) := by omega
            have HT2 := Lib.hid (HTAIL.out fun h => absurd h (by rw [HJ.out.len]; omega))
            have HBz := HBy
            have HJz := HJ9
            have HYz := Lib.hid (show K7O w9 g (k * 7) y from ⟨z0, z1, z2, z3, z4, z5, z6⟩)
            have HDz := Lib.hid h9
            clear h9 hmlt
            have hOr : O.length = m := HJ.out.len
            have hcap : m ≤ c5 := by have := HJ.out.row.upto.2.1; omega
            have hcut1 := cut_to0 a5 m c5 m (m : Int) rfl (by omega)
            have hcut2 := at_to0 a5 m c5 m (m : Int) rfl (by omega)
            have hcut3 := cut_from a5 m c5 m (m : Int) rfl hmr
            have hcut4 := at_from a5 m c5 m (m : Int) rfl hmr
            have HOR := Lib.hid hOr
            have HMR := Lib.hid hmr
            rw [Nat.sub_self] at hcut3 hcut4
            clear hcap hOr
            have HB10 := HBz
            have HJ10 := HJz
            have HY10 := HYz
            have HD10 := HDz
            have HL1 := Lib.hid (show Lst w9 w9.heap.size a5 c5 (O.take m) from by have := HJ10.out.row.lst.to_ (hi := m) (by rw [HOR.out]; exact HMR.out); rw [cutP_zero] at this; exact this)
            have HL2 := Lib.hid (show Lst w9 w9.heap.size (cutP a5 m c5) (c5 - m) (O.drop m) from HJ10.out.row.lst.from_ (by rw [HOR.out]; exact HMR.out))
            have HBF := Lib.hid (show Below w8.heap.size w8 w9 from HB10.out)
            have HSZ := Lib.hid (show w.heap.size ≤ w9.heap.size from HJ10.out.bel.size)
            go_wp2_with (first
              | (at_builtin; refine wpList_appN (w := w9) rfl _ _ rfl w9.heap.size 0 (.slice none 0 0) [] (O.take m) a5 m c5 w9.heap.size rfl rfl ?hm1 (Lib.hid rfl) (PRow.nil _ _) HL1.out ?hl1 (Nat.le_refl _) ?_; (case hm1 => (rw [List.length_take, HOR.out]; omega)); (case hl1 => omega); intro a11 c11 w11 hr11 _ hb11 _; (have HR11 := hr11.out); (rw [Nat.zero_add, List.nil_append] at HR11); (have HR11 := Lib.hid HR11); (have HB11 := Lib.hid hb11); (have hY11 := HY10.out.later hb11); (obtain ⟨u0, u1, u2, u3, u4, u5, u6⟩ := hY11); (have hc11 := (HD10.out.later hb11).c1); (rw [HN.out] at hc11); (have HAL11 := Lib.hid ((Below.refl w11.heap.size w11).alloc (Nat.le_refl _) (.cells #[.string y.p.s, .int .i64 y.p.t, .int .i64 y.p.v, .int .i64 y.p.st.c, .int .i64 y.p.st.s, .int .i64 y.p.st.q] 31))); clear hr11 hb11)
              | (at_builtin; refine wpList_appP (w := w11) rfl _ _ rfl w9.heap.size m (.slice a11 m c11) (O.take m) y.p w11.heap.size rfl rfl rfl ?hr2 HR11.out ?hl2 HB11.out.size ?_; (case hr2 => exact Lib.hid (by rw [List.length_take, HOR.out]; omega)); (case hl2 => omega); intro a12 c12 w12 hr12 _ hb12 _; (have HR12 := Lib.hid hr12.out); (have HB12 := Lib.hid (HB11.out.trans hb12)); (have HL12 := Lib.hid ((HL2.out.below HB12.out).mono HB12.out.size)); clear hr12 hb12)
              | (at_builtin; refine wpList_appN (w := w12) rfl _ _ rfl w9.heap.size (m + 1) (.slice a12 (m + 1) c12) (O.take m ++ [y.p]) (O.drop m) (cutP a5 m c5) 0 (c5 - m) w12.heap.size rfl rfl ?hm3 ?hr3 HR12.out HL12.out ?hl3 HB12.out.size ?_; (case hm3 => (rw [List.length_drop, HOR.out, Nat.sub_self])); (case hr3 => exact Lib.hid (by rw [List.length_append, List.length_take, HOR.out]; simp <;> omega)); (case hl3 => omega); intro a13 c13 w13 hr13 _ hb13 _; (have HR13 := Lib.hid hr13.out); (have HB13 := Lib.hid (HB12.out.trans hb13)); clear hr13 hb13))
            have HRL := Lib.hid (show m + 1 + 0 = m + 1 from rfl)
            try rw [HRL.out]
            try rw [HRL.out] at HR13
            go_roundw
            case rel => exact ⟨k + 1, m + 1, a13, c13, O.take m ++ [y.p] ++ O.drop m, by omega, by omega, by go_num, rfl, Lib.hid ⟨HR13.out.base HSZ.out, by rw [List.length_append, List.length_append, List.length_take, List.length_drop, HOR.out]; have := HMR.out; simp <;> omega, HT2.out.2, HT2.out.1, bel_next HJ.out.bel (HBF.out.trans (HB13.out.mono HBF.out.size))⟩⟩
            case measure => simp [intOf]; omega
      · have hnq : (y.n != nd) = true := by simp [hyn]
        have HOF := Lib.hid (show ofL (L.take (k + 1)) nd = ofL (L.take k) nd from ofL_take_no HK.out (by rw [HY.out]; exact hyn))
        clear hyn
        go_wp2
        go_roundw
        case rel => exact ⟨k + 1, r, a5, c5, O, by omega, by omega, by go_num, rfl, Lib.hid ⟨HJ.out.row, HJ.out.len, by rw [HOF.out]; exact HJ.out.perm, HJ.out.srt, HJ.out.bel⟩⟩
        case measure => simp [intOf]; omega
    · obtain rfl : k = n := by omega
      have hlt2 : ¬ (k : Int) < (k : Int) := by omega
      have hT : L.take k = L := List.take_of_length_le (by rw [HN.out]; exact Nat.le_refl _)
      have hO : O = srtO (ofL L nd) := srtO_uniq (by have := HJ.out.perm; rw [hT] at this; exact this) HJ.out.srt
      have HF := Lib.hid (show forL L nd most = O.take most.toNat by unfold forL; rw [hO])
      have hL := HJ.out.row.lst
      have hcap := HJ.out.row.upto.2.1
      have hlen := HJ.out.len
      have HL := Lib.hid hL
      have HB := Lib.hid HJ.out.bel
      have HLEN := Lib.hid hlen
      clear hT hO hL hlt h8 HJ
      by_cases hneg : most < 0
      · have HF2 := Lib.hid (show forL L nd most = [] by rw [HF.out, show most.toNat = 0 by omega]; rfl)
        by_cases hr0 : 0 < r
        · have hr1 : (r : Int) > 0 := by omega
          have hcut := cut_to0 a5 r c5 0 0 rfl (by omega)
          have hcut2 := at_to0 a5 r c5 0 0 rfl (by omega)
          clear hcap hlen
          go_wp2
          go_ret
          exact ⟨a5, 0, c5, rfl, by rw [HF2.out]; rfl, by rw [HF2.out]; exact ⟨Or.inl rfl⟩, HB.out⟩
        · obtain rfl : r = 0 := by omega
          have hr1 : ¬ (0 : Int) < 0 := by omega
          clear hcap hlen
          go_wp2
          go_ret
          exact ⟨a5, 0, c5, rfl, by rw [HF2.out]; rfl, by rw [HF2.out]; exact ⟨Or.inl rfl⟩, HB.out⟩
      · obtain ⟨j, hj⟩ : ∃ j, most.toNat = j := ⟨_, rfl⟩
        have hmj : most = (j : Int) := by omega
        subst hmj
        have HF2 := Lib.hid (show forL L nd (j : Int) = O.take j by rw [HF.out, hj])
        by_cases hrj : j < r
        · have hr1 : (j : Int) < (r : Int) := by omega
          have hcut := cut_to0 a5 r c5 j (j : Int) rfl (by omega)
          have hcut2 := at_to0 a5 r c5 j (j : Int) rfl (by omega)
          clear hj hcap hlen
          go_wp2
          go_ret
          exact ⟨a5, j, c5, rfl, by rw [HF2.out, List.length_take, HLEN.out]; omega, by rw [HF2.out]; exact HL.out.pts.take j, HB.out⟩
        · have hr1 : ¬ (j : Int) < (r : Int) := by omega
          clear hj hcap hlen
          go_wp2
          go_ret
          exact ⟨a5, r, c5, rfl, by rw [HF2.out, List.length_take, HLEN.out]; omega, by rw [HF2.out]; exact HL.out.pts.take j, HB.out⟩
end Go.Proofs.Ytolmhlfegllfoaa.Qu.Hi
