/- The contract of the document's Read. -/
import Derived.Test.YtkomfenjeoaelaaDoorBlockReadEq
import Derived.Test.YtkomfenjeoaelaaDoorBlockRBuildYes
import Derived.Test.YtkomfenjeoaelaaDoorMarkRRead
set_option maxRecDepth 20000
set_option linter.unusedSimpArgs false
set_option linter.unusedVariables false
namespace Go.Proofs.YtkomfenjeoaelaaDoor
open Go.RowKit Go.Proofs.YtkomfenjeoaelaaDoor.Crc Go.Proofs.YtkomfenjeoaelaaDoor.Vi Go.Proofs.YtkomfenjeoaelaaDoor.Mk

theorem ropen12 (t b : ByteArray) (o : Bool) (w : World) (HB : Hid (bodyOf t = b)) (HO : Hid (opens t = o)) (hs : t.size ≤ 1000000) : Calls Tryd.prog 58 #[.string t] w fun e w' => e = .returned (.tuple #[.string b, .bool o]) ∧ Below w.heap.size w w' := by
  have := refOpen_any t w hs
  rwa [HB.out, HO.out] at this
/-- What the document's loops have read. -/
structure DR (w wr : World) (d : Nat) (S : ByteArray) (o : Value) (l : List Pt) (r : ByteArray) (b : Bool) : Prop where
  row : PRow wr (d + 1) o l
  rs : RS wr d S r b
  bel : Below w.heap.size w wr
  inv : b = true → r = ⟨#[]⟩
  far : w.heap.size ≤ d
  pot : l.length + pot r b ≤ S.size + 1
theorem DR.but {w wr w' : World} {d : Nat} {S r r' : ByteArray} {b b' : Bool} {o : Value} {l : List Pt} (h : DR w wr d S o l r b) (k : But d wr w') (hr : RS w' d S r' b') (hi : b' = true → r' = ⟨#[]⟩) (hp : Go.Proofs.YtkomfenjeoaelaaDoor.pot r' b' ≤ Go.Proofs.YtkomfenjeoaelaaDoor.pot r b) : DR w w' d S o l r' b' :=
  ⟨owns6_but h.row k (Nat.lt_succ_self d), hr, h.bel.trans (k.below h.far h.bel.size), hi, h.far, by have := h.pot; omega⟩
theorem pot_step {r r' : ByteArray} {b b' : Bool} {m v : Int} (h : smallQ r b m = (v, r', b')) (hi : b = true → r = ⟨#[]⟩) : Go.Proofs.YtkomfenjeoaelaaDoor.pot r' b' ≤ Go.Proofs.YtkomfenjeoaelaaDoor.pot r b := by
  obtain ⟨i1, i2, i3⟩ := smallQ_inv h hi
  exact pot_next i3 (fun e => (i1 e).1) i2
theorem RS.cells {w : World} {d : Nat} {S r : ByteArray} {b : Bool} (h : RS w d S r b) : w.cell? ⟨d, 2, none⟩ = some (.bool b) ∧ w.frozen? ⟨d, 2, none⟩ = false := by
  obtain ⟨a, bad, ⟨c0, c1, c2, f0, f1, f2⟩, hs, -⟩ := h
  rw [← hs]
  exact ⟨c2, f2⟩

set_option maxHeartbeats 16000000 in
theorem rread12_is (S0 : ByteArray) (w : World) (hs0 : S0.size ≤ 90000) : Calls Tryd.prog 30 #[.string S0] w (RdDone (rdB S0) w) := by
  obtain ⟨i0, hi, hz0, hz1, hz2⟩ := info_parts infoP
  have hz := bodyOf_size S0
  obtain ⟨S, hS⟩ : ∃ b, bodyOf S0 = b := ⟨_, rfl⟩
  obtain ⟨ok, hok⟩ : ∃ o, opens S0 = o := ⟨_, rfl⟩
  rw [hS] at hz
  have hs : S.size ≤ 100000 := by omega
  have ko := fun w => ropen12 S0 S ok w (Lib.hid hS) (Lib.hid hok) (by omega)
  obtain ⟨n, r1, b1, h1⟩ : ∃ (n : Nat) (r1 : ByteArray) (b1 : Bool), smallQ S false 3000 = ((n : Int), r1, b1) := by
    obtain ⟨⟨c, r1, b1⟩, h1⟩ : ∃ x, smallQ S false 3000 = x := ⟨_, rfl⟩
    have hk := smallQ_range h1 (by omega)
    exact ⟨c.toNat, r1, b1, by rw [h1, Int.toNat_of_nonneg hk.1]⟩
  have hn := smallQ_range h1 (by omega)
  have hD : docF S = dserF n r1 b1 := by unfold docF; rw [h1]; rfl
  have hin := docF_inv S
  obtain ⟨⟨T, rT, bT⟩, hT⟩ : ∃ x, docF S = x := ⟨_, rfl⟩
  have hrd := rd_doc (S := S0) (r := rT) (b := bT) (l := T) (by rw [hS]; exact hT)
  rw [hT] at hin hD
  obtain ⟨hin1, hin2, -⟩ := hin
  dsimp only at hin1 hin2
  rw [hok] at hrd
  have hno : ok = false → n = 0 := fun e => by
    have e2 : S = ⟨#[]⟩ := by rw [← hS]; unfold bodyOf; rw [hok, e]; rfl
    rw [e2, show smallQ ⟨#[]⟩ false 3000 = (0, ⟨#[]⟩, true) from rfl] at h1
    simp only [Prod.mk.injEq] at h1
    omega
  obtain ⟨i1, -, -⟩ := smallQ_inv h1 (fun e => by cases e)
  have hp1 := pot_step h1 (fun e => by cases e)
  have hp0 : Go.Proofs.YtkomfenjeoaelaaDoor.pot S false = S.size + 1 := by unfold Go.Proofs.YtkomfenjeoaelaaDoor.pot; rw [if_neg (by simp)]
  have HT := Lib.hid hD.symm
  have HRD := Lib.hid hrd
  have HNO := Lib.hid hno
  have HI1 := Lib.hid (fun e => (i1 e).1)
  have kb := fun a c w h => rbuild_is a c T w h (by omega) (fun p hp => by have := (hin2 p hp).1; omega)
  have H1 := Lib.hid h1
  clear hS hok h1 hD hT hrd hno i1 hin2
  go_enter Tryd.func30, Tryd.ntmps30
  go_wp2_with (first
    | (go_at_call 58; (with_reducible refine (ko _).mono ?_); rintro e w1 ⟨rfl, hb1⟩; (obtain ⟨d, hd⟩ : ∃ d, w1.heap.size = d := ⟨_, rfl⟩); (have hR1 : RS (w1.alloc (.cells #[.string S, .int .i64 0, .bool false] 77)) d S S false := by rw [← hd]; exact ⟨0, false, ⟨by simp [go_sem], by simp [go_sem], by simp [go_sem], by simp [go_sem], by simp [go_sem], by simp [go_sem]⟩, rfl, Nat.zero_le _, fun _ => (restZero S).symm, fun e => (by cases e)⟩); (have hb2 : Below w.heap.size w (w1.alloc (.cells #[.string S, .int .i64 0, .bool false] 77)) := hb1.alloc hb1.size _); (have hdw : w.heap.size ≤ d := by rw [← hd]; exact hb1.size); (have HR1 := Lib.hid hR1); (have HB2 := Lib.hid hb2); clear hR1 hb2 hb1)
    | (go_at_call 59; (with_reducible refine (rsmall_is d S S r1 false b1 n 3000 _ hs (by omega) H1 HR1.out).mono ?_); rintro e w3 ⟨rfl, hR3, hB3⟩))
  have R0 := Lib.hid (show DR w w3 d S (.slice none 0 0) [] r1 b1 from ⟨PRow.nil _ _, hR3, HB2.out.trans (hB3.below hdw HB2.out.size), HI1.out, hdw, by rw [← hp0]; show 0 + _ ≤ _; omega⟩)
  have hdl : d < w3.heap.size := hR3.room
  clear hR3 hB3 HR1 HB2 HI1 H1 hp1 hp0
  go_loopw [7, 9] (fun o i wr => ∃ (j q : Nat) (l : List Pt) (r : ByteArray) (b : Bool) (a5 : Option Addr) (c5 : Nat), j ≤ n ∧ i = .int .i64 (j : Int) ∧ o = .slice a5 q c5 ∧ Hid (l.length = q) ∧ DR w wr d S (.slice a5 q c5) l r b ∧ Hid ((l ++ (dserF (n - j) r b).1, (dserF (n - j) r b).2) = (T, rT, bT))) (fun _ i _ => n - (intOf i).toNat)
  case atStart => exact ⟨0, 0, [], r1, b1, none, 0, by omega, rfl, rfl, Lib.hid rfl, R0.out, Lib.hid (by rw [Nat.sub_zero, List.nil_append]; exact HT.out)⟩
  case round =>
    obtain ⟨j, q, l, r, b, a5, c5, hj, rfl, rfl, hlen, R, HF⟩ := hrel
    clear R0
    obtain ⟨w4, hw4⟩ : ∃ x, x = wr := ⟨_, rfl⟩
    subst hw4
    obtain ⟨cb, -⟩ := R.rs.cells
    by_cases hgo : j < n ∧ b = false
    · obtain ⟨hlt, rfl⟩ := hgo
      have hlti : (j : Int) < (n : Int) := by omega
      obtain rfl : ok = true := by
        cases ok with
        | true => rfl
        | false => have := HNO.out rfl; omega
      obtain ⟨⟨s, r2, b2⟩, q1⟩ : ∃ y, textQ r false = y := ⟨_, rfl⟩
      obtain ⟨m, r3, b3, q2⟩ : ∃ (m : Nat) (r3 : ByteArray) (b3 : Bool), smallQ r2 b2 3000 = ((m : Int), r3, b3) := by
        obtain ⟨⟨c, r1, b1⟩, h1⟩ : ∃ x, smallQ r2 b2 3000 = x := ⟨_, rfl⟩
        have hk := smallQ_range h1 (by omega)
        exact ⟨c.toNat, r1, b1, by rw [h1, Int.toNat_of_nonneg hk.1]⟩
      have hm := smallQ_range q2 (by omega)
      obtain ⟨⟨y, r4, b4⟩, q3⟩ : ∃ z, dptsF m ⟨s, 0, 0, ⟨0, 0, 0⟩⟩ r3 b3 = z := ⟨_, rfl⟩
      obtain ⟨p1, p2, p3⟩ := text_inv6 q1 R.inv
      obtain ⟨p4, p5, p6⟩ := smallQ_inv q2 p1
      have hq3 : dptsF ((m : Int)).toNat ⟨s, 0, 0, ⟨0, 0, 0⟩⟩ r3 b3 = (y, r4, b4) := by rw [Int.toNat_natCast]; exact q3
      have hnx : (l ++ (dserF (n - j) r false).1, (dserF (n - j) r false).2) = ((l ++ y) ++ (dserF (n - (j + 1)) r4 b4).1, (dserF (n - (j + 1)) r4 b4).2) := by
        rw [show n - j = (n - (j + 1)) + 1 by omega, dserF_step q1 q2 hq3]
        simp only [List.append_assoc]
      have HF2 := Lib.hid (hnx.symm.trans HF.out)
      have P1 := pot_le p2 p1 (rfl : false = false)
      have P2 := pot_step q2 p1
      have k1 := fun w' h => rtext_is d S r r2 false b2 s w' hs (Lib.hid q1) h
      have k2 := fun w' h => rsmall_is d S r2 r3 b2 b3 m 3000 w' hs (by omega) (Lib.hid q2) h
      have HQ3 := Lib.hid q3
      have HR := Lib.hid R
      have HI3 := Lib.hid (fun e => (p4 e).1)
      have HI2 := Lib.hid p1
      clear q1 q2 q3 hq3 hnx p1 p2 p3 p4 p5 p6 R HF
      go_wp2_with (first
        | (go_at_call 60; (with_reducible refine (k1 _ HR.out.rs).mono ?_); rintro e w5 ⟨rfl, hR5, hB5⟩; (have HR5 := Lib.hid (HR.out.but hB5 hR5 HI2.out P1)); clear hR5 hB5)
        | (go_at_call 59; (with_reducible refine (k2 _ HR5.out.rs).mono ?_); rintro e w6 ⟨rfl, hR6, hB6⟩; (have HR6 := Lib.hid (HR5.out.but hB6 hR6 HI3.out P2)); clear hR6 hB6))
      clear HR HR5 k1 k2 cb
      go_loopw [7, 12, 13, 14] (fun o t v i wr => ∃ (k q' : Nat) (l' : List Pt) (p : Pt) (r' : ByteArray) (b' : Bool) (a6 : Option Addr) (c6 : Nat), k ≤ m ∧ i = .int .i64 (k : Int) ∧ t = .int .i64 p.t ∧ v = .int .i64 p.v ∧ o = .slice a6 q' c6 ∧ Hid (l'.length = q') ∧ p.s = s ∧ DR w wr d S (.slice a6 q' c6) l' r' b' ∧ Hid ((l' ++ (dptsF (m - k) p r' b').1, (dptsF (m - k) p r' b').2) = (l ++ y, r4, b4))) (fun _ _ _ i _ => m - (intOf i).toNat)
      case atStart => exact ⟨0, q, l, ⟨s, 0, 0, ⟨0, 0, 0⟩⟩, r3, b3, a5, c5, by omega, rfl, rfl, rfl, rfl, hlen, rfl, HR6.out, Lib.hid (by rw [Nat.sub_zero, HQ3.out])⟩
      case round =>
        obtain ⟨k, q', l', p, r', b', a6, c6, hk, rfl, rfl, rfl, rfl, hlen', hps, R, HF⟩ := hrel
        clear HR6
        obtain ⟨w7, hw7⟩ : ∃ x, x = wr := ⟨_, rfl⟩
        subst hw7
        obtain ⟨cb, -⟩ := R.rs.cells
        by_cases hgo : k < m ∧ b' = false
        · obtain ⟨hlt', rfl⟩ := hgo
          have hlti' : (k : Int) < (m : Int) := by omega
          obtain ⟨⟨x, r8, b8⟩, hx⟩ : ∃ z, ptB p r' false = z := ⟨_, rfl⟩
          obtain ⟨t, q1, c1, v, q2, c2, a, e1, e2, e3, rfl⟩ := ptB_parts hx
          obtain ⟨u1, u2, u3⟩ := smallQ_inv e1 R.inv
          obtain ⟨u4, u5, -, -⟩ := num_inv6 e2 fun e => (u1 e).1
          obtain ⟨u6, u7⟩ := takeQ_inv e3 u4
          obtain ⟨z, hzz⟩ : ∃ z, zag v = z := ⟨_, rfl⟩
          obtain ⟨t1, ht1⟩ : ∃ y, IntKind.i64.wrap (p.t + t) = y := ⟨_, rfl⟩
          obtain ⟨v1, hv1⟩ : ∃ y, IntKind.i64.wrap (p.v + z) = y := ⟨_, rfl⟩
          rw [hps, hzz, ht1, hv1] at hx
          have k3 := fun w' h => rsmall_is d S r' q1 false c1 t 1099511627776 w' hs (by omega) (Lib.hid e1) h
          have k4 := fun w' h => rint_is d S q1 q2 c1 c2 v z w' hs (Lib.hid e2) (Lib.hid hzz) h
          have k5 := fun w' h => rtake_is d S q2 r8 c2 b8 a w' hs (Lib.hid e3) u4 h
          have hdw7 := R.rs.room
          have hd1 : d + 1 ≤ w7.heap.size := hdw7
          have HROW := Lib.hid R.row
          have HBEL := Lib.hid R.bel
          have HRS := Lib.hid R.rs
          have HFAR := Lib.hid R.far
          have HPOT := Lib.hid R.pot
          have HU6 := Lib.hid u6
          have hlq : q' ≤ 200000 := by
            have := R.pot
            have := hlen'.out
            omega
          have hx2 := hx
          obtain ⟨pt, hpt⟩ : ∃ y, p.t = y := ⟨_, rfl⟩
          obtain ⟨pv, hpv⟩ : ∃ y, p.v = y := ⟨_, rfl⟩
          rw [hpt] at ht1 ⊢
          rw [hpv] at hv1 ⊢
          clear u1 u2 u3 u4 u5 u6 u7 e1 e2 e3 R hzz
          by_cases hlate : 1099511627776 < t1
          · have hD := ptD_late hx hlate
            obtain ⟨-, -, -, hpot⟩ := ptD_inv hD
            have hnx : (l' ++ (dptsF (m - k) p r' false).1, (dptsF (m - k) p r' false).2) = ((l' ++ [⟨s, t1, v1, a⟩]) ++ (dptsF (m - (k + 1)) ⟨s, t1, v1, a⟩ ⟨#[]⟩ true).1, (dptsF (m - (k + 1)) ⟨s, t1, v1, a⟩ ⟨#[]⟩ true).2) := by
              rw [show m - k = (m - (k + 1)) + 1 by omega, dptsF_step hD]
              simp only [List.append_assoc, List.singleton_append]
            have HF2 := Lib.hid (hnx.symm.trans HF.out)
            have HP := Lib.hid hpot
            clear hD hnx HF hpot hx hx2 hpt hpv
            go_wp2_with (first
              | (go_at_call 59; (with_reducible refine (k3 _ HRS.out).mono ?_); rintro e w8 ⟨rfl, hR8, hB8⟩)
              | (go_at_call 61; (with_reducible refine (k4 _ hR8).mono ?_); rintro e w9 ⟨rfl, hR9, hB9⟩; (have hB79 := hB8.trans hB9); (have P9 : RdP w7 d S q2 c2 w9.heap.size ⟨s, t1, v1, ⟨0, 0, 0⟩⟩ (w9.alloc (.cells #[.string s, .int .i64 t1, .int .i64 v1, .int .i64 0, .int .i64 0, .int .i64 0] 32)) := ⟨hR9.below ((Below.refl _ _).alloc (Nat.le_refl _) _), PtW.new w9 ⟨s, t1, v1, ⟨0, 0, 0⟩⟩, hB79.size, hdw7, hB79.alloc _⟩))
              | (go_at_call 62; (with_reducible refine (k5 _ P9.rs).mono ?_); rintro e w10 ⟨rfl, hR10, hB10⟩; (have P10 := P9.but hB10 hR10); (have G := P10.at_); (obtain ⟨⟨p0, p1, p2, p3, p4, p5⟩, g0, g1, g2, g3, g4, g5⟩ := G); dsimp only at p0 p1 p2 p3 p4 p5; (have P11 := P10.set3 a); (obtain ⟨w11, hw11⟩ : ∃ x, ((w10.setCell ⟨w9.heap.size, 3, none⟩ (.int .i64 a.c)).setCell ⟨w9.heap.size, 4, none⟩ (.int .i64 a.s)).setCell ⟨w9.heap.size, 5, none⟩ (.int .i64 a.q) = x := ⟨_, rfl⟩); (rw [hw11] at P11); (have G := P11.at_); (obtain ⟨⟨p0, p1, p2, p3, p4, p5⟩, g0, g1, g2, g3, g4, g5⟩ := G); dsimp only at p0 p1 p2 p3 p4 p5; (have hne1 : ¬ w9.heap.size = d := by have := P11.far; omega); (have hne2 : ¬ d = w9.heap.size := by have := P11.far; omega); (obtain ⟨cb2, fb2⟩ := P11.rs.cells); (have P12 := P11.spoil); (obtain ⟨w12, hw12⟩ : ∃ x, w11.setCell ⟨d, 2, none⟩ (.bool true) = x := ⟨_, rfl⟩); (rw [hw12] at P12); (have G := P12.at_); (obtain ⟨⟨p0, p1, p2, p3, p4, p5⟩, g0, g1, g2, g3, g4, g5⟩ := G); dsimp only at p0 p1 p2 p3 p4 p5; (have HR12 := Lib.hid (owns6_but HROW.out P12.bel (Nat.lt_succ_self d))); (have HW12 := Lib.hid (Nat.le_trans hd1 P12.bel.size)))
              | (at_builtin; refine wpList_appP (w := w12) rfl _ _ rfl (d + 1) q' (.slice a6 q' c6) l' ⟨s, t1, v1, a⟩ w12.heap.size rfl rfl rfl hlen' HR12.out (by omega) HW12.out ?_))
            intro a9 c9 w13 hrow13 _ hb13 _
            have HD13 := Lib.hid (show DR w w13 d S (.slice a9 (q' + 1) c9) (l' ++ [⟨s, t1, v1, a⟩]) ⟨#[]⟩ true from ⟨hrow13.out, P12.rs.farB hb13 (Nat.lt_succ_self d), HBEL.out.trans ((P12.bel.below HFAR.out HBEL.out.size).trans (hb13.mono (by have := HFAR.out; omega))), fun _ => rfl, HFAR.out, by rw [List.length_append]; show _ + 1 + _ ≤ _; have := HP.out; have := HPOT.out; omega⟩)
            clear hrow13 hb13
            go_wp2
            go_roundw
            case rel => exact ⟨k + 1, q' + 1, l' ++ [⟨s, t1, v1, a⟩], ⟨s, t1, v1, a⟩, ⟨#[]⟩, true, a9, c9, by omega, by go_num, rfl, rfl, rfl, Lib.hid (by rw [List.length_append, hlen'.out]; rfl), rfl, HD13.out, HF2⟩
            case measure => simp [intOf]; omega
          · have hD := ptD_fit hx hlate
            obtain ⟨-, -, -, hpot⟩ := ptD_inv hD
            have hnx : (l' ++ (dptsF (m - k) p r' false).1, (dptsF (m - k) p r' false).2) = ((l' ++ [⟨s, t1, v1, a⟩]) ++ (dptsF (m - (k + 1)) ⟨s, t1, v1, a⟩ r8 b8).1, (dptsF (m - (k + 1)) ⟨s, t1, v1, a⟩ r8 b8).2) := by
              rw [show m - k = (m - (k + 1)) + 1 by omega, dptsF_step hD]
              simp only [List.append_assoc, List.singleton_append]
            have HF2 := Lib.hid (hnx.symm.trans HF.out)
            have HP := Lib.hid hpot
            clear hD hnx HF hpot hx hx2 hpt hpv
            go_wp2_with (first
              | (go_at_call 59; (with_reducible refine (k3 _ HRS.out).mono ?_); rintro e w8 ⟨rfl, hR8, hB8⟩)
              | (go_at_call 61; (with_reducible refine (k4 _ hR8).mono ?_); rintro e w9 ⟨rfl, hR9, hB9⟩; (have hB79 := hB8.trans hB9); (have P9 : RdP w7 d S q2 c2 w9.heap.size ⟨s, t1, v1, ⟨0, 0, 0⟩⟩ (w9.alloc (.cells #[.string s, .int .i64 t1, .int .i64 v1, .int .i64 0, .int .i64 0, .int .i64 0] 32)) := ⟨hR9.below ((Below.refl _ _).alloc (Nat.le_refl _) _), PtW.new w9 ⟨s, t1, v1, ⟨0, 0, 0⟩⟩, hB79.size, hdw7, hB79.alloc _⟩))
              | (go_at_call 62; (with_reducible refine (k5 _ P9.rs).mono ?_); rintro e w10 ⟨rfl, hR10, hB10⟩; (have P10 := P9.but hB10 hR10); (have G := P10.at_); (obtain ⟨⟨p0, p1, p2, p3, p4, p5⟩, g0, g1, g2, g3, g4, g5⟩ := G); dsimp only at p0 p1 p2 p3 p4 p5; (have P11 := P10.set3 a); (obtain ⟨w11, hw11⟩ : ∃ x, ((w10.setCell ⟨w9.heap.size, 3, none⟩ (.int .i64 a.c)).setCell ⟨w9.heap.size, 4, none⟩ (.int .i64 a.s)).setCell ⟨w9.heap.size, 5, none⟩ (.int .i64 a.q) = x := ⟨_, rfl⟩); (rw [hw11] at P11); (have G := P11.at_); (obtain ⟨⟨p0, p1, p2, p3, p4, p5⟩, g0, g1, g2, g3, g4, g5⟩ := G); dsimp only at p0 p1 p2 p3 p4 p5; (have hne1 : ¬ w9.heap.size = d := by have := P11.far; omega); (have hne2 : ¬ d = w9.heap.size := by have := P11.far; omega); (have HR12 := Lib.hid (owns6_but HROW.out P11.bel (Nat.lt_succ_self d))); (have HW12 := Lib.hid (Nat.le_trans hd1 P11.bel.size)))
              | (at_builtin; refine wpList_appP (w := w11) rfl _ _ rfl (d + 1) q' (.slice a6 q' c6) l' ⟨s, t1, v1, a⟩ w11.heap.size rfl rfl rfl hlen' HR12.out (by omega) HW12.out ?_))
            intro a9 c9 w13 hrow13 _ hb13 _
            have HD13 := Lib.hid (show DR w w13 d S (.slice a9 (q' + 1) c9) (l' ++ [⟨s, t1, v1, a⟩]) r8 b8 from ⟨hrow13.out, P11.rs.farB hb13 (Nat.lt_succ_self d), HBEL.out.trans ((P11.bel.below HFAR.out HBEL.out.size).trans (hb13.mono (by have := HFAR.out; omega))), HU6.out, HFAR.out, by rw [List.length_append]; show _ + 1 + _ ≤ _; have := HP.out; have := HPOT.out; omega⟩)
            clear hrow13 hb13
            go_wp2
            go_roundw
            case rel => exact ⟨k + 1, q' + 1, l' ++ [⟨s, t1, v1, a⟩], ⟨s, t1, v1, a⟩, r8, b8, a9, c9, by omega, by go_num, rfl, rfl, rfl, Lib.hid (by rw [List.length_append, hlen'.out]; rfl), rfl, HD13.out, HF2⟩
            case measure => simp [intOf]; omega
        · have hend : l' = l ++ y ∧ r' = r4 ∧ b' = b4 := by
            have hf := HF.out
            by_cases hb : b' = true
            · subst hb
              rw [dptsF_bad, List.append_nil] at hf
              simpa [Prod.mk.injEq] using hf
            · have : m - k = 0 := by
                by_cases hkm : k < m
                · exact absurd ⟨hkm, by simpa using hb⟩ hgo
                · omega
              rw [this, dptsF_zero, List.append_nil] at hf
              simpa [Prod.mk.injEq] using hf
          obtain ⟨rfl, rfl, rfl⟩ := hend
          have HR := Lib.hid R
          have hcase : (¬ (k : Int) < (m : Int)) ∨ ((k : Int) < (m : Int) ∧ b' = true) := by
            by_cases hkm : k < m
            · right
              refine ⟨by omega, ?_⟩
              cases b' with
              | true => rfl
              | false => exact absurd ⟨hkm, rfl⟩ hgo
            · left; omega
          clear R hgo
          rcases hcase with hc | ⟨hc, rfl⟩
          · go_wp2
            go_roundw
            case rel => exact ⟨j + 1, q', l ++ y, r', b', a6, c6, by omega, by go_num, rfl, hlen', HR.out, HF2⟩
            case measure => simp [intOf]; omega
          · go_wp2
            go_roundw
            case rel => exact ⟨j + 1, q', l ++ y, r', true, a6, c6, by omega, by go_num, rfl, hlen', HR.out, HF2⟩
            case measure => simp [intOf]; omega
    · have hend : l = T ∧ r = rT ∧ b = bT := by
        have hf := HF.out
        by_cases hb : b = true
        · subst hb
          rw [dserF_bad, List.append_nil] at hf
          simpa [Prod.mk.injEq] using hf
        · have : n - j = 0 := by
            by_cases hkm : j < n
            · exact absurd ⟨hkm, by simpa using hb⟩ hgo
            · omega
          rw [this, dserF_zero, List.append_nil] at hf
          simpa [Prod.mk.injEq] using hf
      obtain ⟨rfl, rfl, rfl⟩ := hend
      obtain ⟨en, hen⟩ : ∃ en, endQ r b = en := ⟨_, rfl⟩
      obtain ⟨E, hE⟩ : ∃ E, bldE l = E := ⟨_, rfl⟩
      obtain ⟨Z, hZ⟩ : ∃ Z, bldS l = Z := ⟨_, rfl⟩
      have ke := fun w' h => rend_b d S r b en w' (Lib.hid hen) h
      rw [hE, hZ] at kb
      have hrd := HRD.out
      rw [hen, hE, hZ] at hrd
      have hcase : (¬ (j : Int) < (n : Int)) ∨ ((j : Int) < (n : Int) ∧ b = true ∧ ok = true) := by
        by_cases hkm : j < n
        · right
          refine ⟨by omega, ?_, ?_⟩
          · cases b with
            | true => rfl
            | false => exact absurd ⟨hkm, rfl⟩ hgo
          · cases ok with
            | true => rfl
            | false => have := HNO.out rfl; omega
        · left; omega
      have HR := Lib.hid R
      have hq := hlen.out
      rw [hq] at kb
      have HL := Lib.hid (show Lst w4 w4.heap.size a5 c5 l by have := R.row.lst; exact this)
      have hcase2 : (ok = false ∧ rdB S0 = none) ∨ (ok = true ∧ (en == 0) = false ∧ (en != 0) = true ∧ rdB S0 = none) ∨ (ok = true ∧ en = 0 ∧ (E == 0) = false ∧ (E != 0) = true ∧ rdB S0 = none) ∨ (ok = true ∧ en = 0 ∧ E = 0 ∧ (Z.toList == S0.toList) = false ∧ rdB S0 = none) ∨ (ok = true ∧ en = 0 ∧ E = 0 ∧ Z = S0 ∧ rdB S0 = some l) := by
        cases ok with
        | false => exact Or.inl ⟨rfl, by rw [hrd, if_neg (by simp)]⟩
        | true =>
          right
          by_cases h1 : en = 0
          · right
            by_cases h2 : E = 0
            · right
              by_cases h3 : Z = S0
              · exact Or.inr ⟨rfl, h1, h2, h3, by rw [hrd, if_pos ⟨rfl, h1, h2, h3⟩]⟩
              · exact Or.inl ⟨rfl, h1, h2, str_ne h3, by rw [hrd, if_neg (fun g => h3 g.2.2.2)]⟩
            · exact Or.inl ⟨rfl, h1, by simpa using h2, by simpa using h2, by rw [hrd, if_neg (fun g => h2 g.2.2.1)]⟩
          · exact Or.inl ⟨rfl, by simpa using h1, by simpa using h1, by rw [hrd, if_neg (fun g => h1 g.2.1)]⟩
      clear R hen hE hZ hrd HRD HF hgo hin1
      rcases hcase with hc | ⟨hc, rfl, rfl⟩
      · rcases hcase2 with ⟨rfl, hx⟩ | ⟨rfl, e1, e2, hx⟩ | ⟨rfl, rfl, e1, e2, hx⟩ | ⟨rfl, rfl, rfl, e1, hx⟩ | ⟨rfl, rfl, rfl, rfl, hx⟩
        · have HX := Lib.hid hx
          clear hx
          go_wp2_with (first
            | (go_at_call 28; (with_reducible refine (kb _ _ _ HL.out).mono ?_); rintro e w5 ⟨rfl, hb5⟩; (have HB5 := Lib.hid hb5); (have hrs5 := HR.out.rs.below hb5); clear hb5)
            | (go_at_call 63; (with_reducible refine (ke _ hrs5).mono ?_); rintro e w6 ⟨rfl, hb6⟩; (have HB6 := Lib.hid (bel_next HB5.out hb6)); clear hb6))
          go_ret2
          exact rd_none HX.out (bel_next HR.out.bel HB5.out)
        · have HX := Lib.hid hx
          clear hx
          go_wp2_with (first
            | (go_at_call 28; (with_reducible refine (kb _ _ _ HL.out).mono ?_); rintro e w5 ⟨rfl, hb5⟩; (have HB5 := Lib.hid hb5); (have hrs5 := HR.out.rs.below hb5); clear hb5)
            | (go_at_call 63; (with_reducible refine (ke _ hrs5).mono ?_); rintro e w6 ⟨rfl, hb6⟩; (have HB6 := Lib.hid (bel_next HB5.out hb6)); clear hb6))
          go_ret2
          exact rd_none HX.out (bel_next HR.out.bel HB6.out)
        · have HX := Lib.hid hx
          clear hx
          go_wp2_with (first
            | (go_at_call 28; (with_reducible refine (kb _ _ _ HL.out).mono ?_); rintro e w5 ⟨rfl, hb5⟩; (have HB5 := Lib.hid hb5); (have hrs5 := HR.out.rs.below hb5); clear hb5)
            | (go_at_call 63; (with_reducible refine (ke _ hrs5).mono ?_); rintro e w6 ⟨rfl, hb6⟩; (have HB6 := Lib.hid (bel_next HB5.out hb6)); clear hb6))
          go_ret2
          exact rd_none HX.out (bel_next HR.out.bel HB6.out)
        · have HX := Lib.hid hx
          clear hx
          go_wp2_with (first
            | (go_at_call 28; (with_reducible refine (kb _ _ _ HL.out).mono ?_); rintro e w5 ⟨rfl, hb5⟩; (have HB5 := Lib.hid hb5); (have hrs5 := HR.out.rs.below hb5); clear hb5)
            | (go_at_call 63; (with_reducible refine (ke _ hrs5).mono ?_); rintro e w6 ⟨rfl, hb6⟩; (have HB6 := Lib.hid (bel_next HB5.out hb6)); clear hb6))
          go_ret2
          exact rd_none HX.out (bel_next HR.out.bel HB6.out)
        · have HX := Lib.hid hx
          clear hx
          go_wp2_with (first
            | (go_at_call 28; (with_reducible refine (kb _ _ _ HL.out).mono ?_); rintro e w5 ⟨rfl, hb5⟩; (have HB5 := Lib.hid hb5); (have hrs5 := HR.out.rs.below hb5); clear hb5)
            | (go_at_call 63; (with_reducible refine (ke _ hrs5).mono ?_); rintro e w6 ⟨rfl, hb6⟩; (have HB6 := Lib.hid (bel_next HB5.out hb6)); clear hb6))
          go_ret2
          exact rd_some HX.out ((HR.out.row.base (by have := HR.out.far; omega)).later HB6.out) (bel_next HR.out.bel HB6.out)
      · rcases hcase2 with ⟨g, hx⟩ | ⟨-, e1, e2, hx⟩ | ⟨-, rfl, e1, e2, hx⟩ | ⟨-, rfl, rfl, e1, hx⟩ | ⟨-, rfl, rfl, rfl, hx⟩
        · cases g
        · have HX := Lib.hid hx
          clear hx
          go_wp2_with (first
            | (go_at_call 28; (with_reducible refine (kb _ _ _ HL.out).mono ?_); rintro e w5 ⟨rfl, hb5⟩; (have HB5 := Lib.hid hb5); (have hrs5 := HR.out.rs.below hb5); clear hb5)
            | (go_at_call 63; (with_reducible refine (ke _ hrs5).mono ?_); rintro e w6 ⟨rfl, hb6⟩; (have HB6 := Lib.hid (bel_next HB5.out hb6)); clear hb6))
          go_ret2
          exact rd_none HX.out (bel_next HR.out.bel HB6.out)
        · have HX := Lib.hid hx
          clear hx
          go_wp2_with (first
            | (go_at_call 28; (with_reducible refine (kb _ _ _ HL.out).mono ?_); rintro e w5 ⟨rfl, hb5⟩; (have HB5 := Lib.hid hb5); (have hrs5 := HR.out.rs.below hb5); clear hb5)
            | (go_at_call 63; (with_reducible refine (ke _ hrs5).mono ?_); rintro e w6 ⟨rfl, hb6⟩; (have HB6 := Lib.hid (bel_next HB5.out hb6)); clear hb6))
          go_ret2
          exact rd_none HX.out (bel_next HR.out.bel HB6.out)
        · have HX := Lib.hid hx
          clear hx
          go_wp2_with (first
            | (go_at_call 28; (with_reducible refine (kb _ _ _ HL.out).mono ?_); rintro e w5 ⟨rfl, hb5⟩; (have HB5 := Lib.hid hb5); (have hrs5 := HR.out.rs.below hb5); clear hb5)
            | (go_at_call 63; (with_reducible refine (ke _ hrs5).mono ?_); rintro e w6 ⟨rfl, hb6⟩; (have HB6 := Lib.hid (bel_next HB5.out hb6)); clear hb6))
          go_ret2
          exact rd_none HX.out (bel_next HR.out.bel HB6.out)
        · have HX := Lib.hid hx
          clear hx
          go_wp2_with (first
            | (go_at_call 28; (with_reducible refine (kb _ _ _ HL.out).mono ?_); rintro e w5 ⟨rfl, hb5⟩; (have HB5 := Lib.hid hb5); (have hrs5 := HR.out.rs.below hb5); clear hb5)
            | (go_at_call 63; (with_reducible refine (ke _ hrs5).mono ?_); rintro e w6 ⟨rfl, hb6⟩; (have HB6 := Lib.hid (bel_next HB5.out hb6)); clear hb6))
          go_ret2
          exact rd_some HX.out ((HR.out.row.base (by have := HR.out.far; omega)).later HB6.out) (bel_next HR.out.bel HB6.out)
end Go.Proofs.YtkomfenjeoaelaaDoor
