/- The walk of NetOrder. -/
import Derived.Test.YtnjabhjcnkbgpaaNetArgs
import Derived.Test.YtnjabhjcnkbgpaaNetOrderMath
set_option maxRecDepth 20000
set_option linter.unusedSimpArgs false
set_option linter.unusedVariables false
namespace Go.Proofs.Ytnjabhjcnkbgpaa
open Go.RowKit

theorem and3 (n : Int) : bits .and .i64 n 3 = n % 4 := by
  have h3 : (BitVec.ofInt 64 3).toNat = 2 ^ 2 - 1 := by decide
  have key : (BitVec.ofInt 64 n &&& BitVec.ofInt 64 3).toNat = (n % ((2 ^ 64 : Nat) : Int)).toNat % 2 ^ 2 := by
    rw [BitVec.toNat_and, BitVec.toNat_ofInt, h3, Nat.and_two_pow_sub_one_eq_mod]
  show IntKind.i64.wrap ((BitVec.ofInt 64 n &&& BitVec.ofInt 64 3).toNat : Nat) = n % 4
  rw [key, IntKind.wrap_i64]
  omega
theorem and3_nat (n : Int) : ∃ x : Nat, bits .and .i64 n 3 = (x : Int) ∧ x < 4 := by
  rw [and3]
  exact ⟨(n % 4).toNat, by omega, by omega⟩
/-- Slices of the call's own in no one block. -/
def Ap (u v : Value) : Prop := ∀ k, u.ownBlock = some k → v.ownBlock ≠ some k
theorem Ap.symm {u v : Value} (h : Ap u v) : Ap v u := fun k e e2 => h k e2 e
theorem Ap.nil (v : Value) : Ap (.slice none 0 0) v := fun k e => by cases e
theorem Ap.turn {w : World} {u u' v : Value} (h : Ap u v) (hs : ∀ k, u'.ownBlock = some k → u.ownBlock = some k ∨ w.heap.size ≤ k) {B sz n : Nat} {T : TypeId} {xs : List Value} (hv : w.ownsRow B T sz v n xs) : Ap u' v := fun k e e2 => by
  rcases hs k e with h1 | h1
  · exact h k h1 e2
  · have := (hv.lt k e2).2; omega
theorem Ap.kept {w w' : World} {u v : Value} (h : Ap u v) (hg : w.grownBy w' u.ownBlock) {B sz n : Nat} {T : TypeId} {xs : List Value} (hv : w.ownsRow B T sz v n xs) : w'.ownsRow B T sz v n xs := by
  refine hv.kept hg ?_
  cases e : v.ownBlock with
  | none => exact Or.inl rfl
  | some k => exact Or.inr fun e2 => h k e2.symm e
/-- Behind the sends: who is parted, the numbers. -/
structure OS (p : Nat → Bool) (k : Nat) (S : NS) : Prop where
  par : S.par = p
  last : S.last = (S.mail.length : Int)
  few : S.mail.length ≤ k
  rise : Rise S
theorem OS.add {p : Nat → Bool} {k : Nat} {S : NS} (h : OS p k S) (hk : k ≤ 1000) (f t : Int) (s : ByteArray) : OS p (k + 1) (addS S f t s) ∧ inc S.last = ((S.mail.length + 1 : Nat) : Int) := by
  have h1 := h.last
  have h2 := h.few
  have e : inc S.last = S.last + 1 := inc_low (by omega) (by omega)
  refine ⟨⟨h.par, ?_, ?_, h.rise.add (by omega) (by omega) f t s⟩, by rw [e, h1]; omega⟩
  · unfold addS
    rw [List.length_append, e, h1]
    simp
  · unfold addS
    rw [List.length_append]; simp; omega
theorem OS.more {p : Nat → Bool} {k : Nat} {S : NS} (h : OS p k S) : OS p (k + 1) S := ⟨h.par, h.last, Nat.le_succ_of_le h.few, h.rise⟩
theorem ids_snoc (l : List Ml) (m : Ml) : idsN (l ++ [m]) = idsN l ++ [m.n.toNat] := by unfold idsN; rw [List.map_append]; rfl
namespace netOrder
set_option maxHeartbeats 16000000 in
theorem walk (a0 : Option Addr) (len cap : Nat) (n0 n1 : Int) (w : World) (harg : ArgOps w a0 len cap) (_h0 : -9223372036854775808 ≤ n0 ∧ n0 ≤ 9223372036854775807) (_h1 : -9223372036854775808 ≤ n1 ∧ n1 ≤ 9223372036854775807) : Calls Try.prog 8 #[.slice a0 len cap, .agg #[.int .i64 n0, .int .i64 n1]] w fun e w' => e = .returned (.bool true) ∧ Below w.heap.size w w' := by
  obtain ⟨l, hl, hops, hlm, hfit⟩ := harg.has
  have HLN := Lib.hid hl
  have HOPS := Lib.hid hops
  have HFIT := Lib.hid hfit
  obtain ⟨a, ha1, ha4⟩ := and3_nat n0
  obtain ⟨b, hb1, hb4⟩ := and3_nat n1
  obtain ⟨wb, hwb⟩ : ∃ x, x = w.alloc (.cells #[.int .i64 n0, .int .i64 n1] 47) := ⟨_, rfl⟩
  have HBB := Lib.hid (show Below w.heap.size w wb by rw [hwb]; exact bel_al w _)
  have hc0 : wb.cell? ⟨w.heap.size, 0, none⟩ = some (.int .i64 n0) := by rw [hwb]; simp [go_sem]
  have hc1 : wb.cell? ⟨w.heap.size, 1, none⟩ = some (.int .i64 n1) := by rw [hwb]; simp [go_sem]
  have hbl : w.heap.size < wb.heap.size := by rw [hwb]; simp
  have HC := Lib.hid (fun (W : World) (hB : Below wb.heap.size wb W) => show W.cell? ⟨w.heap.size, 0, none⟩ = some (.int .i64 n0) ∧ W.cell? ⟨w.heap.size, 1, none⟩ = some (.int .i64 n1) from
    ⟨(hB.cell (p := ⟨w.heap.size, 0, none⟩) hbl).trans hc0, (hB.cell (p := ⟨w.heap.size, 1, none⟩) hbl).trans hc1⟩)
  clear harg hl hops hfit hc0 hc1 hbl _h0 _h1
  have HPAR := Lib.hid (show (setS NS.new (a : Int) (b : Int) true).par = parAB a b from rfl)
  go_enter Try.func8, Try.ntmps8
  go_wp2_with fail
  rw [← hwb]
  clear hwb
  go_wp2_with (first
    | (go_at_call 9; (with_reducible refine (awake_is _).mono ?_); rintro e w1 ⟨rfl, hB⟩; (have HB1 := Lib.hid hB); clear hB)
    | (go_at_call 10; (with_reducible refine (new_is w1).mono ?_); rintro e w2 ⟨rfl, rfl⟩; (have H0 := Lib.hid (One.made w1)); (obtain ⟨d0, d1⟩ := HC.out _ (HB1.out.trans ((bel_al w1 (.cells (ncells (.slice none 0 0) 0 fun _ => false) 54)).mono HB1.out.size))))
    | (go_at_call 17; (have kp := part_one (a : Int) (b : Int) H0.out); (with_reducible refine kp.mono ?_); rintro e w3 ⟨rfl, hO, -, -⟩; (have HO3 := Lib.hid hO); clear hO kp))
  have HB1 := Lib.hid (bel_next HBB.out HB1.out)
  obtain ⟨P, hP⟩ : ∃ P, setS NS.new (a : Int) (b : Int) true = P := ⟨_, rfl⟩
  have hS0 : OS (parAB a b) 0 P ∧ P.mail = [] := by
    have e : P.mail = [] ∧ P.last = 0 := by
      rw [← hP]; unfold setS; split <;> exact ⟨rfl, rfl⟩
    exact ⟨⟨by rw [← hP]; rfl, by rw [e.1, e.2]; rfl, by rw [e.1]; exact Nat.le_refl _, ⟨by rw [e.1]; exact List.Pairwise.nil, fun m hm => by rw [e.1] at hm; cases hm⟩⟩, e.1⟩
  rw [hP] at HO3
  have HS0 := Lib.hid hS0
  clear hS0 hP d0 d1
  go_loopw [9, 10, 11] (fun u v i wr => ∃ (k : Nat) (S : NS), k ≤ 30 ∧ k ≤ len ∧ i = .int .i64 (k : Int) ∧ OS (parAB a b) k S ∧ PRow wr w1.heap.size u (idsN (readyL S)) ∧ PRow wr w1.heap.size v (idsN (shutL S)) ∧ Ap u v ∧ One w1 wr w1.heap.size S) (fun _ _ i _ => 30 - (intOf i).toNat)
  case atStart =>
    have e1 : readyL P = [] := by unfold readyL; rw [HS0.out.2]; rfl
    have e2 : shutL P = [] := by unfold shutL; rw [HS0.out.2]; rfl
    exact ⟨0, P, by omega, by omega, rfl, HS0.out.1, by rw [e1]; exact PRow.nil _ _, by rw [e2]; exact PRow.nil _ _, Ap.nil _, HO3.out⟩
  case round =>
    obtain ⟨k, S, hk30, hkl, rfl, hos, hru, hrv, hap, hone⟩ := hrel
    obtain ⟨w3, hw3⟩ : ∃ x, x = wr := ⟨_, rfl⟩
    subst hw3
    obtain ⟨ua, uc, rfl⟩ := hru.slice
    obtain ⟨va, vc, rfl⟩ := hrv.slice
    have HOS := Lib.hid hos
    have HRU := Lib.hid hru
    have HRV := Lib.hid hrv
    have HAP := Lib.hid hap
    have HO := Lib.hid hone
    clear hos hru hrv hap hone
    by_cases hgo : k < len ∧ k < 30
    · obtain ⟨hg1, hg2⟩ := hgo
      have hg1i : (k : Int) < (len : Int) := by omega
      have hg2i : (k : Int) < 30 := by omega
      have hkw : IntKind.i64.wrap ((k : Int) + 1) = (k : Int) + 1 := by rw [IntKind.wrap_i64]; omega
      have hkl2 : k < l.length := by rw [HLN.out]; exact hg1
      have hat := HOPS.out.at_
      rcases hat with hat | ⟨bb, off, rfl, hbb, hcs⟩
      · rw [hat] at hkl2; exact absurd hkl2 (Nat.not_lt_zero _)
      have hB3 : Below w.heap.size w w3 := bel_next HB1.out HO.out.bel
      obtain ⟨o0, o1, o2, o3⟩ := (hcs k hkl2).below hB3 hbb
      have hft := HFIT.out l[k] (List.getElem_mem hkl2)
      obtain ⟨o, ho⟩ : ∃ o, l[k] = o := ⟨_, rfl⟩
      rw [ho] at o0 o1 o2 o3 hft
      obtain ⟨x, hx1, hx4⟩ := and3_nat o.a
      obtain ⟨y, hy1, hy4⟩ := and3_nat o.b
      obtain ⟨s, hs⟩ : ∃ s, cutB o.s 60 = s := ⟨_, rfl⟩
      have hs60 : s.size ≤ 60 := by rw [← hs]; exact cutB_size _ _
      have ksh := fun W => short_is o.s s 60 60 W rfl (by decide) (Lib.hid hs)
      have ks := send_one (x : Int) (y : Int) s (by omega) HO.out
      have hfull : fullB S = false := by unfold fullB; rw [decide_eq_false]; have := HOS.out.few; omega
      have href : refuse S (x : Int) (y : Int) s = decide (x = y) := by
        unfold refuse
        rw [hfull, two_low hx4 hy4, decide_eq_false (show ¬ 80000 < s.size by omega)]
        cases decide (x = y) <;> rfl
      have HHS := Lib.hid hs
      clear hcs ho hft hs hs60 hfull hB3 hkl2 hbb
      by_cases hxy : x = y
      · have e1 : sendS S (x : Int) (y : Int) s = S := by unfold sendS; rw [href, decide_eq_true hxy]; rfl
        have e2 : sendN S (x : Int) (y : Int) s = 0 := by unfold sendN; rw [href, decide_eq_true hxy]; rfl
        rw [e1, e2, href, decide_eq_true hxy] at ks
        have hne : ((x : Int) != (y : Int)) = false := by simp [hxy]
        have HOS2 := Lib.hid HOS.out.more
        clear e1 e2 href hxy
        go_wp2_with (first
          | (go_at_call 26; (with_reducible refine (ksh _).mono ?_); rintro e w4 ⟨rfl, rfl⟩)
          | (go_at_call 27; (with_reducible refine ks.mono ?_); rintro e w4 ⟨rfl, hO, hK, -⟩; (have HO4 := Lib.hid hO); (have HRU4 := Lib.hid (show PRow w4 _ _ _ from hK.row HRU.out (by decide) (by decide))); (have HRV4 := Lib.hid (show PRow w4 _ _ _ from hK.row HRV.out (by decide) (by decide))); clear hO hK ks))
        go_roundw
        case rel => exact ⟨k + 1, S, by omega, by omega, by go_num, HOS2.out, HRU4.out, HRV4.out, HAP.out, HO4.out⟩
        case measure => simp [intOf]; omega
      · have e1 : sendS S (x : Int) (y : Int) s = addS S (x : Int) (y : Int) s := by unfold sendS; rw [href, decide_eq_false hxy]; rfl
        have e2 : sendN S (x : Int) (y : Int) s = inc S.last := by unfold sendN; rw [href, decide_eq_false hxy]; rfl
        have hadd := HOS.out.add (by omega) (x : Int) (y : Int) s
        obtain ⟨id, hid⟩ : ∃ id, S.mail.length + 1 = id := ⟨_, rfl⟩
        rw [hid] at hadd
        rw [e1, e2, href, decide_eq_false hxy, hadd.2] at ks
        have hne : ((x : Int) != (y : Int)) = true := by simp; omega
        have HOS2 := Lib.hid hadd.1
        have hopen : openB S.par ⟨inc S.last, (x : Int), (y : Int), s, 0⟩ = !(decide (x = a ∧ y = b) || decide (x = b ∧ y = a)) := by
          unfold openB
          rw [HOS.out.par]
          dsimp only
          rw [par_spot ha4 hb4 hx4 hy4 hxy]
        have hru2 := ready_add S (x : Int) (y : Int) s
        have hsu2 := shut_add S (x : Int) (y : Int) s
        rw [hopen] at hru2 hsu2
        have hidn : (⟨inc S.last, (x : Int), (y : Int), s, 0⟩ : Ml).n.toNat = id := by show (inc S.last).toNat = id; rw [hadd.2]; omega
        have hfew : (idsN (readyL S)).length ≤ 30 ∧ (idsN (shutL S)).length ≤ 30 := by
          unfold idsN readyL shutL
          rw [List.length_map, List.length_map]
          have h1 := HOS.out.few
          have h2 := List.length_filter_le (openB S.par) S.mail
          have h3 := List.length_filter_le (fun m => !openB S.par m) S.mail
          omega
        have HFEW := Lib.hid hfew
        by_cases hsh : (x = a ∧ y = b) ∨ (x = b ∧ y = a)
        · have hbool : (!(decide (x = a ∧ y = b) || decide (x = b ∧ y = a))) = false := by
            rcases hsh with h | h
            · rw [decide_eq_true h]; rfl
            · rw [decide_eq_true h, Bool.or_true]; rfl
          rw [hbool] at hru2 hsu2
          have HR2 := Lib.hid (show idsN (readyL (addS S (x : Int) (y : Int) s)) = idsN (readyL S) by rw [hru2]; simp)
          have HV2 := Lib.hid (show idsN (shutL (addS S (x : Int) (y : Int) s)) = idsN (shutL S) ++ [id] by rw [hsu2, if_neg (by decide), ids_snoc, hidn])
          have hwhich : (((x : Int) == (a : Int)) = true ∧ ((y : Int) == (b : Int)) = true) ∨ ((((x : Int) == (a : Int)) = false ∨ (((x : Int) == (a : Int)) = true ∧ ((y : Int) == (b : Int)) = false)) ∧ ((x : Int) == (b : Int)) = true ∧ ((y : Int) == (a : Int)) = true) := by
            simp only [beq_iff_eq, beq_eq_false_iff_ne]; omega
          clear e1 e2 href hxy hadd hopen hru2 hsu2 hidn hsh hbool hfew hid
          rcases hwhich with ⟨t1, t2⟩ | ⟨t1 | ⟨t1, t4⟩, t2, t3⟩
          all_goals
            go_wp2_with (first
              | (go_at_call 26; (with_reducible refine (ksh _).mono ?_); rintro e w4 ⟨rfl, rfl⟩)
              | (go_at_call 27; (with_reducible refine ks.mono ?_); rintro e w4 ⟨rfl, hO, hK, hsz⟩; (have HSZ := Lib.hid (Nat.le_trans HO.out.bel.size hsz)); (have HO4 := Lib.hid hO); (have HRU4 := Lib.hid (show PRow w4 _ _ _ from hK.row HRU.out (by decide) (by decide))); (have HRV4 := Lib.hid (show PRow w4 _ _ _ from hK.row HRV.out (by decide) (by decide))); clear hO hK ks hsz)
              | (at_builtin; refine wpList_place (w := w4) rfl _ _ rfl w1.heap.size (.slice va _ vc) _ id rfl rfl HRV4.out HSZ.out (by have := HFEW.out.2; omega) ?_; intro v5 w5 hR5 hg5 hs5; (have HR5 := Lib.hid hR5); (have HO5 := Lib.hid (HO4.out.grown hg5 HRV4.out (by decide) (by decide) (Nat.le_refl _))); (have HU5 := Lib.hid (show PRow w5 _ _ _ from HAP.out.symm.kept hg5 HRU4.out)); (have HA5 := Lib.hid (HAP.out.symm.turn hs5 HRU4.out).symm); clear hR5 hg5 hs5))
            go_roundw
            case rel => exact ⟨k + 1, _, by omega, by omega, by go_num, HOS2.out, by rw [HR2.out]; exact HU5.out, by rw [HV2.out]; exact HR5.out, HA5.out, HO5.out⟩
            case measure => simp [intOf]; omega
        · have hbool : (!(decide (x = a ∧ y = b) || decide (x = b ∧ y = a))) = true := by
            rw [decide_eq_false (fun h => hsh (Or.inl h)), decide_eq_false (fun h => hsh (Or.inr h))]; rfl
          rw [hbool] at hru2 hsu2
          have HR2 := Lib.hid (show idsN (readyL (addS S (x : Int) (y : Int) s)) = idsN (readyL S) ++ [id] by rw [hru2, if_pos rfl, ids_snoc, hidn])
          have HV2 := Lib.hid (show idsN (shutL (addS S (x : Int) (y : Int) s)) = idsN (shutL S) by rw [hsu2]; simp)
          have hwhich : (((x : Int) == (a : Int)) = false ∨ (((x : Int) == (a : Int)) = true ∧ ((y : Int) == (b : Int)) = false)) ∧ (((x : Int) == (b : Int)) = false ∨ (((x : Int) == (b : Int)) = true ∧ ((y : Int) == (a : Int)) = false)) := by
            simp only [beq_iff_eq, beq_eq_false_iff_ne]; omega
          clear e1 e2 href hxy hadd hopen hru2 hsu2 hidn hsh hbool hfew hid
          rcases hwhich with ⟨t1 | ⟨t1, t2⟩, t3 | ⟨t3, t4⟩⟩
          all_goals
            go_wp2_with (first
              | (go_at_call 26; (with_reducible refine (ksh _).mono ?_); rintro e w4 ⟨rfl, rfl⟩)
              | (go_at_call 27; (with_reducible refine ks.mono ?_); rintro e w4 ⟨rfl, hO, hK, hsz⟩; (have HSZ := Lib.hid (Nat.le_trans HO.out.bel.size hsz)); (have HO4 := Lib.hid hO); (have HRU4 := Lib.hid (show PRow w4 _ _ _ from hK.row HRU.out (by decide) (by decide))); (have HRV4 := Lib.hid (show PRow w4 _ _ _ from hK.row HRV.out (by decide) (by decide))); clear hO hK ks hsz)
              | (at_builtin; refine wpList_place (w := w4) rfl _ _ rfl w1.heap.size (.slice ua _ uc) _ id rfl rfl HRU4.out HSZ.out (by have := HFEW.out.1; omega) ?_; intro v5 w5 hR5 hg5 hs5; (have HR5 := Lib.hid hR5); (have HO5 := Lib.hid (HO4.out.grown hg5 HRU4.out (by decide) (by decide) (Nat.le_refl _))); (have HU5 := Lib.hid (show PRow w5 _ _ _ from HAP.out.kept hg5 HRV4.out)); (have HA5 := Lib.hid (HAP.out.turn hs5 HRV4.out)); clear hR5 hg5 hs5))
            go_roundw
            case rel => exact ⟨k + 1, _, by omega, by omega, by go_num, HOS2.out, by rw [HR2.out]; exact HR5.out, by rw [HV2.out]; exact HU5.out, HA5.out, HO5.out⟩
            case measure => simp [intOf]; omega
    · have hc : (¬ (k : Int) < (len : Int)) ∨ ((k : Int) < (len : Int) ∧ ¬ (k : Int) < 30) := by omega
      obtain ⟨R, hR⟩ : ∃ R, readyL S = R := ⟨_, rfl⟩
      obtain ⟨D, hD⟩ : ∃ D, shutL S = D := ⟨_, rfl⟩
      have hlowR : ∀ m ∈ R, m.n = ((m.n.toNat : Nat) : Int) := fun m hm => by
        rw [← hR] at hm
        have := (HOS.out.rise.low m (List.mem_filter.1 hm).1).1
        omega
      have hlowD : ∀ m ∈ D, m.n = ((m.n.toNat : Nat) : Int) := fun m hm => by
        rw [← hD] at hm
        have := (HOS.out.rise.low m (List.mem_filter.1 hm).1).1
        omega
      have hpairD : D.Pairwise fun x y => x.n < y.n := by rw [← hD]; exact HOS.out.rise.pair.filter _
      have hlen1 : R.length ≤ 30 ∧ D.length ≤ 30 := by
        have h1 := HOS.out.few
        have h2 := List.length_filter_le (openB S.par) S.mail
        have h3 := List.length_filter_le (fun m => !openB S.par m) S.mail
        rw [← hR, ← hD]; unfold readyL shutL; omega
      obtain ⟨rl, hrl⟩ : ∃ n, (idsN (readyL S)).length = n := ⟨_, rfl⟩
      obtain ⟨dl, hdl⟩ : ∃ n, (idsN (shutL S)).length = n := ⟨_, rfl⟩
      have hrl2 : R.length = rl := by rw [← hrl, ← hR]; unfold idsN; rw [List.length_map]
      have hdl2 : D.length = dl := by rw [← hdl, ← hD]; unfold idsN; rw [List.length_map]
      rw [hrl, hdl]
      have hru : PRow w3 w1.heap.size (.slice ua rl uc) (idsN R) := by have := HRU.out; rw [hrl, hR] at this; exact this
      have hrv : PRow w3 w1.heap.size (.slice va dl vc) (idsN D) := by have := HRV.out; rw [hdl, hD] at this; exact this
      have HU := Lib.hid hru
      have HV := Lib.hid hrv
      have HRD := Lib.hid hR
      have HDD := Lib.hid hD
      have HRL := Lib.hid hrl2
      have HDL := Lib.hid hdl2
      have HLR := Lib.hid hlowR
      have HLD := Lib.hid hlowD
      have HPD := Lib.hid hpairD
      have hrl30 : rl ≤ 30 := by omega
      have hdl30 : dl ≤ 30 := by omega
      have HOO := Lib.hid HO.out
      clear hru hrv hR hD hrl hdl hrl2 hdl2 hlowR hlowD hpairD hlen1 hgo HRU HRV HAP
      rcases hc with hc1 | ⟨hc1, hc2⟩
      all_goals
        go_wp2
        go_loopw [16] (fun i wr => ∃ (j : Nat) (T : NS), j ≤ rl ∧ i = .int .i64 (j : Int) ∧ readyL T = R.drop j ∧ shutL T = D ∧ T.par = parAB a b ∧ PRow wr w1.heap.size (.slice ua rl uc) (idsN R) ∧ PRow wr w1.heap.size (.slice va dl vc) (idsN D) ∧ One w1 wr w1.heap.size T) (fun i _ => rl - (intOf i).toNat)
        case atStart => exact ⟨0, S, by omega, rfl, HRD.out, HDD.out, HOS.out.par, HU.out, HV.out, HOO.out⟩
        case round =>
          obtain ⟨j, T, hj, rfl, hrt, hst, hpt, hu, hv, hone⟩ := hrel
          obtain ⟨w5, hw5⟩ : ∃ x, x = wr := ⟨_, rfl⟩
          subst hw5
          have HU5 := Lib.hid hu
          have HV5 := Lib.hid hv
          have HO5 := Lib.hid hone
          have HST := Lib.hid hst
          have HPT := Lib.hid hpt
          clear hu hv hone hst hpt
          by_cases hjr : j < rl
          · have hji : (j : Int) < (rl : Int) := by omega
            have hjw : IntKind.i64.wrap ((j : Int) + 1) = (j : Int) + 1 := by rw [IntKind.wrap_i64]; omega
            have hjR : j < R.length := by rw [HRL.out]; exact hjr
            rw [List.drop_eq_getElem_cons hjR] at hrt
            obtain ⟨m, hm⟩ : ∃ m, R[j] = m := ⟨_, rfl⟩
            rw [hm] at hrt
            obtain ⟨ht, hrn⟩ := take_head hrt
            have kt := take_one 0 (by decide) HO5.out
            rw [ht.took] at kt
            have hml := HLR.out m (by rw [← hm]; exact List.getElem_mem hjR)
            have HRN := Lib.hid hrn
            have HST2 := Lib.hid (ht.shut.trans HST.out)
            have HPT2 := Lib.hid (ht.par.trans HPT.out)
            have hidj : j < (idsN R).length := by unfold idsN; rw [List.length_map]; exact hjR
            have hide : (idsN R)[j] = m.n.toNat := by rw [ids_at hjR hidj, hm]
            have HCU := Lib.hid (fun (W : World) (hW : PRow W w1.heap.size (.slice ua rl uc) (idsN R)) => show ∃ g, ua = some ⟨g, 0, none⟩ ∧ g < W.heap.size ∧ W.cell? ⟨g, j, none⟩ = some (.int .i64 m.n) by
              obtain ⟨g, e1, -, -, e4, e5⟩ := hW.block (by omega)
              have e6 := e5 j hidj
              rw [hide, ← hml] at e6
              exact ⟨g, e1, e4, e6⟩)
            have hnn : (m.n != m.n) = false := by simp
            unfold mailV Ml.v at kt
            dsimp only [Option.isSome] at kt
            clear hrt ht hrn hm hjr hjR hml hidj hide
            go_wp2_with (go_at_call 11; (with_reducible refine kt.mono ?_); rintro e w6 ⟨rfl, hO, hK, -⟩; (have HU6 := Lib.hid (show PRow w6 _ _ _ from hK.row HU5.out (by decide) (by decide))); (have HV6 := Lib.hid (show PRow w6 _ _ _ from hK.row HV5.out (by decide) (by decide))); (have HO6 := Lib.hid hO); (obtain ⟨g, rfl, hgl, cg⟩ := HCU.out w6 HU6.out); (have hg1 : ¬ g = w6.heap.size := by omega); (have hg2 : ¬ w6.heap.size = g := by omega); clear hO hK kt)
            go_quiet (fail)
            go_wp2
            go_roundw
            case rel =>
              have bb := below_drewN (bel_al w6 (.cells #[.int .i64 m.n, .int .i64 m.f, .int .i64 m.t, .string m.s, .int .i64 m.a] 34)) nq
              exact ⟨j + 1, _, by omega, by go_num, HRN.out, HST2.out, HPT2.out, HU6.out.later bb, HV6.out.later bb, HO6.out.later bb⟩
            case measure => simp [intOf]; omega
          · have hji : ¬ (j : Int) < (rl : Int) := by omega
            obtain rfl : j = rl := by omega
            rw [List.drop_of_length_le (by rw [HRL.out]; exact Nat.le_refl _)] at hrt
            have kt := take_one 0 (by decide) HO5.out
            rw [(take_empty 0 hrt).1, (take_empty 0 hrt).2] at kt
            unfold mailV noM at kt
            dsimp only [Option.isSome] at kt
            obtain ⟨hjp, hjm⟩ := join_none ha4 hb4 HPT.out
            obtain ⟨U, hU⟩ : ∃ U, setS T (a : Int) (b : Int) false = U := ⟨_, rfl⟩
            have HKJ := Lib.hid (fun (W : World) (h : One w1 W w1.heap.size T) => join_one (a : Int) (b : Int) h)
            rw [hU] at hjp hjm HKJ
            have HUP := Lib.hid hjp
            have HUR := Lib.hid (show readyL U = D by rw [ready_none hjp, hjm, ← HST.out, shut_all hrt])
            clear hrt hjp hjm hU hjr
            go_wp2_with (first
              | (go_at_call 11; (with_reducible refine kt.mono ?_); rintro e w6 ⟨rfl, hO, hK, -⟩; (have HV6 := Lib.hid (show PRow w6 _ _ _ from hK.row HV5.out (by decide) (by decide))); (have kj := HKJ.out _ (hO.later (bel_al w6 (.cells #[.int .i64 0, .int .i64 0, .int .i64 0, .string ⟨#[]⟩, .int .i64 0] 34)))); (have HV7 := Lib.hid (HV6.out.later (bel_al w6 (.cells #[.int .i64 0, .int .i64 0, .int .i64 0, .string ⟨#[]⟩, .int .i64 0] 34)))); clear hO hK kt)
              | (go_at_call 19; (with_reducible refine kj.mono ?_); rintro e w8 ⟨rfl, hO, hK, -⟩; (have HV8 := Lib.hid (show PRow w8 _ _ _ from hK.row HV7.out (by decide) (by decide))); (have HO8 := Lib.hid hO); clear hO hK kj))
            go_loopw [21] (fun i wr => ∃ (q : Nat) (T : NS), q ≤ dl ∧ i = .int .i64 (q : Int) ∧ readyL T = D.drop q ∧ T.par = (fun _ => false) ∧ PRow wr w1.heap.size (.slice va dl vc) (idsN D) ∧ One w1 wr w1.heap.size T) (fun i _ => dl - (intOf i).toNat)
            case atStart => exact ⟨0, U, by omega, rfl, HUR.out, HUP.out, HV8.out, HO8.out⟩
            case round =>
              obtain ⟨q, T, hq, rfl, hrt, hpt, hv, hone⟩ := hrel
              obtain ⟨w9, hw9⟩ : ∃ x, x = wr := ⟨_, rfl⟩
              subst hw9
              have HV9 := Lib.hid hv
              have HO9 := Lib.hid hone
              have HPT := Lib.hid hpt
              clear hv hone hpt
              by_cases hqd : q < dl
              · have hqi : (q : Int) < (dl : Int) := by omega
                have hqw : IntKind.i64.wrap ((q : Int) + 1) = (q : Int) + 1 := by rw [IntKind.wrap_i64]; omega
                have hqD : q < D.length := by rw [HDL.out]; exact hqd
                rw [List.drop_eq_getElem_cons hqD] at hrt
                obtain ⟨m, hm⟩ : ∃ m, D[q] = m := ⟨_, rfl⟩
                rw [hm] at hrt
                obtain ⟨ht, hrn⟩ := take_head hrt
                have kt := take_one 0 (by decide) HO9.out
                rw [ht.took] at kt
                have hml := HLD.out m (by rw [← hm]; exact List.getElem_mem hqD)
                have HRN := Lib.hid hrn
                have HPT2 := Lib.hid (ht.par.trans HPT.out)
                have hidj : q < (idsN D).length := by unfold idsN; rw [List.length_map]; exact hqD
                have hide : (idsN D)[q] = m.n.toNat := by rw [ids_at hqD hidj, hm]
                have hnn : (m.n != m.n) = false := by simp
                unfold mailV Ml.v at kt
                dsimp only [Option.isSome] at kt
                by_cases hq0 : q = 0
                · have HCU := Lib.hid (fun (W : World) (hW : PRow W w1.heap.size (.slice va dl vc) (idsN D)) => show ∃ g, va = some ⟨g, 0, none⟩ ∧ g < W.heap.size ∧ W.cell? ⟨g, q, none⟩ = some (.int .i64 m.n) by
                    obtain ⟨g, e1, -, -, e4, e5⟩ := hW.block (by omega)
                    have e6 := e5 q hidj
                    rw [hide, ← hml] at e6
                    exact ⟨g, e1, e4, e6⟩)
                  have hqp : decide (0 < q) = false := decide_eq_false (by omega)
                  clear hrt ht hrn hm hqd hqD hml hidj hide hq0
                  go_wp2_with (go_at_call 11; (with_reducible refine kt.mono ?_); rintro e w10 ⟨rfl, hO, hK, -⟩; (have HV10 := Lib.hid (show PRow w10 _ _ _ from hK.row HV9.out (by decide) (by decide))); (have HO10 := Lib.hid hO); (obtain ⟨g, rfl, hgl, cg⟩ := HCU.out w10 HV10.out); (have hg1 : ¬ g = w10.heap.size := by omega); (have hg2 : ¬ w10.heap.size = g := by omega); clear hO hK kt)
                  go_quiet (fail)
                  go_wp2
                  go_roundw
                  case rel =>
                    have bb := below_drewN (bel_al w10 (.cells #[.int .i64 m.n, .int .i64 m.f, .int .i64 m.t, .string m.s, .int .i64 m.a] 34)) nq
                    exact ⟨q + 1, _, by omega, by go_num, HRN.out, HPT2.out, HV10.out.later bb, HO10.out.later bb⟩
                  case measure => simp [intOf]; omega
                · obtain ⟨q1, hq1⟩ : ∃ q1, q1 + 1 = q := ⟨q - 1, by omega⟩
                  have hq1D : q1 < D.length := by omega
                  obtain ⟨m1, hm1⟩ : ∃ m1, D[q1] = m1 := ⟨_, rfl⟩
                  have hml1 := HLD.out m1 (by rw [← hm1]; exact List.getElem_mem hq1D)
                  have hlt : m1.n < m.n := by
                    have := List.pairwise_iff_getElem.1 HPD.out q1 q hq1D hqD (by omega)
                    rw [hm1, hm] at this; exact this
                  have hidj1 : q1 < (idsN D).length := by unfold idsN; rw [List.length_map]; exact hq1D
                  have hide1 : (idsN D)[q1] = m1.n.toNat := by rw [ids_at hq1D hidj1, hm1]
                  have HCU := Lib.hid (fun (W : World) (hW : PRow W w1.heap.size (.slice va dl vc) (idsN D)) => show ∃ g, va = some ⟨g, 0, none⟩ ∧ g < W.heap.size ∧ W.cell? ⟨g, q, none⟩ = some (.int .i64 m.n) ∧ W.cell? ⟨g, q1, none⟩ = some (.int .i64 m1.n) by
                    obtain ⟨g, e1, -, -, e4, e5⟩ := hW.block (by omega)
                    have e6 := e5 q hidj
                    rw [hide, ← hml] at e6
                    have e7 := e5 q1 hidj1
                    rw [hide1, ← hml1] at e7
                    exact ⟨g, e1, e4, e6, e7⟩)
                  have hqp : decide (0 < q) = true := decide_eq_true (by omega)
                  have hqs : IntKind.i64.wrap ((q : Int) - 1) = (q1 : Int) := by rw [IntKind.wrap_i64]; omega
                  have hq1i : (q1 : Int) < (dl : Int) := by omega
                  have hle : ¬ m.n ≤ m1.n := by omega
                  clear hrt ht hrn hm hqd hqD hml hidj hide hq0 hq1 hq1D hm1 hml1 hlt hidj1 hide1
                  go_wp2_with (go_at_call 11; (with_reducible refine kt.mono ?_); rintro e w10 ⟨rfl, hO, hK, -⟩; (have HV10 := Lib.hid (show PRow w10 _ _ _ from hK.row HV9.out (by decide) (by decide))); (have HO10 := Lib.hid hO); (obtain ⟨g, rfl, hgl, cg, cg1⟩ := HCU.out w10 HV10.out); (have hg1 : ¬ g = w10.heap.size := by omega); (have hg2 : ¬ w10.heap.size = g := by omega); clear hO hK kt)
                  go_quiet (fail)
                  go_wp2
                  go_roundw
                  case rel =>
                    have bb := below_drewN (bel_al w10 (.cells #[.int .i64 m.n, .int .i64 m.f, .int .i64 m.t, .string m.s, .int .i64 m.a] 34)) nq
                    exact ⟨q + 1, _, by omega, by go_num, HRN.out, HPT2.out, HV10.out.later bb, HO10.out.later bb⟩
                  case measure => simp [intOf]; omega
              · have hqi : ¬ (q : Int) < (dl : Int) := by omega
                obtain rfl : q = dl := by omega
                rw [List.drop_of_length_le (by rw [HDL.out]; exact Nat.le_refl _), ready_none HPT.out] at hrt
                have kw := waits_one HO9.out
                rw [hrt] at kw
                clear hqd hrt
                go_wp2_with (go_at_call 31; (with_reducible refine kw.mono ?_); rintro e w10 ⟨rfl, rfl⟩)
                go_ret
                exact ⟨rfl, bel_next HB1.out HO9.out.bel⟩
end netOrder
end Go.Proofs.Ytnjabhjcnkbgpaa
