/- The document's network: Join. -/
import Derived.Test.YtnjabhjcnkbgpaaNetRefPj
set_option maxRecDepth 20000
set_option linter.unusedSimpArgs false
set_option linter.unusedVariables false
namespace Go.Proofs.Ytnjabhjcnkbgpaa
open Go.RowKit

section
variable {w : World} {B r : Nat} {VL VP : Value} {R : RN}
def notP (a b : Int) (p : Int × Int) : Bool := !(decide (p = pairI a b))
theorem pfilt_yes {p : Int × Int → Bool} {l : List (Int × Int)} {k : Nat} {m : Int × Int} (h : k < l.length) (hm : l[k] = m) (hp : p m = true) : (l.take (k + 1)).filter p = (l.take k).filter p ++ [m] := by
  rw [List.take_succ_eq_append_getElem h, List.filter_append, hm, List.filter_cons, if_pos hp, List.filter_nil]
theorem pfilt_no {p : Int × Int → Bool} {l : List (Int × Int)} {k : Nat} {m : Int × Int} (h : k < l.length) (hm : l[k] = m) (hp : p m = false) : (l.take (k + 1)).filter p = (l.take k).filter p := by
  rw [List.take_succ_eq_append_getElem h, List.filter_append, hm, List.filter_cons, if_neg (by rw [hp]; decide), List.filter_nil, List.append_nil]
set_option maxHeartbeats 4000000 in
theorem rjoin_is (a b : Int) (h : RAt w B r VL VP R) : Calls Try.prog 20 #[.pointer (some ⟨r, 0, none⟩), .int .i64 a, .int .i64 b] w (RDone B r VL VP { R with ps := R.ps.filter (notP a b) } (.bool (isP R.ps a b)) w) := by
  have ki := is_is a b h
  obtain ⟨pa, pc, rfl⟩ := h.rowP.slice
  obtain ⟨n, hn⟩ : ∃ n, R.ps.length = n := ⟨_, rfl⟩
  have HN := Lib.hid hn
  have hlp := h.lenp
  rw [hn] at h hlp ⊢
  have H := Lib.hid h
  obtain ⟨x, hx⟩ : ∃ x, (pairI a b).1 = x := ⟨_, rfl⟩
  obtain ⟨y, hy⟩ : ∃ y, (pairI a b).2 = y := ⟨_, rfl⟩
  have kp := fun W => rpair_is a b W
  rw [hx, hy] at kp
  have HXY := Lib.hid (show pairI a b = (x, y) by rw [← hx, ← hy])
  obtain ⟨was, hwas⟩ : ∃ q, isP R.ps a b = q := ⟨_, rfl⟩
  rw [hwas] at ki ⊢
  clear h hn hx hy hwas
  go_enter Try.func20, Try.ntmps20
  go_wp2_with (go_at_call 35; (with_reducible refine ki.mono ?_); rintro e w1 ⟨rfl, hB⟩; (have HB1 := Lib.hid hB); clear hB)
  go_loopw [8, 9] (fun u i wr => ∃ k : Nat, k ≤ n ∧ i = .int .i64 (k : Int) ∧ ARow wr w.heap.size u ((R.ps.take k).filter (notP a b)) ∧ Below w.heap.size w wr) (fun _ i _ => n - (intOf i).toNat)
  case atStart => exact ⟨0, by omega, rfl, by rw [List.take_zero]; exact ARow.nil _ _, HB1.out⟩
  case round =>
    obtain ⟨k, hk, rfl, hrow, hbel⟩ := hrel
    obtain ⟨w3, hw3⟩ : ∃ x, x = wr := ⟨_, rfl⟩
    subst hw3
    obtain ⟨ua, uc, rfl⟩ := hrow.slice
    obtain ⟨un, hun⟩ : ∃ n, ((R.ps.take k).filter (notP a b)).length = n := ⟨_, rfl⟩
    have hunk : un ≤ 1000 := by
      have := List.length_filter_le (notP a b) (R.ps.take k)
      rw [List.length_take] at this; omega
    rw [hun] at hrow ⊢
    have HUN := Lib.hid hun
    have HROW := Lib.hid hrow
    have HB := Lib.hid hbel
    have h3 := H.out.later hbel
    obtain ⟨-, -, c2, hfz⟩ := h3.c0
    have f2 := hfz 2
    have H3 := Lib.hid h3
    clear hbel hrow hun hfz
    by_cases hkn : k < n
    · have hki : (k : Int) < (n : Int) := by omega
      have hkw : IntKind.i64.wrap ((k : Int) + 1) = (k : Int) + 1 := by rw [IntKind.wrap_i64]; omega
      have hkp : k < R.ps.length := by rw [HN.out]; exact hkn
      obtain ⟨g, rfl, hgl, hpc⟩ := h3.rowP.block (by omega)
      obtain ⟨d0, d1⟩ := hpc k hkp
      obtain ⟨p, hp⟩ : ∃ p, R.ps[k] = p := ⟨_, rfl⟩
      rw [hp] at d0 d1
      obtain ⟨p1, p2⟩ := p
      dsimp only at d0 d1
      have HC := Lib.hid (fun (W : World) (hB : Below w3.heap.size w3 W) => show W.cell? ⟨r, 2, none⟩ = some (.slice (some ⟨g, 0, none⟩) n pc) ∧ W.cell? ⟨g, k * 2, none⟩ = some (.int .i64 p1) ∧ W.cell? ⟨g, k * 2 + 1, none⟩ = some (.int .i64 p2) from
        ⟨(hB.cell (p := ⟨r, 2, none⟩) h3.lt).trans c2, (hB.cell (p := ⟨g, k * 2, none⟩) hgl).trans d0, (hB.cell (p := ⟨g, k * 2 + 1, none⟩) hgl).trans d1⟩)
      have e2' := (HC.out w3.drew (Below.refl _ _).drew)
      have HEQ := Lib.hid (fun W => aeq_run p1 p2 x y W)
      by_cases hxy : (p1, p2) = (x, y)
      · have hpn : notP a b (p1, p2) = false := by unfold notP; rw [HXY.out, hxy]; simp
        have HF := Lib.hid (pfilt_no hkp hp hpn)
        injection hxy with h1 h2
        subst h1 h2
        have heq := fun W => HEQ.out W
        simp only [beq_self_eq_true, Bool.and_true] at heq
        clear hpc hp hkn h3 hpn f2
        go_upto_region 6 with fail
        go_region_with (go_at_call 45; (refine (kp _).mono ?_); rintro e w4 ⟨rfl, hB4⟩; (obtain ⟨t0, t1, t2⟩ := HC.out w4 ((Below.refl _ _).drew.trans hB4)); (have HB4 := Lib.hid (show Below w3.heap.size w3 w4 from (Below.refl _ _).drew.trans hB4)); clear hB4)
        all_goals go_wp2
        all_goals go_roundw
        all_goals (first | (simp [intOf]; omega) | exact ⟨k + 1, by omega, by go_num, by rw [HF.out]; exact HROW.out.later HB4.out, bel_next HB.out HB4.out⟩)
      · have hpn : notP a b (p1, p2) = true := by unfold notP; rw [HXY.out, decide_eq_false hxy]; rfl
        have HF := Lib.hid (pfilt_yes hkp hp hpn)
        have hne : (p1 == x && p2 == y) = false := by
          rw [Bool.eq_false_iff]
          intro e
          simp only [Bool.and_eq_true, beq_iff_eq] at e
          exact hxy (by rw [e.1, e.2])
        have heq := fun W => HEQ.out W
        simp only [hne] at heq
        clear hne hxy hpc hp hkn h3 hpn f2
        go_upto_region 6 with fail
        go_region_with (go_at_call 45; (refine (kp _).mono ?_); rintro e w4 ⟨rfl, hB4⟩; (obtain ⟨t0, t1, t2⟩ := HC.out w4 ((Below.refl _ _).drew.trans hB4)); (have HB4 := Lib.hid (show Below w3.heap.size w3 w4 from (Below.refl _ _).drew.trans hB4)); (have HR4 := Lib.hid (HROW.out.later ((Below.refl _ _).drew.trans hB4))); (have HBB := Lib.hid (bel_next HB.out ((Below.refl _ _).drew.trans hB4))); clear hB4)
        all_goals go_wp2_with (at_builtin; refine wpList_pair (w := w4) rfl _ _ rfl w.heap.size (.slice ua un uc) _ (p1, p2) rfl rfl HR4.out (by rw [HUN.out]; omega) HBB.out.size ?_; intro v5 w5 hR5 hg5 hs5; (have HB5 := Lib.hid (HBB.out.trans (grown_below hg5 HR4.out (Nat.le_refl _) HBB.out.size))); (have HR5 := Lib.hid hR5); clear hg5 hs5 hR5)
        all_goals go_roundw
        all_goals (first | (simp [intOf]; omega) | exact ⟨k + 1, by omega, by go_num, by rw [HF.out]; exact HR5.out, HB5.out⟩)
    · have hki : ¬ (k : Int) < (n : Int) := by omega
      obtain rfl : k = n := by omega
      have HT := Lib.hid (show (R.ps.take k).filter (notP a b) = R.ps.filter (notP a b) by rw [List.take_of_length_le (l := R.ps) (by rw [HN.out]; exact Nat.le_refl _)])
      have HPUT := Lib.hid (fun (hr : ARow w3 w.heap.size (.slice ua un uc) (R.ps.filter (notP a b))) => H.out.pairs (V' := .slice ua un uc) (Frm.of_below HB.out) (HB.out.block r H.out.lt) (fun i hi => HB.out.block i (World.ownsRow.lt H.out.rowL i hi).2) (hr.mono (by have := H.out.lt; have := H.out.base; omega)) (Nat.le_trans (List.length_filter_le _ _) H.out.lenp) (fun i hi => Or.inr (World.ownsRow.lt hr i hi).1))
      have HW := Lib.hid (HPUT.out (by rw [← HT.out]; exact HROW.out))
      clear hkn HPUT
      go_wp2
      go_ret
      exact ⟨_, _, rfl, HW.out⟩
end
end Go.Proofs.Ytnjabhjcnkbgpaa
