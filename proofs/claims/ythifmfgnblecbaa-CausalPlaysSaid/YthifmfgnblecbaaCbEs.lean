/- The document's Sure and Lacks. -/
import Derived.Test.YthifmfgnblecbaaCbEb
import Derived.Test.YthifmfgnblecbaaCbLacks
import Derived.Deep.LoopGhost
set_option maxRecDepth 200000
set_option linter.unusedSimpArgs false
set_option linter.unusedVariables false
namespace Go.Proofs.Ythifmfgnblecbaa.Og.Cb
open Go.RowKit Go.Maps Go.Proofs.Ythifmfgnblecbaa.Vi Go.Proofs.Ythifmfgnblecbaa.Mk

def mixF (O : List Int) (f : Nat → Int) (k : Nat) : Nat → Int := fun i => if i < k then cl (f i) else atL O (i : Int)
theorem mix_fit (O : List Int) (f : Nat → Int) (k : Nat) : Fit (mixF O f k) := fun i hi => by
  unfold mixF
  split
  · exact cl_bounds _
  · exact atL_bounds _ _
theorem mix_zero {O : List Int} (h : plainL O = O) (f : Nat → Int) : vec (mixF O f 0) = O := by
  refine Eq.trans (vec_congr fun i hi => ?_) h
  unfold mixF
  rw [if_neg (by omega)]
theorem mix_step (O : List Int) (f : Nat → Int) {k : Nat} (hk : k < 8) : withL (vec (mixF O f k)) (k : Int) (f k) = vec (mixF O f (k + 1)) := by
  unfold withL
  refine vec_congr fun i hi => ?_
  rw [vec_at (mix_fit O f k) hi]
  unfold mixF
  by_cases e : (i : Int) = (k : Int)
  · have e2 : i = k := by omega
    rw [if_pos e, if_pos (by omega), e2]
  · rw [if_neg e]
    by_cases c : i < k
    · rw [if_pos c, if_pos (by omega)]
    · rw [if_neg c, if_neg (by omega)]
theorem find_yes {l : List Rec} {s q : Int} (h : hasB l s q = true) : ∃ p : Nat, findI l s q = (p : Int) := ⟨_, if_pos h⟩
theorem find_no {l : List Rec} {s q : Int} (h : hasB l s q = false) : findI l s q = -1 := by unfold findI; rw [h]; rfl
structure EsJ (w wr : World) (S : CS) (f : Nat → Int) (k : Nat) (v : Value) : Prop where
  ns : Ns wr v (vec (mixF S.out f k))
  bel : Below w.heap.size w wr
set_option maxHeartbeats 4000000 in
theorem esure_is {w : World} {B b : Nat} {ov v : Value} {zs : List Rd} {S : CS} {F : Nat → Prop} (h : EbAt w B b ov v zs S F) : Calls Try.prog 21 #[.pointer (some ⟨b, 0, none⟩)] w (SureDone S w) := by
  obtain ⟨f, hf⟩ := sure_f h.good
  have HR := Lib.hid h
  have HF := Lib.hid hf
  have c1 := h.c1
  obtain ⟨oa, oc, eo⟩ := h.ns.slice
  subst eo
  have H0 := Lib.hid (show EsJ w w S f 0 (.slice oa S.out.length oc) from ⟨by rw [mix_zero h.good.plain]; exact h.ns, Below.refl _ _⟩)
  clear h hf
  go_enter Try.func21, Try.ntmps21
  go_wp2
  go_loopw [3, 4] (fun v i wr => ∃ k : Nat, k ≤ 8 ∧ i = .int .i64 (k : Int) ∧ Hid (EsJ w wr S f k v)) (fun _ i _ => 8 - (intOf i).toNat)
  case atStart => exact ⟨0, by omega, rfl, H0⟩
  case round =>
    obtain ⟨k, hk, rfl, HJ⟩ := hrel
    clear H0 c1
    obtain ⟨w3, hw3⟩ : ∃ x, x = wr := ⟨_, rfl⟩
    subst hw3
    obtain ⟨a3, c3, e3⟩ := HJ.out.ns.slice
    have c1 := (HR.out.later HJ.out.bel).c1
    by_cases hk8 : k < 8
    · have hlt2 : (k : Int) < 8 := by omega
      have ka := rat_is (.slice oa S.out.length oc) S.out (k : Int) w3 (HR.out.later HJ.out.bel).ns
      obtain ⟨s1, s2, s3⟩ := HF.out k
      obtain ⟨a, ha⟩ : ∃ z, atL S.out (k : Int) = z := ⟨_, rfl⟩
      have hab := atL_bounds S.out (k : Int)
      have hfb := (HF.out k).cl HR.out.good
      obtain ⟨n, hn⟩ : ∃ z, f k = z := ⟨_, rfl⟩
      rw [ha] at ka s1 s2 hab
      rw [hn] at s1 s2 s3 hfb
      have HA := Lib.hid s2
      have HB := Lib.hid s3
      have HN := Lib.hid hn
      have HS := Lib.hid (mix_step S.out f hk8)
      have HPF := Lib.hid HJ.out.ns
      clear s2 s3 hn ha
      subst e3
      go_wp2_with (go_at_call 27; (with_reducible refine ka.mono ?_); rintro e w4 ⟨rfl, hb4⟩; (have HB4 := Lib.hid hb4); clear hb4)
      clear ka c1
      go_loopg [5] (n - a).toNat (fun g nv wr => ∃ j : Int, a ≤ j ∧ j + (g : Int) = n ∧ nv = .int .i64 j ∧ w4 = wr)
      case atStart => exact ⟨a, Int.le_refl _, by omega, rfl, by simp⟩
      case round =>
        obtain ⟨j, hj1, hj2, rfl, rfl⟩ := hrel
        have kfd := find_is (HR.out.later (bel_next HJ.out.bel HB4.out)) (k : Int) (j + 1)
        have hw : IntKind.i64.wrap (j + 1) = j + 1 := by rw [IntKind.wrap_i64]; omega
        cases gk with
        | zero =>
          obtain rfl : j = n := by omega
          rw [find_no HB.out] at kfd
          rw [HN.out] at HS
          have kw := fun (W : World) (h : Below w4.heap.size w4 W) => rwithF_is (.slice a3 (vec (mixF S.out f k)).length c3) (vec (mixF S.out f k)) (k : Int) j W (Ns.later (Ns.later HPF.out HB4.out) h) (by omega)
          clear hj1 hj2
          go_wp2_with (first
            | (go_at_call 36; (with_reducible refine kfd.mono ?_); rintro e w8 ⟨rfl, rfl⟩)
            | (go_at_call 28; (with_reducible refine (kw _ (Below.refl _ _)).mono ?_); rintro e w9 ⟨v9, rfl, hn9, hb9, hf9⟩; (have HJ9 := Lib.hid (show EsJ w w9 S f (k + 1) v9 from ⟨by rw [← HS.out]; exact hn9, bel_next (bel_next HJ.out.bel HB4.out) hb9⟩)); clear hn9 hb9 hf9))
          go_roundw
          case rel => exact ⟨k + 1, by omega, by go_num, HJ9⟩
          case measure => simp [intOf]; omega
        | succ g =>
          obtain ⟨p, hp⟩ := find_yes (HA.out (j + 1) (by omega) (by omega))
          rw [hp] at kfd
          clear hp
          go_wp2_with (go_at_call 36; (with_reducible refine kfd.mono ?_); rintro e w8 ⟨rfl, rfl⟩)
          go_roundg g
          case measure => omega
          case rel => exact ⟨j + 1, by omega, by omega, rfl, (by simp)⟩
    · obtain rfl : k = 8 := by omega
      go_wp2
      go_ret
      refine ⟨_, _, rfl, HJ.out.ns, ⟨f, ?_, fun i _ => HF.out i⟩, HJ.out.bel⟩
      refine vec_congr fun i hi => ?_
      unfold mixF
      rw [if_pos hi]
      exact cl_in ((HF.out i).cl HR.out.good).1 ((HF.out i).cl HR.out.good).2
theorem any_take {l : List Rec} {p : Rec → Bool} {j : Nat} (hj : j < l.length) : (l.take (j + 1)).any p = ((l.take j).any p || p l[j]) := by
  rw [List.take_succ_eq_append_getElem hj, List.any_append]; simp
set_option maxHeartbeats 8000000 in
theorem elacks_is {w : World} {B b : Nat} {ov v : Value} {zs : List Rd} {S : CS} {F : Nat → Prop} (h : EbAt w B b ov v zs S F) : Calls Try.prog 23 #[.pointer (some ⟨b, 0, none⟩)] w (LacksDone S w) := by
  have HR := Lib.hid h
  obtain ⟨oa, oc, eo⟩ := h.ns.slice
  subst eo
  obtain ⟨a2, cc2, e2⟩ := h.row.slice
  subst e2
  obtain ⟨n, hn⟩ : ∃ n, zs.length = n := ⟨_, rfl⟩
  have HNZ := Lib.hid hn
  have HNL := Lib.hid (show S.L.length = n by rw [← h.len]; exact hn)
  have hn4 : n ≤ 408 := by have h1 := h.good.l408; rw [HNL.out] at h1; exact h1
  have HJ0 := Lib.hid (show LaJ w w S 0 0 (.slice none 0 0) from ⟨IRow.nil _ _, Below.refl _ _, rfl⟩)
  clear h hn
  go_enter Try.func23, Try.ntmps23
  go_wp2
  go_loopw [3, 4] (fun v i wr => ∃ (k q : Nat) (a3 : Option Addr) (c3 : Nat), k ≤ 8 ∧ v = .slice a3 q c3 ∧ i = .int .i64 (k : Int) ∧ Hid (LaJ w wr S k q (.slice a3 q c3))) (fun _ i _ => 8 - (intOf i).toNat)
  case atStart => exact ⟨0, 0, none, 0, by omega, rfl, rfl, HJ0⟩
  case round =>
    obtain ⟨k, q, a3, c3, hk, rfl, rfl, HJ⟩ := hrel
    clear HJ0
    obtain ⟨w3, hw3⟩ : ∃ x, x = wr := ⟨_, rfl⟩
    subst hw3
    by_cases hk8 : k < 8
    · have hlt2 : (k : Int) < 8 := by omega
      have h3 := HR.out.later HJ.out.bel
      have c1 := h3.c1
      have c2 := h3.c2
      rw [HNZ.out] at c2
      have ka := rat_is (.slice oa S.out.length oc) S.out (k : Int) w3 h3.ns
      have hab := atL_bounds S.out (k : Int)
      have kfd := fun (W : World) (hb : Below w3.heap.size w3 W) => find_is (h3.later hb) (k : Int) (atL S.out (k : Int) + 1)
      obtain ⟨a, ha⟩ : ∃ z, atL S.out (k : Int) = z := ⟨_, rfl⟩
      have HAA := Lib.hid ha
      rw [ha] at ka kfd hab
      have hwa : IntKind.i64.wrap (a + 1) = a + 1 := by rw [IntKind.wrap_i64]; omega
      have hq8 : q ≤ 8 := by have := HJ.out.len; have := lackTo_len S k; omega
      have HROW := Lib.hid h3.row
      have HGT := Lib.hid (fun (j : Nat) (hz : j < zs.length) (hl : j < S.L.length) => h3.get hz hl)
      clear ha h3
      go_wp2
      go_loopw [5, 6] (fun hv iv wr => ∃ (j : Nat) (z : Bool), j ≤ n ∧ hv = .bool z ∧ iv = .int .i64 (j : Int) ∧ Hid ((S.L.take j).any (fun r => decide (r.st.s = (k : Int))) = z) ∧ w3 = wr) (fun _ iv _ => n - (intOf iv).toNat)
      case atStart => exact ⟨0, false, by omega, rfl, rfl, Lib.hid rfl, (by simp)⟩
      case round =>
        obtain ⟨j, z, hj, rfl, rfl, HZ, rfl⟩ := hrel
        by_cases hjn : j < n
        · have hjn2 : (j : Int) < (n : Int) := by omega
          have hjz : j < zs.length := by rw [HNZ.out]; exact hjn
          have hjl : j < S.L.length := by rw [HNL.out]; exact hjn
          have HST := Lib.hid (any_take (p := fun r => decide (r.st.s = (k : Int))) hjl)
          cases z with
          | true =>
            have HX := Lib.hid (show (S.L.take (j + 1)).any (fun r => decide (r.st.s = (k : Int))) = true by rw [HST.out, HZ.out]; rfl)
            go_wp2
            go_roundw
            case rel => exact ⟨j + 1, true, by omega, rfl, by go_num, HX, (by simp)⟩
            case measure => simp [intOf]; omega
          | false =>
            obtain ⟨g, off, ea, -, -, hgl, hcs⟩ := HROW.out.cell (by omega)
            subst ea
            have hr9 := hcs j hjz
            have hzr := HGT.out j hjz hjl
            obtain ⟨zz, hzz⟩ : ∃ z, zs[j] = z := ⟨_, rfl⟩
            rw [hzz] at hr9 hzr
            obtain ⟨⟨zk, zss, zt, zv, ztier, ⟨zc, zst, zq⟩, zd⟩, za, zcc⟩ := zz
            obtain ⟨x0, x1, x2, x3, x4, x5, x6, x7, x8⟩ := hr9
            dsimp only at x0 x1 x2 x3 x4 x5 x6 x7 x8 hzr
            by_cases he : zst = (k : Int)
            · have e1 : (zst == (k : Int)) = true := by simpa using he
              have HX := Lib.hid (show (S.L.take (j + 1)).any (fun r => decide (r.st.s = (k : Int))) = true by rw [HST.out, ← hzr]; simp [he])
              clear hcs hzz hzr he
              go_wp2
              go_roundw
              case rel => exact ⟨j + 1, true, by omega, rfl, by go_num, HX, (by simp)⟩
              case measure => simp [intOf]; omega
            · have e1 : (zst == (k : Int)) = false := by simpa using he
              have HX := Lib.hid (show (S.L.take (j + 1)).any (fun r => decide (r.st.s = (k : Int))) = false by rw [HST.out, HZ.out, ← hzr]; simp [he])
              clear hcs hzz hzr he
              go_wp2
              go_roundw
              case rel => exact ⟨j + 1, false, by omega, rfl, by go_num, HX, (by simp)⟩
              case measure => simp [intOf]; omega
        · obtain rfl : j = n := by omega
          have hjn2 : ¬ (j : Int) < (j : Int) := by omega
          have HAL := Lib.hid (show S.L.any (fun r => decide (r.st.s = (k : Int))) = z by have h1 := HZ.out; rw [List.take_of_length_le (by have h2 := HNL.out; omega)] at h1; exact h1)
          cases z with
          | false =>
            have HE9 := Lib.hid (lack_no (S := S) (k := k) (fun r hr e => by have h1 := HAL.out; rw [List.any_eq_false] at h1; exact h1 r hr (decide_eq_true e)))
            clear kfd ka
            go_wp2
            have HFIN := Lib.hid (HJ.out.next HE9.out (Below.refl _ _))
            go_roundw
            case rel => exact ⟨k + 1, q, a3, c3, by omega, rfl, by go_num, HFIN⟩
            case measure => simp [intOf]; omega
          | true =>
            cases hz : hasB S.L (k : Int) (a + 1) with
            | true =>
              have HE9 := Lib.hid (lack_has (S := S) (k := k) (by rw [HAA.out]; exact hz))
              obtain ⟨p, hp⟩ := find_yes hz
              rw [hp] at kfd
              clear hp hz
              go_wp2_with (first
                | (go_at_call 27; (with_reducible refine ka.mono ?_); rintro e w4 ⟨rfl, hb4⟩; (have HB4 := Lib.hid hb4); clear hb4)
                | (go_at_call 36; (with_reducible refine (kfd _ HB4.out).mono ?_); rintro e w8 ⟨rfl, rfl⟩))
              have HFIN := Lib.hid (HJ.out.next HE9.out HB4.out)
              go_roundw
              case rel => exact ⟨k + 1, q, a3, c3, by omega, rfl, by go_num, HFIN⟩
              case measure => simp [intOf]; omega
            | false =>
              obtain ⟨r0, hr0, hr1⟩ := List.any_eq_true.1 HAL.out
              have HE9 := Lib.hid (lack_yes (S := S) (k := k) (by rw [HAA.out]; exact hz) hr0 (of_decide_eq_true hr1))
              rw [find_no hz] at kfd
              clear hz hr0 hr1
              have HLEN := Lib.hid HJ.out.len
              have HSZ := Lib.hid HJ.out.bel.size
              go_wp2_with (first
                | (go_at_call 27; (with_reducible refine ka.mono ?_); rintro e w4 ⟨rfl, hb4⟩; (have HB4 := Lib.hid hb4); clear hb4)
                | (go_at_call 36; (with_reducible refine (kfd _ HB4.out).mono ?_); rintro e w8 ⟨rfl, rfl⟩)
                | (at_builtin; refine wpList_irow9 (w := w4) rfl _ _ rfl w.heap.size q (.slice a3 q c3) (lackTo S k) (Lib.hid HLEN.out) rfl (k : Int) w4.heap.size rfl rfl (irow_later HJ.out.row HB4.out) (Nat.le_trans HSZ.out HB4.out.size) ?hlen ?_; (case hlen => omega); intro a6 c6 w11 hr11 hb11; (have HR11 := Lib.hid hr11.out); (have HB11 := Lib.hid hb11.out); clear hr11 hb11))
              have HFIN := Lib.hid (show LaJ w w11 S (k + 1) (q + 1) (.slice a6 (q + 1) c6) from ⟨by rw [HE9.out]; exact HR11.out, (HJ.out.bel.trans (HB4.out.mono HJ.out.bel.size)).trans HB11.out, by rw [HE9.out, List.length_append, HLEN.out]; rfl⟩)
              go_roundw
              case rel => exact ⟨k + 1, _, _, _, by omega, rfl, by go_num, HFIN⟩
              case measure => simp [intOf]; omega
    · obtain rfl : k = 8 := by omega
      have hl8 := lackTo_len S 8
      go_wp2
      go_ret
      exact ⟨_, rfl, HJ.out.row.ns (lackTo_wide S 8 (Nat.le_refl _)) (by omega), HJ.out.bel⟩
end Go.Proofs.Ythifmfgnblecbaa.Og.Cb
