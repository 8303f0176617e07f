/- Lacks. -/
import Derived.Test.YthifmfgnblecbaaCbHas
import Derived.Test.YthifmfgnblecbaaMarkC
import Derived.Maps.AppendAt
import Derived.Deep.CutBlock
import Derived.Deep.CutRange
set_option maxRecDepth 20000
set_option linter.unusedSimpArgs false
set_option linter.unusedVariables false
namespace Go.Proofs.Ythifmfgnblecbaa.Og.Cb
open Go.RowKit Go.Maps Go.Proofs.Ythifmfgnblecbaa.Vi Go.Proofs.Ythifmfgnblecbaa.Mk

theorem owns_later9 {w w' : World} {B size n : Nat} {e : TypeId} {v : Value} {xs : List Value} (h : w.ownsRow B e size v n xs) (k : Below w.heap.size w w') : w'.ownsRow B e size v n xs := by
  refine ⟨h.1, ?_⟩
  rcases h.2 with h1 | ⟨g, cap, cur, hv, hg, hh, hr⟩
  · exact Or.inl h1
  · exact Or.inr ⟨g, cap, cur, hv, hg, by rw [k.block g (Array.getElem?_eq_some_iff.1 hh).1]; exact hh, hr⟩
theorem irow_later {w w' : World} {B : Nat} {v : Value} {xs : List Int} (h : IRow w B v xs) (k : Below w.heap.size w w') : IRow w' B v xs := owns_later9 h k
/-- One number appended to a slice of the call's own. -/
theorem wpList_irow9 {w : World} {ops : Array Oper} {rest : List Oper} {o : Oper} {a : Act} {Q : Exit → Act → World → Prop} (hgd : o.guard = none) (sl x : Operand)
    (ho : o.op = .call { callee := .builtin .append, args := #[sl, x], argTypes := #[22, 22] })
    (B r : Nat) (v : Value) (xs : List Int) (hr : Hid (xs.length = r)) (hs : a.eval sl = v) (y : Int) (N : Nat) (hx : a.eval x = .slice (some ⟨N, 0, none⟩) 1 1) (hN : w.heap.size = N) (hown : IRow w B v xs) (hB : B ≤ w.heap.size) (hl : r ≤ 1000000)
    (h : ∀ a' c' w', Hid (IRow w' B (.slice a' (r + 1) c') (xs ++ [y])) → Hid (Below B w w') → wpList Try.prog ops Q rest (a.put o.dst (.slice a' (r + 1) c')) w') : wpList Try.prog ops Q (o :: rest) a (w.alloc (.cells #[.int .i64 y] 3)) := by
  subst hN
  have hr := hr.out
  subst hr
  obtain ⟨i0, hi, hz0, hz1, hz2⟩ := info_parts infoI
  have hr := irow_later hown ((Below.refl _ w).alloc (Nat.le_refl _) (.cells #[.int .i64 y] 3))
  refine wpList_append_own_at (w := w.alloc (.cells #[.int .i64 y] 3)) hgd sl x 22 ho B 3 i0 (.int .i64 0) 1 8 Try.underlying22 hi hz0 hz1 hz2 rfl (by decide) v xs.length (xs.map icell) hs hr ⟨w.heap.size, 0, none⟩ 1 1 [.int .i64 y] hx rfl ?_ ?_ (by unfold maxLen; omega) (by omega) (by simp; omega) ?_
  · intro j u hj
    match j, hj with
    | 0, hj => simp at hj; subst hj; simp [Addr.add]
  · intro u hu; simp at hu; subst hu; rfl
  · intro v' w' h2 h3 _ h4
    have h5 : IRow w' B v' (xs ++ [y]) := by
      unfold IRow
      rw [List.length_append, List.map_append]
      exact h2
    obtain ⟨a', c', rfl⟩ := h5.slice
    rw [List.length_append, List.length_singleton] at h5 ⊢
    exact h a' c' w' (Lib.hid h5) (Lib.hid (((Below.refl B w).alloc hB _).grown h3 (by simp; omega) fun q hq => (World.ownsRow.lt hown q hq).1))
theorem map_neq (W : World) : (binOp BinOp.eql TMM (.map none) (.map none)).run Try.prog W = .ok (.bool true) W := by kernel_rfl
theorem lack_has {S : CS} {k : Nat} (h : hasB S.L (k : Int) (atL S.out (k : Int) + 1) = true) : lackTo S (k + 1) = lackTo S k := by
  rw [lackTo_step, if_neg]
  unfold lackB
  rw [h]; simp
theorem lack_no {S : CS} {k : Nat} (h : ∀ r ∈ S.L, r.st.s ≠ (k : Int)) : lackTo S (k + 1) = lackTo S k := by
  rw [lackTo_step, if_neg]
  unfold lackB
  rw [List.any_eq_false.2 (by simpa using h)]; simp
theorem lack_yes {S : CS} {k : Nat} (h : hasB S.L (k : Int) (atL S.out (k : Int) + 1) = false) {r : Rec} (hr : r ∈ S.L) (hk : r.st.s = (k : Int)) : lackTo S (k + 1) = lackTo S k ++ [(k : Int)] := by
  rw [lackTo_step, if_pos]
  unfold lackB
  rw [h, List.any_eq_true.2 ⟨r, hr, by simpa using hk⟩]; simp
theorem lackTo_wide (S : CS) (k : Nat) (hk : k ≤ 8) : ∀ n ∈ lackTo S k, -9223372036854775808 ≤ n ∧ n ≤ 9223372036854775807 := fun n hn => by
  unfold lackTo at hn
  obtain ⟨i, hi, rfl⟩ := List.mem_map.1 (List.mem_filter.1 hn).1
  have := List.mem_range.1 hi
  omega
structure LaJ (w wr : World) (S : CS) (k q : Nat) (v : Value) : Prop where
  row : IRow wr w.heap.size v (lackTo S k)
  bel : Below w.heap.size w wr
  len : (lackTo S k).length = q
theorem LaJ.next {w wr wt : World} {S : CS} {k q : Nat} {v : Value} (h : LaJ w wr S k q v) (e : lackTo S (k + 1) = lackTo S k) (hb : Below wr.heap.size wr wt) : LaJ w wt S (k + 1) q v := ⟨by rw [e]; exact irow_later h.row hb, bel_next h.bel hb, by rw [e]; exact h.len⟩
/-- A visit of the names: none of those that were visited is of site k. -/
structure LiJ (w6 wr : World) (m n : Nat) (S : CS) (k : Int) : Prop where
  it : ∃ (left : Lit → Bool) (cnt : Nat) (D : DataW Value), wr.ranges Try.prog TKK slR m w6.heap.size n D left cnt ∧ (∀ s q, I64 s → I64 q → left (klit s q) = true → hasB S.L s q = true) ∧ (∀ s q, I64 s → I64 q → hasB S.L s q = true → left (klit s q) = false → s ≠ k)
  bel : Below w6.heap.size w6 wr
theorem LiJ.end_ {w6 wr : World} {m n : Nat} {S : CS} {k : Int} {left : Lit → Bool} (hok : ∀ r ∈ S.L, r.ok = true) (h : ∀ s q, I64 s → I64 q → hasB S.L s q = true → left (klit s q) = false → s ≠ k) (h0 : ∀ kl, left kl = false) : ∀ r ∈ S.L, r.st.s ≠ k := fun r hr => by
  obtain ⟨i1, i2⟩ := okI (hok r hr)
  exact h _ _ i1 i2 (hasB_iff.2 ⟨r, hr, rfl, rfl⟩) (h0 _)
def LacksDone (S : CS) (w : World) (e : Ending) (w' : World) : Prop := ∃ v, e = .returned v ∧ Ns w' v (lackL S) ∧ Below w.heap.size w w'
set_option maxHeartbeats 8000000 in
theorem lacks_is {w : World} {p : Option Addr} {mv : Option Nat} {S : CS} (hR : Rb w p mv S) : Calls Try.prog 22 #[.pointer p] w (LacksDone S w) := by
  have HR := Lib.hid hR
  have HOK := Lib.hid hR.good.ok
  have HJ0 := Lib.hid (show LaJ w w S 0 0 (.slice none 0 0) from ⟨IRow.nil _ _, Below.refl _ _, rfl⟩)
  clear hR
  go_enter Try.func22, Try.ntmps22
  go_wp2
  go_step3
  go_wp2
  go_step3
  go_wp2
  try go_frame
  go_loopw [3, 6] (fun v i wr => ∃ (k q : Nat) (a3 : Option Addr) (c3 : Nat), k ≤ 8 ∧ v = .slice a3 q c3 ∧ i = .int .i64 (k : Int) ∧ Hid (LaJ w wr S k q (.slice a3 q c3))) (fun _ i _ => 8 - (intOf i).toNat)
  case atStart => exact ⟨0, 0, none, 0, by omega, rfl, rfl, HJ0⟩
  case round =>
    obtain ⟨k, q, a3, c3, hk, rfl, rfl, HJ⟩ := hrel
    clear HJ0
    obtain ⟨w3, hw3⟩ : ∃ x, x = wr := ⟨_, rfl⟩
    subst hw3
    by_cases hk8 : k < 8
    · have hlt2 : (k : Int) < 8 := by omega
      have hI : I64 (k : Int) := by unfold I64; omega
      have HI := Lib.hid hI
      have kf := follows_is (HR.out.later HJ.out.bel) (k : Int) hI
      have kh := fun (W : World) (hb : Below w3.heap.size w3 W) => has_is (HR.out.later (bel_next HJ.out.bel hb)) (k : Int) (atL S.out (k : Int) + 1) hI (seq_I64 _ _)
      have ka := fun (W : World) (hb : Below w3.heap.size w3 W) => all_is (HR.out.later (bel_next HJ.out.bel hb))
      obtain ⟨sq, hsq⟩ : ∃ z, atL S.out (k : Int) + 1 = z := ⟨_, rfl⟩
      have HSQ := Lib.hid hsq
      rw [hsq] at kf kh
      unfold kV at kf kh
      clear hsq hI
      have hq8 : q ≤ 8 := by have := HJ.out.len; have := lackTo_len S k; omega
      cases hz : hasB S.L (k : Int) sq with
      | true =>
        rw [hz] at kh
        have HE := Lib.hid (lack_has (S := S) (k := k) (by rw [HSQ.out]; exact hz))
        clear hz ka
        go_wp2_with (first | (go_at_call 32; (with_reducible refine kf.mono ?_); rintro e w4 ⟨rfl, hb4⟩; (have HB4 := Lib.hid hb4); clear hb4) | (go_at_call 39; (with_reducible refine (kh _ HB4.out).mono ?_); rintro e w5 ⟨rfl, hb5⟩; (have HB5 := Lib.hid (bel_next HB4.out hb5)); clear hb5))
        have HFIN := Lib.hid (HJ.out.next HE.out HB5.out)
        go_roundw
        case rel => exact ⟨k + 1, _, _, _, by omega, rfl, by go_num, HFIN⟩
        case measure => simp [intOf]; omega
      | false =>
        rw [hz] at kh
        have HZ := Lib.hid (show hasB S.L (k : Int) (atL S.out (k : Int) + 1) = false by rw [HSQ.out]; exact hz)
        clear hz
        go_upto_region 6 with (first | (go_at_call 32; (with_reducible refine kf.mono ?_); rintro e w4 ⟨rfl, hb4⟩; (have HB4 := Lib.hid hb4); clear hb4) | (go_at_call 39; (with_reducible refine (kh _ HB4.out).mono ?_); rintro e w5 ⟨rfl, hb5⟩; (have HB5 := Lib.hid (bel_next HB4.out hb5)); clear hb5))
        cases mv with
        | none =>
          have HE := Lib.hid (lack_no (S := S) (k := k) (by
            have h0 : S.L = [] := by
              rcases HR.out with ⟨-, -, rfl⟩ | ⟨B, b, ov, F, -, h2⟩
              · rfl
              · exact h2.none_ rfl
            rw [h0]; intro r hr; cases hr))
          have hrg := run_range_nilMap (P := Try.prog) w5 TMM TKK 33 undM
          have hnx : ∀ ty, (Instr.next (.pointer (some ⟨w5.heap.size, 0, none⟩)) false ty).run Try.prog (w5.alloc (.mapIter none 0 #[] 0)) = _ := fun ty => run_next_nilMap w5 ty 0 0 #[]
          obtain ⟨w6, hw6⟩ : ∃ x, w5.alloc (.mapIter none 0 #[] 0) = x := ⟨_, rfl⟩
          have HB6 := Lib.hid (show Below w3.heap.size w3 w6 by rw [← hw6]; exact bel_new HB5.out _)
          rw [hw6] at hrg
          simp only [hw6] at hnx
          clear hw6
          go_wp2_with (go_at_call 33; (with_reducible refine (ka _ HB5.out).mono ?_); rintro e w6 ⟨rfl, rfl⟩)
          try go_frame
          refine wp_loop_rounds 1 ?_
          rw [rounds_succ]
          go_wp2
          have HFIN := Lib.hid (HJ.out.next HE.out HB6.out)
          go_roundw
          case rel => exact ⟨k + 1, _, _, _, by omega, rfl, by go_num, HFIN⟩
          case measure => simp [intOf]; omega
        | some m =>
          obtain ⟨B, b, ov, F, rfl, h2⟩ : ∃ B b ov F, p = some ⟨b, 0, none⟩ ∧ CbAt w B b (some m) ov S F := by
            rcases HR.out with ⟨-, h, -⟩ | h
            · cases h
            · exact h
          obtain ⟨-, -, D0, hD0, hI0⟩ := (h2.later (bel_next HJ.out.bel HB5.out)).some_ m rfl
          obtain ⟨w0, hrun0, hrg0, hg0, hs0⟩ := hD0.range klaw undM
          have HL0 := Lib.hid (show LiJ w5 w0 m S.L.length S (k : Int) from ⟨⟨_, _, D0, hrg0, fun s q i1 i2 hh => by rw [← hI0.has s q i1 i2]; exact hh, fun s q i1 i2 hh hl => by rw [hI0.has s q i1 i2, hh] at hl; cases hl⟩, ⟨hg0.os, hg0.tape, hg0.output, hg0.size, fun k hk => hg0.block k hk (by simp)⟩⟩)
          clear hrg0 hg0 hs0 hD0 hI0 h2
          go_wp2_with (go_at_call 33; (with_reducible refine (ka _ HB5.out).mono ?_); rintro e w6 ⟨rfl, rfl⟩)
          try go_frame
          go_loopw [3] (fun v3 wr => v3 = .slice a3 q c3 ∧ Hid (LiJ w5 wr m S.L.length S (k : Int))) (fun _ wr => wr.rangeLeft m w5.heap.size)
          case atStart => exact ⟨rfl, HL0⟩
          case round =>
            clear HL0
            obtain ⟨w8, hw8⟩ : ∃ x, x = wr := ⟨_, rfl⟩
            subst hw8
            obtain ⟨rfl, hrel⟩ := hrel
            obtain ⟨left, cnt, D, hrg, hl1, hl2⟩ := hrel.out.it
            have HE8 := Lib.hid hrg.left_eq
            have HB8 := Lib.hid hrel.out.bel
            rcases hrg.next klaw 0 with ⟨h0, hl0, hrun⟩ | ⟨key, v, kl, y, w9, cnt9, hkey, hlk, hv, hat, hrun, hrg9, hlt9, hg9, hs9, hen⟩
            · have HE := Lib.hid (lack_no (S := S) (k := k) (LiJ.end_ (w6 := w5) (wr := w8) (m := m) (n := 0) HOK.out hl2 hl0))
              have HFIN := Lib.hid (HJ.out.next HE.out (bel_next HB5.out HB8.out))
              clear hrg hl1 hl2 hl0 hrel
              go_wp2
              go_roundw
              case rel => exact ⟨k + 1, _, _, _, by omega, rfl, by go_num, HFIN⟩
              case measure => simp [intOf]; omega
            · obtain ⟨s, q', rfl, i1, i2, rfl⟩ := key_inv hkey
              have hB9 := HB8.out.grown hg9 HB8.out.size (fun j hj => by rw [← Option.some.inj hj]; exact Nat.le_refl _)
              have hal : Below w9.heap.size w9 (w9.alloc (nbox s q')) := (Below.refl _ _).alloc (Nat.le_refl _) _
              have hB10 := bel_next hB9 hal
              have hrga : (w9.alloc (nbox s q')).ranges Try.prog TKK slR m w5.heap.size S.L.length D _ cnt9 := hrg9.alloc _
              have hhas := hl1 s q' i1 i2 hlk
              have hn2 : N2 (w9.alloc (nbox s q')) w9.heap.size s q' := N2.of (new_block (Below.refl _ _))
              obtain ⟨n0, n1, nf0, nf1, nlt⟩ := hn2
              unfold kV at hrun hen
              unfold nbox at *
              by_cases hsk : s = (k : Int)
              · have hqx : (s == (k : Int)) = true := by simpa using hsk
                have HE := Lib.hid (show lackTo S (k + 1) = lackTo S k ++ [(k : Int)] from by
                  obtain ⟨r, hr, g1, -⟩ := hasB_iff.1 hhas
                  exact lack_yes HZ.out hr (g1.trans hsk))
                have HW := Lib.hid (bel_next HB5.out hB10)
                have HROW := Lib.hid (irow_later HJ.out.row (bel_next HB5.out hB10))
                have HLEN := Lib.hid HJ.out.len
                have HSZ := Lib.hid (show w.heap.size ≤ (w9.alloc (.cells #[.int .i64 s, .int .i64 q'] 61)).heap.size from (bel_next HJ.out.bel (bel_next HB5.out hB10)).size)
                clear hrg hl1 hl2 hrel hkey hlk hv hat hrg9 hlt9 hg9 hs9 hB9 hal hB10 hrga hhas hsk
                go_wp2_with (at_builtin; refine wpList_irow9 (w := w9.alloc (.cells #[.int .i64 s, .int .i64 q'] 61)) rfl _ _ rfl w.heap.size q (.slice a3 q c3) (lackTo S k) (Lib.hid HLEN.out) rfl (k : Int) (w9.heap.size + 1) rfl (by simp) HROW.out HSZ.out ?hlen ?_; (case hlen => omega); intro a6 c6 w11 hr11 hb11; (have HR11 := Lib.hid hr11.out); (have HB11 := Lib.hid hb11.out); clear hr11 hb11)
                have HFIN := Lib.hid (show LaJ w w11 S (k + 1) (q + 1) (.slice a6 (q + 1) c6) from ⟨by rw [HE.out]; exact HR11.out, ((HJ.out.bel.trans (HW.out.mono HJ.out.bel.size))).trans HB11.out, by rw [HE.out, List.length_append, HLEN.out]; rfl⟩)
                go_roundw
                case rel => exact ⟨k + 1, _, _, _, by omega, rfl, by go_num, HFIN⟩
                case measure => simp [intOf]; omega
              · have hqx : (s == (k : Int)) = false := by simpa using hsk
                have HL9 := Lib.hid (show LiJ w5 (w9.alloc (.cells #[.int .i64 s, .int .i64 q'] 61)) m S.L.length S (k : Int) from ⟨⟨_, _, D, hrga, fun s1 q1 j1 j2 hh => hl1 s1 q1 j1 j2 (by simp only [Bool.and_eq_true] at hh; exact hh.1), fun s1 q1 j1 j2 hh hl => by
                  rw [klit_same j1 j2 i1 i2] at hl
                  by_cases e : s1 = s ∧ q1 = q'
                  · rw [e.1]; exact hsk
                  · rw [decide_eq_false e] at hl
                    exact hl2 s1 q1 j1 j2 hh (by simpa using hl)⟩, hB10⟩)
                have HE11 := Lib.hid hrga.left_eq
                clear hrg hl1 hl2 hrel hkey hlk hv hat hrg9 hg9 hs9 hB9 hal hB10 hrga hhas hsk
                go_wp2
                go_roundw
                case rel => exact ⟨rfl, HL9⟩
                case measure => rw [HE11.out, HE8.out]; omega
    · obtain rfl : k = 8 := by omega
      have hl8 := lackTo_len S 8
      go_wp2
      go_ret
      exact ⟨_, rfl, HJ.out.row.ns (lackTo_wide S 8 (Nat.le_refl _)) (by omega), HJ.out.bel⟩
end Go.Proofs.Ythifmfgnblecbaa.Og.Cb
