/- The places of messages neither from nor to an end. -/
import Derived.Test.YtnjabhjcnkbgpaaNetWhere
set_option maxRecDepth 20000
set_option linter.unusedSimpArgs false
set_option linter.unusedVariables false
namespace Go.Proofs.Ytnjabhjcnkbgpaa
open Go.RowKit

def vlose1 (c : Nat) : Value := .func (.func 47) #[] #[.pointer (some ⟨c, 0, none⟩)]
def vlose2 (c : Nat) : Value := .func (.func 48) #[] #[.pointer (some ⟨c, 0, none⟩)]
theorem lose1_is (c : Nat) (x : Int) (m : Ml) (W : World) (hc : W.cell? ⟨c, 0, none⟩ = some (.int .i64 x)) :
    Calls Try.prog 47 #[.agg #[.int .i64 m.n, .int .i64 m.f, .int .i64 m.t, .string m.s, .int .i64 m.a], .pointer (some ⟨c, 0, none⟩)] W fun e w' => e = .returned (.bool (!(m.f == x))) ∧ Below W.heap.size W w' := by
  obtain ⟨n, f, t, s, a⟩ := m
  dsimp only
  have hcl : c < W.heap.size := World.block_lt_of_cell? W _ hc
  have hc1 : ¬ c = W.heap.size := by omega
  have hc2 : ¬ W.heap.size = c := by omega
  have ba := bel_al W (.cells #[.int .i64 n, .int .i64 f, .int .i64 t, .string s, .int .i64 a] 34)
  have d := (ba.cell (p := ⟨c, 0, none⟩) hcl).trans hc
  have HB := Lib.hid ba
  clear ba
  obtain ⟨p, hp⟩ : ∃ p, (f != x) = p := ⟨_, rfl⟩
  have HZ := Lib.hid (show (!(f == x)) = p from hp)
  rw [HZ.out]
  go_enter Try.func47, Try.ntmps47
  go_wp2
  go_ret
  exact ⟨rfl, HB.out⟩
theorem lose2_is (c : Nat) (x : Int) (m : Ml) (W : World) (hc : W.cell? ⟨c, 0, none⟩ = some (.int .i64 x)) :
    Calls Try.prog 48 #[.agg #[.int .i64 m.n, .int .i64 m.f, .int .i64 m.t, .string m.s, .int .i64 m.a], .pointer (some ⟨c, 0, none⟩)] W fun e w' => e = .returned (.bool (!(m.t == x))) ∧ Below W.heap.size W w' := by
  obtain ⟨n, f, t, s, a⟩ := m
  dsimp only
  have hcl : c < W.heap.size := World.block_lt_of_cell? W _ hc
  have hc1 : ¬ c = W.heap.size := by omega
  have hc2 : ¬ W.heap.size = c := by omega
  have ba := bel_al W (.cells #[.int .i64 n, .int .i64 f, .int .i64 t, .string s, .int .i64 a] 34)
  have d := (ba.cell (p := ⟨c, 0, none⟩) hcl).trans hc
  have HB := Lib.hid ba
  clear ba
  obtain ⟨p, hp⟩ : ∃ p, (t != x) = p := ⟨_, rfl⟩
  have HZ := Lib.hid (show (!(t == x)) = p from hp)
  rw [HZ.out]
  go_enter Try.func48, Try.ntmps48
  go_wp2
  go_ret
  exact ⟨rfl, HB.out⟩
section
variable {w : World} {B b : Nat} {V : Value} {S : NS}
set_option maxHeartbeats 4000000 in
theorem where_lose (c x : Nat) (end_ : Int) (h : NAt w B b V S) (hc : w.cell? ⟨c, 0, none⟩ = some (.int .i64 end_)) (hx : w.cell? ⟨x, 0, none⟩ = some (vlose1 c)) (hxx : w.cell? ⟨x, 1, none⟩ = some (vlose2 c)) :
    Calls Try.prog 46 #[.pointer (some ⟨b, 0, none⟩), .slice (some ⟨x, 0, none⟩) 2 2] w fun e w' => ∃ v, e = .returned v ∧ PRow w' w.heap.size v (whr (loseB end_) S.mail S.mail.length) ∧ Below w.heap.size w w' := by
  obtain ⟨a, cp, rfl⟩ := h.row.slice
  have H := Lib.hid h
  obtain ⟨n, hn⟩ : ∃ n, S.mail.length = n := ⟨_, rfl⟩
  have HN := Lib.hid hn
  have hn2 := h.len
  have c0 := h.c0
  rw [hn] at c0 hn2 ⊢
  have HX := Lib.hid hx
  have HXX := Lib.hid hxx
  have HC := Lib.hid hc
  clear h hn hx hc hxx
  go_enter Try.func46, Try.ntmps46
  go_wp2
  go_step3
  go_wp2
  go_step3
  go_wp2
  go_loopw [5, 15] (fun u i wr => ∃ k : Nat, k ≤ n ∧ i = .int .i64 (k : Int) ∧ PRow wr w.heap.size u (whr (loseB end_) S.mail k) ∧ Below w.heap.size w wr) (fun _ i _ => n - (intOf i).toNat)
  case atStart => exact ⟨0, by omega, rfl, PRow.nil _ _, Below.refl _ _⟩
  case round =>
    obtain ⟨k, hk, rfl, hrow, hbel⟩ := hrel
    obtain ⟨w3, hw3⟩ : ∃ x, x = wr := ⟨_, rfl⟩
    subst hw3
    obtain ⟨pa, pc, rfl⟩ := hrow.slice
    obtain ⟨pn, hpn⟩ : ∃ pn, (whr (loseB end_) S.mail k).length = pn := ⟨_, rfl⟩
    have hpl := whr_len (loseB end_) S.mail k
    rw [hpn] at hrow hpl ⊢
    have HPN := Lib.hid hpn
    have HROW := Lib.hid hrow
    have HB := Lib.hid hbel
    have hsz := hbel.size
    clear hrow hbel hpn
    by_cases hkn : k < n
    · have hki : (k : Int) < (n : Int) := by omega
      have hkl : k < S.mail.length := by rw [HN.out]; exact hkn
      have hw1 : IntKind.i64.wrap ((k : Int) + 1) = (k : Int) + 1 := by rw [IntKind.wrap_i64]; omega
      obtain ⟨m, hm⟩ : ∃ m, S.mail[k] = m := ⟨_, rfl⟩
      have H3 := Lib.hid (H.out.later HB.out)
      obtain ⟨g, rfl, -, -, hgl, -, hat⟩ := H3.out.row.block (by rw [HN.out]; omega)
      obtain ⟨m0, m1, m2, m3, m4⟩ := hat k hkl
      rw [hm] at m0 m1 m2 m3 m4
      have hxl : x < w.heap.size := World.block_lt_of_cell? w _ HX.out
      have hcl : c < w.heap.size := World.block_lt_of_cell? w _ HC.out
      have x3 := (HB.out.cell (p := ⟨x, 0, none⟩) hxl).trans HX.out
      have y3 := (HB.out.cell (p := ⟨x, 1, none⟩) hxl).trans HXX.out
      have hx1 : ¬ x = w3.heap.size := by omega
      have hx2 : ¬ w3.heap.size = x := by omega
      unfold vlose1 at x3
      unfold vlose2 at y3
      have cc := (HB.out.cell (p := ⟨c, 0, none⟩) hcl).trans HC.out
      have ba := bel_al w3 (.cells #[.int .i64 m.n, .int .i64 m.f, .int .i64 m.t, .string m.s, .int .i64 m.a] 34)
      have x4 := (ba.cell (p := ⟨x, 0, none⟩) (by show x < _; omega)).trans x3
      have y4 := (ba.cell (p := ⟨x, 1, none⟩) (by show x < _; omega)).trans y3
      have c4 := (ba.cell (p := ⟨c, 0, none⟩) (by show c < _; omega)).trans cc
      have hmm := mat_new w3 m
      have ko := lose1_is c end_ m _ c4
      obtain ⟨p, hp⟩ : ∃ p, (!(m.f == end_)) = p := ⟨_, rfl⟩
      obtain ⟨q, hq⟩ : ∃ q, (!(m.t == end_)) = q := ⟨_, rfl⟩
      rw [hp] at ko
      have ko2 := fun (W : World) (hB : Below (w3.alloc (.cells #[.int .i64 m.n, .int .i64 m.f, .int .i64 m.t, .string m.s, .int .i64 m.a] 34)).heap.size (w3.alloc (.cells #[.int .i64 m.n, .int .i64 m.f, .int .i64 m.t, .string m.s, .int .i64 m.a] 34)) W) => lose2_is c end_ m W ((hB.cell (p := ⟨c, 0, none⟩) (by show c < _; simp; omega)).trans c4)
      rw [hq] at ko2
      have HP := Lib.hid (show loseB end_ m = (p && q) by unfold loseB; rw [hp, hq])
      have HBA := Lib.hid (HB.out.trans (ba.mono hsz))
      have HXY := Lib.hid (fun (W : World) (hB : Below (w3.alloc (.cells #[.int .i64 m.n, .int .i64 m.f, .int .i64 m.t, .string m.s, .int .i64 m.a] 34)).heap.size (w3.alloc (.cells #[.int .i64 m.n, .int .i64 m.f, .int .i64 m.t, .string m.s, .int .i64 m.a] 34)) W) => show W.cell? ⟨x, 1, none⟩ = _ ∧ MAt W w3.heap.size 0 m from
        ⟨(hB.cell (p := ⟨x, 1, none⟩) (by show x < _; simp; omega)).trans y4, ⟨(hB.cell (p := ⟨w3.heap.size, 0, none⟩) (by simp)).trans hmm.c0, (hB.cell (p := ⟨w3.heap.size, 1, none⟩) (by simp)).trans hmm.c1, (hB.cell (p := ⟨w3.heap.size, 2, none⟩) (by simp)).trans hmm.c2, (hB.cell (p := ⟨w3.heap.size, 3, none⟩) (by simp)).trans hmm.c3, (hB.cell (p := ⟨w3.heap.size, 4, none⟩) (by simp)).trans hmm.c4⟩⟩)
      have HKO2 := Lib.hid ko2
      clear hat cc hp hq ba hkn ko2 hmm c4 y4 y3
      have hstep : whr (loseB end_) S.mail (k + 1) = if (p && q) then whr (loseB end_) S.mail k ++ [k] else whr (loseB end_) S.mail k := by rw [whr_step hkl, hm, HP.out]
      clear hm hkl
      cases p with
      | false =>
        have HSTEP := Lib.hid (show whr (loseB end_) S.mail (k + 1) = whr (loseB end_) S.mail k by rw [hstep]; rfl)
        clear hstep
        go_wp2
        refine wp_loop_rounds 3 ?_
        rw [rounds_succ]
        go_wp2_with (go_at_call 47; (with_reducible refine ko.mono ?_); rintro e w4 ⟨rfl, hB4⟩; (have HB4 := Lib.hid (HBA.out.trans (hB4.mono HBA.out.size))); (have HR4 := Lib.hid ((HROW.out.later (bel_al w3 _)).later hB4)); clear hB4 ko x3 x4 m0 m1 m2 m3 m4)
        go_roundw
        case rel => exact ⟨k + 1, by omega, by go_num, by rw [HSTEP.out]; exact HR4.out, HB4.out⟩
        case measure => simp [intOf]; omega
      | true =>
        cases q with
        | false =>
          have HSTEP := Lib.hid (show whr (loseB end_) S.mail (k + 1) = whr (loseB end_) S.mail k by rw [hstep]; rfl)
          clear hstep
          go_wp2
          refine wp_loop_rounds 3 ?_
          rw [rounds_succ]
          go_wp2_with (go_at_call 47; (with_reducible refine ko.mono ?_); rintro e w4 ⟨rfl, hB4⟩; (have HB4 := Lib.hid (HBA.out.trans (hB4.mono HBA.out.size))); (have HR4 := Lib.hid ((HROW.out.later (bel_al w3 _)).later hB4)); obtain ⟨y4, n0, n1, n2, n3, n4⟩ := HXY.out w4 hB4; (have ko5 := HKO2.out w4 hB4); clear hB4 ko x3 x4 m0 m1 m2 m3 m4)
          rw [rounds_succ]
          go_wp2_with (go_at_call 48; (with_reducible refine ko5.mono ?_); rintro e w5 ⟨rfl, hB5⟩; (have HB5 := Lib.hid (HB4.out.trans (hB5.mono HB4.out.size))); (have HR5 := Lib.hid (HR4.out.later hB5)); clear hB5 ko5 y4 n0 n1 n2 n3 n4)
          go_roundw
          case rel => exact ⟨k + 1, by omega, by go_num, by rw [HSTEP.out]; exact HR5.out, HB5.out⟩
          case measure => simp [intOf]; omega
        | true =>
          have HSTEP := Lib.hid (show whr (loseB end_) S.mail (k + 1) = whr (loseB end_) S.mail k ++ [k] by rw [hstep]; rfl)
          clear hstep
          go_wp2
          refine wp_loop_rounds 3 ?_
          rw [rounds_succ]
          go_wp2_with (go_at_call 47; (with_reducible refine ko.mono ?_); rintro e w4 ⟨rfl, hB4⟩; (have HB4 := Lib.hid (HBA.out.trans (hB4.mono HBA.out.size))); (have HR4 := Lib.hid ((HROW.out.later (bel_al w3 _)).later hB4)); obtain ⟨y4, n0, n1, n2, n3, n4⟩ := HXY.out w4 hB4; (have ko5 := HKO2.out w4 hB4); clear hB4 ko x3 x4 m0 m1 m2 m3 m4)
          rw [rounds_succ]
          go_wp2_with (go_at_call 48; (with_reducible refine ko5.mono ?_); rintro e w5 ⟨rfl, hB5⟩; (have HB5 := Lib.hid (HB4.out.trans (hB5.mono HB4.out.size))); (have HR5 := Lib.hid (HR4.out.later hB5)); clear hB5 ko5 y4 n0 n1 n2 n3 n4)
          rw [rounds_succ]
          go_wp2_with (at_builtin; refine wpList_place (w := w5) rfl _ _ rfl w.heap.size (.slice pa pn pc) _ k rfl rfl HR5.out HB5.out.size (by rw [HPN.out]; omega) ?_; intro v6 w6 hR6 hg6 hs6; (have HB6 := Lib.hid (HB5.out.trans (grown_below hg6 HR5.out (Nat.le_refl _) HB5.out.size))); (have HR6 := Lib.hid hR6); clear hg6 hs6 hR6)
          go_roundw
          case rel => exact ⟨k + 1, by omega, by go_num, by rw [HSTEP.out]; exact HR6.out, HB6.out⟩
          case measure => simp [intOf]; omega
    · have hki : ¬ (k : Int) < (n : Int) := by omega
      obtain rfl : k = n := by omega
      clear hkn
      go_wp2
      try rw [Exit.noGoto_ret]
      go_ret
      exact ⟨_, rfl, HROW.out, HB.out⟩
end
end Go.Proofs.Ytnjabhjcnkbgpaa
