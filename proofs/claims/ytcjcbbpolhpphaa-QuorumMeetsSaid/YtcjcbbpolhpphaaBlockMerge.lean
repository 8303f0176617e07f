/- The contracts of slices.Grow of nothing, of slices.Concat at points, and of Merge. -/
import Derived.Test.YtcjcbbpolhpphaaBlockSort
import Derived.Lib.AppendZerosOnto
set_option maxRecDepth 20000
set_option linter.unusedSimpArgs false
namespace Go.Proofs.Ytcjcbbpolhpphaa
open Go.RowKit Go.Proofs.Ytcjcbbpolhpphaa.Vi Go.Proofs.Ytcjcbbpolhpphaa.Mk

theorem grow_zeros (w : World) (n : Nat) (hn : 0 < n) (hs : n ≤ 900000) : ∃ G W1, (∀ ty, (Builtin.append_ #[PTT, 3] ty #[.slice none 0 0, .int .i64 (n : Int)]).run Try.prog w = .ok (.slice (some ⟨w.heap.size, 0, none⟩) n G) W1) ∧ n ≤ G ∧ PRow W1 w.heap.size (.slice (some ⟨w.heap.size, 0, none⟩) 0 G) [] ∧ Below w.heap.size w W1 := by
  obtain ⟨i0, hi0, hz0, hz1, hz2⟩ := info_parts infoP
  have hold : (Builtin.firstCells i0.size 0 (.slice none 0 0)).run Try.prog w.drew = .ok ([] : List Value).toArray w.drew := run_firstCells_none w.drew i0.size 0 0 0
  have key := fun ty => Lib.run_append_grow_zeros w PTT 3 ty 55 i0 _ .i64 .i64 undPT Try.underlying3 hi0 hz0 none 0 0 [] hold n hn (by omega) (by omega) (by omega) (by rw [hz2]; omega) (by rw [hz2]; exact growslice_fits (by omega) (by omega))
  simp only [Nat.zero_add] at key
  have hG := grownCap_ge w n 0 55
  have hGm := grownCap_le_maxLen w n 0 55 (by unfold maxLen; omega)
  generalize grownCap w n 0 55 = G at key hG hGm
  refine ⟨G, _, key, hG, ?_, ((Below.refl _ _).drew).alloc (Nat.le_refl _) _⟩
  exact World.ownsRow_made w.drew _ G (Nat.le_refl _) hGm (by simp [Builtin.zeroCells, Value.cells]; omega)
theorem wpList_zeros {ops : Array Oper} {rest : List Oper} {o : Oper} {a : Act} {w : World} {Q : Exit → Act → World → Prop} (hgd : o.guard = none) (d s : Operand)
    (ho : o.op = .call { callee := .builtin .append, args := #[d, s], argTypes := #[PTT, 3] }) (v n x : Value) (W1 : World) (hd : a.eval d = v) (hs : a.eval s = n)
    (hrun : ∀ ty, (Builtin.append_ #[PTT, 3] ty #[v, n]).run Try.prog w = .ok x W1) (h : wpList Try.prog ops Q rest (a.put o.dst x) W1) : wpList Try.prog ops Q (o :: rest) a w := by
  refine wpList_plain hgd fun K hK => ?_
  unfold Oper.wp
  simp only [execOp, ho, resolve, invoke, builtin, Sem.run_bind, Sem.run_pure, Result.andThen_ok, List.map_toArray, List.map_cons, List.map_nil, hd, hs, hrun]
  exact hK _ _ h
set_option maxHeartbeats 2000000 in
theorem grow_is (n : Nat) (w : World) (hs : n ≤ 900000) : Calls Try.prog 66 #[.slice none 0 0, .int .i64 (n : Int)] w (OwnDone [] w) := by
  by_cases h0 : n = 0
  · subst h0
    go_enter Try.func66, Try.ntmps66
    go_wp2
    go_ret
    exact ⟨_, rfl, PRow.nil _ _, Below.refl _ _⟩
  · obtain ⟨G, W1, hap, hG, hR, hB⟩ := grow_zeros w n (by omega) hs
    have h1 : ¬ ((n : Int) < 0) := by omega
    have h4 : (0 : Int) < (n : Int) := by omega
    have hwn : IntKind.i64.wrap (n : Int) = (n : Int) := by rw [IntKind.wrap_i64]; omega
    have k1 := fun w => at_to0 none 0 0 0 0 rfl (Nat.le_refl _) w
    have k2 := fun W => at_to0 (some ⟨w.heap.size, 0, none⟩) n G 0 0 rfl (Nat.zero_le _) W
    have HR := Lib.hid hR
    have HB := Lib.hid hB
    clear hR hB
    go_enter Try.func66, Try.ntmps66
    go_wp2_with (at_builtin; refine wpList_zeros rfl _ _ rfl (.slice none 0 0) (.int .i64 (n : Int)) (.slice (some ⟨w.heap.size, 0, none⟩) n G) W1 rfl rfl hap ?_)
    go_ret
    exact ⟨_, rfl, HR.out, HB.out⟩

/-- A slice of lists. -/
structure LLs (w : World) (B : Nat) (a : Option Addr) (L : List (List Pt)) : Prop where
  at_ : L = [] ∨ ∃ b o, a = some ⟨b, o, none⟩ ∧ b < B ∧ ∀ i (h : i < L.length), ∃ p c, w.cell? ⟨b, o + i, none⟩ = some (.slice p (L[i]).length c) ∧ Lst w B p c L[i]
theorem flat_take {L : List (List Pt)} {k : Nat} (h : k < L.length) : (L.take (k + 1)).flatten = (L.take k).flatten ++ L[k] := by
  rw [List.take_succ_eq_append_getElem h, List.flatten_append]; simp
theorem flat_le (L : List (List Pt)) (k : Nat) : (L.take k).flatten.length ≤ L.flatten.length := by
  have e := List.take_append_drop k L
  have : L.flatten.length = (L.take k).flatten.length + (L.drop k).flatten.length := by
    conv => lhs; rw [← e, List.flatten_append, List.length_append]
  omega
set_option maxHeartbeats 8000000 in
theorem concat_is (a0 : Option Addr) (c0 : Nat) (L : List (List Pt)) (w : World) (hS : LLs w w.heap.size a0 L) (hL : L.length ≤ 1000000) (hl : L.flatten.length ≤ 900000) : Calls Try.prog 58 #[.slice a0 L.length c0] w (OwnDone L.flatten w) := by
  obtain ⟨M, hM⟩ : ∃ M, L.flatten = M := ⟨_, rfl⟩
  rw [hM] at hl ⊢
  have kg := fun w => grow_is M.length w hl
  have HS := Lib.hid hS
  have HM := Lib.hid hM
  clear hS hM
  go_enter Try.func58, Try.ntmps58
  go_wp2
  go_loopw [3, 11] (fun s i wr => ∃ (k r : Nat), k ≤ L.length ∧ i = .int .i64 (k : Int) ∧ s = .int .i64 (r : Int) ∧ Hid ((L.take k).flatten.length = r) ∧ Below w.heap.size w wr) (fun _ i _ => L.length - (intOf i).toNat)
  case atStart => exact ⟨0, 0, by omega, rfl, rfl, Lib.hid rfl, Below.refl _ _⟩
  case round =>
    obtain ⟨k, t0, hk, rfl, rfl, ht0, hB⟩ := hrel
    obtain ⟨w3, hw3⟩ : ∃ x, x = wr := ⟨_, rfl⟩
    subst hw3
    by_cases hlt : k < L.length
    · have hlti : (k : Int) < (L.length : Int) := by omega
      rcases HS.out.at_ with rfl | ⟨b, o, rfl, hbw, hc⟩
      · simp at hlt
      · obtain ⟨p, c, hcell, hp⟩ := hc k hlt
        have x0 := (hB.cell (p := ⟨b, o + k, none⟩) hbw).trans hcell
        have hle := flat_le L (k + 1)
        rw [HM.out] at hle
        have hfl := congrArg List.length (flat_take hlt)
        rw [List.length_append] at hfl
        obtain ⟨t1, ht1⟩ : ∃ t1, (L.take (k + 1)).flatten.length = t1 := ⟨_, rfl⟩
        obtain ⟨t2, ht2⟩ : ∃ t2, (L[k]).length = t2 := ⟨_, rfl⟩
        rw [ht1] at hfl hle
        rw [ht0.out, ht2] at hfl
        rw [ht2] at x0
        have hsum : (t0 : Int) + (t2 : Int) = (t1 : Int) := by omega
        have hw1 : IntKind.i64.wrap (t1 : Int) = (t1 : Int) := by rw [IntKind.wrap_i64]; omega
        have hneg : ¬ ((t1 : Int) < 0) := by omega
        have HT := Lib.hid ht1
        have HB := Lib.hid hB
        clear hcell hp hc hB hfl ht1 ht2
        go_wp2
        go_roundw
        case rel => exact ⟨k + 1, t1, by omega, by go_num, rfl, HT, HB.out⟩
        case measure => simp [intOf]; omega
    · have hlti : ¬ (k : Int) < (L.length : Int) := by omega
      obtain rfl : M.length = t0 := by rw [← ht0.out, List.take_of_length_le (by omega), HM.out]
      have HB := Lib.hid hB
      clear hB
      go_wp2_with (go_at_call 66; (with_reducible refine (kg _).mono ?_); rintro e w4 ⟨v, rfl, hR4, hb4⟩; (have HR4 := Lib.hid (hR4.base HB.out.size)); (have HB4 := Lib.hid (bel_next HB.out hb4)); (have hsl := hR4.slice); (obtain ⟨a4, c4, rfl⟩ := hsl); clear hR4 hb4)
      go_loopw [6, 27] (fun s i wr => ∃ (k r : Nat) (a : Option Addr) (c : Nat), k ≤ L.length ∧ i = .int .i64 (k : Int) ∧ s = .slice a r c ∧ Hid ((L.take k).flatten.length = r) ∧ PRow wr w.heap.size (.slice a r c) (L.take k).flatten ∧ Below w.heap.size w wr) (fun _ i _ => L.length - (intOf i).toNat)
      case atStart => exact ⟨0, 0, a4, c4, by omega, rfl, rfl, Lib.hid (by simp), by simpa using HR4.out, HB4.out⟩
      case round =>
        obtain ⟨k, r, a, c, hk, rfl, rfl, HR, hrow, hB⟩ := hrel
        clear HR4 HB4 HB
        obtain ⟨w5, hw5⟩ : ∃ x, x = wr := ⟨_, rfl⟩
        subst hw5
        have HROW := Lib.hid hrow
        have HB := Lib.hid hB
        by_cases hlt : k < L.length
        · have hlti : (k : Int) < (L.length : Int) := by omega
          rcases HS.out.at_ with rfl | ⟨b, o, rfl, hbw, hc⟩
          · simp at hlt
          · obtain ⟨p, c', hcell, hp⟩ := hc k hlt
            have x0 := (hB.cell (p := ⟨b, o + k, none⟩) hbw).trans hcell
            have hle := flat_le L (k + 1)
            have hfe := flat_take hlt
            rw [hfe, List.length_append, HR.out, HM.out] at hle
            have HP := Lib.hid (hp.below hB)
            obtain ⟨y, hy⟩ : ∃ y, L[k] = y := ⟨_, rfl⟩
            rw [hy] at hle hfe HP x0
            obtain ⟨t2, ht2⟩ : ∃ t2, y.length = t2 := ⟨_, rfl⟩
            rw [ht2] at x0 hle
            have HT := Lib.hid ht2
            have HFE := Lib.hid hfe
            clear hcell hp hc hB hfe hy ht2 hrow
            go_wp2_with (at_builtin; refine wpList_appN (w := w5) rfl _ _ rfl w.heap.size r (.slice a r c) (L.take k).flatten y p t2 c' w.heap.size rfl rfl HT.out HR HROW.out HP.out (by omega) HB.out.size ?_; intro a6 c6 w6 hrow6 _ hb6 _; have HR6 := Lib.hid hrow6.out; have HB6 := Lib.hid hb6; clear hrow6 hb6)
            go_roundw
            case rel => exact ⟨k + 1, r + t2, a6, c6, by omega, by go_num, rfl, Lib.hid (by rw [HFE.out, List.length_append, HR.out, HT.out]), by rw [HFE.out]; exact HR6.out, HB.out.trans HB6.out⟩
            case measure => simp [intOf]; omega
        · have hlti : ¬ (k : Int) < (L.length : Int) := by omega
          have HE := Lib.hid (show (L.take k).flatten = M by rw [List.take_of_length_le (by omega), HM.out])
          clear hrow hB
          go_wp2
          go_ret
          exact ⟨_, rfl, by rw [← HE.out]; exact HROW.out, HB.out⟩

set_option maxHeartbeats 4000000 in
theorem merge_is (a0 : Option Addr) (c0 : Nat) (L : List (List Pt)) (w : World) (hS : LLs w w.heap.size a0 L) (hL : L.length ≤ 1000000) (hl : L.flatten.length ≤ 200000) (hn : ∀ p ∈ L.flatten, p.s.size ≤ 100000) : Calls Try.prog 43 #[.slice a0 L.length c0] w (OwnDone (srtR L.flatten) w) := by
  have kc := fun w h => concat_is a0 c0 L w h hL (by omega)
  have ks := fun a c w h => sort_is a c L.flatten w h hl hn
  obtain ⟨M, hM⟩ : ∃ M, L.flatten = M := ⟨_, rfl⟩
  rw [hM] at kc ks ⊢
  clear hM hl
  have HS := Lib.hid hS
  clear hS hn
  go_enter Try.func43, Try.ntmps43
  go_wp2_with (first
    | (go_at_call 58; (with_reducible refine (kc _ HS.out).mono ?_); rintro e w1 ⟨v, rfl, hR1, hb1⟩; (have hsl := hR1.slice); (obtain ⟨a1, c1, rfl⟩ := hsl); (have HR1 := Lib.hid hR1); (have HB1 := Lib.hid hb1); clear hR1 hb1)
    | (go_at_call 42; (with_reducible refine (ks _ _ _ HR1.out.lst).mono ?_); rintro e w2 ⟨v, rfl, hR2, hb2⟩; (have hsl := hR2.slice); (obtain ⟨a2, c2, rfl⟩ := hsl)))
  go_ret
  exact ⟨_, rfl, hR2.base HB1.out.size, bel_next HB1.out hb2⟩
end Go.Proofs.Ytcjcbbpolhpphaa
