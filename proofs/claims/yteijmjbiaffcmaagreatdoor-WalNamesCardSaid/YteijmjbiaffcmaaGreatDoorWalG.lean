/- Joined: WalRef, WalRNum, WalRNumIs, WalRHead, WalNamesWalk. -/
import Derived.Test.YteijmjbiaffcmaaGreatDoorWalC
import Derived.Test.YteijmjbiaffcmaaGreatDoorFrameR
import Derived.Deep.RegionWith
import Derived.Test.YteijmjbiaffcmaaGreatDoorWalF
/- Contracts of the document's Segment and Number. -/
set_option maxRecDepth 20000
set_option linter.unusedSimpArgs false
set_option linter.unusedVariables false
namespace Go.Proofs.YteijmjbiaffcmaaGreatDoor
open Go.RowKit Go.Shelf Go.Proofs.YteijmjbiaffcmaaGreatDoor.Vi Go.Proofs.YteijmjbiaffcmaaGreatDoor.Crc Go.Proofs.YteijmjbiaffcmaaGreatDoor.Fr

def lowD (n i : Nat) : List UInt8 := (List.range i).map fun t => Lib.dg n (i - 1 - t)
theorem lowD_succ (n i : Nat) : lowD n (i + 1) = Lib.dg n i :: lowD n i := by
  unfold lowD
  rw [List.range_succ_eq_map, List.map_cons, List.map_map]
  congr 1
  refine List.map_congr_left fun t _ => ?_
  show Lib.dg n (i + 1 - 1 - (t + 1)) = _
  congr 1
  omega
theorem lowD_len (n i : Nat) : (lowD n i).length = i := by simp [lowD]
set_option maxHeartbeats 1000000 in
theorem rseg_is (n : Int) (t : ByteArray) (w : World) (h0 : -9223372036854775808 ≤ n) (h1 : n ≤ 9223372036854775807) (H : Hid (tx (segI n) = t)) : Calls Tryz.prog 14 #[.int .i64 n] w fun e w' => e = .returned (.string t) ∧ Below w.heap.size w w' := by
  have hH := H.out
  unfold segI at hH
  by_cases hr : 1 ≤ n ∧ n ≤ 99999999
  · rw [if_pos hr] at hH
    have HT := Lib.hid hH
    have hn1 : ¬ n < 1 := by omega
    have hn2 : ¬ 99999999 < n := by omega
    obtain ⟨u, rfl⟩ : ∃ u : Nat, n = (u : Int) := ⟨n.toNat, by omega⟩
    have hu : u ≤ 99999999 := by omega
    have HU := Lib.hid hu
    have h8 : tx (119 :: 46 :: lowD u 8) = t := by
      rw [← hH]
      have e : ((u : Int)).toNat = u := by omega
      rw [e]
      unfold seg digs8 lowD
      rfl
    have H8 := Lib.hid h8
    clear hH H h8 hr hu
    go_enter Tryz.func14, Tryz.ntmps14
    go_wp2
    go_loopg [0, 3, 4] 8 (fun g m a ii wr => ∃ (i k : Nat) (s0 : ByteArray), i + g = 8 ∧ ii = .int .i64 (i : Int) ∧ m = .int .i64 (k : Int) ∧ Hid (k = u / 10 ^ i) ∧ a = .string s0 ∧ Hid (s0 = tx (lowD u i)) ∧ Below w.heap.size w wr)
    case atStart => exact ⟨0, u, ⟨#[]⟩, rfl, rfl, rfl, Lib.hid (by simp), rfl, Lib.hid rfl, Below.refl _ _⟩
    case round =>
      obtain ⟨i, k, s0, hi, rfl, rfl, hk, rfl, hs, hbel⟩ := hrel
      have HB := Lib.hid hbel
      cases gk with
      | zero =>
        obtain rfl : i = 8 := by omega
        have hs0 : s0.size = 8 := by rw [hs.out, tx_size, lowD_len]
        have hz : (2 : Int) + (s0.size : Int) ≤ 9223372036854775807 := by omega
        have HF := Lib.hid (show (⟨#[119, 46]⟩ : ByteArray) ++ s0 = t by
          rw [← H8.out, hs.out]
          exact tx_app [119, 46] (lowD u 8))
        have hzz : (({ data := #[119, 46] } : ByteArray).size : Int) + (s0.size : Int) ≤ 9223372036854775807 := by rw [hs0]; decide
        clear hs hbel
        go_wp2
        go_ret
        exact ⟨by rw [← HF.out]; rfl, HB.out⟩
      | succ g =>
        have hi8 : (i : Int) < 8 := by omega
        have hiw : IntKind.i64.wrap ((i : Int) + 1) = (i : Int) + 1 := by rw [IntKind.wrap_i64]; omega
        have hku : k ≤ 99999999 := by rw [hk.out]; exact Nat.le_trans (Nat.div_le_self _ _) HU.out
        obtain ⟨c, hc⟩ : ∃ c, Lib.dg u i = c := ⟨_, rfl⟩
        have hcn : c.toNat = 48 + k % 10 := by rw [← hc, dg_nat, hk.out]
        have hb : (48 : Int) + (k : Int) % 10 = (c.toNat : Int) := by omega
        have hkl : (k : Int) ≤ 99999999 := by omega
        have hk1 := one_back c wr
        obtain ⟨tt, ht⟩ : ∃ t, tx [c] = t := ⟨_, rfl⟩
        rw [ht] at hk1
        have hz1 : tt.size = 1 := by rw [← ht, tx_size]; rfl
        have hs0 : s0.size = i := by rw [hs.out, tx_size, lowD_len]
        have hz : tt.size + s0.size ≤ 9223372036854775807 := by omega
        have HS := Lib.hid (show tt ++ s0 = tx (lowD u (i + 1)) by rw [← ht, hs.out, lowD_succ, hc, tx_app]; rfl)
        have HK := Lib.hid (show k / 10 = u / 10 ^ (i + 1) by rw [hk.out, Nat.div_div_eq_div_mul, Nat.pow_succ])
        have HBA := Lib.hid (hbel.alloc hbel.size (.cells #[.int .u8 (c.toNat : Int)] 5))
        clear hs hbel hk ht hc hcn
        go_wp2
        clear hb
        go_roundg g
        case measure => omega
        case rel => exact ⟨i + 1, k / 10, tt ++ s0, by omega, by go_num, rfl, HK, rfl, HS, HBA.out⟩
  · rw [if_neg hr] at hH
    obtain rfl : (⟨#[]⟩ : ByteArray) = t := hH
    clear H
    by_cases hn1 : n < 1
    · clear hr
      go_enter Tryz.func14, Tryz.ntmps14
      go_wp2
      go_ret
      exact ⟨rfl, Below.refl _ _⟩
    · have hn2 : 99999999 < n := by omega
      clear hr
      go_enter Tryz.func14, Tryz.ntmps14
      go_wp2
      go_ret
      exact ⟨rfl, Below.refl _ _⟩
end Go.Proofs.YteijmjbiaffcmaaGreatDoor

/- The contract of the document's Number. -/
set_option maxRecDepth 20000
set_option linter.unusedSimpArgs false
set_option linter.unusedVariables false
namespace Go.Proofs.YteijmjbiaffcmaaGreatDoor
open Go.RowKit Go.Shelf Go.Proofs.YteijmjbiaffcmaaGreatDoor.Vi Go.Proofs.YteijmjbiaffcmaaGreatDoor.Crc Go.Proofs.YteijmjbiaffcmaaGreatDoor.Fr

theorem dg_tail (n d j : Nat) (h : d < 10) : Lib.dg (n * 10 + d) (j + 1) = Lib.dg n j := by
  unfold Lib.dg
  congr 2
  rw [Nat.pow_succ, Nat.mul_comm (10 ^ j) 10, ← Nat.div_div_eq_div_mul]
  congr 2
  omega
theorem lowD_push (n d i : Nat) (h : d < 10) (c : UInt8) (hc : c.toNat = 48 + d) : lowD (n * 10 + d) (i + 1) = lowD n i ++ [c] := by
  unfold lowD
  rw [List.range_succ, List.map_append, List.map_cons, List.map_nil]
  congr 1
  · refine List.map_congr_left fun t ht => ?_
    have := List.mem_range.1 ht
    have e : i + 1 - 1 - t = (i - 1 - t) + 1 := by omega
    rw [e, dg_tail n d _ h]
  · congr 1
    have e : i + 1 - 1 - i = 0 := by omega
    rw [e]
    apply UInt8.toNat_inj.1
    rw [dg_nat, hc]
    simp
    omega
theorem numN_low {l : List UInt8} {n : Nat} (hl : l = 119 :: 46 :: lowD n 8) (hn : n < 100000000) : numN l = if 1 ≤ n then some n else none := by
  have e : l = seg n := hl
  by_cases h : 1 ≤ n
  · rw [if_pos h, e]; exact numN_seg h (by omega)
  · rw [if_neg h]
    cases hm : numN l with
    | none => rfl
    | some m =>
      exfalso
      obtain ⟨h1, h2, h3⟩ := numN_some hm (by rw [hl]; simp)
      have hd : digs8 n = digs8 m := by
        have := e.symm.trans h1
        unfold seg at this
        simpa using this
      have a1 := decFrom_digs n 8 0
      have a2 := decFrom_digs m 8 0
      have e1 : ((List.range 8).map fun t => Lib.dg n (8 - 1 - t)) = digs8 n := rfl
      have e2 : ((List.range 8).map fun t => Lib.dg m (8 - 1 - t)) = digs8 m := rfl
      rw [e1, hd, ← e2, a2] at a1
      simp at a1
      omega
theorem numN_shape {l : List UInt8} {m : Nat} (hm : numN l = some m) (hl : l ≠ []) : l.length = 10 ∧ l.take 2 = [119, 46] ∧ ∀ j (h : j < l.length), 2 ≤ j → 48 ≤ (l[j]).toNat ∧ (l[j]).toNat ≤ 57 := by
  obtain ⟨h1, -, -⟩ := numN_some hm hl
  subst h1
  refine ⟨seg_len m, rfl, fun j h hj => ?_⟩
  obtain ⟨j, rfl⟩ : ∃ i, j = i + 2 := ⟨j - 2, by omega⟩
  have e : (seg m)[j + 2] = (digs8 m)[j]'(by rw [digs8_len]; rw [seg_len] at h; omega) := rfl
  rw [e]
  unfold digs8
  rw [List.getElem_map, dg_nat]
  omega
end Go.Proofs.YteijmjbiaffcmaaGreatDoor

/- The contract of the document's Number. -/
set_option maxRecDepth 20000
set_option linter.unusedSimpArgs false
set_option linter.unusedVariables false
namespace Go.Proofs.YteijmjbiaffcmaaGreatDoor
open Go.RowKit Go.Shelf Go.Proofs.YteijmjbiaffcmaaGreatDoor.Vi Go.Proofs.YteijmjbiaffcmaaGreatDoor.Crc Go.Proofs.YteijmjbiaffcmaaGreatDoor.Fr

theorem numV_none {s : ByteArray} (h : numN s.data.toList = none) : numV s = (0, false) := by unfold numV; rw [h]
theorem numN_not {l : List UInt8} (h : ¬ (l.length = 10 ∧ l.take 2 = [119, 46])) : numN l = none := by
  cases hm : numN l with
  | none => rfl
  | some m =>
    by_cases hl : l = []
    · rw [hl] at hm; cases hm
    · have := numN_shape hm hl
      exact absurd ⟨this.1, this.2.1⟩ h
set_option maxHeartbeats 1000000 in
theorem rnumber_is (s : ByteArray) (v : Int) (o : Bool) (w : World) (hs : s.size ≤ 1000000) (H : Hid (numV s = (v, o))) : Calls Tryz.prog 12 #[.string s] w fun e w' => e = .returned (.tuple #[.int .i64 v, .bool o]) ∧ Below w.heap.size w w' := by
  have hlen : s.data.toList.length = s.size := by simp
  by_cases h10 : s.size = 10
  · have h10i : (s.size : Int) = 10 := by omega
    by_cases hp : s.extract 0 2 = ⟨#[119, 46]⟩
    · have htake : s.data.toList.take 2 = [119, 46] := by
        have e := congrArg (fun b : ByteArray => b.data.toList) hp
        simpa [ByteArray.data_extract] using e
      obtain ⟨D, hD⟩ : ∃ D, s.data.toList = 119 :: 46 :: D := by
        have e := List.take_append_drop 2 s.data.toList
        rw [htake] at e
        exact ⟨_, e.symm⟩
      have hDl : D.length = 8 := by rw [hD] at hlen; simp at hlen; omega
      have HD := Lib.hid hD
      have HDL := Lib.hid hDl
      clear hlen htake hD hDl
      go_enter Tryz.func12, Tryz.ntmps12
      go_wp2
      go_loopg [4, 5] 8 (fun g nv jj wr => ∃ (j n : Nat), j + g = 10 ∧ 2 ≤ j ∧ jj = .int .i64 (j : Int) ∧ nv = .int .i64 (n : Int) ∧ n < 10 ^ (j - 2) ∧ Hid (lowD n (j - 2) = D.take (j - 2)) ∧ wr = w)
      case atStart => exact ⟨2, 0, rfl, Nat.le_refl _, rfl, rfl, by decide, Lib.hid rfl, rfl⟩
      case round =>
        obtain ⟨j, n, hj, hj2, rfl, rfl, hn, hlow, rfl⟩ := hrel
        cases gk with
        | zero =>
          obtain rfl : j = 10 := by omega
          have hfull := hlow.out
          rw [show 10 - 2 = 8 from rfl, List.take_of_length_le (by rw [HDL.out]; exact Nat.le_refl _)] at hfull
          have hnum := numN_low (l := s.data.toList) (n := n) (by rw [HD.out, hfull]) hn
          have hv : v = (n : Int) ∧ o = decide ((0 : Int) < (n : Int)) := by
            have hh := H.out
            unfold numV at hh
            rw [hnum] at hh
            by_cases h1 : 1 ≤ n
            · rw [if_pos h1] at hh
              simp only [Prod.mk.injEq] at hh
              have h2 : (0 : Int) < (n : Int) := by omega
              exact ⟨hh.1.symm, by rw [decide_eq_true h2]; exact hh.2.symm⟩
            · rw [if_neg h1] at hh
              simp only [Prod.mk.injEq] at hh
              have h0 : n = 0 := by omega
              subst h0
              exact ⟨hh.1.symm, hh.2.symm⟩
          obtain ⟨rfl, rfl⟩ := hv
          clear hfull hnum hlow
          go_wp2
          go_ret2
          exact ⟨rfl, Below.refl _ _⟩
        | succ g =>
          have hjs : j < s.size := by omega
          have hjl : (j : Int) < 10 := by omega
          have hjs' : (j : Int) < (s.size : Int) := by omega
          have hjw : IntKind.i64.wrap ((j : Int) + 1) = (j : Int) + 1 := by rw [IntKind.wrap_i64]; omega
          have hjD : j - 2 < D.length := by rw [HDL.out]; omega
          have hcD : s[j] = D[j - 2] := by
            have e : s.data.toList[j]? = some s[j] := by
              rw [Array.getElem?_toList]
              exact Array.getElem?_eq_getElem hjs
            rw [HD.out] at e
            obtain ⟨t, ht⟩ : ∃ t, j = t + 2 := ⟨j - 2, by omega⟩
            subst ht
            simp at e
            have e2 := List.getElem?_eq_getElem (l := D) (i := t) (by simpa using hjD)
            rw [e2] at e
            injection e with e
            exact e.symm
          obtain ⟨c, hc⟩ : ∃ c : UInt8, s[j] = c := ⟨_, rfl⟩
          have hDc : D[j - 2] = c := hcD.symm.trans hc
          have hnb : n < 10000000 := Nat.lt_of_lt_of_le hn (by
            have := Nat.pow_le_pow_right (show 0 < 10 by decide) (show j - 2 ≤ 7 by omega)
            simpa using this)
          by_cases hc1 : c.toNat < 48
          · have hc1i : (c.toNat : Int) < 48 := by omega
            have hbad : numN s.data.toList = none := by
              cases hm : numN s.data.toList with
              | none => rfl
              | some m =>
                have := (numN_shape hm (by rw [HD.out]; simp)).2.2 j (by simpa using hjs) hj2
                have e : s.data.toList[j]'(by simpa using hjs) = c := by rw [← hc]; simp; rfl
                rw [e] at this
                omega
            have hv := H.out
            rw [numV_none hbad] at hv
            simp only [Prod.mk.injEq] at hv
            obtain ⟨rfl, rfl⟩ := hv
            clear hcD hDc hlow hbad
            go_wp2
            try rw [Exit.noGoto_ret]
            go_ret2
            exact ⟨rfl, Below.refl _ _⟩
          · have hc1i : ¬ (c.toNat : Int) < 48 := by omega
            by_cases hc2 : 57 < c.toNat
            · have hc2i : (57 : Int) < (c.toNat : Int) := by omega
              have hbad : numN s.data.toList = none := by
                cases hm : numN s.data.toList with
                | none => rfl
                | some m =>
                  have := (numN_shape hm (by rw [HD.out]; simp)).2.2 j (by simpa using hjs) hj2
                  have e : s.data.toList[j]'(by simpa using hjs) = c := by rw [← hc]; simp; rfl
                  rw [e] at this
                  omega
              have hv := H.out
              rw [numV_none hbad] at hv
              simp only [Prod.mk.injEq] at hv
              obtain ⟨rfl, rfl⟩ := hv
              clear hcD hDc hlow hbad
              go_wp2
              try rw [Exit.noGoto_ret]
              go_ret2
              exact ⟨rfl, Below.refl _ _⟩
            · have hc2i : ¬ (57 : Int) < (c.toNat : Int) := by omega
              obtain ⟨d, hd⟩ : ∃ d, c.toNat = 48 + d := ⟨c.toNat - 48, by omega⟩
              have hd9 : d < 10 := by omega
              have hw1 : IntKind.i64.wrap ((n : Int) * 10) = (n : Int) * 10 := by rw [IntKind.wrap_i64]; omega
              have hw2 : IntKind.u8.wrap ((c.toNat : Int) - 48) = (d : Int) := by rw [IntKind.wrap_u8]; omega
              have hw3 : IntKind.i64.wrap ((n : Int) * 10 + (d : Int)) = (n : Int) * 10 + (d : Int) := by rw [IntKind.wrap_i64]; omega
              have hw4 : (c.toNat : Int) - 48 = (d : Int) := by omega
              have HL := Lib.hid (show lowD (n * 10 + d) (j + 1 - 2) = D.take (j + 1 - 2) by
                have e1 : j + 1 - 2 = (j - 2) + 1 := by omega
                rw [e1, lowD_push n d _ hd9 c hd, hlow.out, List.take_succ_eq_append_getElem hjD, hDc])
              have HN := Lib.hid (show n * 10 + d < 10 ^ (j + 1 - 2) by
                have e1 : j + 1 - 2 = (j - 2) + 1 := by omega
                rw [e1, Nat.pow_succ]
                omega)
              clear hcD hDc hlow hn
              go_wp2
              go_roundg g
              case measure => omega
              case rel => exact ⟨j + 1, n * 10 + d, by omega, by omega, by go_num, by go_num, HN.out, HL, rfl⟩
    · have hv := H.out
      rw [numV_none (numN_not fun h => hp (by
        apply ByteArray.ext
        apply Array.toList_inj.1
        have := h.2
        simpa [ByteArray.data_extract] using this))] at hv
      simp only [Prod.mk.injEq] at hv
      obtain ⟨rfl, rfl⟩ := hv
      have hpl : ¬ (s.extract 0 2).toList = [119, 46] := fun e => hp (by
        apply ByteArray.ext
        apply Array.toList_inj.1
        rw [ByteArray.toList_eq] at e
        exact e)
      have hpn : ((s.extract 0 2).toList == [119, 46]) = false := by simpa using hpl
      clear hp
      go_enter Tryz.func12, Tryz.ntmps12
      go_wp2
      go_ret2
      exact ⟨rfl, Below.refl _ _⟩
  · have h10i : ¬ (s.size : Int) = 10 := by omega
    have hv := H.out
    rw [numV_none (numN_not fun h => h10 (by rw [← hlen]; exact h.1))] at hv
    simp only [Prod.mk.injEq] at hv
    obtain ⟨rfl, rfl⟩ := hv
    clear h10
    go_enter Tryz.func12, Tryz.ntmps12
    go_wp2
    go_ret2
    exact ⟨rfl, Below.refl _ _⟩
end Go.Proofs.YteijmjbiaffcmaaGreatDoor

/- The contract of the document's Head. -/
set_option maxRecDepth 20000
set_option linter.unusedSimpArgs false
set_option linter.unusedVariables false
namespace Go.Proofs.YteijmjbiaffcmaaGreatDoor
open Go.RowKit Go.Shelf Go.Proofs.YteijmjbiaffcmaaGreatDoor.Vi Go.Proofs.YteijmjbiaffcmaaGreatDoor.Crc Go.Proofs.YteijmjbiaffcmaaGreatDoor.Fr

/-- One byte in a block of its own, made into a text later on. -/
theorem one_later (c : UInt8) (z : Int) (hz : (c.toNat : Int) = z) (w w' : World) (h : Below (w.alloc (.cells #[.int .u8 z] 5)).heap.size (w.alloc (.cells #[.int .u8 z] 5)) w') :
    (convert 57 9 (.slice (some ⟨w.heap.size, 0, none⟩) 1 1)).run Tryz.prog w' = .ok (.string (tx [c])) w' := by
  subst hz
  refine run_convert_bytes_back (P := Tryz.prog) _ 57 9 5 ⟨w.heap.size, 0, none⟩ 1 [c] Tryz.underlying57 Tryz.underlying5 Tryz.underlying9 fun j hj => ?_
  obtain rfl : j = 0 := by simpa using hj
  have e := h.cell (p := ⟨w.heap.size, 0, none⟩) (by simp)
  rw [add_off, Nat.zero_add, e, World.cell?_alloc_mark]
  simp
theorem one_now (c : UInt8) (z : Int) (hz : (c.toNat : Int) = z) (w : World) :
    (convert 57 9 (.slice (some ⟨w.heap.size, 0, none⟩) 1 1)).run Tryz.prog (w.alloc (.cells #[.int .u8 z] 5)) = .ok (.string (tx [c])) (w.alloc (.cells #[.int .u8 z] 5)) := one_later c z hz w _ (Below.refl _ _)
theorem one_drew (c : UInt8) (z : Int) (hz : (c.toNat : Int) = z) (w w' : World) (h : Below ((w.alloc (.cells #[.int .u8 z] 5)).drew).heap.size ((w.alloc (.cells #[.int .u8 z] 5)).drew) w') :
    (convert 57 9 (.slice (some ⟨w.heap.size, 0, none⟩) 1 1)).run Tryz.prog w' = .ok (.string (tx [c])) w' :=
  one_later c z hz w w' (((Below.refl _ _).drew).trans h)
theorem rightB_no {f : Int} {k : Bool} {s : ByteArray} (h : rightB f k s = false) : f < 1 ∨ 1099511627776 < f ∨ (1 ≤ f ∧ f ≤ 1099511627776 ∧ k = false ∧ s.size ≠ 0) := by
  unfold rightB at h
  by_cases h0 : 1 ≤ f
  · by_cases h1 : f ≤ 1099511627776
    · right; right
      rw [decide_eq_true h0, decide_eq_true h1] at h
      simp at h
      exact ⟨h0, h1, h.1, fun e => h.2 (size0 e)⟩
    · right; left; omega
  · left; omega
set_option maxHeartbeats 8000000 in
theorem rhead_is (f : Int) (k : Bool) (s t : ByteArray) (w : World) (hf0 : -9223372036854775808 ≤ f ∧ f ≤ 9223372036854775807) (hs : s.size ≤ 60000) (H : Hid (headB f k s = t)) : Calls Tryz.prog 16 #[.int .i64 f, .bool k, .string s] w fun e w' => e = .returned (.string t) ∧ Below w.heap.size w w' := by
  have H := H.out
  unfold headB at H
  cases hr : rightB f k s with
  | false =>
    rw [hr] at H
    obtain rfl : (⟨#[]⟩ : ByteArray) = t := H
    clear H
    rcases rightB_no hr with h | h | ⟨h0, h1, rfl, hz⟩
    · clear hr
      go_enter Tryz.func16, Tryz.ntmps16
      go_wp2
      go_ret
      exact ⟨rfl, Below.refl _ _⟩
    · have h0 : ¬ f < 1 := by omega
      clear hr
      go_enter Tryz.func16, Tryz.ntmps16
      go_wp2
      go_ret
      exact ⟨rfl, Below.refl _ _⟩
    · have h0' : ¬ f < 1 := by omega
      have h1' : ¬ 1099511627776 < f := by omega
      have hne2 : s.toList.isEmpty = false := by
        rw [ByteArray.toList_eq]
        cases hq : s.data.toList with
        | nil => exact absurd (congrArg ByteArray.size (size0' hq)) hz
        | cons => rfl
      clear hr hz
      go_enter Tryz.func16, Tryz.ntmps16
      go_wp2
      go_ret
      exact ⟨rfl, Below.refl _ _⟩
  | true =>
    rw [hr, if_pos rfl] at H
    have hb : 1 ≤ f ∧ f ≤ 1099511627776 := by
      unfold rightB at hr
      simp at hr
      exact ⟨hr.1, hr.2.1⟩
    have hbl := bodyH_len f k s hb.2 hs
    have hks : k = false → s = ⟨#[]⟩ := fun e => by
      subst e
      unfold rightB at hr
      simp at hr
      exact size0 (by have := hr.2.2; simpa using this)
    obtain ⟨n, rfl⟩ : ∃ n : Nat, f = (n : Int) := ⟨f.toNat, by omega⟩
    have hwn : IntKind.u64.wrap (n : Int) = (n : Int) := by rw [IntKind.wrap_u64]; omega
    obtain ⟨p, hp⟩ : ∃ p, tx (enc n) = p := ⟨_, rfl⟩
    obtain ⟨q, hq⟩ : ∃ q, ahead s = q := ⟨_, rfl⟩
    have kp := fun w => refPut_is n p w (by omega) (Lib.hid hp)
    have kq := fun w => refText_is s q w (by omega) (Lib.hid hq)
    have hpz : p.size ≤ 10 := by rw [← hp, tx_size]; exact enc_len10 n (by omega)
    have hqz : q.size ≤ 60010 := by
      rw [← hq]
      unfold ahead
      rw [tx_size, List.length_append]
      have h2 := enc_len10 s.size (by omega)
      have h3 : s.data.toList.length = s.size := by simp
      omega
    have hcat : ∀ c : UInt8, p ++ tx [c] ++ q = tx (enc n ++ (c :: (enc s.size ++ s.data.toList))) := fun c => by
      rw [← hp, ← hq]
      unfold ahead
      rw [tx_app, tx_app]
      simp
    have h0' : ¬ (n : Int) < 1 := by omega
    have h1' : ¬ 1099511627776 < (n : Int) := by omega
    cases k with
    | false =>
      obtain rfl := hks rfl
      have hcz := hcat 0
      obtain ⟨c, hc⟩ : ∃ c, tx [(0 : UInt8)] = c := ⟨_, rfl⟩
      have HL := Lib.hid (one_later 0 0 rfl)
      have HD := Lib.hid (one_drew 0 0 rfl)
      have hI := one_now 0 0 rfl
      have hI2 := fun w => one_drew 0 0 rfl w _ (Below.refl _ _)
      rw [hc] at hcz HL HD hI
      simp only [hc] at hI2
      have hcs : c.size = 1 := by rw [← hc]; rfl
      obtain ⟨x1, hx1⟩ : ∃ x, p ++ c = x := ⟨_, rfl⟩
      have hx1s : x1.size = p.size + 1 := by rw [← hx1]; simp [hcs]
      rw [hx1] at hcz
      obtain ⟨x2, hx2⟩ : ∃ x, x1 ++ q = x := ⟨_, rfl⟩
      have hx2s : x2.size = x1.size + q.size := by rw [← hx2]; simp
      rw [hx2] at hcz
      have kr := fun w => rput_yes x2 t w (by omega) (Lib.hid (by rw [hcz, tx_data]; exact H))
      have hz1 : p.size + c.size ≤ 9223372036854775807 := by omega
      have hz2 : x1.size + q.size ≤ 9223372036854775807 := by omega
      clear H hr hb hbl hks hcat hcz hc hp hq hx1s hx2s
      go_enter Tryz.func16, Tryz.ntmps16
      go_wp2
      go_region_with (first
        | (go_at_call 48; (with_reducible refine (kp _).mono ?_); rintro e w1 ⟨rfl, hb1⟩; first | have hk2 := HD.out _ _ hb1 | have hk2 := HL.out _ _ hb1 | have hk2 := HD.out _ _ (bel_next hb2 hb1) | have hk2 := HL.out _ _ (bel_next hb2 hb1) | skip)
        | (go_at_call 49; (with_reducible refine (kq _).mono ?_); rintro e w2 ⟨rfl, hb2⟩; first | have hk3 := HD.out _ _ hb2 | have hk3 := HL.out _ _ hb2 | have hk3 := HD.out _ _ (bel_next hb1 hb2) | have hk3 := HL.out _ _ (bel_next hb1 hb2) | skip)
        | (go_at_call 47; (with_reducible refine (kr _).mono ?_); rintro e w3 ⟨rfl, hb3⟩))
      all_goals
        go_wp2_with fail
        go_ret
        refine ⟨rfl, ?_⟩
        repeat (first | exact Below.refl _ _ | refine below_drewN ?_ _ | refine Below.drew ?_ | refine bel_new ?_ _ | (refine bel_next ?_ (by assumption)))
    | true =>
      have hcz := hcat 1
      obtain ⟨c, hc⟩ : ∃ c, tx [(1 : UInt8)] = c := ⟨_, rfl⟩
      have HL := Lib.hid (one_later 1 1 rfl)
      have HD := Lib.hid (one_drew 1 1 rfl)
      have hI := one_now 1 1 rfl
      have hI2 := fun w => one_drew 1 1 rfl w _ (Below.refl _ _)
      rw [hc] at hcz HL HD hI
      simp only [hc] at hI2
      have hcs : c.size = 1 := by rw [← hc]; rfl
      obtain ⟨x1, hx1⟩ : ∃ x, p ++ c = x := ⟨_, rfl⟩
      have hx1s : x1.size = p.size + 1 := by rw [← hx1]; simp [hcs]
      rw [hx1] at hcz
      obtain ⟨x2, hx2⟩ : ∃ x, x1 ++ q = x := ⟨_, rfl⟩
      have hx2s : x2.size = x1.size + q.size := by rw [← hx2]; simp
      rw [hx2] at hcz
      have kr := fun w => rput_yes x2 t w (by omega) (Lib.hid (by rw [hcz, tx_data]; exact H))
      have hz1 : p.size + c.size ≤ 9223372036854775807 := by omega
      have hz2 : x1.size + q.size ≤ 9223372036854775807 := by omega
      clear H hr hb hbl hks hcat hcz hc hp hq hx1s hx2s
      go_enter Tryz.func16, Tryz.ntmps16
      go_wp2
      go_region_with (first
        | (go_at_call 48; (with_reducible refine (kp _).mono ?_); rintro e w1 ⟨rfl, hb1⟩; first | have hk2 := HD.out _ _ hb1 | have hk2 := HL.out _ _ hb1 | have hk2 := HD.out _ _ (bel_next hb2 hb1) | have hk2 := HL.out _ _ (bel_next hb2 hb1) | skip)
        | (go_at_call 49; (with_reducible refine (kq _).mono ?_); rintro e w2 ⟨rfl, hb2⟩; first | have hk3 := HD.out _ _ hb2 | have hk3 := HL.out _ _ hb2 | have hk3 := HD.out _ _ (bel_next hb1 hb2) | have hk3 := HL.out _ _ (bel_next hb1 hb2) | skip)
        | (go_at_call 47; (with_reducible refine (kr _).mono ?_); rintro e w3 ⟨rfl, hb3⟩))
      all_goals
        go_wp2_with fail
        go_ret
        refine ⟨rfl, ?_⟩
        repeat (first | exact Below.refl _ _ | refine below_drewN ?_ _ | refine Below.drew ?_ | refine bel_new ?_ _ | (refine bel_next ?_ (by assumption)))
end Go.Proofs.YteijmjbiaffcmaaGreatDoor

/- The walk of WalNames. -/
set_option maxRecDepth 20000
set_option linter.unusedSimpArgs false
set_option linter.unusedVariables false
namespace Go.Proofs.YteijmjbiaffcmaaGreatDoor
open Go.RowKit Go.Maps Go.Shelf Go.Proofs.YteijmjbiaffcmaaGreatDoor.Vi Go.Proofs.YteijmjbiaffcmaaGreatDoor.Crc Go.Proofs.YteijmjbiaffcmaaGreatDoor.Fr Go.Proofs.YteijmjbiaffcmaaGreatDoor.Fi

def shortB (s : ByteArray) (n : Nat) : ByteArray := if n < s.size then s.extract 0 n else s
theorem shortB_size (s : ByteArray) (n : Nat) : (shortB s n).size ≤ n := by
  unfold shortB
  split
  · rw [ByteArray.size_extract]; omega
  · omega
theorem short_is (s t : ByteArray) (n : Nat) (m : Int) (w : World) (hm : m = (n : Int)) (hn : n ≤ 5000) (ht : Hid (shortB s n = t)) : Calls Tryz.prog 10 #[.string s, .int .i64 m] w fun e w' => e = .returned (.string t) ∧ w = w' := by
  by_cases h : n < s.size
  · have H := Lib.hid (show s.extract 0 n = t by rw [← ht.out]; exact (if_pos h).symm)
    subst hm
    go_enter Tryz.func10, Tryz.ntmps10
    go_wp2
    go_ret
    exact ⟨by rw [← H.out]; rfl, rfl⟩
  · have H := Lib.hid (show s = t by rw [← ht.out]; exact (if_neg h).symm)
    subst hm
    go_enter Tryz.func10, Tryz.ntmps10
    go_wp2
    go_ret
    exact ⟨by rw [← H.out]; rfl, rfl⟩
namespace walNames
set_option maxHeartbeats 4000000 in
theorem walk (n : Int) (name state : ByteArray) (w : World) (hn : -9223372036854775808 ≤ n ∧ n ≤ 9223372036854775807) (_h1 : name.size ≤ maxLen) (_h2 : state.size ≤ maxLen) (GL : Glob w) : Calls Tryz.prog 3 #[.int .i64 n, .string name, .string state] w fun e w' => e = .returned (.bool true) ∧ Below w.heap.size w w' := by
  have G := Lib.hid (fun (w' : World) (k : Below w.heap.size w w') => GL.below k)
  have ka := awake_is w GL
  obtain ⟨nm, hnm⟩ : ∃ t, shortB name 30 = t := ⟨_, rfl⟩
  obtain ⟨st, hst⟩ : ∃ t, shortB state 300 = t := ⟨_, rfl⟩
  have hnz : nm.size ≤ 30 := by rw [← hnm]; exact shortB_size _ _
  have hsz : st.size ≤ 300 := by rw [← hst]; exact shortB_size _ _
  have k1 := fun w => short_is name nm 30 30 w rfl (by decide) (Lib.hid hnm)
  have k2 := fun w => short_is state st 300 300 w rfl (by decide) (Lib.hid hst)
  obtain ⟨⟨v, o⟩, hv⟩ : ∃ x, numV nm = x := ⟨_, rfl⟩
  have k3 := fun w G => number_is nm v o w (by omega) G (Lib.hid hv)
  have k4 := fun w => rnumber_is nm v o w (by omega) (Lib.hid hv)
  obtain ⟨sg, hsg⟩ : ∃ t, tx (segI n) = t := ⟨_, rfl⟩
  have k5 := fun w G => segment_is n sg w hn.1 hn.2 G (Lib.hid hsg)
  have k6 := fun w => rseg_is n sg w hn.1 hn.2 (Lib.hid hsg)
  obtain ⟨a1, h1⟩ : ∃ t, headB n true st = t := ⟨_, rfl⟩
  obtain ⟨a2, h2⟩ : ∃ t, headB n false st = t := ⟨_, rfl⟩
  obtain ⟨a3, h3⟩ : ∃ t, headB n false ⟨#[]⟩ = t := ⟨_, rfl⟩
  have m1 := fun w G => head_is n true st a1 w hn (by omega) G (Lib.hid h1)
  have m2 := fun w G => head_is n false st a2 w hn (by omega) G (Lib.hid h2)
  have m3 := fun w G => head_is n false ⟨#[]⟩ a3 w hn (by decide) G (Lib.hid h3)
  have r1 := fun w => rhead_is n true st a1 w hn (by omega) (Lib.hid h1)
  have r2 := fun w => rhead_is n false st a2 w hn (by omega) (Lib.hid h2)
  have r3 := fun w => rhead_is n false ⟨#[]⟩ a3 w hn (by decide) (Lib.hid h3)
  clear hnm hst hv hsg h1 h2 h3 GL hnz hsz
  go_enter Tryz.func3, Tryz.ntmps3
  go_wp2_with (first
    | (go_at_call 9; (with_reducible refine ka.mono ?_); rintro _ w1 ⟨rfl, hB⟩; (have HB1 := Lib.hid hB); clear hB ka)
    | (go_at_call 10; (with_reducible refine (k1 _).mono ?_); rintro _ w2 ⟨rfl, rfl⟩; clear k1)
    | (go_at_call 10; (with_reducible refine (k2 _).mono ?_); rintro _ w3 ⟨rfl, rfl⟩; clear k2)
    | (go_at_call 11; (with_reducible refine (k3 _ (G.out _ HB1.out)).mono ?_); rintro _ w4 ⟨rfl, hB⟩; (have HB4 := Lib.hid (HB1.out.trans (hB.mono HB1.out.size))); clear hB k3)
    | (go_at_call 12; (with_reducible refine (k4 _).mono ?_); rintro _ w5 ⟨rfl, hB⟩; (have HB5 := Lib.hid (HB4.out.trans (hB.mono HB4.out.size))); clear hB k4)
    | (go_at_call 13; (with_reducible refine (k5 _ (G.out _ HB5.out)).mono ?_); rintro _ w6 ⟨rfl, hB⟩; (have HB6 := Lib.hid (HB5.out.trans (hB.mono HB5.out.size))); clear hB k5)
    | (go_at_call 14; (with_reducible refine (k6 _).mono ?_); rintro _ w7 ⟨rfl, hB⟩; (have HB7 := Lib.hid (HB6.out.trans (hB.mono HB6.out.size))); clear hB k6)
    | (go_at_call 15; (with_reducible refine (m1 _ (G.out _ HB7.out)).mono ?_); rintro _ w8 ⟨rfl, hB⟩; (have HB8 := Lib.hid (HB7.out.trans (hB.mono HB7.out.size))); clear hB m1)
    | (go_at_call 16; (with_reducible refine (r1 _).mono ?_); rintro _ w9 ⟨rfl, hB⟩; (have HB9 := Lib.hid (HB8.out.trans (hB.mono HB8.out.size))); clear hB r1)
    | (go_at_call 15; (with_reducible refine (m2 _ (G.out _ HB9.out)).mono ?_); rintro _ w10 ⟨rfl, hB⟩; (have HB10 := Lib.hid (HB9.out.trans (hB.mono HB9.out.size))); clear hB m2)
    | (go_at_call 16; (with_reducible refine (r2 _).mono ?_); rintro _ w11 ⟨rfl, hB⟩; (have HB11 := Lib.hid (HB10.out.trans (hB.mono HB10.out.size))); clear hB r2)
    | (go_at_call 15; (with_reducible refine (m3 _ (G.out _ HB11.out)).mono ?_); rintro _ w12 ⟨rfl, hB⟩; (have HB12 := Lib.hid (HB11.out.trans (hB.mono HB11.out.size))); clear hB m3)
    | (go_at_call 16; (with_reducible refine (r3 _).mono ?_); rintro _ w13 ⟨rfl, hB⟩; (have HB13 := Lib.hid (HB12.out.trans (hB.mono HB12.out.size))); clear hB r3))
  go_ret
  exact ⟨rfl, HB13.out⟩
end walNames
end Go.Proofs.YteijmjbiaffcmaaGreatDoor
