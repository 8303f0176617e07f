/- After. -/
import Derived.Test.YthbajlfkgbfkgaaOgAll
import Derived.WalkMore
set_option maxRecDepth 20000
set_option linter.unusedSimpArgs false
set_option linter.unusedVariables false
namespace Go.Proofs.Ythbajlfkgbfkgaa.Og
open Go.RowKit Go.Proofs.Ythbajlfkgbfkgaa.Vi Go.Proofs.Ythbajlfkgbfkgaa.Mk

theorem Rec.ok_deps {r : Rec} (h : r.ok = true) : r.d.length ≤ 8 := by
  have e := Rec.ok_plain h
  unfold sameL at e
  have e := of_decide_eq_true e
  rw [e]
  exact vec_size (fun i => atL r.d (i : Int))
def aftR (S : OS) (V : List Int) (most : Int) : List Rec := if covL V S.base then someL V S.L most else []
def AftDone (S : OS) (V : List Int) (most : Int) (w : World) (e : Ending) (w' : World) : Prop := ∃ v, e = .returned (.tuple #[v, .bool (covL V S.base)]) ∧ Rows w' w.heap.size v (aftR S V most) ∧ Below w.heap.size w w'
theorem after_nil (w : World) (vv : Value) (V : List Int) (hV : Ns w vv V) (most : Int) : Calls Try.prog 14 #[.pointer none, vv, .int .i64 most] w fun e w' => e = .returned (.tuple #[.slice none 0 0, .bool false]) ∧ w = w' := by
  obtain ⟨a, c, rfl⟩ := hV.slice
  clear hV
  go_enter Try.func14, Try.ntmps14
  go_wp2
  go_step3
  go_wp2
  try rw [Exit.noGoto_ret]
  go_ret2
  exact ⟨rfl, rfl⟩
structure AfJ (w wr : World) (V : List Int) (L : List Rec) (most : Int) (k : Nat) (v : Value) (m : Nat) : Prop where
  row : Rows wr w.heap.size v (aftL V (L.take k))
  bel : Below w.heap.size w wr
  len : (aftL V (L.take k)).length = m
  up : m ≤ most.toNat
  lk : m ≤ k
set_option maxHeartbeats 8000000 in
theorem after_is {w : World} {B b : Nat} {S : OS} {F : Nat → Prop} (h : LogAt w B b S F) (vv : Value) (V : List Int) (hV : Ns w vv V) (most : Int) : Calls Try.prog 14 #[.pointer (some ⟨b, 0, none⟩), vv, .int .i64 most] w (AftDone S V most w) := by
  obtain ⟨⟨kv, v, zs, hO, hf⟩, hF⟩ := h
  have kb := baseO_is hO
  obtain ⟨a0, c0, rfl⟩ := hO.row.slice
  have HO := Lib.hid hO
  have HV := Lib.hid hV
  obtain ⟨av, cv, rfl⟩ := hV.slice
  have hlen := hO.len
  have hl400 := hO.good.l400
  obtain ⟨n, hn⟩ : ∃ n, zs.length = n := ⟨_, rfl⟩
  rw [hn] at hlen
  have HN := Lib.hid hn
  have HLN := Lib.hid hlen
  have h400 : n ≤ 400 := by omega
  have hcs0 := fun (W : World) (v1 : Value) (h1 : Ns W (.slice av V.length cv) V) (h2 : Ns W v1 S.base) => coversN _ v1 V S.base W h1 h2
  obtain ⟨z, hz⟩ : ∃ z, covL V S.base = z := ⟨_, rfl⟩
  rw [hz] at hcs0
  have HZ := Lib.hid hz
  have c2k := fun (W : World) (hb : Below w.heap.size w W) => (hO.later hb).c2
  rw [hn] at c2k
  clear hO hf hF hV hlen hl400 hn hz
  cases z with
  | false =>
    go_enter Try.func14, Try.ntmps14
    go_wp2
    go_step3
    go_wp2_with (first
      | (go_at_call 27; (with_reducible refine kb.mono ?_); rintro e w1 ⟨v1, rfl, hn1, hb1, hf1⟩; (have HB1 := Lib.hid hb1); (have HN1 := Lib.hid hn1); clear hn1 hb1 hf1)
      | (go_at_call 41; (with_reducible refine (hcs0 _ _ (Ns.later HV.out HB1.out) HN1.out).mono ?_); rintro e w2 ⟨rfl, rfl⟩))
    try rw [Exit.noGoto_ret]
    go_ret2
    refine ⟨.slice none 0 0, by rw [HZ.out]; rfl, ?_, HB1.out⟩
    unfold aftR
    rw [HZ.out]
    exact Rows.nil _ _
  | true =>
    go_enter Try.func14, Try.ntmps14
    go_wp2
    go_step3
    go_wp2_with (first
      | (go_at_call 27; (with_reducible refine kb.mono ?_); rintro e w1 ⟨v1, rfl, hn1, hb1, hf1⟩; (have HB1 := Lib.hid hb1); (have HN1 := Lib.hid hn1); (have c2 := c2k _ hb1); clear hn1 hb1 hf1)
      | (go_at_call 41; (with_reducible refine (hcs0 _ _ (Ns.later HV.out HB1.out) HN1.out).mono ?_); rintro e w2 ⟨rfl, rfl⟩))
    go_step3
    go_wp2
    clear c2k hcs0
    have H0 := Lib.hid (show AfJ w w1 V S.L most 0 (.slice none 0 0) 0 from ⟨by rw [List.take_zero]; exact Rows.nil _ _, HB1.out, by rw [List.take_zero]; rfl, Nat.zero_le _, Nat.le_refl _⟩)
    go_loopw [8, 25] (fun o i wr => ∃ (k m : Nat) (af : Option Addr) (cf : Nat), k ≤ n ∧ o = .slice af m cf ∧ i = .int .i64 (k : Int) ∧ Hid (AfJ w wr V S.L most k (.slice af m cf) m)) (fun _ i _ => n - (intOf i).toNat)
    case atStart => exact ⟨0, 0, none, 0, by omega, rfl, rfl, H0⟩
    case round =>
      obtain ⟨k, m, af, cf, hk, rfl, rfl, HJ⟩ := hrel
      clear H0
      by_cases hlt : k < n
      · have hlt2 : (k : Int) < (n : Int) := by omega
        have hkz : k < zs.length := by rw [HN.out]; exact hlt
        have hkL : k < S.L.length := by rw [← HLN.out]; exact hlt
        obtain ⟨g, off, rfl, -, -, hgl, hcs⟩ := ORow.cell HO.out.row (by omega)
        have hr9 := R9.later (hcs k hkz) HJ.out.bel
        obtain ⟨z, hz⟩ : ∃ z, zs[k] = z := ⟨_, rfl⟩
        have hzr : z.r = S.L[k] := by rw [← hz]; exact HO.out.get hkz hkL
        have hzn : Ns wr z.dv z.r.d := Ns.later (by rw [← hz]; exact HO.out.deps _ (List.getElem_mem hkz)) HJ.out.bel
        have hokb := HO.out.good.ok z.r (by rw [hzr]; exact List.getElem_mem hkL)
        have hok := Rec.ok_parts hokb
        have hname := Rec.ok_name hokb
        have hdl := Rec.ok_deps hokb
        rw [hz] at hr9
        have HZR := Lib.hid hzr
        obtain ⟨⟨zk, zss, zt, zv, ztier, ⟨zc, zst, zq⟩, zd⟩, za, zcc⟩ := z
        unfold Rd.dv at hzn
        dsimp only at *
        have hal := (Below.refl wr.heap.size wr).alloc (Nat.le_refl _) (.cells #[.int .i64 zk, .string zss, .int .i64 zt, .int .i64 zv, .int .i64 ztier, .int .i64 zc, .int .i64 zst, .int .i64 zq, .slice za zd.length zcc] 33)
        have HAL := Lib.hid hal
        have hbox := Lib.hid (R9.new wr ⟨⟨zk, zss, zt, zv, ztier, ⟨zc, zst, zq⟩, zd⟩, za, zcc⟩)
        have HZN := Lib.hid (Ns.later hzn hal)
        have kb := beyond_is (.slice av V.length cv) V ⟨zk, zss, zt, zv, ztier, ⟨zc, zst, zq⟩, zd⟩ (.slice za zd.length zcc) _ (Ns.later (Ns.later HV.out HJ.out.bel) hal) (by dsimp only; omega)
        unfold recV at kb
        dsimp only at kb
        have ko := fun (W : World) (hW : Below (wr.alloc (box9 ⟨⟨zk, zss, zt, zv, ztier, ⟨zc, zst, zq⟩, zd⟩, za, zcc⟩)).heap.size (wr.alloc (box9 ⟨⟨zk, zss, zt, zv, ztier, ⟨zc, zst, zq⟩, zd⟩, za, zcc⟩)) W) => own_lit zk zt zv ztier zc zst zq zss zd za zcc W (Ns.later HZN.out hW) (by omega) (by omega)
        have HKO := Lib.hid ko
        have hst := aftL_step V S.L k hkL
        rw [← hzr] at hst
        have HST := Lib.hid hst
        obtain ⟨x0, x1, x2, x3, x4, x5, x6, x7, x8⟩ := hr9
        dsimp only at *
        by_cases hge : most ≤ (m : Int)
        · have HGE := Lib.hid hge
          clear hcs hz hzr hok hokb hname hdl hal hgl ko kb hst hzn
          go_wp2
          try go_step3
          try rw [Exit.noGoto_ret]
          go_ret2
          refine ⟨_, by rw [HZ.out]; rfl, ?_, bel_next HJ.out.bel HAL.out⟩
          unfold aftR
          rw [HZ.out]
          have e := someL_full (v := V) (l := S.L) (most := most) (k := k) (by omega) (by rw [HJ.out.len]; exact HJ.out.up) (by rw [HJ.out.len]; exact HGE.out)
          show Rows _ _ _ (someL V S.L most)
          rw [e]
          exact HJ.out.row.later HAL.out
        · by_cases hby : beyB V ⟨zk, zss, zt, zv, ztier, ⟨zc, zst, zq⟩, zd⟩ = true
          · rw [hby] at kb
            have HT := Lib.hid (show aftL V (S.L.take (k + 1)) = aftL V (S.L.take k) ++ [⟨zk, zss, zt, zv, ztier, ⟨zc, zst, zq⟩, zd⟩] from hst.trans (if_pos hby))
            have HM := Lib.hid (show m + 1 ≤ most.toNat by omega)
            clear hcs hz hzr hok hokb hname hdl hal hgl ko hby hst hzn
            go_wp2_with (first
              | (go_at_call 39; (with_reducible refine kb.mono ?_); rintro e w3 ⟨rfl, hb3⟩; (have HB3 := Lib.hid hb3); (obtain ⟨y0, y1, y2, y3, y4, y5, y6, y7, y8⟩ := hbox.out.later hb3); dsimp only at y0 y1 y2 y3 y4 y5 y6 y7 y8; clear hb3)
              | (go_at_call 42; (with_reducible refine (HKO.out _ HB3.out).mono ?_); rintro e w4 ⟨a2, c2', rfl, hn4, hb4, hf4⟩
                 have HB4 := Lib.hid (bel_next (bel_next HAL.out HB3.out) hb4)
                 obtain ⟨a5, c5, w5, hrun, hrow, hb5, -⟩ := Rows.app (w := w4) (x := ⟨⟨zk, zss, zt, zv, ztier, ⟨zc, zst, zq⟩, zd⟩, a2, c2'⟩) (Lib.hid HJ.out.len) (HJ.out.row.later HB4.out) hn4 (fun q hq => by
                   have := hf4 q hq
                   have h5 := HAL.out.size
                   have h6 := HJ.out.bel.size
                   have h7 := HB3.out.size
                   exact ⟨by omega, this.2, fun e => by have := (HJ.out.row.lt e).2; omega⟩) (by have := HJ.out.lk; omega) (by have := HB4.out.size; have := HJ.out.bel.size; omega)
                 have HR5 := Lib.hid (show AfJ w w5 V S.L most (k + 1) (.slice a5 (m + 1) c5) (m + 1) from ⟨by rw [HT.out]; exact hrow, (HJ.out.bel.trans (HB4.out.mono HJ.out.bel.size)).trans hb5, by rw [HT.out, List.length_append, HJ.out.len]; rfl, HM.out, by have := HJ.out.lk; omega⟩)
                 clear hn4 hb4 hf4 hrow hb5)
              | (at_builtin; refine Lib.wpList_append_run _ rfl _ _ _ _ rfl _ _ rfl rfl _ _ hrun ?_))
            go_roundw
            case rel => exact ⟨k + 1, m + 1, a5, c5, by omega, rfl, by go_num, HR5⟩
            case measure => simp [intOf]; omega
          · have hby : beyB V ⟨zk, zss, zt, zv, ztier, ⟨zc, zst, zq⟩, zd⟩ = false := by simpa using hby
            rw [hby] at kb
            have HT := Lib.hid (show aftL V (S.L.take (k + 1)) = aftL V (S.L.take k) from hst.trans (if_neg (by rw [hby]; decide)))
            clear hcs hz hzr hok hokb hname hdl hal hgl ko hby hst hzn
            go_wp2_with (go_at_call 39; (with_reducible refine kb.mono ?_); rintro e w3 ⟨rfl, hb3⟩; (have HB3 := Lib.hid (bel_next HAL.out hb3)); clear hb3)
            go_roundw
            case rel => exact ⟨k + 1, m, af, cf, by omega, rfl, by go_num, Lib.hid ⟨by rw [HT.out]; exact HJ.out.row.later HB3.out, bel_next HJ.out.bel HB3.out, by rw [HT.out]; exact HJ.out.len, HJ.out.up, by have := HJ.out.lk; omega⟩⟩
            case measure => simp [intOf]; omega
      · obtain rfl : k = n := by omega
        have hlt2 : ¬ (k : Int) < (k : Int) := by omega
        have hT : S.L.take k = S.L := List.take_of_length_le (by rw [HLN.out]; exact Nat.le_refl _)
        have hR := HJ.out.row
        have hL := HJ.out.len
        rw [hT] at hR hL
        have HE := Lib.hid (show Rows wr w.heap.size (.slice af m cf) (someL V S.L most) by rw [someL_end (by rw [hL]; exact HJ.out.up)]; exact hR)
        clear hlt hT hR hL
        go_wp2
        try rw [Exit.noGoto_ret]
        go_ret2
        refine ⟨_, by rw [HZ.out]; rfl, ?_, HJ.out.bel⟩
        unfold aftR
        rw [HZ.out]
        exact HE.out
end Go.Proofs.Ythbajlfkgbfkgaa.Og
