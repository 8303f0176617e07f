/- CausalOrder. -/
import Derived.Test.YthifmfgnblecbaaCbLogged
import Derived.Test.YthifmfgnblecbaaCbOrderMath
import Derived.Test.YthifmfgnblecbaaCbAwake
import Derived.Deep.CutRange
import Derived.Deep.CutBlock
import Derived.Deep.LoopGhost
set_option maxRecDepth 200000
set_option linter.unusedSimpArgs false
set_option linter.unusedVariables false
namespace Go.Proofs.Ythifmfgnblecbaa.Og.Cb
open Go.RowKit Go.Maps Go.Proofs.Ythifmfgnblecbaa.Vi Go.Proofs.Ythifmfgnblecbaa.Mk

namespace causalOrder
def rowH (v : Value) (q : Nat) : Prop := v.ownBlock = some q
theorem kops_later {w w' : World} {a : Option Addr} {len cap : Nat} (h : ArgKOps w a len cap) (k : Below w.heap.size w w') : ArgKOps w' a len cap := by
  obtain ⟨l, h1, h2, h3, h4⟩ := h.has
  refine ⟨l, h1, h2.imp id fun ⟨b, off, e, hb, hc⟩ => ⟨b, off, e, Nat.lt_of_lt_of_le hb k.size, fun j hj => (hc j hj).below k hb⟩, h3, fun r hr => ⟨(h4 r hr).k, (h4 r hr).rc, args_later (h4 r hr).d k⟩⟩
theorem sameL_self9 (l : List Int) : sameL l l = true := by unfold sameL; simp
/-- What the law's loops have: the buffer, what is out as a vector and as a number, which records have been seen. -/
structure InJ (w2 wr : World) (b : Nat) (l : List Rec) (S : CS) (P : Rec → Prop) (v : Value) (cnt : Nat) : Prop where
  bx : Bx (rowH v) w2 wr b S
  ns : Ns wr v S.out
  inv : OInv l S
  cnt : (outL S.out l).length = cnt
  seen : ∀ r, P r → Seen S r
theorem InJ.later {w2 wr wt : World} {b : Nat} {l : List Rec} {S : CS} {P : Rec → Prop} {v : Value} {cnt : Nat} (h : InJ w2 wr b l S P v cnt) (k : Below wr.heap.size wr wt) : InJ w2 wt b l S P v cnt :=
  ⟨h.bx.later k, Ns.later h.ns k, h.inv, h.cnt, h.seen⟩
theorem InJ.stay {w2 wr wt : World} {b : Nat} {l : List Rec} {S : CS} {P : Rec → Prop} {v : Value} {cnt : Nat} (h : InJ w2 wr b l S P v cnt) (hb : Bx (rowH v) w2 wt b S) (k : Keep (rowH v) wr wt) : InJ w2 wt b l S P v cnt :=
  ⟨hb, Ns.off h.ns k.1 (fun _ q hq _ => k.2 q hq), h.inv, h.cnt, h.seen⟩
theorem InJ.next {w2 wr wN w7 wW : World} {b : Nat} {l : List Rec} {S : CS} {P : Rec → Prop} {v v' : Value} {cnt : Nat} {r : Rec} (h : InJ w2 wr b l S P v cnt) (hP : ∀ r, P r → r ∈ l) (hn : nextR S = some r) (hb : Bx (rowH v) w2 wN b (nextS S)) (h7 : Below wN.heap.size wN w7) (hW : Below w7.heap.size w7 wW) (hv : Ns wW v' (withL S.out r.st.s r.st.q)) (hf : ∀ q, v'.ownBlock = some q → w7.heap.size ≤ q ∧ q < wW.heap.size) : InJ w2 wW b l (nextS S) P v' (cnt + 1) := by
  obtain ⟨g1, g2, g3, g4, g5⟩ := h.inv.next hn
  refine ⟨((hb.later h7).hold hW).less (fun q hq => Or.inr (hf q hq)), by rw [g3]; exact hv, g1, by rw [g2, h.cnt], fun x hx => g5 x (hP x hx) (h.seen x hx)⟩
set_option maxHeartbeats 64000000 in
theorem walk (a : Option Addr) (len cap : Nat) (a1 : Option Addr) (len1 cap1 : Nat) (w : World) (hA : ArgKOps w a len cap) (hI : ArgInts w a1 len1 cap1) : Calls Try.prog 4 #[.slice a len cap, .slice a1 len1 cap1] w fun e w' => e = .returned (.bool true) ∧ Below w.heap.size w w' := by
  obtain ⟨l1, hl1⟩ := argNs_of hI
  obtain ⟨a1', c1', e1⟩ := hl1.ns.slice
  injection e1 with e1 e2 e3
  subst e1 e2 e3
  have HL1 := Lib.hid hl1
  have ka := awake_is w
  have klg := fun (W : World) (hb : Below w.heap.size w W) => logged_is a len cap W (kops_later hA hb)
  have knw := fun W => new_is 400 (.slice none 0 0) [] W ((Nums.nil W none 0).mono (Nat.zero_le _) (Nat.le_refl _))
  obtain ⟨t, ht⟩ : ∃ t, min l1.length 200 = t := ⟨_, rfl⟩
  have HT := Lib.hid ht
  have hsz := hl1.ns.size
  clear hl1 hI hA ht
  go_enter Try.func4, Try.ntmps4
  go_upto_region 3 with (first
    | (go_at_call 8; (with_reducible refine ka.mono ?_); rintro e w1 ⟨rfl, hb1⟩; (have HB1 := Lib.hid hb1); clear hb1)
    | (go_at_call 25; (with_reducible refine (klg _ HB1.out).mono ?_); rintro e w2 ⟨v2, zs, rfl, hrow, hdep, hch, hle, hfz, hb2⟩; (obtain ⟨al, cl, rfl⟩ := hrow.slice); (have HROW := Lib.hid hrow); (have HDEP := Lib.hid hdep); (have HFZ := Lib.hid hfz); (have HB2 := Lib.hid (bel_next HB1.out hb2)); clear hrow hdep hfz hb2))
  obtain ⟨l, hl⟩ : ∃ l, zs.map Rd.r = l := ⟨_, rfl⟩
  obtain ⟨n, hn⟩ : ∃ n, zs.length = n := ⟨_, rfl⟩
  rw [hn] at HROW hle ⊢
  rw [hl] at hch
  have HL := Lib.hid (show l.length = n by rw [← hl, List.length_map]; exact hn)
  have HLE := Lib.hid hl
  have HZL := Lib.hid hn
  have HCH := Lib.hid hch
  have HNB := Lib.hid (show n ≤ 40 ∧ t ≤ 200 from ⟨hle, by have h1 := HT.out; omega⟩)
  clear klg hl hn hch hle
  go_upto_region 8 with (go_at_call 9; (with_reducible refine (knw _).mono ?_); rintro e w3 ⟨b, rfl, -, hL3, hb3⟩; (have HJ0 := Lib.hid (show InJ w2 w3 b l (newC 400 []) (fun _ => False) (.slice none 0 0) 0 from ⟨⟨_, hL3 w2.heap.size (Nat.le_refl _), fun g hg e => (by cases e), hb3, fun g e => (by cases e)⟩, (Nums.nil w3 none 0).mono (Nat.zero_le _) (Nat.le_refl _), OInv.new HCH.out (by have h1 := HL.out; have h2 := HNB.out; omega), OInv.start HCH.out, fun r h => h.elim⟩)); clear hL3 hb3)
  go_upto_if 26 with fail
  go_cut [10] from 25 (fun v wx => v = .int .i64 (t : Int) ∧ w3 = wx)
  case first =>
    have h1 := HT.out
    by_cases h2 : 200 < l1.length
    · have h3 : (200 : Int) < ((l1.length : Nat) : Int) := by omega
      go_wp2_with fail
      go_meet
      exact ⟨by rw [show t = 200 by omega]; rfl, rfl⟩
    · have h3 : ¬ (200 : Int) < ((l1.length : Nat) : Int) := by omega
      go_wp2_with fail
      go_meet
      exact ⟨by rw [show t = l1.length by omega], rfl⟩
  case rest =>
  obtain ⟨rfl, rfl⟩ := hcut
  go_wp2
  go_loopw [8, 9, 11] (fun v8 v9 v11 wr => ∃ (i : Nat) (S : CS) (a8 : Option Addr) (q8 c8 : Nat) (cnt : Nat), i ≤ t + n ∧ v8 = .slice a8 q8 c8 ∧ v9 = .int .i64 (cnt : Int) ∧ v11 = .int .i64 (i : Int) ∧ Hid (InJ w2 wr b l S (fun _ => False) (.slice a8 q8 c8) cnt ∧ nextR S = none ∧ ∀ j (hj : j < l.length), t + (l.length - 1 - j) < i → Seen S l[j])) (fun _ _ v11 _ => t + n - (intOf v11).toNat)
  case atStart => exact ⟨0, _, none, 0, 0, 0, by omega, rfl, rfl, rfl, Lib.hid (And.intro HJ0.out (And.intro new_none (fun j hj h => by omega)))⟩
  case round =>
    obtain ⟨i, S, a8, q8, c8, cnt, hi, rfl, rfl, rfl, HJ⟩ := hrel
    clear HJ0
    obtain ⟨w9, hw9⟩ : ∃ x, x = wr := ⟨_, rfl⟩
    subst hw9
    have hwt : IntKind.i64.wrap ((t : Int) + (n : Int)) = (t : Int) + (n : Int) := by rw [IntKind.wrap_i64]; have h1 := HNB.out; omega
    have hwi : IntKind.i64.wrap ((i : Int) + 1) = (i : Int) + 1 := by rw [IntKind.wrap_i64]; have h1 := HNB.out; omega
    have hbi : (i : Int) + 1 ≤ 241 := by have h1 := HNB.out; omega
    by_cases hlt : i < t + n
    · have hx1 : (i : Int) < (t : Int) + (n : Int) := by omega
      by_cases hn0 : n = 0
      · have hx2 : ((n : Int) == 0) = true := by simp [hn0]
        have HEND : cnt = n ∧ S.L = [] := by
          have h1 := HJ.out.1.inv.empty (List.eq_nil_of_length_eq_zero (by rw [HL.out]; exact hn0))
          have h2 := HJ.out.1.cnt
          exact ⟨by omega, h1.1⟩
        clear hn0
        obtain ⟨hc9, hl9⟩ := HEND
        have hc8 : cnt = n := hc9
        subst hc8
        obtain ⟨mv, hrb⟩ := HJ.out.1.bx.rb
        have kl := len_is hrb
        have kk := lacks_is hrb
        rw [hl9] at kl
        have hlk := lack_nil hl9
        have HBW := Lib.hid HJ.out.1.bx.bel
        have HLK := Lib.hid hlk
        have e1 : ((cnt : Int) == (cnt : Int)) = true := by simp
        clear hrb hl9 hlk hc9
        dsimp only [List.length_nil] at kl
        go_wp2_with (first
          | (go_at_call 24; (with_reducible refine kl.mono ?_); rintro e wl ⟨rfl, rfl⟩)
          | (go_at_call 22; (with_reducible refine kk.mono ?_); rintro e wk ⟨vk, rfl, hnk, hbk⟩; (rw [HLK.out] at hnk); (obtain ⟨ak, ck, rfl⟩ := hnk.slice); (dsimp only [List.length_nil]); (have HBK := Lib.hid hbk); clear hnk hbk))
        go_ret
        exact ⟨rfl, HB2.out.trans ((bel_next HBW.out HBK.out).mono HB2.out.size)⟩
      · have hx2 : ((n : Int) == 0) = false := by simpa using hn0
        have hx3 : ¬ (n : Int) = 0 := by omega
        have hwa : IntKind.i64.wrap ((n : Int) - 1) = (n : Int) - 1 := by rw [IntKind.wrap_i64]; have h1 := HNB.out; omega
        have hwb : IntKind.i64.wrap ((i : Int) - (t : Int)) = (i : Int) - (t : Int) := by rw [IntKind.wrap_i64]; have h1 := HNB.out; omega
        have hwc : IntKind.i64.wrap ((n : Int) - 1 - ((i : Int) - (t : Int))) = (n : Int) - 1 - ((i : Int) - (t : Int)) := by rw [IntKind.wrap_i64]; have h1 := HNB.out; omega
        go_upto_if 47 with fail
        go_cut [12] from 45 to 111 (fun v wx => (∃ kk : Nat, v = .int .i64 (kk : Int) ∧ kk < n ∧ (t ≤ i → kk = n - 1 - (i - t))) ∧ w9 = wx)
        case first =>
          by_cases hit : i < t
          · have hx4 : (i : Int) < (t : Int) := by omega
            have hil : i < l1.length := by have h1 := HT.out; omega
            obtain ⟨x, hx⟩ : ∃ x, l1[i] = x := ⟨_, rfl⟩
            have hxw : -9223372036854775808 ≤ x ∧ x ≤ 9223372036854775807 := by rw [← hx]; exact HL1.out.ns.wide _ (List.getElem_mem hil)
            obtain ⟨-, g1, off1, rfl, hc1⟩ := Nums.cell HL1.out.ns (by omega)
            have c1 : w9.cell? ⟨g1, off1 + i, none⟩ = some (.int .i64 x) := by
              have h1 := hc1 i hil
              rw [hx] at h1
              exact ((HB2.out.trans (HJ.out.1.bx.bel.mono HB2.out.size)).cell (p := ⟨g1, off1 + i, none⟩) (cell_lt h1)).trans h1
            have hiI : (i : Int) < ((l1.length : Nat) : Int) := by omega
            have hin0 : ¬ (i : Int) < 0 := by omega
            clear hc1 hx
            by_cases hneg : x < 0
            · have hw1 : IntKind.i64.wrap (x + 1) = x + 1 := by rw [IntKind.wrap_i64]; omega
              have hw2 : IntKind.i64.wrap (-(x + 1)) = -(x + 1) := by rw [IntKind.wrap_i64]; omega
              have hr1 := Int.tmod_lt_of_pos (-(x + 1)) (show (0 : Int) < (n : Int) by omega)
              have hr2 := Int.tmod_nonneg (n : Int) (show 0 ≤ -(x + 1) by omega)
              obtain ⟨kk, hkk⟩ := Int.eq_ofNat_of_zero_le hr2
              have hkk2 : (-(x + 1)).tmod (n : Int) = (kk : Int) := hkk
              go_wp2_with fail
              go_meet
              exact ⟨⟨kk, by simp [hkk2], by omega, fun h => by omega⟩, rfl⟩
            · have hr1 := Int.tmod_lt_of_pos x (show (0 : Int) < (n : Int) by omega)
              have hr2 := Int.tmod_nonneg (n : Int) (show 0 ≤ x by omega)
              obtain ⟨kk, hkk⟩ := Int.eq_ofNat_of_zero_le hr2
              have hkk2 : x.tmod (n : Int) = (kk : Int) := hkk
              go_wp2_with fail
              go_meet
              exact ⟨⟨kk, by simp [hkk2], by omega, fun h => by omega⟩, rfl⟩
          · have hx4 : ¬ (i : Int) < (t : Int) := by omega
            go_wp2_with fail
            go_meet
            exact ⟨⟨n - 1 - (i - t), by congr 1; omega, by omega, fun _ => rfl⟩, rfl⟩
        case rest =>
        obtain ⟨⟨kk, rfl, hkn, hkt⟩, rfl⟩ := hcut
        have hkz : kk < zs.length := by rw [HZL.out]; exact hkn
        have hkI : (kk : Int) < (n : Int) := by omega
        obtain ⟨g2, off2, hal2, -, -, hgl2, hcs2⟩ := HROW.out.cell (by omega)
        subst hal2
        have hr9 := R9.later (hcs2 kk hkz) HJ.out.1.bx.bel
        obtain ⟨z, hz⟩ : ∃ z, zs[kk] = z := ⟨_, rfl⟩
        rw [hz] at hr9
        have hzm : z ∈ zs := by rw [← hz]; exact List.getElem_mem hkz
        have hzl : z.r ∈ l := by rw [← HLE.out]; exact List.mem_map_of_mem hzm
        have hzs : ∀ j (hj : j < l.length), j = kk → l[j] = z.r := fun j hj e => by
          subst e
          have : (zs.map Rd.r)[j]'(by rw [List.length_map]; exact hkz) = l[j] := by simp only [HLE.out]
          rw [← this, List.getElem_map, hz]
        have koff := HJ.out.1.bx.Offer z (Ns.later (HDEP.out z hzm) HJ.out.1.bx.bel) (HFZ.out z hzm) (by have h1 := Rec.ok_deps (chain_ok HCH.out z.r hzl); omega)
        have hinv := HJ.out.1.inv.off hzl
        -- the records that must have been seen behind this round
        obtain ⟨P, hP⟩ : ∃ P : Rec → Prop, P = fun r => ∃ j, ∃ (hj : j < l.length), l[j] = r ∧ t + (l.length - 1 - j) < i + 1 := ⟨_, rfl⟩
        have HPL := Lib.hid (show ∀ r, P r → r ∈ l from fun r hr => by rw [hP] at hr; obtain ⟨j, hj, rfl, -⟩ := hr; exact List.getElem_mem hj)
        have HPE := Lib.hid (show ∀ SA, (∀ r, P r → Seen SA r) → ∀ j (hj : j < l.length), t + (l.length - 1 - j) < i + 1 → Seen SA l[j] from fun SA h j hj hlt => h _ (by rw [hP]; exact ⟨j, hj, rfl, hlt⟩))
        have hps : ∀ r, P r → Seen (offS S z.r) r := fun r hr => by
          rw [hP] at hr
          obtain ⟨j, hj, rfl, hlt2⟩ := hr
          by_cases e : j = kk
          · rw [hzs j hj e]; exact hinv.2.1
          · refine hinv.2.2.2 _ (HJ.out.2.2 j hj ?_)
            by_cases c : t ≤ i
            · have h1 := hkt c
              have h2 := HL.out
              omega
            · omega
        have HIN1 := Lib.hid (show ∀ w', Bx (rowH (.slice a8 q8 c8)) w2 w' b (offS S z.r) → Keep (rowH (.slice a8 q8 c8)) w9 w' → InJ w2 w' b l (offS S z.r) P (.slice a8 q8 c8) cnt from fun w' hb hk => ⟨hb, by rw [hinv.2.2.1]; exact Ns.off HJ.out.1.ns hk.1 (fun _ q hq _ => hk.2 q hq), hinv.1, by rw [hinv.2.2.1]; exact HJ.out.1.cnt, hps⟩)
        obtain ⟨⟨zk, zss, zt, zv, ztier, ⟨zc, zst, zq⟩, zd⟩, za, zcc⟩ := z
        unfold recV Rd.dv at koff
        dsimp only at koff HIN1 hr9
        obtain ⟨x0, x1, x2, x3, x4, x5, x6, x7, x8⟩ := hr9
        dsimp only at x0 x1 x2 x3 x4 x5 x6 x7 x8
        obtain ⟨S1, hS1⟩ : ∃ s, offS S (⟨zk, zss, zt, zv, ztier, ⟨zc, zst, zq⟩, zd⟩ : Rec) = s := ⟨_, rfl⟩
        rw [hS1] at koff HIN1
        clear hinv hps hcs2 hz hzm hzl hzs hP hS1 hkt
        go_wp2_with (go_at_call 16; (with_reducible refine koff.mono ?_); rintro e wE ⟨rfl, hbE, hkE⟩; (have HIN0 := Lib.hid (HIN1.out wE hbE hkE)); clear hbE hkE)
        clear x0 x1 x2 x3 x4 x5 x6 x7 x8 koff
        go_loopg [8, 9] S1.L.length (fun gk9 v8 v9 wr => ∃ (SA : CS) (aA : Option Addr) (qA cA : Nat) (cnt2 : Nat), SA.L.length = gk9 ∧ v8 = .slice aA qA cA ∧ v9 = .int .i64 (cnt2 : Int) ∧ Hid (InJ w2 wr b l SA P (.slice aA qA cA) cnt2))
        case atStart => exact ⟨S1, a8, q8, c8, cnt, rfl, rfl, rfl, HIN0⟩
        case round =>
          obtain ⟨SA, aA, qA, cA, cnt2, hg, rfl, rfl, HIN⟩ := hrel
          clear HIN0
          obtain ⟨wi, hwi⟩ : ∃ x, x = wr := ⟨_, rfl⟩
          subst hwi
          cases hnx : nextR SA with
          | none =>
            have kn := HIN.out.bx.next_none hnx
            unfold recV Rec.zero at kn
            dsimp only at kn
            have HQU := Lib.hid hnx
            clear hnx
            go_upto_region 31 with (go_at_call 12; (with_reducible refine kn.mono ?_); rintro e wN ⟨az, kz, rfl, hbN, hkN⟩; (have HBN := Lib.hid hbN); (have HKN := Lib.hid hkN); clear hbN hkN)
            have halz := (Below.refl wN.heap.size wN).alloc (Nat.le_refl _) (.cells #[.int .i64 0, .string ⟨#[]⟩, .int .i64 0, .int .i64 0, .int .i64 0, .int .i64 0, .int .i64 0, .int .i64 0, .slice az 0 kz] 33)
            have HEN := Lib.hid (show InJ w2 (wN.alloc (.cells #[.int .i64 0, .string ⟨#[]⟩, .int .i64 0, .int .i64 0, .int .i64 0, .int .i64 0, .int .i64 0, .int .i64 0, .slice az 0 kz] 33)) b l SA P (.slice aA qA cA) cnt2 from (HIN.out.stay HBN.out HKN.out).later halz)
            obtain ⟨wt, hwt⟩ : ∃ x, wN.alloc (.cells #[.int .i64 0, .string ⟨#[]⟩, .int .i64 0, .int .i64 0, .int .i64 0, .int .i64 0, .int .i64 0, .int .i64 0, .slice az 0 kz] 33) = x := ⟨_, rfl⟩
            rw [hwt] at HEN ⊢
            clear hwt halz kn
            obtain ⟨mv, hrb⟩ := HEN.out.bx.rb
            have kou := out_is hrb
            clear hrb
            go_wp2_with (first
              | (go_at_call 19; (with_reducible refine kou.mono ?_); rintro e wo ⟨vo, rfl, hno, hbo, -⟩; (obtain ⟨ao, co, rfl⟩ := hno.slice); (have HKC := Lib.hid (rsameN _ _ _ _ _ (Ns.later HEN.out.ns hbo) hno)); (have HBO := Lib.hid hbo); clear hno hbo)
              | (go_at_call 18; (with_reducible refine (HKC.out).mono ?_); rw [sameL_self9]; rintro e wv ⟨rfl, hbv⟩; (have HBV := Lib.hid (bel_next HBO.out hbv)); clear hbv))
            have HFIN := Lib.hid (HEN.out.later HBV.out)
            go_roundw
            case rel => exact ⟨i + 1, SA, aA, qA, cA, cnt2, by omega, rfl, rfl, by go_num, Lib.hid (And.intro (⟨HFIN.out.bx, HFIN.out.ns, HFIN.out.inv, HFIN.out.cnt, fun r h => h.elim⟩ : InJ w2 wv b l SA (fun _ => False) (.slice aA qA cA) cnt2) (And.intro HQU.out (HPE.out SA HFIN.out.seen)))⟩
            case measure => simp [intOf]; omega
          | some r =>
            have hnp := nextR_some hnx
            have hrok := HIN.out.inv.good.ok r hnp.1
            have HGP := Lib.hid (Rec.ok_parts hrok)
            have HDQ := Lib.hid (dueB_iff.1 hnp.2)
            have kn := HIN.out.bx.next_some hnx
            obtain ⟨rkk, gs, gt, gv, gtier, ⟨gc, gst, gq⟩, gd⟩ := r
            unfold recV at kn
            dsimp only at kn HGP HDQ
            have HNXT := Lib.hid hnx
            obtain ⟨gg, rfl⟩ : ∃ z, gk = z + 1 := by
              cases gk with
              | zero =>
                have h1 : SA.L = [] := List.eq_nil_of_length_eq_zero (by omega)
                rw [h1] at hnp
                cases hnp.1
              | succ z => exact ⟨z, rfl⟩
            have HLN := Lib.hid (show (nextS SA).L.length = gg from by have h1 := (HIN.out.inv.next hnx).2.2.2.1; omega)
            clear hnx hnp hrok
            go_upto_region 23 with (go_at_call 12; (with_reducible refine kn.mono ?_); rintro e wN ⟨ga, gcc, rfl, hgn, hbN, hkN⟩; (have HGN := Lib.hid hgn); (have HBN := Lib.hid hbN); (have HKN := Lib.hid hkN); clear hgn hbN hkN)
            have halg := (Below.refl wN.heap.size wN).alloc (Nat.le_refl _) (.cells #[.int .i64 rkk, .string gs, .int .i64 gt, .int .i64 gv, .int .i64 gtier, .int .i64 gc, .int .i64 gst, .int .i64 gq, .slice ga gd.length gcc] 33)
            have hX9 : R9 (wN.alloc (.cells #[.int .i64 rkk, .string gs, .int .i64 gt, .int .i64 gv, .int .i64 gtier, .int .i64 gc, .int .i64 gst, .int .i64 gq, .slice ga gd.length gcc] 33)) wN.heap.size 0 (⟨⟨rkk, gs, gt, gv, gtier, ⟨gc, gst, gq⟩, gd⟩, ga, gcc⟩ : Rd) := R9.new wN (⟨⟨rkk, gs, gt, gv, gtier, ⟨gc, gst, gq⟩, gd⟩, ga, gcc⟩ : Rd)
            have HNV := Lib.hid (Ns.later (Ns.off HIN.out.ns HKN.out.1 (fun _ q hq _ => HKN.out.2 q hq)) halg)
            have HNX0 := Lib.hid halg
            have HXB := Lib.hid HBN.out
            have HGC := Lib.hid (Ns.later HGN.out halg)
            obtain ⟨p9, hp9⟩ : ∃ g, wN.heap.size = g := ⟨_, rfl⟩
            obtain ⟨w7, hw7⟩ : ∃ x, wN.alloc (.cells #[.int .i64 rkk, .string gs, .int .i64 gt, .int .i64 gv, .int .i64 gtier, .int .i64 gc, .int .i64 gst, .int .i64 gq, .slice ga gd.length gcc] 33) = x := ⟨_, rfl⟩
            rw [hw7] at hX9 HNV HNX0 HGC ⊢
            rw [hp9] at hX9 ⊢
            have HX9 := Lib.hid hX9
            obtain ⟨x0, x1, x2, x3, x4, x5, x6, x7, x8⟩ := hX9
            dsimp only [Nat.zero_add] at x0 x1 x2 x3 x4 x5 x6 x7 x8
            clear halg hw7 hp9 kn
            have kcv := rcovers_is _ _ SA.out gd w7 HNV.out HGC.out
            rw [HDQ.out.2] at kcv
            obtain ⟨y, hy⟩ : ∃ y, atL SA.out gst = y := ⟨_, rfl⟩
            have HY := Lib.hid hy
            have hyb := atL_bounds SA.out gst
            rw [hy] at hyb
            have hwy : IntKind.i64.wrap (y + 1) = y + 1 := by rw [IntKind.wrap_i64]; omega
            have hqy : (gq != y + 1) = false := by have h1 := HDQ.out.1; rw [HY.out] at h1; rw [h1]; simp
            clear hy hyb
            go_upto_region 25 with (go_at_call 26; (with_reducible refine kcv.mono ?_); rintro e wc ⟨rfl, hbc⟩; (have HBC := Lib.hid hbc); clear hbc)
            clear x0 x1 x2 x3 x4 x5 x6 x7 x8 kcv
            refine wp_region_held_drew (S := (fun X : World => Below w7.heap.size w7 X)) (by kernel_rfl) HBC.out.drew (fun hHeld => ?_)
            refine wpAnyH_take (i := 0) (oi := ?w1o) (v := ?w1v) ?w1h (by kernel_rfl) (by kernel_rfl) (by kernel_rfl) ?w1q ?w1y hHeld ?w1r
            case w1h => (simp only [List.getElem?_toArray, List.getElem?_cons_zero]; rfl)
            case w1q => exact fun _ _ _ h => h
            case w1y => (refine Or.inl ⟨by first | kernel_rfl | rfl, ?_⟩; intro w hSw; (try dsimp only at hSw); obtain ⟨x0, x1, x2, x3, x4, x5, x6, x7, x8⟩ := R9.later HX9.out hSw; dsimp only [Nat.zero_add] at x0 x1 x2 x3 x4 x5 x6 x7 x8; go_simp <;> (try with_reducible rfl))
            try simp only [Act.put, List.setIfInBounds_toArray, List.set_cons_zero, List.set_cons_succ]
            refine wpAnyH_take (i := 1) (oi := ?w2o) (v := ?w2v) ?w2h (by kernel_rfl) (by kernel_rfl) (by kernel_rfl) ?w2q ?w2y hHeld ?w2r
            case w2h => (simp only [List.getElem?_toArray, List.getElem?_cons_succ, List.getElem?_cons_zero]; rfl)
            case w2q => exact fun _ _ _ h => h
            case w2y => (refine Or.inl ⟨by first | kernel_rfl | rfl, ?_⟩; intro w hSw; (try dsimp only at hSw); obtain ⟨x0, x1, x2, x3, x4, x5, x6, x7, x8⟩ := R9.later HX9.out hSw; dsimp only [Nat.zero_add] at x0 x1 x2 x3 x4 x5 x6 x7 x8; go_simp <;> (try with_reducible rfl))
            try simp only [Act.put, List.setIfInBounds_toArray, List.set_cons_zero, List.set_cons_succ]
            refine wpAnyH_take (i := 2) (oi := ?w3o) (v := ?w3v) ?w3h (by kernel_rfl) (by kernel_rfl) (by kernel_rfl) ?w3q ?w3y hHeld ?w3r
            case w3h => (simp only [List.getElem?_toArray, List.getElem?_cons_succ, List.getElem?_cons_zero]; rfl)
            case w3q => exact fun _ _ _ h => h
            case w3y => (refine Or.inl ⟨by first | kernel_rfl | rfl, ?_⟩; intro w hSw; (try dsimp only at hSw); obtain ⟨x0, x1, x2, x3, x4, x5, x6, x7, x8⟩ := R9.later HX9.out hSw; dsimp only [Nat.zero_add] at x0 x1 x2 x3 x4 x5 x6 x7 x8; go_simp <;> (try with_reducible rfl))
            try simp only [Act.put, List.setIfInBounds_toArray, List.set_cons_zero, List.set_cons_succ]
            refine wpAnyH_take (i := 3) (oi := ?w4o) (v := ?w4v) ?w4h (by kernel_rfl) (by kernel_rfl) (by kernel_rfl) ?w4q ?w4y hHeld ?w4r
            case w4h => (simp only [List.getElem?_toArray, List.getElem?_cons_succ, List.getElem?_cons_zero]; rfl)
            case w4q => exact fun _ _ _ h => h
            case w4y => (refine Or.inl ⟨by first | kernel_rfl | rfl, ?_⟩; intro w hSw; (try dsimp only at hSw); obtain ⟨x0, x1, x2, x3, x4, x5, x6, x7, x8⟩ := R9.later HX9.out hSw; dsimp only [Nat.zero_add] at x0 x1 x2 x3 x4 x5 x6 x7 x8; go_simp <;> (try with_reducible rfl))
            try simp only [Act.put, List.setIfInBounds_toArray, List.set_cons_zero, List.set_cons_succ]
            refine wpAnyH_take (i := 4) (oi := ?w5o) (v := ?w5v) ?w5h (by kernel_rfl) (by kernel_rfl) (by kernel_rfl) ?w5q ?w5y hHeld ?w5r
            case w5h => (simp only [List.getElem?_toArray, List.getElem?_cons_succ, List.getElem?_cons_zero]; rfl)
            case w5q => exact fun _ _ _ h => h
            case w5y => (refine Or.inl ⟨by first | kernel_rfl | rfl, ?_⟩; intro w hSw; (try dsimp only at hSw); obtain ⟨x0, x1, x2, x3, x4, x5, x6, x7, x8⟩ := R9.later HX9.out hSw; dsimp only [Nat.zero_add] at x0 x1 x2 x3 x4 x5 x6 x7 x8; go_simp <;> (try with_reducible rfl))
            try simp only [Act.put, List.setIfInBounds_toArray, List.set_cons_zero, List.set_cons_succ]
            refine wpAnyH_take (i := 5) (oi := ?w6o) (v := ?w6v) ?w6h (by kernel_rfl) (by kernel_rfl) (by kernel_rfl) ?w6q ?w6y hHeld ?w6r
            case w6h => (simp only [List.getElem?_toArray, List.getElem?_cons_succ, List.getElem?_cons_zero]; rfl)
            case w6q => exact fun _ _ _ h => h
            case w6y => (refine Or.inl ⟨by first | kernel_rfl | rfl, ?_⟩; intro w hSw; (try dsimp only at hSw); obtain ⟨x0, x1, x2, x3, x4, x5, x6, x7, x8⟩ := R9.later HX9.out hSw; dsimp only [Nat.zero_add] at x0 x1 x2 x3 x4 x5 x6 x7 x8; go_simp <;> (try with_reducible rfl))
            try simp only [Act.put, List.setIfInBounds_toArray, List.set_cons_zero, List.set_cons_succ]
            refine wpAnyH_take (i := 6) (oi := ?w7o) (v := ?w7v) ?w7h (by kernel_rfl) (by kernel_rfl) (by kernel_rfl) ?w7q ?w7y hHeld ?w7r
            case w7h => (simp only [List.getElem?_toArray, List.getElem?_cons_succ, List.getElem?_cons_zero]; rfl)
            case w7q => exact fun _ _ _ h => h
            case w7y => (refine Or.inl ⟨by first | kernel_rfl | rfl, ?_⟩; intro w hSw; (try dsimp only at hSw); obtain ⟨x0, x1, x2, x3, x4, x5, x6, x7, x8⟩ := R9.later HX9.out hSw; dsimp only [Nat.zero_add] at x0 x1 x2 x3 x4 x5 x6 x7 x8; go_simp <;> (try with_reducible rfl))
            try simp only [Act.put, List.setIfInBounds_toArray, List.set_cons_zero, List.set_cons_succ]
            refine wpAnyH_take (i := 7) (oi := ?w8o) (v := ?w8v) ?w8h (by kernel_rfl) (by kernel_rfl) (by kernel_rfl) ?w8q ?w8y hHeld ?w8r
            case w8h => (simp only [List.getElem?_toArray, List.getElem?_cons_succ, List.getElem?_cons_zero]; rfl)
            case w8q => exact fun _ _ _ h => h
            case w8y => (refine Or.inl ⟨by first | kernel_rfl | rfl, ?_⟩; intro w hSw; (try dsimp only at hSw); obtain ⟨x0, x1, x2, x3, x4, x5, x6, x7, x8⟩ := R9.later HX9.out hSw; dsimp only [Nat.zero_add] at x0 x1 x2 x3 x4 x5 x6 x7 x8; go_simp <;> (try with_reducible rfl))
            try simp only [Act.put, List.setIfInBounds_toArray, List.set_cons_zero, List.set_cons_succ]
            refine wpAnyH_take (i := 8) (oi := ?w9o) (v := ?w9v) ?w9h (by kernel_rfl) (by kernel_rfl) (by kernel_rfl) ?w9q ?w9y hHeld ?w9r
            case w9h => (simp only [List.getElem?_toArray, List.getElem?_cons_succ, List.getElem?_cons_zero]; rfl)
            case w9q => exact fun _ _ _ h => h
            case w9y => (refine Or.inl ⟨by first | kernel_rfl | rfl, ?_⟩; intro w hSw; (try dsimp only at hSw); obtain ⟨x0, x1, x2, x3, x4, x5, x6, x7, x8⟩ := R9.later HX9.out hSw; dsimp only [Nat.zero_add] at x0 x1 x2 x3 x4 x5 x6 x7 x8; go_simp <;> (try with_reducible rfl))
            try simp only [Act.put, List.setIfInBounds_toArray, List.set_cons_zero, List.set_cons_succ]
            refine wpAnyH_take (i := 9) (oi := ?w10o) (v := ?w10v) ?w10h (by kernel_rfl) (by kernel_rfl) (by kernel_rfl) ?w10q ?w10y hHeld ?w10r
            case w10h => (simp only [List.getElem?_toArray, List.getElem?_cons_succ, List.getElem?_cons_zero]; rfl)
            case w10q => exact fun _ _ _ h => h
            case w10y => (refine Or.inl ⟨by first | kernel_rfl | rfl, ?_⟩; intro w hSw; (try dsimp only at hSw); obtain ⟨x0, x1, x2, x3, x4, x5, x6, x7, x8⟩ := R9.later HX9.out hSw; dsimp only [Nat.zero_add] at x0 x1 x2 x3 x4 x5 x6 x7 x8; go_simp <;> (try with_reducible rfl))
            try simp only [Act.put, List.setIfInBounds_toArray, List.set_cons_zero, List.set_cons_succ]
            refine wpAnyH_ready (rs := [10]) (by kernel_rfl) (by simp) ?_
            refine (AllReadyH.cons rfl (fun K hK => ?_) AllReadyH.nil)
            go_simp
            (go_at_call 27; (with_reducible refine (rat_is _ SA.out gst _ (Ns.later HNV.out hHeld)).mono ?_); rw [HY.out]; rintro e wA ⟨rfl, hbA⟩; (have HBA := Lib.hid (bel_next hHeld hbA)); clear hbA)
            refine hK.out _ _ (HBA.out) (fun hHeld => ?_)
            clear hK K
            try simp only [Act.put, List.setIfInBounds_toArray, List.set_cons_zero, List.set_cons_succ]
            refine wpAnyH_take (i := 11) (oi := ?w11o) (v := ?w11v) ?w11h (by kernel_rfl) (by kernel_rfl) (by kernel_rfl) ?w11q ?w11y hHeld ?w11r
            case w11h => (simp only [List.getElem?_toArray, List.getElem?_cons_succ, List.getElem?_cons_zero]; rfl)
            case w11q => exact fun _ _ _ h => h
            case w11y => (refine Or.inl ⟨by first | kernel_rfl | rfl, ?_⟩; intro w hSw; (try dsimp only at hSw); obtain ⟨x0, x1, x2, x3, x4, x5, x6, x7, x8⟩ := R9.later HX9.out hSw; dsimp only [Nat.zero_add] at x0 x1 x2 x3 x4 x5 x6 x7 x8; go_simp <;> (try with_reducible rfl))
            try simp only [Act.put, List.setIfInBounds_toArray, List.set_cons_zero, List.set_cons_succ]
            refine wpAnyH_take (i := 12) (oi := ?w12o) (v := ?w12v) ?w12h (by kernel_rfl) (by kernel_rfl) (by kernel_rfl) ?w12q ?w12y hHeld ?w12r
            case w12h => (simp only [List.getElem?_toArray, List.getElem?_cons_succ, List.getElem?_cons_zero]; rfl)
            case w12q => exact fun _ _ _ h => h
            case w12y => (refine Or.inl ⟨by first | kernel_rfl | rfl, ?_⟩; intro w hSw; (try dsimp only at hSw); obtain ⟨x0, x1, x2, x3, x4, x5, x6, x7, x8⟩ := R9.later HX9.out hSw; dsimp only [Nat.zero_add] at x0 x1 x2 x3 x4 x5 x6 x7 x8; go_simp <;> (try with_reducible rfl))
            try simp only [Act.put, List.setIfInBounds_toArray, List.set_cons_zero, List.set_cons_succ]
            refine wpAnyH_take (i := 13) (oi := ?w13o) (v := ?w13v) ?w13h (by kernel_rfl) (by kernel_rfl) (by kernel_rfl) ?w13q ?w13y hHeld ?w13r
            case w13h => (simp only [List.getElem?_toArray, List.getElem?_cons_succ, List.getElem?_cons_zero]; rfl)
            case w13q => exact fun _ _ _ h => h
            case w13y => (refine Or.inl ⟨by first | kernel_rfl | rfl, ?_⟩; intro w hSw; (try dsimp only at hSw); obtain ⟨x0, x1, x2, x3, x4, x5, x6, x7, x8⟩ := R9.later HX9.out hSw; dsimp only [Nat.zero_add] at x0 x1 x2 x3 x4 x5 x6 x7 x8; go_simp <;> (try with_reducible rfl))
            try simp only [Act.put, List.setIfInBounds_toArray, List.set_cons_zero, List.set_cons_succ]
            refine wpAnyH_done (by kernel_rfl) ?_ _

            have HB9 := HBA
            go_upto_region 27 with fail
            have kw := rwithF_is _ SA.out gst gq wA (Ns.later HNV.out HB9.out) (by have h1 := HGP.out; omega)
            obtain ⟨y0, y1, y2, y3, y4, y5, y6, y7, y8⟩ := R9.later HX9.out HB9.out
            dsimp only [Nat.zero_add] at y0 y1 y2 y3 y4 y5 y6 y7 y8
            go_upto_region 28 with (go_at_call 28; (with_reducible refine kw.mono ?_); rintro e wW ⟨vW, rfl, hnW, hbW, hfW⟩; (obtain ⟨aW, cW, rfl⟩ := hnW.slice); (have HNX := Lib.hid (InJ.next HIN.out HPL.out HNXT.out HXB.out HNX0.out (bel_next HB9.out hbW) hnW (fun q hq => ⟨by have h1 := (hfW q hq).1; have h2 := HB9.out.size; omega, (hfW q hq).2⟩))); clear hnW hbW hfW)
            have hcn : (cnt2 : Int) + 1 = ((cnt2 + 1 : Nat) : Int) := by push_cast; rfl
            have hcb : ¬ (n : Int) < (cnt2 : Int) + 1 := by have h1 := HNX.out.cnt; have h2 := outL_le (nextS SA).out l; have h3 := HL.out; omega
            have hcw : IntKind.i64.wrap ((cnt2 : Int) + 1) = (cnt2 : Int) + 1 := by rw [IntKind.wrap_i64]; have h1 := HIN.out.cnt; have h2 := outL_le SA.out l; have h3 := HNB.out; have h4 := HL.out; omega
            clear y0 y1 y2 y3 y4 y5 y6 y7 y8 hcn
            go_wp2
            go_roundg gg
            case measure => omega
            case rel => exact ⟨nextS SA, aW, _, cW, cnt2 + 1, by have h1 := HLN.out; omega, rfl, by go_num, HNX⟩
    · have hx1 : ¬ (i : Int) < (t : Int) + (n : Int) := by omega
      have HEND : cnt = n ∧ S.L = [] := by
        have h1 := HJ.out.1.inv.fin HJ.out.2.1 (fun r hr => by
          obtain ⟨j, hj, rfl⟩ := List.getElem_of_mem hr
          exact HJ.out.2.2 j hj (by have h2 := HL.out; omega))
        have h2 := HJ.out.1.cnt
        have h3 := HL.out
        exact ⟨by omega, h1.2⟩
      obtain ⟨hc9, hl9⟩ := HEND
      have hc8 : cnt = n := hc9
      subst hc8
      obtain ⟨mv, hrb⟩ := HJ.out.1.bx.rb
      have kl := len_is hrb
      have kk := lacks_is hrb
      rw [hl9] at kl
      have hlk := lack_nil hl9
      have HBW := Lib.hid HJ.out.1.bx.bel
      have HLK := Lib.hid hlk
      have e1 : ((cnt : Int) == (cnt : Int)) = true := by simp
      clear hrb hl9 hlk hc9
      dsimp only [List.length_nil] at kl
      go_wp2_with (first
        | (go_at_call 24; (with_reducible refine kl.mono ?_); rintro e wl ⟨rfl, rfl⟩)
        | (go_at_call 22; (with_reducible refine kk.mono ?_); rintro e wk ⟨vk, rfl, hnk, hbk⟩; (rw [HLK.out] at hnk); (obtain ⟨ak, ck, rfl⟩ := hnk.slice); (dsimp only [List.length_nil]); (have HBK := Lib.hid hbk); clear hnk hbk))
      go_ret
      exact ⟨rfl, HB2.out.trans ((bel_next HBW.out HBK.out).mono HB2.out.size)⟩
end causalOrder
end Go.Proofs.Ythifmfgnblecbaa.Og.Cb
