/- logged: records of the document's log. -/
import Derived.Test.YthifmfgnblecbaaCbLit
import Derived.Test.YthifmfgnblecbaaCbDoc
import Derived.Test.YthifmfgnblecbaaMarkC
import Derived.Deep.CutRange
set_option maxRecDepth 200000
set_option linter.unusedSimpArgs false
set_option linter.unusedVariables false
namespace Go.Proofs.Ythifmfgnblecbaa.Og.Cb
open Go.RowKit Go.Maps Go.Proofs.Ythifmfgnblecbaa.Vi Go.Proofs.Ythifmfgnblecbaa.Mk

structure LgJ (w wr : World) (b : Nat) (S : OS) : Prop where
  at_ : ∃ M F, LogD wr w.heap.size b S M F ∧ Below w.heap.size w wr
  base : S.base = []
  room : S.room = 400
  fits : ∀ r ∈ S.L, r.fits
theorem LgJ.bel {w wr : World} {b : Nat} {S : OS} (h : LgJ w wr b S) : Below w.heap.size w wr := by obtain ⟨M, F, -, h⟩ := h.at_; exact h
theorem LgJ.later {w wr wt : World} {b : Nat} {S : OS} (h : LgJ w wr b S) (k : Below wr.heap.size wr wt) : LgJ w wt b S := by
  obtain ⟨⟨M, F, h1, h2⟩, h3, h4, h5⟩ := h
  exact ⟨⟨M, F, h1.later k, bel_next h2 k⟩, h3, h4, h5⟩
theorem addS_base (S : OS) (r : Rec) : (addS S r).base = S.base ∧ (addS S r).room = S.room := by
  by_cases e : addE S r = 0
  · rw [addS_yes e]; exact ⟨rfl, rfl⟩
  · rw [addS_no e]; exact ⟨rfl, rfl⟩
theorem addS_len (S : OS) (r : Rec) : (addS S r).L.length ≤ S.L.length + 1 := by
  by_cases e : addE S r = 0
  · rw [addS_yes e]; simp
  · rw [addS_no e]; omega
theorem LgJ.added {w wr wq wt : World} {b : Nat} {S : OS} {x : Rd} {M F : Nat → Prop} (h : LgJ w wr b S) (hL : LogD wt w.heap.size b (addS S x.r) (grow M wq wt) (ownF F w.heap.size x wq wt)) (hb : Below w.heap.size w wt) (hf : x.r.fits) : LgJ w wt b (addS S x.r) :=
  ⟨⟨_, _, hL, hb⟩, (addS_base S x.r).1.trans h.base, (addS_base S x.r).2.trans h.room, fun r hr => by
    by_cases e : addE S x.r = 0
    · rw [addS_yes e] at hr
      rcases List.mem_append.1 hr with hr | hr
      · exact h.fits r hr
      · rw [List.mem_singleton] at hr; rw [hr]; exact hf
    · rw [addS_no e] at hr; exact h.fits r hr⟩
theorem FrF.set {a b : World} {p : Nat} (h : FrF (fun q => q = p) a b) (i : Nat) (v : Value) : FrF (fun q => q = p) a (b.setCell ⟨p, i, none⟩ v) := h.next (⟨rfl, rfl, rfl, by simp, fun q _ hn => World.heap_setCell_off _ _ _ _ _ hn⟩ : FrF (fun q => q = p) b (b.setCell ⟨p, i, none⟩ v)) fun _ _ e => e
theorem FrF.step {a b c : World} {G : Nat → Prop} (h : FrF G a b) (k : Below b.heap.size b c) : FrF G a c := h.next (FrF.of k : FrF G b c) fun _ _ e => e
theorem two_fr {wr wS wA : World} (h : Below wr.heap.size wr wS) (k : Below wS.heap.size wS wA) (u v : Value) : FrF (fun q => q = wS.heap.size) wr ((wA.setCell ⟨wS.heap.size, 7, none⟩ u).setCell ⟨wS.heap.size, 8, none⟩ v) :=
  (((FrF.of h : FrF (fun q => q = wS.heap.size) wr wS).next (FrF.of k : FrF (fun q => q = wS.heap.size) wS wA) fun _ _ e => e).next (⟨rfl, rfl, rfl, by simp, fun q _ hn => World.heap_setCell_off _ _ _ _ _ hn⟩ : FrF (fun q => q = wS.heap.size) wA (wA.setCell ⟨wS.heap.size, 7, none⟩ u)) fun _ _ e => e).next ⟨rfl, rfl, rfl, by simp, fun q _ hn => World.heap_setCell_off _ _ _ _ _ hn⟩ fun _ _ e => e
def LoggedDone (w : World) (e : Ending) (w' : World) : Prop := ∃ v zs, e = .returned v ∧ ORow w' w.heap.size v zs ∧ (∀ x ∈ zs, Ns w' x.dv x.r.d) ∧ chain [] (zs.map Rd.r) ∧ zs.length ≤ 40 ∧ (∀ x ∈ zs, x.r.fits) ∧ Below w.heap.size w w'
set_option maxHeartbeats 16000000 in
theorem logged_is (a : Option Addr) (len cap : Nat) (w : World) (hA : ArgKOps w a len cap) : Calls Try.prog 25 #[.slice a len cap] w (LoggedDone w) := by
  obtain ⟨ops, rfl, hat, hlen, hfit⟩ := hA.has
  have HFIT := Lib.hid hfit
  have HAT0 := Lib.hid hat
  obtain ⟨n, hn⟩ : ∃ n, ops.length = n := ⟨_, rfl⟩
  rw [hn] at hlen ⊢
  have HN := Lib.hid hn
  have kn := dnew_is 400 (.slice none 0 0) [] w ((Nums.nil w none 0).mono (Nat.zero_le _) (Nat.le_refl _))
  have HNS0 := Lib.hid (show newS 400 [] = ⟨400, [], [], 0⟩ from rfl)
  clear hfit hat hA hn
  go_enter Try.func25, Try.ntmps25
  go_wp2_with (go_at_call 43; (with_reducible refine kn.mono ?_); rintro e w2 ⟨b, rfl, -, hL2, hb2⟩; (have HJ0 := Lib.hid (show LgJ w w2 b (newS 400 []) from ⟨⟨_, _, hL2 w.heap.size (Nat.le_refl _), hb2⟩, by rw [HNS0.out], by rw [HNS0.out], fun r hr => (by rw [HNS0.out] at hr; cases hr)⟩)); clear hL2 hb2)
  go_loopw [4] (fun iv wr => ∃ (k : Nat) (S : OS), k ≤ 40 ∧ S.L.length ≤ k ∧ iv = .int .i64 (k : Int) ∧ Hid (LgJ w wr b S)) (fun iv _ => 40 - (intOf iv).toNat)
  case atStart => exact ⟨0, _, by omega, by rw [HNS0.out]; exact Nat.le_refl _, rfl, HJ0⟩
  case round =>
    obtain ⟨k, S, hk, hkS, rfl, HJ⟩ := hrel
    clear HJ0
    obtain ⟨w8, hw8⟩ : ∃ x, x = wr := ⟨_, rfl⟩
    subst hw8
    by_cases hk1 : k < n
    · have hx1 : (k : Int) < (n : Int) := by omega
      by_cases hk2 : k < 40
      · have hx2 : (k : Int) < 40 := by omega
        have hkl : k < ops.length := by rw [HN.out]; exact hk1
        rcases HAT0.out with h0 | ⟨g, off, rfl, hgw, hops⟩
        · rw [h0] at hkl; simp at hkl
        · have HBr := Lib.hid HJ.out.bel
          have hx := hops k hkl
          have hfx := HFIT.out _ (List.getElem_mem hkl)
          obtain ⟨x, hxe⟩ : ∃ x, ops[k] = x := ⟨_, rfl⟩
          rw [hxe] at hx hfx
          have hx := hx.below HBr.out hgw
          have HF := Lib.hid hfx
          clear hfx
          obtain ⟨ok, ⟨⟨rk, rs, rt, rv, rtier, ⟨rc, rst, rq⟩, rd⟩, ra, rcc⟩⟩ := x
          have HX0 := Lib.hid (show KOpO w g (off + k * 10) ⟨ok, ⟨⟨rk, rs, rt, rv, rtier, ⟨rc, rst, rq⟩, rd⟩, ra, rcc⟩⟩ from by have h8 := hops k hkl; rw [hxe] at h8; exact h8)
          obtain ⟨x0, x1, x2, x3, x4, x5, x6, x7, x8, x9⟩ := hx
          dsimp only at x0 x1 x2 x3 x4 x5 x6 x7 x8 x9
          obtain ⟨s6, hs6⟩ : ∃ s6, cutB rs 60 = s6 := ⟨_, rfl⟩
          obtain ⟨d12, hd12⟩ : ∃ d12, rd.take 12 = d12 := ⟨_, rfl⟩
          have HS6 := Lib.hid hs6
          have HD12 := Lib.hid hd12
          have hst := HF.out.rc.ss
          dsimp only at hst
          have HFITS := Lib.hid (show Rec.fits ⟨rk, s6, rt, rv, rtier, ⟨rc, rst, rq⟩, d12⟩ from by have h8 := small_fits (x := ⟨⟨rk, rs, rt, rv, rtier, ⟨rc, rst, rq⟩, rd⟩, ra, rcc⟩) HF.out.rc; unfold smallR Rec.small at h8; dsimp only at h8; rw [hs6, hd12] at h8; exact h8)
          have HS60 := Lib.hid (show s6.size ≤ 60 by rw [← hs6]; exact cutB_len _ _)
          have HL12 := Lib.hid (show d12.length ≤ 12 by rw [← hd12, List.length_take]; omega)
          have HOWN := Lib.hid (fun (hd : d12 ≠ []) q (hq : (Value.slice ra d12.length rcc).ownBlock = some q) => (show q < w.heap.size from own_lt9 (by have h9 := take12 HF.out.d; dsimp only at h9; rw [hd12] at h9; exact h9) hd q hq))
          clear hs6 hd12 hxe
          have HSM := Lib.hid (small_lit rk rt rv rtier rc rst rq rs s6 rd d12 ra rcc w8 (args_later HF.out.d HBr.out) HF.out.rc.s HS6 HD12)
          have hltI : (k : Int) < (n : Int) := by omega
          clear hops
          go_upto_region 6 with (go_at_call 15; (with_reducible refine HSM.out.mono ?_); rintro e wS ⟨rfl, hnS, hbS⟩; (have HNS := Lib.hid hnS); (have HBS := Lib.hid hbS); clear hnS hbS)
          have halq := (Below.refl wS.heap.size wS).alloc (Nat.le_refl _) (.cells #[.int .i64 rk, .string s6, .int .i64 rt, .int .i64 rv, .int .i64 rtier, .int .i64 rc, .int .i64 rst, .int .i64 rq, .slice ra d12.length rcc] 33)
          have hq9 : R9 (wS.alloc (.cells #[.int .i64 rk, .string s6, .int .i64 rt, .int .i64 rv, .int .i64 rtier, .int .i64 rc, .int .i64 rst, .int .i64 rq, .slice ra d12.length rcc] 33)) wS.heap.size 0 ⟨⟨rk, s6, rt, rv, rtier, ⟨rc, rst, rq⟩, d12⟩, ra, rcc⟩ := R9.new wS ⟨⟨rk, s6, rt, rv, rtier, ⟨rc, rst, rq⟩, d12⟩, ra, rcc⟩
          obtain ⟨y0, y1, y2, y3, y4, y5, y6, y7, y8⟩ := hq9
          dsimp only [Nat.zero_add] at y0 y1 y2 y3 y4 y5 y6 y7 y8
          by_cases h1 : rst < 0
          · have HFIN := Lib.hid (HJ.out.later (bel_next HBS.out halq))
            go_wp2
            go_roundw
            case rel => exact ⟨k + 1, _, by omega, by omega, by go_num, HFIN⟩
            case measure => simp [intOf]; omega
          · by_cases h7 : 7 < rst
            · have HFIN := Lib.hid (HJ.out.later (bel_next HBS.out halq))
              go_wp2
              go_roundw
              case rel => exact ⟨k + 1, _, by omega, by omega, by go_num, HFIN⟩
              case measure => simp [intOf]; omega
            · obtain ⟨M, F, hLD, hbj⟩ := id HJ.out.at_
              obtain ⟨bv, v9, zs9, hp⟩ := (hLD.later (bel_next HBS.out halq)).part
              have kkn := dknowO_is hp.at_ hp.good
              obtain ⟨y, hy⟩ : ∃ y, atL S.know rst = y := ⟨_, rfl⟩
              have hyb := atL_bounds S.know rst
              rw [hy] at hyb
              have hwr : IntKind.i64.wrap (y + 1) = y + 1 := by rw [IntKind.wrap_i64]; omega
              have hwm : IntKind.i64.wrap (y + 1 - 1) = y := by rw [IntKind.wrap_i64]; omega
              have hwn : IntKind.i64.wrap y = y := by rw [IntKind.wrap_i64]; omega
              have HY := Lib.hid hy
              have HPP := Lib.hid hp
              have HFQ := Lib.hid (show ∀ q, F q → q < wS.heap.size from fun q hq => Nat.lt_of_lt_of_le (hLD.fp q hq).2 HBS.out.size)
              have HLD := Lib.hid hLD
              have HBJ := Lib.hid hbj
              have HSQ := Lib.hid (Nat.le_trans hbj.size HBS.out.size)
              have HRW := Lib.hid (RecW.new wS ⟨rk, s6, rt, rv, rtier, ⟨rc, rst, rq⟩, d12⟩ (.slice ra d12.length rcc))
              have HALQ := Lib.hid halq
              have HLA := Lib.hid (fun (x : Rec) => (show (addS S x).L.length ≤ k + 1 from by have h1 := addS_len S x; omega))
              clear hy hyb hp hLD hbj halq
              go_upto_region 8 with (go_at_call 44; (with_reducible refine kkn.mono ?_); rintro e wK ⟨vK, rfl, hK⟩; (obtain ⟨aK, cK, rfl⟩ := hK.ns.slice); (have HK := Lib.hid hK); (obtain ⟨⟨y0, y1, y2, y3, y4, y5, y6, y7, y8⟩, f0, f1, f2, f3, f4, f5, f6, f7, f8⟩ := HRW.out.below hK.bel); (dsimp only at y0 y1 y2 y3 y4 y5 y6 y7 y8); clear hK)
              have HAT := Lib.hid (rat_is _ S.know rst wK HK.out.ns)
              have HNE := Lib.hid (show ∀ q, (Value.slice aK S.know.length cK).ownBlock = some q → q ≠ wS.heap.size ∧ ¬ M q from fun q hq => by
                rcases HK.out.own q hq with e | e
                · have h1 := HPP.out.k1 q e
                  exact ⟨fun e2 => by have := HFQ.out q h1.1; omega, h1.2⟩
                · have h2 := e.1
                  rw [World.size_alloc] at h2
                  exact ⟨by omega, fun m => by have := HFQ.out q (HPP.out.mf q m); omega⟩)
              have HBK := Lib.hid (bel_next HALQ.out HK.out.bel)
              go_upto_region 9 with (go_at_call 27; (with_reducible refine (HAT.out).mono ?_); rintro e wA ⟨rfl, hbA⟩; rw [HY.out]; (have HBA := Lib.hid (bel_next HBK.out hbA)); (have HNA := Lib.hid (Ns.later HK.out.ns hbA)); (obtain ⟨⟨z0, z1, z2, z3, z4, z5, z6, z7, z8⟩, g0, g1, g2, g3, g4, g5, g6, g7, g8⟩ := (HRW.out.below HK.out.bel).below hbA); (dsimp only at z0 z1 z2 z3 z4 z5 z6 z7 z8); clear hbA)
              clear y0 y1 y2 y3 y4 y5 y6 y7 y8 f0 f1 f2 f3 f4 f5 f6 f7 f8
              have HYB := Lib.hid (show 0 ≤ y ∧ y ≤ 1099511627776 by have h1 := atL_bounds S.know rst; rw [HY.out] at h1; exact h1)
              go_upto_region 10 with fail
              have HLQ := Lib.hid (show LogD ((wA.setCell ⟨wS.heap.size, 7, none⟩ (.int .i64 (y + 1))).setCell ⟨wS.heap.size, 8, none⟩ (.slice aK S.know.length cK)) w.heap.size b S M F from HLD.out.off (G := fun q => q = wS.heap.size) (two_fr HBS.out HBA.out _ _) (fun q hq e => by have := HFQ.out q hq; omega) (fun q hq => by have := HSQ.out; omega))
              have HBQ := Lib.hid (show Below w.heap.size w ((wA.setCell ⟨wS.heap.size, 7, none⟩ (.int .i64 (y + 1))).setCell ⟨wS.heap.size, 8, none⟩ (.slice aK S.know.length cK)) from ((bel_next (bel_next HBJ.out HBS.out) HBA.out).setCell HSQ.out _).setCell HSQ.out _)
              have HNQ := Lib.hid (ns_set (ns_set HNA.out wS.heap.size 7 (.int .i64 (y + 1)) (fun _ q hq => (HNE.out q hq).1)) wS.heap.size 8 (.slice aK S.know.length cK) (fun _ q hq => (HNE.out q hq).1))
              have d0 : ((wA.setCell ⟨wS.heap.size, 7, none⟩ (.int .i64 (y + 1))).setCell ⟨wS.heap.size, 8, none⟩ (.slice aK S.know.length cK)).cell? ⟨wS.heap.size, 0, none⟩ = some (.int .i64 rk) := by simp [go_sem, z0]
              have d1 : ((wA.setCell ⟨wS.heap.size, 7, none⟩ (.int .i64 (y + 1))).setCell ⟨wS.heap.size, 8, none⟩ (.slice aK S.know.length cK)).cell? ⟨wS.heap.size, 1, none⟩ = some (.string s6) := by simp [go_sem, z1]
              have d2 : ((wA.setCell ⟨wS.heap.size, 7, none⟩ (.int .i64 (y + 1))).setCell ⟨wS.heap.size, 8, none⟩ (.slice aK S.know.length cK)).cell? ⟨wS.heap.size, 2, none⟩ = some (.int .i64 rt) := by simp [go_sem, z2]
              have d3 : ((wA.setCell ⟨wS.heap.size, 7, none⟩ (.int .i64 (y + 1))).setCell ⟨wS.heap.size, 8, none⟩ (.slice aK S.know.length cK)).cell? ⟨wS.heap.size, 3, none⟩ = some (.int .i64 rv) := by simp [go_sem, z3]
              have d4 : ((wA.setCell ⟨wS.heap.size, 7, none⟩ (.int .i64 (y + 1))).setCell ⟨wS.heap.size, 8, none⟩ (.slice aK S.know.length cK)).cell? ⟨wS.heap.size, 4, none⟩ = some (.int .i64 rtier) := by simp [go_sem, z4]
              have d5 : ((wA.setCell ⟨wS.heap.size, 7, none⟩ (.int .i64 (y + 1))).setCell ⟨wS.heap.size, 8, none⟩ (.slice aK S.know.length cK)).cell? ⟨wS.heap.size, 5, none⟩ = some (.int .i64 rc) := by simp [go_sem, z5]
              have d6 : ((wA.setCell ⟨wS.heap.size, 7, none⟩ (.int .i64 (y + 1))).setCell ⟨wS.heap.size, 8, none⟩ (.slice aK S.know.length cK)).cell? ⟨wS.heap.size, 6, none⟩ = some (.int .i64 rst) := by simp [go_sem, z6]
              have d7 : ((wA.setCell ⟨wS.heap.size, 7, none⟩ (.int .i64 (y + 1))).setCell ⟨wS.heap.size, 8, none⟩ (.slice aK S.know.length cK)).cell? ⟨wS.heap.size, 7, none⟩ = some (.int .i64 (y + 1)) := by simp [go_sem, z7]
              have d8 : ((wA.setCell ⟨wS.heap.size, 7, none⟩ (.int .i64 (y + 1))).setCell ⟨wS.heap.size, 8, none⟩ (.slice aK S.know.length cK)).cell? ⟨wS.heap.size, 8, none⟩ = some (.slice aK S.know.length cK) := by simp [go_sem, z8]
              have j8 : ((wA.setCell ⟨wS.heap.size, 7, none⟩ (.int .i64 (y + 1))).setCell ⟨wS.heap.size, 8, none⟩ (.slice aK S.know.length cK)).frozen? ⟨wS.heap.size, 8, none⟩ = false := by simpa using g8
              have HPL := Lib.hid (show wS.heap.size < ((wA.setCell ⟨wS.heap.size, 7, none⟩ (.int .i64 (y + 1))).setCell ⟨wS.heap.size, 8, none⟩ (.slice aK S.know.length cK)).heap.size from by simp only [World.size_setCell]; exact cell_lt z0)
              have HFR := Lib.hid (two_fr HBS.out HBA.out (.int .i64 (y + 1)) (.slice aK S.know.length cK))
              obtain ⟨w10, hw10⟩ : ∃ x, ((wA.setCell ⟨wS.heap.size, 7, none⟩ (.int .i64 (y + 1))).setCell ⟨wS.heap.size, 8, none⟩ (.slice aK S.know.length cK)) = x := ⟨_, rfl⟩
              rw [hw10] at HLQ HBQ HNQ d0 d1 d2 d3 d4 d5 d6 d7 d8 j8 HPL HFR ⊢
              clear hw10 z0 z1 z2 z3 z4 z5 z6 z7 z8 g0 g1 g2 g3 g4 g5 g6 g7 g8
              have xk := (HX0.out.below HBQ.out hgw).c0
              dsimp only at xk
              by_cases h2 : ok.tmod 2 = 0
              · have h2b : (ok.tmod 2 != 0) = false := by simpa using h2
                have HADD := Lib.hid (dadd_is HLQ.out (⟨⟨rk, s6, rt, rv, rtier, ⟨rc, rst, y + 1⟩, S.know⟩, aK, cK⟩ : Rd) HNQ.out ⟨HFITS.out.k, HFITS.out.s, HFITS.out.t, HFITS.out.v, HFITS.out.tier, HFITS.out.ss⟩ (fun hd q hq => Or.inr ((HNE.out q hq).2)))
                unfold recV Rd.dv at HADD
                dsimp only at HADD
                go_wp2_with (go_at_call 45; (with_reducible refine (HADD.out).mono ?_); rintro e wE ⟨rfl, hLE, hfE⟩; (have HFIN := Lib.hid (HJ.out.added (x := (⟨⟨rk, s6, rt, rv, rtier, ⟨rc, rst, y + 1⟩, S.know⟩, aK, cK⟩ : Rd)) hLE (HBQ.out.trans (hfE.below (fun q hq => (HLQ.out.fp q (HLQ.out.mf q hq)).1) HBQ.out.size)) ⟨HFITS.out.k, HFITS.out.s, HFITS.out.t, HFITS.out.v, HFITS.out.tier, HFITS.out.ss⟩)); clear hLE hfE)
                go_roundw
                case rel => exact ⟨k + 1, _, by omega, HLA.out _, by go_num, HFIN⟩
                case measure => simp [intOf]; omega
              · have h2b : (ok.tmod 2 != 0) = true := by simpa using h2
                have kw := fun (W : World) => rwithF_is (.slice none 0 0) [] rst y W ((Nums.nil W none 0).mono (Nat.zero_le _) (Nat.le_refl _)) (by have h1 := HYB.out; omega)
                go_upto_region 12 with (go_at_call 28; (with_reducible refine (kw _).mono ?_); rintro e wW ⟨vW, rfl, hnW, hbW, hfW⟩; (obtain ⟨aW, cW, rfl⟩ := hnW.slice); (have HNW := Lib.hid hnW); (have HBW := Lib.hid hbW); (have HFW := Lib.hid hfW); (have m0 := (hbW.cell HPL.out).trans d0); (have m1 := (hbW.cell HPL.out).trans d1); (have m2 := (hbW.cell HPL.out).trans d2); (have m3 := (hbW.cell HPL.out).trans d3); (have m4 := (hbW.cell HPL.out).trans d4); (have m5 := (hbW.cell HPL.out).trans d5); (have m6 := (hbW.cell HPL.out).trans d6); (have m7 := (hbW.cell HPL.out).trans d7); (have m8 := (hbW.cell HPL.out).trans d8); (have mj8 := (World.frozen?_of_block (w := w10) (a := ⟨wS.heap.size, 8, none⟩) (hbW.block _ HPL.out)).trans j8); clear hnW hbW hfW)
                have HNE2 := Lib.hid (show ∀ q, (Value.slice aW (withL [] rst y).length cW).ownBlock = some q → q ≠ wS.heap.size ∧ ¬ M q from fun q hq => by
                  have h1 := (HFW.out q hq).1
                  have h2 := HPL.out
                  exact ⟨by omega, fun m => by have := HFQ.out q (HPP.out.mf q m); omega⟩)
                replace HLQ := Lib.hid (show LogD (wW.setCell ⟨wS.heap.size, 8, none⟩ (.slice aW (withL [] rst y).length cW)) w.heap.size b S M F from HLD.out.off (G := fun q => q = wS.heap.size) (FrF.set (FrF.step HFR.out HBW.out) 8 _) (fun q hq e => by have := HFQ.out q hq; omega) (fun q hq => by have := HSQ.out; omega))
                replace HBQ := Lib.hid (show Below w.heap.size w (wW.setCell ⟨wS.heap.size, 8, none⟩ (.slice aW (withL [] rst y).length cW)) from (bel_next HBQ.out HBW.out).setCell HSQ.out _)
                clear d0 d1 d2 d3 d4 d5 d6 d7 d8 j8 xk
                have HADD := Lib.hid (dadd_is HLQ.out (⟨⟨rk, s6, rt, rv, rtier, ⟨rc, rst, y + 1⟩, withL [] rst y⟩, aW, cW⟩ : Rd) (ns_set HNW.out _ _ _ (fun _ q hq => (HNE2.out q hq).1)) ⟨HFITS.out.k, HFITS.out.s, HFITS.out.t, HFITS.out.v, HFITS.out.tier, HFITS.out.ss⟩ (fun hd q hq => Or.inr ((HNE2.out q hq).2)))
                unfold recV Rd.dv at HADD
                dsimp only at HADD
                go_wp2_with (go_at_call 45; (with_reducible refine (HADD.out).mono ?_); rintro e wE ⟨rfl, hLE, hfE⟩; (have HFIN := Lib.hid (HJ.out.added (x := (⟨⟨rk, s6, rt, rv, rtier, ⟨rc, rst, y + 1⟩, withL [] rst y⟩, aW, cW⟩ : Rd)) hLE (HBQ.out.trans (hfE.below (fun q hq => (HLQ.out.fp q (HLQ.out.mf q hq)).1) HBQ.out.size)) ⟨HFITS.out.k, HFITS.out.s, HFITS.out.t, HFITS.out.v, HFITS.out.tier, HFITS.out.ss⟩)); clear hLE hfE)
                go_roundw
                case rel => exact ⟨k + 1, _, by omega, HLA.out _, by go_num, HFIN⟩
                case measure => simp [intOf]; omega
      · have hx2 : ¬ (k : Int) < 40 := by omega
        obtain ⟨M, F, hLD, hbj⟩ := HJ.out.at_
        obtain ⟨bv, v9, zs9, hp⟩ := hLD.part
        have c2 := hp.at_.c2
        obtain ⟨a9, c9, e9⟩ := hp.at_.row.slice
        have HL9 := Lib.hid hp.at_.len
        have HPP := Lib.hid hp
        have HBJ := Lib.hid hbj
        subst e9
        clear hLD hp hbj
        go_wp2
        go_ret
        refine ⟨_, zs9, rfl, HPP.out.at_.row, HPP.out.at_.deps, ?_, by have h1 := HL9.out; omega, fun x hx => HJ.out.fits x.r (by rw [← HPP.out.at_.rs]; exact List.mem_map_of_mem hx), HBJ.out⟩
        rw [HPP.out.at_.rs]
        have h9 := HPP.out.good.ch
        rw [HJ.out.base] at h9
        exact h9
    · have hx1 : ¬ (k : Int) < (n : Int) := by omega
      obtain ⟨M, F, hLD, hbj⟩ := HJ.out.at_
      obtain ⟨bv, v9, zs9, hp⟩ := hLD.part
      have c2 := hp.at_.c2
      obtain ⟨a9, c9, e9⟩ := hp.at_.row.slice
      have HL9 := Lib.hid hp.at_.len
      have HPP := Lib.hid hp
      have HBJ := Lib.hid hbj
      subst e9
      clear hLD hp hbj
      go_wp2
      go_ret
      refine ⟨_, zs9, rfl, HPP.out.at_.row, HPP.out.at_.deps, ?_, by have h1 := HL9.out; omega, fun x hx => HJ.out.fits x.r (by rw [← HPP.out.at_.rs]; exact List.mem_map_of_mem hx), HBJ.out⟩
      rw [HPP.out.at_.rs]
      have h9 := HPP.out.good.ch
      rw [HJ.out.base] at h9
      exact h9
end Go.Proofs.Ythifmfgnblecbaa.Og.Cb
