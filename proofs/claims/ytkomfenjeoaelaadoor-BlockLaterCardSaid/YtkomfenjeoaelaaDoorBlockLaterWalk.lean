/- The walk of law BlockLater: it returns true and turns nothing that was there. -/
import Derived.Test.YtkomfenjeoaelaaDoorBlockLive
import Derived.Test.YtkomfenjeoaelaaDoorBlockLaterMath
import Derived.BigQuiet
set_option maxRecDepth 20000
set_option linter.unusedSimpArgs false
namespace Go.Proofs.YtkomfenjeoaelaaDoor.blockLater
open Go.RowKit Go.Proofs.YtkomfenjeoaelaaDoor Go.Proofs.YtkomfenjeoaelaaDoor.Vi Go.Proofs.YtkomfenjeoaelaaDoor.Mk Go.Proofs.YtkomfenjeoaelaaDoor.Crc

/-- How far the points have their numbers. -/
structure AJ (w wr : World) (a : Option Addr) (l : List Pt) (k : Nat) : Prop where
  at_ : l = [] ∨ ∃ g, a = some ⟨g, 0, none⟩ ∧ w.heap.size ≤ g ∧ g < wr.heap.size ∧ (∀ i, wr.frozen? ⟨g, i, none⟩ = false) ∧ ∀ q (hq : q < l.length), PtO wr g (q * 6) (sqP l k q hq)
  bel : Below w.heap.size w wr
theorem AJ.lst {w wr : World} {a : Option Addr} {l : List Pt} {c : Nat} (h : AJ w wr a l l.length) (hc : l.length ≤ c) (hn : a = none → c = 0) : Lst wr wr.heap.size a c (seqL l) := by
  refine ⟨⟨?_⟩, by rw [seqL_len]; exact hc, hn⟩
  rcases h.at_ with rfl | ⟨g, rfl, _, hg, _, hx⟩
  · exact Or.inl rfl
  · refine Or.inr ⟨g, 0, rfl, hg, fun j hj => ?_⟩
    have hj2 : j < l.length := by rw [seqL_len] at hj; exact hj
    have := hx j hj2
    unfold sqP at this
    rw [if_pos hj2] at this
    rw [Nat.zero_add, seqL_at hj]; exact this
theorem frz_set {w : World} {a b : Addr} {v : Value} : (w.setCell a v).frozen? b = w.frozen? b := by simp [go_sem]
theorem AJ.set {w wr : World} {g : Nat} {l : List Pt} {k : Nat} (h : AJ w wr (some ⟨g, 0, none⟩) l k) (hk : k < l.length) : AJ w (wr.setCell ⟨g, k * 6 + 5, none⟩ (.int .i64 (k : Int))) (some ⟨g, 0, none⟩) l (k + 1) := by
  rcases h.at_ with rfl | ⟨g', e, hwg, hg, hf, hx⟩
  · simp at hk
  · injection e with e
    injection e with e
    subst e
    refine ⟨Or.inr ⟨g, rfl, hwg, by simpa using hg, fun i => by rw [frz_set]; exact hf i, fun q hq => ?_⟩, h.bel.setCell (p := ⟨g, k * 6 + 5, none⟩) hwg _⟩
    have hxq := hx q hq
    by_cases e : q = k
    · subst e
      have e1 : sqP l q q hq = l[q] := by unfold sqP; rw [if_neg (Nat.lt_irrefl _)]
      have e2 : sqP l (q + 1) q hq = (l[q]).seq q := by unfold sqP; rw [if_pos (Nat.lt_succ_self _)]
      rw [e1] at hxq
      rw [e2]
      exact ⟨by rw [cell_off (by omega)]; exact hxq.c0, by rw [cell_off (by omega)]; exact hxq.c1, by rw [cell_off (by omega)]; exact hxq.c2, by rw [cell_off (by omega)]; exact hxq.c3, by rw [cell_off (by omega)]; exact hxq.c4, World.cell?_setCell_same _ _ _ hxq.c5⟩
    · have e1 : sqP l (k + 1) q hq = sqP l k q hq := by
        unfold sqP
        by_cases hlt : q < k
        · rw [if_pos hlt, if_pos (by omega)]
        · rw [if_neg hlt, if_neg (by omega)]
      rw [e1]
      exact ⟨by rw [cell_off (by omega)]; exact hxq.c0, by rw [cell_off (by omega)]; exact hxq.c1, by rw [cell_off (by omega)]; exact hxq.c2, by rw [cell_off (by omega)]; exact hxq.c3, by rw [cell_off (by omega)]; exact hxq.c4, by rw [cell_off (by omega)]; exact hxq.c5⟩

theorem six_pt {a : World} {b : Nat} {z : Pt} (h : ZP a b) : PtAt ((((((a.setCell ⟨b, 0, none⟩ (.string z.s)).setCell ⟨b, 1, none⟩ (.int .i64 z.t)).setCell ⟨b, 2, none⟩ (.int .i64 z.v)).setCell ⟨b, 3, none⟩ (.int .i64 z.st.c)).setCell ⟨b, 4, none⟩ (.int .i64 z.st.s)).setCell ⟨b, 5, none⟩ (.int .i64 z.st.q)) b z := by
  have := setP_pt (w := a) (g := b) (o := 0) (p := z) (q := Pt.zero) ⟨h.z0.1, h.z1.1, h.z2.1, h.z3.1, h.z4.1, h.z5.1⟩
  exact ⟨this.c0, this.c1, this.c2, this.c3, this.c4, this.c5⟩
/-- Held: a point of a list, and what was found. -/
structure PZ (w : World) (g i : Nat) (y : Pt) (T : Nat) (z : Pt) (wr : World) : Prop where
  x : PtO wr g i y
  y : PtAt wr T z
  bel : Below w.heap.size w wr
theorem PZ.keep {w w1 w2 : World} {g i : Nat} {y : Pt} {T : Nat} {z : Pt} (h : PZ w g i y T z w1) (k : Below w1.heap.size w1 w2) : PZ w g i y T z w2 := ⟨h.x.below k h.x.room, h.y.later k, bel_next h.bel k⟩
theorem PZ.drew {w w1 : World} {g i : Nat} {y : Pt} {T : Nat} {z : Pt} (h : PZ w g i y T z w1) : PZ w g i y T z w1.drew := h.keep ((Below.refl _ _).drew)
/-- Held: two points, each of a list. -/
structure P22 (w : World) (g i : Nat) (y : Pt) (g2 i2 : Nat) (z : Pt) (wr : World) : Prop where
  x : PtO wr g i y
  y : PtO wr g2 i2 z
  bel : Below w.heap.size w wr
theorem P22.drew {w w1 : World} {g i : Nat} {y : Pt} {g2 i2 : Nat} {z : Pt} (h : P22 w g i y g2 i2 z w1) : P22 w g i y g2 i2 z w1.drew := ⟨h.x.below ((Below.refl _ _).drew) h.x.room, h.y.below ((Below.refl _ _).drew) h.y.room, bel_next h.bel ((Below.refl _ _).drew)⟩

set_option maxHeartbeats 64000000 in
theorem walk (a0 : Option Addr) (n0 c0 : Nat) (b0 : Option Addr) (m0 d0 : Nat) (e0 : Option Addr) (k0 f0 : Nat) (w : World) (ha : ArgPts w a0 n0 c0) (hb : ArgPts w b0 m0 d0) (hc : ArgPts w e0 k0 f0) (ht : Tab w) : Calls Tryd.prog 7 #[.slice a0 n0 c0, .slice b0 m0 d0, .slice e0 k0 f0] w fun e w' => e = .returned (.bool true) ∧ Below w.heap.size w w' := by
  obtain ⟨la, rfl, hPa, hla, -⟩ := ha.has
  obtain ⟨lb, rfl, hPb, hlb, -⟩ := hb.has
  obtain ⟨lc, rfl, hPc, hlc, -⟩ := hc.has
  have kfa := fun w h => few12_is a0 c0 la w h hla
  have kfb := fun w h => few12_is b0 d0 lb w h hlb
  have kfc := fun w h => few12_is e0 f0 lc w h hlc
  have ha1 := fewB_len la
  have hb1 := fewB_len lb
  have hc1 := fewB_len lc
  have hsa : ∀ p ∈ fewB la, p.s.size ≤ 100000 := fun p hp => by have := fewB_short hp; omega
  have hsb : ∀ p ∈ fewB lb, p.s.size ≤ 100000 := fun p hp => by have := fewB_short hp; omega
  have hsc : ∀ p ∈ fewB lc, p.s.size ≤ 100000 := fun p hp => by have := fewB_short hp; omega
  obtain ⟨A, hA⟩ : ∃ A, fewB la = A := ⟨_, rfl⟩
  obtain ⟨B, hB⟩ : ∃ B, fewB lb = B := ⟨_, rfl⟩
  obtain ⟨C, hC⟩ : ∃ C, fewB lc = C := ⟨_, rfl⟩
  rw [hA] at kfa ha1 hsa
  rw [hB] at kfb hb1 hsb
  rw [hC] at kfc hc1 hsc
  obtain ⟨na, ea⟩ : ∃ n, A.length = n := ⟨_, rfl⟩
  obtain ⟨nb, eb⟩ : ∃ n, B.length = n := ⟨_, rfl⟩
  obtain ⟨nc, ec⟩ : ∃ n, C.length = n := ⟨_, rfl⟩
  rw [ea] at ha1
  rw [eb] at hb1
  rw [ec] at hc1
  obtain ⟨y, hy⟩ : ∃ y, na + nb = y := ⟨_, rfl⟩
  obtain ⟨n, hn⟩ : ∃ n, y + nc = n := ⟨_, rfl⟩
  obtain ⟨L, hL⟩ : ∃ L, A ++ B ++ C = L := ⟨_, rfl⟩
  have eL : L.length = n := by rw [← hL, List.length_append, List.length_append, ea, eb, ec, hy]; exact hn
  have hsL : ∀ p ∈ L, p.s.size ≤ 100000 := fun p hp => by
    rw [← hL] at hp
    rcases List.mem_append.1 hp with hp | hp
    · rcases List.mem_append.1 hp with hp | hp
      · exact hsa p hp
      · exact hsb p hp
    · exact hsc p hp
  obtain ⟨S, hS⟩ : ∃ S, seqL L = S := ⟨_, rfl⟩
  have eS : S.length = n := by rw [← hS, seqL_len]; exact eL
  have hsS : ∀ p ∈ S, p.s.size ≤ 100000 := by rw [← hS]; exact seqL_short hsL
  have hap : ∀ x ∈ S, ∀ y ∈ S, x.st = y.st → x = y := by rw [← hS]; exact seqL_apart
  have hn120 : n ≤ 120 := by omega
  obtain ⟨n2, hn2⟩ : ∃ m, y - na = m := ⟨_, rfl⟩
  obtain ⟨n3, hn3⟩ : ∃ m, n - y = m := ⟨_, rfl⟩
  -- the three parts
  obtain ⟨S1, hS1⟩ : ∃ s, S.take na = s := ⟨_, rfl⟩
  obtain ⟨S2, hS2⟩ : ∃ s, (S.take y).drop na = s := ⟨_, rfl⟩
  obtain ⟨S3, hS3⟩ : ∃ s, S.drop y = s := ⟨_, rfl⟩
  have hparts : S1 ++ S2 ++ S3 = S := by
    rw [← hS1, ← hS2, ← hS3]
    have e1 : S.take na = (S.take y).take na := by rw [List.take_take, Nat.min_eq_left (by omega)]
    rw [e1, List.take_append_drop, List.take_append_drop]
  have eS1 : S1.length = na := by rw [← hS1, List.length_take]; omega
  have eS2 : S2.length = n2 := by rw [← hS2, List.length_drop, List.length_take]; omega
  have eS3 : S3.length = n3 := by rw [← hS3, List.length_drop]; omega
  have m1 : ∀ p ∈ S1, p ∈ S := fun p hp => by rw [← hparts]; exact List.mem_append_left _ (List.mem_append_left _ hp)
  have m2 : ∀ p ∈ S2, p ∈ S := fun p hp => by rw [← hparts]; exact List.mem_append_left _ (List.mem_append_right _ hp)
  have m3 : ∀ p ∈ S3, p ∈ S := fun p hp => by rw [← hparts]; exact List.mem_append_right _ hp
  obtain ⟨X, hX⟩ : ∃ X, srtR S = X := ⟨_, rfl⟩
  obtain ⟨X12, hX12⟩ : ∃ X, srtR (S1 ++ S2) = X := ⟨_, rfl⟩
  obtain ⟨X32, hX32⟩ : ∃ X, srtR (S3 ++ S2) = X := ⟨_, rfl⟩
  have q2 : srtR (X12 ++ S3) = X := by rw [← hX12, srtR_left, hparts, hX]
  have q3 : srtR (S1 ++ X32) = X := by rw [← hX32, srtR_right, srtR_swap (by rw [hparts]; exact hap), hparts, hX]
  have q1 : srtR S.reverse = X := by rw [srtR_rev hap, hX]
  have q4 : srtR X = X := by rw [← hX, srtR_self]
  have hXl : X.length ≤ n := by rw [← hX]; have := srtR_len S; omega
  have hX12l : X12.length ≤ n := by rw [← hX12]; have := srtR_len (S1 ++ S2); rw [List.length_append] at this; omega
  have hX32l : X32.length ≤ n := by rw [← hX32]; have := srtR_len (S3 ++ S2); rw [List.length_append] at this; omega
  have hXs : ∀ p ∈ X, p ∈ S := fun p hp => srtR_mem S (by rw [hX]; exact hp)
  have hXX : srtB X = true := by rw [← hX]; exact srtR_srt S
  have ks := fun a c w h => sort_is a c S w h (by omega) hsS
  have kst := fun a c w h => sort_is a c S.reverse w h (by rw [List.length_reverse]; omega) (fun p hp => hsS p (List.mem_reverse.1 hp))
  have ksx := fun a c w h => sort_is a c X w h (by omega) (fun p hp => hsS p (hXs p hp))
  have km12 := fun a c w h => merge_is a c [S1, S2] w h (by simp) (by simp; omega) (fun p hp => by simp at hp; rcases hp with hp | hp; exact hsS p (m1 p hp); exact hsS p (m2 p hp))
  have km32 := fun a c w h => merge_is a c [S3, S2] w h (by simp) (by simp; omega) (fun p hp => by simp at hp; rcases hp with hp | hp; exact hsS p (m3 p hp); exact hsS p (m2 p hp))
  have km123 := fun a c w h => merge_is a c [X12, S3] w h (by simp) (by simp; omega) (fun p hp => by
    simp at hp; rcases hp with hp | hp
    · rw [← hX12] at hp
      rcases List.mem_append.1 (srtR_mem _ hp) with hp | hp
      · exact hsS p (m1 p hp)
      · exact hsS p (m2 p hp)
    · exact hsS p (m3 p hp))
  have km132 := fun a c w h => merge_is a c [S1, X32] w h (by simp) (by simp; omega) (fun p hp => by
    simp at hp; rcases hp with hp | hp
    · exact hsS p (m1 p hp)
    · rw [← hX32] at hp
      rcases List.mem_append.1 (srtR_mem _ hp) with hp | hp
      · exact hsS p (m3 p hp)
      · exact hsS p (m2 p hp))
  have kso := fun a c w h => psorted_is a c X w h (by omega)
  have kfi := fun a c s t w h => find_is a c X s t w h (by omega) hXX (fun p hp => hsS p (hXs p hp))
  have kq := fun (Z : List Pt) a b ca cb w h1 h2 (hz : Z.length ≤ 1000) => rsamep_is a b ca cb Z Z true w h1 h2 (by omega) (by omega) (Lib.hid (decide_eq_true rfl))
  simp only [List.flatten_cons, List.flatten_nil, List.append_nil, List.length_cons, List.length_nil] at km12 km32 km123 km132
  rw [hX12] at km12
  rw [hX32] at km32
  rw [q2] at km123
  rw [q3] at km132
  rw [q1] at kst
  rw [q4] at ksx
  rw [hX] at ks
  rw [hXX] at kso
  have er : S.reverse.length = n := by rw [List.length_reverse]; exact eS
  rw [er] at kst
  rw [eS] at ks
  obtain ⟨nx, ex⟩ : ∃ n, X.length = n := ⟨_, rfl⟩
  have HY := Lib.hid hy
  have HN := Lib.hid hn
  have HN2 := Lib.hid hn2
  have HN3 := Lib.hid hn3
  have hyn : y ≤ n := by omega
  have hnay : na ≤ y := by omega
  have HTOP := Lib.hid (fun y (hy : y ∈ S) => find_top hy)
  rw [hX] at HTOP
  have HXS := Lib.hid hXs
  have kqX := kq X
  rw [ex] at kso ksx kfi kqX hXl
  have EX := Lib.hid ex
  have ES := Lib.hid eS
  have EA := Lib.hid ea
  have EB := Lib.hid eb
  have EC := Lib.hid ec
  have HL := Lib.hid hL
  have EL := Lib.hid eL
  have HS := Lib.hid hS
  have H1 := Lib.hid hS1
  have H2 := Lib.hid hS2
  have H3 := Lib.hid hS3
  have E1 := Lib.hid eS1
  have E2 := Lib.hid eS2
  have E3 := Lib.hid eS3
  have ER := Lib.hid er
  have HPa := Lib.hid hPa
  have HPb := Lib.hid hPb
  have HPc := Lib.hid hPc
  have HT := Lib.hid ht
  have ka := fun w h => awake_is w h
  clear hy hn hn2 hn3
  clear ha hb hc hPa hPb hPc hA hB hC hL hS hS1 hS2 hS3 hX hX12 hX32 q1 q2 q3 q4 ht ea eb ec eL eS eS1 eS2 eS3 er ex hsa hsb hsc hsL hsS hap hparts m1 m2 m3 hXs hXX kq
  go_enter Tryd.func7, Tryd.ntmps7
  go_wp2_with (first
    | (go_at_call 10; (with_reducible refine (ka _ HT.out).mono ?_); rintro e w1 ⟨rfl, hb1⟩; (have T1 := Lib.hid (HT.out.next hb1)); (have B1 := Lib.hid hb1); (have Pa1 := Lib.hid ((HPa.out.below hb1).mono hb1.size)); (have Pb1 := Lib.hid ((HPb.out.below hb1).mono hb1.size)); (have Pc1 := Lib.hid ((HPc.out.below hb1).mono hb1.size)); clear hb1 ka)
    | (go_at_call 11; (with_reducible refine (kfa _ Pa1.out).mono ?_); rintro e w2 ⟨v, rfl, hR, hb2⟩; (have hsl := hR.slice); (obtain ⟨p2, c2, rfl⟩ := hsl); (rw [EA.out] at hR ⊢); (have HR2 := Lib.hid hR); (have B2 := Lib.hid (bel_next B1.out hb2)); (have Pb2 := Lib.hid ((Pb1.out.below hb2).mono hb2.size)); (have Pc2 := Lib.hid ((Pc1.out.below hb2).mono hb2.size)); clear hR hb2 kfa)
    | (at_builtin; refine wpList_appN (w := w2) rfl _ _ rfl w2.heap.size 0 (.slice none 0 0) [] A p2 na c2 w2.heap.size rfl rfl EA.out (Lib.hid rfl) (PRow.nil _ _) HR2.out.lst (by omega) (Nat.le_refl _) ?_; intro a3 c3 w3 hrow3 _ hb3 _; have HR3 := Lib.hid (show PRow w3 w2.heap.size (.slice a3 na c3) A by simpa using hrow3.out); have D3 := Lib.hid hb3; have Pb3 := Lib.hid ((Pb2.out.below hb3).mono hb3.size); clear hrow3 hb3)
    | (go_at_call 11; (with_reducible refine (kfb _ Pb3.out).mono ?_); rintro e w4 ⟨v, rfl, hR, hb4⟩; (have hsl := hR.slice); (obtain ⟨p4, c4, rfl⟩ := hsl); (rw [EB.out] at hR ⊢); (have HS4 := Lib.hid hR.lst); (have HR4 := Lib.hid (HR3.out.later hb4)); (have D4 := Lib.hid (D3.out.trans (hb4.mono D3.out.size))); clear hR hb4 kfb)
    | (at_builtin; refine wpList_appN (w := w4) rfl _ _ rfl w2.heap.size na (.slice a3 na c3) A B p4 nb c4 w4.heap.size rfl rfl EB.out EA HR4.out HS4.out (by omega) D4.out.size ?_; intro a5 c5 w5 hrow5 _ hb5 _; rw [HY.out] at hrow5 ⊢; have HR5 := Lib.hid hrow5.out; have D5 := Lib.hid (D4.out.trans hb5); have Pc5 := Lib.hid ((Pc2.out.below D5.out).mono D5.out.size); clear hrow5 hb5)
    | (go_at_call 11; (with_reducible refine (kfc _ Pc5.out).mono ?_); rintro e w6 ⟨v, rfl, hR, hb6⟩; (have hsl := hR.slice); (obtain ⟨p6, c6, rfl⟩ := hsl); (rw [EC.out] at hR ⊢); (have HS6 := Lib.hid hR.lst); (have HR6 := Lib.hid (HR5.out.later hb6)); (have D6 := Lib.hid (D5.out.trans (hb6.mono D5.out.size))); clear hR hb6 kfc)
    | (at_builtin; refine wpList_appN (w := w6) rfl _ _ rfl w2.heap.size y (.slice a5 y c5) (A ++ B) C p6 nc c6 w6.heap.size rfl rfl EC.out (Lib.hid (by rw [List.length_append, EA.out, EB.out]; exact HY.out)) HR6.out HS6.out (by omega) D6.out.size ?_; intro a7 c7 w7 hrow7 _ hb7 _; rw [HN.out] at hrow7 ⊢; (have hr7 := hrow7.out); (rw [HL.out] at hr7); have HR7 := Lib.hid hr7; have D7 := Lib.hid (D6.out.trans hb7); clear hrow7 hb7 hr7))
  have HU := Lib.hid HR7.out.upto
  have hA0 : AJ w2 w7 a7 L 0 := by
    refine ⟨?_, D7.out⟩
    rcases HR7.out.2 with ⟨e, h0⟩ | ⟨g, cap, cur, e, hB, hblk, _⟩
    · exact Or.inl (List.eq_nil_of_length_eq_zero h0)
    · injection e with e1 e2 e3
      subst e1
      refine Or.inr ⟨g, rfl, hB, (Array.getElem?_eq_some_iff.1 hblk).1, fun i => by unfold World.frozen?; dsimp only; rw [hblk]; simp, fun q hq => ?_⟩
      rcases HR7.out.pts.at_ with h | ⟨b, o, e, _, hc⟩
      · rw [h] at hq; simp at hq
      · injection e with e
        injection e with e1 e2
        subst e1 e2
        have := hc q hq
        unfold sqP
        rw [if_neg (Nat.not_lt_zero _)]
        rwa [Nat.zero_add] at this
  have HA0 := Lib.hid hA0
  clear hA0
  go_loopw [11] (fun i wr => ∃ (k : Nat), k ≤ n ∧ i = .int .i64 (k : Int) ∧ Hid (AJ w2 wr a7 L k)) (fun i _ => n - (intOf i).toNat)
  case atStart => exact ⟨0, by omega, rfl, HA0⟩
  case round =>
    obtain ⟨k, hk, rfl, HJ⟩ := hrel
    clear HA0
    obtain ⟨w8, hw8⟩ : ∃ x, x = wr := ⟨_, rfl⟩
    subst hw8
    by_cases hlt : k < n
    · have hlti : (k : Int) < (n : Int) := by omega
      have hkl : k < L.length := by rw [EL.out]; exact hlt
      rcases HJ.out.at_ with h0 | ⟨g, rfl, hwg, hg, hf, hx⟩
      · rw [h0] at hkl; simp at hkl
      · have hxk := hx k hkl
        have HJ2 := Lib.hid (HJ.out.set hkl)
        have hfk := hf (k * 6 + 5)
        obtain ⟨x0, x1, x2, x3, x4, x5⟩ := hxk
        clear hx hf
        go_wp2
        go_roundw
        case rel => exact ⟨k + 1, by omega, by go_num, HJ2⟩
        case measure => simp [intOf]; omega
    · have hlti : ¬ (k : Int) < (n : Int) := by omega
      obtain rfl : k = n := by omega
      have hl8 := HJ.out
      have hlst : Lst w8 w8.heap.size a7 c7 S := by
        have e : AJ w2 w8 a7 L L.length := by rw [EL.out]; exact hl8
        have := e.lst (by rw [EL.out]; have := HU.out.2.1; rw [EL.out] at this; exact this) HU.out.2.2
        rwa [HS.out] at this
      have hb8 := B2.out.trans (hl8.bel.mono B2.out.size)
      have V8 := Lib.hid (show Live w w8 a7 c7 S none 0 [] none 0 [] none 0 [] from ⟨hlst, Lst.nil _ _, Lst.nil _ _, Lst.nil _ _, hb8, HT.out.next hb8⟩)
      clear hl8 hlst hb8 HJ
      go_wp2_with (first
        | (go_at_call 13; (with_reducible refine (ks _ _ _ V8.out.a).mono ?_); rintro e w9 ⟨v, rfl, hR, hb9⟩; (have hsl := hR.slice); (obtain ⟨q9, c9, rfl⟩ := hsl); (rw [EX.out] at hR ⊢); (have V9 := Lib.hid ((V8.out.later hb9).setb hR.lst)); clear hR hb9 ks))
      have hkm1 : IntKind.i64.wrap ((k : Int) - 1) = (k : Int) - 1 := by rw [IntKind.wrap_i64]; omega
      go_loopw [13, 14] (fun s i wr => ∃ (j r : Nat) (a : Option Addr) (c : Nat), j ≤ k ∧ r + j = k ∧ i = .int .i64 ((j : Int) - 1) ∧ s = .slice a r c ∧ Hid (PRow wr w9.heap.size (.slice a r c) (S.drop j).reverse) ∧ Hid (Below w9.heap.size w9 wr)) (fun _ i _ => (intOf i + 1).toNat)
      case atStart => exact ⟨k, 0, none, 0, Nat.le_refl _, by omega, rfl, rfl, Lib.hid (by rw [List.drop_of_length_le (by rw [ES.out]; exact Nat.le_refl _)]; exact PRow.nil _ _), Lib.hid (Below.refl _ _)⟩
      case round =>
        obtain ⟨j, r, at1, ct1, hjk, hrj, rfl, rfl, HT1, HB1⟩ := hrel
        obtain ⟨w10, hw10⟩ : ∃ x, x = wr := ⟨_, rfl⟩
        subst hw10
        by_cases hj0 : 0 < j
        · obtain ⟨m, rfl⟩ : ∃ m, j = m + 1 := ⟨j - 1, by omega⟩
          have hji : ((m + 1 : Nat) : Int) - 1 = (m : Int) := by omega
          rw [hji]
          have hmS : m < S.length := by rw [ES.out]; omega
          have hmk : (m : Int) < (k : Int) := by omega
          have hm0 : (0 : Int) ≤ (m : Int) := by omega
          have hwm : IntKind.i64.wrap ((m : Int) - 1) = (m : Int) - 1 := by rw [IntKind.wrap_i64]; omega
          rcases V9.out.a.pts.at_ with h0 | ⟨g, off, rfl, hg, hx⟩
          · rw [h0] at hmS; simp at hmS
          · have hxm := (hx m hmS).below HB1.out hg
            have hrs := rev_step hmS
            obtain ⟨p, hp⟩ : ∃ p, S[m] = p := ⟨_, rfl⟩
            rw [hp] at hxm hrs
            have HRS := Lib.hid hrs
            have hlr : (S.drop (m + 1)).reverse.length = r := by rw [List.length_reverse, List.length_drop, ES.out]; omega
            have HLR := Lib.hid hlr
            obtain ⟨x0, x1, x2, x3, x4, x5⟩ := hxm
            clear hx hp hrs hlr
            go_wp2_with (at_builtin; refine wpList_appP (w := w10) rfl _ _ rfl w9.heap.size r (.slice at1 r ct1) (S.drop (m + 1)).reverse p w10.heap.size rfl rfl rfl HLR HT1.out (by omega) HB1.out.size ?_; intro a6 c6 w6 hrow6 _ hb6 _; have HR6 := Lib.hid hrow6.out; have HB6 := Lib.hid (HB1.out.trans hb6); clear hrow6 hb6)
            clear x0 x1 x2 x3 x4 x5
            go_roundw
            case rel => exact ⟨m, r + 1, a6, c6, by omega, by omega, rfl, rfl, Lib.hid (by rw [HRS.out]; exact HR6.out), HB6⟩
            case measure => first | (simp [intOf]; done) | (simp [intOf]; omega)
        · obtain rfl : j = 0 := by omega
          obtain rfl : r = k := by omega
          have hrev := HT1.out
          rw [List.drop_zero] at hrev
          have V10 := Lib.hid ((V9.out.later HB1.out).setc hrev.lst)
          clear hrev HT1 HB1
          go_wp2_with (first
            | (go_at_call 13; (with_reducible refine (kst _ _ _ V10.out.c).mono ?_); rintro e w11 ⟨v, rfl, hR, hb11⟩; (have hsl := hR.slice); (obtain ⟨a11, c11, rfl⟩ := hsl); (rw [EX.out] at hR ⊢); (have V11 := Lib.hid ((V10.out.later hb11).setd hR.lst)); clear hR hb11 kst)
            | (go_at_call 12; (with_reducible refine (kqX _ _ _ _ _ V11.out.b.pts V11.out.d.pts (by omega)).mono ?_); rintro e w12 ⟨rfl, hb12⟩; (have V12 := Lib.hid (((V11.out.later hb12).setc (Lst.nil _ _)).setd (Lst.nil _ _))); clear hb12))
          have HP1 := Lib.hid (fun wr (h : Live w wr a7 c7 S q9 c9 X none 0 [] none 0 []) => show Lst wr wr.heap.size a7 c7 S1 by have := h.a.to_ (hi := na) (by rw [ES.out]; omega); rwa [cutP_zero, H1.out] at this)
          have hc7 : r ≤ c7 := by have := HU.out.2.1; rw [EL.out] at this; exact this
          have kt1 := fun w => at_to0 a7 r c7 na (na : Int) rfl (by omega) w
          have kt1' := fun w => cut_to0 a7 r c7 na (na : Int) rfl (by omega) w
          have kt2 := fun w => at_mid a7 r c7 na y (na : Int) (y : Int) rfl rfl (by omega) (by omega) w
          have kt2' := fun w => cut_mid a7 r c7 na y (na : Int) (y : Int) rfl rfl (by omega) (by omega) w
          have kt3 := fun w => at_from a7 r c7 y (y : Int) rfl (by omega) w
          have kt3' := fun w => cut_from a7 r c7 y (y : Int) rfl (by omega) w
          have HP2 := Lib.hid (fun wr (h : Live w wr a7 c7 S q9 c9 X none 0 [] none 0 []) => show Lst wr wr.heap.size (cutP a7 na c7) (c7 - na) S2 by have := h.a.cut (lo := na) (hi := y) hnay (by rw [ES.out]; omega); rwa [H2.out] at this)
          have HP3 := Lib.hid (fun wr (h : Live w wr a7 c7 S q9 c9 X none 0 [] none 0 []) => show Lst wr wr.heap.size (cutP a7 y c7) (c7 - y) S3 by have := h.a.from_ (lo := y) (by rw [ES.out]; omega); rwa [H3.out] at this)
          obtain ⟨b2, hb2e⟩ : ∃ b, cutP a7 na c7 = b := ⟨_, rfl⟩
          obtain ⟨b3, hb3e⟩ : ∃ b, cutP a7 y c7 = b := ⟨_, rfl⟩
          obtain ⟨d2, hd2e⟩ : ∃ b, c7 - na = b := ⟨_, rfl⟩
          obtain ⟨d3, hd3e⟩ : ∃ b, c7 - y = b := ⟨_, rfl⟩
          rw [hb2e, hd2e] at kt2 kt2' HP2
          rw [hb3e, hd3e] at kt3 kt3' HP3
          rw [HN2.out] at kt2 kt2'
          rw [HN3.out] at kt3 kt3'
          clear hb2e hb3e hd2e hd3e
          go_wp2_with fail
          refine wp_region_held_drew (S := (fun wr => Live w wr a7 c7 S q9 c9 X none 0 [] none 0 [])) (by kernel_rfl) (show Live w w12.drew a7 c7 S q9 c9 X none 0 [] none 0 [] from V12.out.later ((Below.refl _ _).drew)) (fun hHeld => ?_)
          refine wpAnyH_take (i := 0) (oi := ?ly1o) (v := ?ly1v) ?ly1h (by kernel_rfl) (by kernel_rfl) (by kernel_rfl) ?ly1q ?ly1y hHeld ?ly1r
          case ly1h => (simp only [List.getElem?_toArray, List.getElem?_cons_zero]; rfl)
          case ly1q => exact fun _ _ _ h => h
          case ly1y => (refine Or.inl ⟨by first | kernel_rfl | rfl, ?_⟩; intro w hSw; (try dsimp only at hSw); go_simp <;> (try with_reducible rfl))
          try simp only [Act.put, List.setIfInBounds_toArray, List.set_cons_zero, List.set_cons_succ]
          refine wpAnyH_take (i := 1) (oi := ?ly2o) (v := ?ly2v) ?ly2h (by kernel_rfl) (by kernel_rfl) (by kernel_rfl) ?ly2q ?ly2y hHeld ?ly2r
          case ly2h => (simp only [List.getElem?_toArray, List.getElem?_cons_succ, List.getElem?_cons_zero]; rfl)
          case ly2q => exact fun _ _ _ h => h
          case ly2y => (refine Or.inl ⟨by first | kernel_rfl | rfl, ?_⟩; intro w hSw; (try dsimp only at hSw); go_simp <;> (try with_reducible rfl))
          try simp only [Act.put, List.setIfInBounds_toArray, List.set_cons_zero, List.set_cons_succ]
          refine wpAnyH_take (i := 2) (oi := ?ly3o) (v := ?ly3v) ?ly3h (by kernel_rfl) (by kernel_rfl) (by kernel_rfl) ?ly3q ?ly3y hHeld ?ly3r
          case ly3h => (simp only [List.getElem?_toArray, List.getElem?_cons_succ, List.getElem?_cons_zero]; rfl)
          case ly3q => exact fun _ _ _ h => h
          case ly3y => (refine Or.inl ⟨by first | kernel_rfl | rfl, ?_⟩; intro w hSw; (try dsimp only at hSw); go_simp <;> (try with_reducible rfl))
          try simp only [Act.put, List.setIfInBounds_toArray, List.set_cons_zero, List.set_cons_succ]
          refine wpAnyH_take (i := 3) (oi := ?ly4o) (v := ?ly4v) ?ly4h (by kernel_rfl) (by kernel_rfl) (by kernel_rfl) ?ly4q ?ly4y hHeld ?ly4r
          case ly4h => (simp only [List.getElem?_toArray, List.getElem?_cons_succ, List.getElem?_cons_zero]; rfl)
          case ly4q => exact fun _ _ _ h => h
          case ly4y => (refine Or.inl ⟨by first | kernel_rfl | rfl, ?_⟩; intro w hSw; (try dsimp only at hSw); go_simp <;> (try with_reducible rfl))
          try simp only [Act.put, List.setIfInBounds_toArray, List.set_cons_zero, List.set_cons_succ]
          refine wpAnyH_take (i := 4) (oi := ?ly5o) (v := ?ly5v) ?ly5h (by kernel_rfl) (by kernel_rfl) (by kernel_rfl) ?ly5q ?ly5y hHeld ?ly5r
          case ly5h => (simp only [List.getElem?_toArray, List.getElem?_cons_succ, List.getElem?_cons_zero]; rfl)
          case ly5q => exact fun _ _ _ h => h
          case ly5y => (refine Or.inl ⟨by first | kernel_rfl | rfl, ?_⟩; intro w hSw; (try dsimp only at hSw); go_simp <;> (try with_reducible rfl))
          try simp only [Act.put, List.setIfInBounds_toArray, List.set_cons_zero, List.set_cons_succ]
          refine wpAnyH_take (i := 5) (oi := ?ly6o) (v := ?ly6v) ?ly6h (by kernel_rfl) (by kernel_rfl) (by kernel_rfl) ?ly6q ?ly6y hHeld ?ly6r
          case ly6h => (simp only [List.getElem?_toArray, List.getElem?_cons_succ, List.getElem?_cons_zero]; rfl)
          case ly6q => exact fun _ _ _ h => h
          case ly6y => (refine Or.inl ⟨by first | kernel_rfl | rfl, ?_⟩; intro w hSw; (try dsimp only at hSw); go_simp <;> (try with_reducible rfl))
          try simp only [Act.put, List.setIfInBounds_toArray, List.set_cons_zero, List.set_cons_succ]
          refine wpAnyH_take (i := 6) (oi := ?ly7o) (v := ?ly7v) ?ly7h (by kernel_rfl) (by kernel_rfl) (by kernel_rfl) ?ly7q ?ly7y hHeld ?ly7r
          case ly7h => (simp only [List.getElem?_toArray, List.getElem?_cons_succ, List.getElem?_cons_zero]; rfl)
          case ly7q => exact fun _ _ _ h => h
          case ly7y => (refine Or.inl ⟨by first | kernel_rfl | rfl, ?_⟩; intro w hSw; (try dsimp only at hSw); go_simp <;> (try with_reducible rfl))
          try simp only [Act.put, List.setIfInBounds_toArray, List.set_cons_zero, List.set_cons_succ]
          refine wpAnyH_take (i := 7) (oi := ?ly8o) (v := ?ly8v) ?ly8h (by kernel_rfl) (by kernel_rfl) (by kernel_rfl) ?ly8q ?ly8y hHeld ?ly8r
          case ly8h => (simp only [List.getElem?_toArray, List.getElem?_cons_succ, List.getElem?_cons_zero]; rfl)
          case ly8q => exact fun _ _ _ h => h
          case ly8y => (refine Or.inl ⟨by first | kernel_rfl | rfl, ?_⟩; intro w hSw; (try dsimp only at hSw); go_simp <;> (try with_reducible rfl))
          try simp only [Act.put, List.setIfInBounds_toArray, List.set_cons_zero, List.set_cons_succ]
          refine wpAnyH_take (i := 10) (oi := ?ly9o) (v := ?ly9v) ?ly9h (by kernel_rfl) (by kernel_rfl) (by kernel_rfl) ?ly9q ?ly9y hHeld ?ly9r
          case ly9h => (simp only [List.getElem?_toArray, List.getElem?_cons_succ, List.getElem?_cons_zero]; rfl)
          case ly9q => exact fun _ _ _ h => h
          case ly9y => (refine Or.inl ⟨by first | kernel_rfl | rfl, ?_⟩; intro w hSw; (try dsimp only at hSw); go_simp <;> (try with_reducible rfl))
          try simp only [Act.put, List.setIfInBounds_toArray, List.set_cons_zero, List.set_cons_succ]
          refine wpAnyH_take (i := 11) (oi := ?ly10o) (v := ?ly10v) ?ly10h (by kernel_rfl) (by kernel_rfl) (by kernel_rfl) ?ly10q ?ly10y hHeld ?ly10r
          case ly10h => (simp only [List.getElem?_toArray, List.getElem?_cons_succ, List.getElem?_cons_zero]; rfl)
          case ly10q => exact fun _ _ _ h => h
          case ly10y => (refine Or.inl ⟨by first | kernel_rfl | rfl, ?_⟩; intro w hSw; (try dsimp only at hSw); go_simp <;> (try with_reducible rfl))
          try simp only [Act.put, List.setIfInBounds_toArray, List.set_cons_zero, List.set_cons_succ]
          refine wpAnyH_take (i := 12) (oi := ?ly11o) (v := ?ly11v) ?ly11h (by kernel_rfl) (by kernel_rfl) (by kernel_rfl) ?ly11q ?ly11y hHeld ?ly11r
          case ly11h => (simp only [List.getElem?_toArray, List.getElem?_cons_succ, List.getElem?_cons_zero]; rfl)
          case ly11q => exact fun _ _ _ h => h
          case ly11y => (refine Or.inl ⟨by first | kernel_rfl | rfl, ?_⟩; intro w hSw; (try dsimp only at hSw); go_simp <;> (try with_reducible rfl))
          try simp only [Act.put, List.setIfInBounds_toArray, List.set_cons_zero, List.set_cons_succ]
          refine wpAnyH_ready (rs := [8]) (by kernel_rfl) (by simp) ?_
          refine (AllReadyH.cons rfl (fun K hK => ?_) AllReadyH.nil)
          go_simp
          (have hLL := two_lists (HP1.out _ hHeld) (HP2.out _ hHeld) E1.out E2.out)
          refine hK.out _ _ (hHeld.later ((Below.refl _ _).alloc (Nat.le_refl _) _)) (fun hHeld => ?_)
          clear hK K
          try simp only [Act.put, List.setIfInBounds_toArray, List.set_cons_zero, List.set_cons_succ]
          refine wpAnyH_ready (rs := [9]) (by kernel_rfl) (by simp) ?_
          refine (AllReadyH.cons rfl (fun K hK => ?_) AllReadyH.nil)
          go_simp
          ((refine (km12 _ _ _ hLL).mono ?_); rintro e w13 ⟨v, rfl, hR, hb13⟩; (have hsl := hR.slice); (obtain ⟨a13, c13, rfl⟩ := hsl); have HX13 := Lib.hid hR.lst)
          refine hK.out _ _ (hHeld.later hb13) (fun hHeld => ?_)
          clear hK K
          try simp only [Act.put, List.setIfInBounds_toArray, List.set_cons_zero, List.set_cons_succ]
          refine wpAnyH_ready (rs := [13]) (by kernel_rfl) (by simp) ?_
          refine (AllReadyH.cons rfl (fun K hK => ?_) AllReadyH.nil)
          go_simp
          (have hLL2 := two_lists HX13.out (HP3.out _ hHeld) rfl E3.out)
          refine hK.out _ _ (hHeld.later ((Below.refl _ _).alloc (Nat.le_refl _) _)) (fun hHeld => ?_)
          clear hK K
          try simp only [Act.put, List.setIfInBounds_toArray, List.set_cons_zero, List.set_cons_succ]
          refine wpAnyH_ready (rs := [14]) (by kernel_rfl) (by simp) ?_
          refine (AllReadyH.cons rfl (fun K hK => ?_) AllReadyH.nil)
          go_simp
          ((refine (km123 _ _ _ hLL2).mono ?_); rintro e w14 ⟨v, rfl, hR2, hb14⟩; (have hsl := hR2.slice); (obtain ⟨a14, c14, rfl⟩ := hsl); (rw [EX.out] at hR2 ⊢); have HX14 := Lib.hid hR2.lst)
          refine hK.out _ _ (hHeld.later hb14) (fun hHeld => ?_)
          clear hK K
          try simp only [Act.put, List.setIfInBounds_toArray, List.set_cons_zero, List.set_cons_succ]
          refine wpAnyH_ready (rs := [15]) (by kernel_rfl) (by simp) ?_
          refine (AllReadyH.cons rfl (fun K hK => ?_) AllReadyH.nil)
          go_simp
          ((with_reducible refine (kqX _ _ _ _ _ hHeld.b.pts HX14.out.pts (by omega)).mono ?_); rintro e w15 ⟨rfl, hb15⟩)
          refine hK.out _ _ (hHeld.later hb15) (fun hHeld => ?_)
          clear hK K
          try simp only [Act.put, List.setIfInBounds_toArray, List.set_cons_zero, List.set_cons_succ]
          refine wpAnyH_take (i := 16) (oi := ?ly12o) (v := ?ly12v) ?ly12h (by kernel_rfl) (by kernel_rfl) (by kernel_rfl) ?ly12q ?ly12y hHeld ?ly12r
          case ly12h => (simp only [List.getElem?_toArray, List.getElem?_cons_succ, List.getElem?_cons_zero]; rfl)
          case ly12q => exact fun _ _ _ h => h
          case ly12y => (refine Or.inl ⟨by first | kernel_rfl | rfl, ?_⟩; intro w hSw; (try dsimp only at hSw); go_simp <;> (try with_reducible rfl))
          try simp only [Act.put, List.setIfInBounds_toArray, List.set_cons_zero, List.set_cons_succ]
          refine wpAnyH_done (by kernel_rfl) ?_ _
          have V15 := Lib.hid hHeld
          clear hHeld
          go_wp2_with fail
          refine wp_region_held_drew (S := (fun wr => Live w wr a7 c7 S q9 c9 X none 0 [] none 0 [])) (by kernel_rfl) (show Live w w15.drew a7 c7 S q9 c9 X none 0 [] none 0 [] from V15.out.later ((Below.refl _ _).drew)) (fun hHeld => ?_)
          refine wpAnyH_take (i := 0) (oi := ?lz1o) (v := ?lz1v) ?lz1h (by kernel_rfl) (by kernel_rfl) (by kernel_rfl) ?lz1q ?lz1y hHeld ?lz1r
          case lz1h => (simp only [List.getElem?_toArray, List.getElem?_cons_zero]; rfl)
          case lz1q => exact fun _ _ _ h => h
          case lz1y => (refine Or.inl ⟨by first | kernel_rfl | rfl, ?_⟩; intro w hSw; (try dsimp only at hSw); go_simp <;> (try with_reducible rfl))
          try simp only [Act.put, List.setIfInBounds_toArray, List.set_cons_zero, List.set_cons_succ]
          refine wpAnyH_take (i := 1) (oi := ?lz2o) (v := ?lz2v) ?lz2h (by kernel_rfl) (by kernel_rfl) (by kernel_rfl) ?lz2q ?lz2y hHeld ?lz2r
          case lz2h => (simp only [List.getElem?_toArray, List.getElem?_cons_succ, List.getElem?_cons_zero]; rfl)
          case lz2q => exact fun _ _ _ h => h
          case lz2y => (refine Or.inl ⟨by first | kernel_rfl | rfl, ?_⟩; intro w hSw; (try dsimp only at hSw); go_simp <;> (try with_reducible rfl))
          try simp only [Act.put, List.setIfInBounds_toArray, List.set_cons_zero, List.set_cons_succ]
          refine wpAnyH_take (i := 2) (oi := ?lz3o) (v := ?lz3v) ?lz3h (by kernel_rfl) (by kernel_rfl) (by kernel_rfl) ?lz3q ?lz3y hHeld ?lz3r
          case lz3h => (simp only [List.getElem?_toArray, List.getElem?_cons_succ, List.getElem?_cons_zero]; rfl)
          case lz3q => exact fun _ _ _ h => h
          case lz3y => (refine Or.inl ⟨by first | kernel_rfl | rfl, ?_⟩; intro w hSw; (try dsimp only at hSw); go_simp <;> (try with_reducible rfl))
          try simp only [Act.put, List.setIfInBounds_toArray, List.set_cons_zero, List.set_cons_succ]
          refine wpAnyH_take (i := 3) (oi := ?lz4o) (v := ?lz4v) ?lz4h (by kernel_rfl) (by kernel_rfl) (by kernel_rfl) ?lz4q ?lz4y hHeld ?lz4r
          case lz4h => (simp only [List.getElem?_toArray, List.getElem?_cons_succ, List.getElem?_cons_zero]; rfl)
          case lz4q => exact fun _ _ _ h => h
          case lz4y => (refine Or.inl ⟨by first | kernel_rfl | rfl, ?_⟩; intro w hSw; (try dsimp only at hSw); go_simp <;> (try with_reducible rfl))
          try simp only [Act.put, List.setIfInBounds_toArray, List.set_cons_zero, List.set_cons_succ]
          refine wpAnyH_take (i := 4) (oi := ?lz5o) (v := ?lz5v) ?lz5h (by kernel_rfl) (by kernel_rfl) (by kernel_rfl) ?lz5q ?lz5y hHeld ?lz5r
          case lz5h => (simp only [List.getElem?_toArray, List.getElem?_cons_succ, List.getElem?_cons_zero]; rfl)
          case lz5q => exact fun _ _ _ h => h
          case lz5y => (refine Or.inl ⟨by first | kernel_rfl | rfl, ?_⟩; intro w hSw; (try dsimp only at hSw); go_simp <;> (try with_reducible rfl))
          try simp only [Act.put, List.setIfInBounds_toArray, List.set_cons_zero, List.set_cons_succ]
          refine wpAnyH_take (i := 5) (oi := ?lz6o) (v := ?lz6v) ?lz6h (by kernel_rfl) (by kernel_rfl) (by kernel_rfl) ?lz6q ?lz6y hHeld ?lz6r
          case lz6h => (simp only [List.getElem?_toArray, List.getElem?_cons_succ, List.getElem?_cons_zero]; rfl)
          case lz6q => exact fun _ _ _ h => h
          case lz6y => (refine Or.inl ⟨by first | kernel_rfl | rfl, ?_⟩; intro w hSw; (try dsimp only at hSw); go_simp <;> (try with_reducible rfl))
          try simp only [Act.put, List.setIfInBounds_toArray, List.set_cons_zero, List.set_cons_succ]
          refine wpAnyH_take (i := 6) (oi := ?lz7o) (v := ?lz7v) ?lz7h (by kernel_rfl) (by kernel_rfl) (by kernel_rfl) ?lz7q ?lz7y hHeld ?lz7r
          case lz7h => (simp only [List.getElem?_toArray, List.getElem?_cons_succ, List.getElem?_cons_zero]; rfl)
          case lz7q => exact fun _ _ _ h => h
          case lz7y => (refine Or.inl ⟨by first | kernel_rfl | rfl, ?_⟩; intro w hSw; (try dsimp only at hSw); go_simp <;> (try with_reducible rfl))
          try simp only [Act.put, List.setIfInBounds_toArray, List.set_cons_zero, List.set_cons_succ]
          refine wpAnyH_take (i := 7) (oi := ?lz8o) (v := ?lz8v) ?lz8h (by kernel_rfl) (by kernel_rfl) (by kernel_rfl) ?lz8q ?lz8y hHeld ?lz8r
          case lz8h => (simp only [List.getElem?_toArray, List.getElem?_cons_succ, List.getElem?_cons_zero]; rfl)
          case lz8q => exact fun _ _ _ h => h
          case lz8y => (refine Or.inl ⟨by first | kernel_rfl | rfl, ?_⟩; intro w hSw; (try dsimp only at hSw); go_simp <;> (try with_reducible rfl))
          try simp only [Act.put, List.setIfInBounds_toArray, List.set_cons_zero, List.set_cons_succ]
          refine wpAnyH_take (i := 8) (oi := ?lz9o) (v := ?lz9v) ?lz9h (by kernel_rfl) (by kernel_rfl) (by kernel_rfl) ?lz9q ?lz9y hHeld ?lz9r
          case lz9h => (simp only [List.getElem?_toArray, List.getElem?_cons_succ, List.getElem?_cons_zero]; rfl)
          case lz9q => exact fun _ _ _ h => h
          case lz9y => (refine Or.inl ⟨by first | kernel_rfl | rfl, ?_⟩; intro w hSw; (try dsimp only at hSw); go_simp <;> (try with_reducible rfl))
          try simp only [Act.put, List.setIfInBounds_toArray, List.set_cons_zero, List.set_cons_succ]
          refine wpAnyH_take (i := 9) (oi := ?lz10o) (v := ?lz10v) ?lz10h (by kernel_rfl) (by kernel_rfl) (by kernel_rfl) ?lz10q ?lz10y hHeld ?lz10r
          case lz10h => (simp only [List.getElem?_toArray, List.getElem?_cons_succ, List.getElem?_cons_zero]; rfl)
          case lz10q => exact fun _ _ _ h => h
          case lz10y => (refine Or.inl ⟨by first | kernel_rfl | rfl, ?_⟩; intro w hSw; (try dsimp only at hSw); go_simp <;> (try with_reducible rfl))
          try simp only [Act.put, List.setIfInBounds_toArray, List.set_cons_zero, List.set_cons_succ]
          refine wpAnyH_take (i := 10) (oi := ?lz11o) (v := ?lz11v) ?lz11h (by kernel_rfl) (by kernel_rfl) (by kernel_rfl) ?lz11q ?lz11y hHeld ?lz11r
          case lz11h => (simp only [List.getElem?_toArray, List.getElem?_cons_succ, List.getElem?_cons_zero]; rfl)
          case lz11q => exact fun _ _ _ h => h
          case lz11y => (refine Or.inl ⟨by first | kernel_rfl | rfl, ?_⟩; intro w hSw; (try dsimp only at hSw); go_simp <;> (try with_reducible rfl))
          try simp only [Act.put, List.setIfInBounds_toArray, List.set_cons_zero, List.set_cons_succ]
          refine wpAnyH_ready (rs := [11]) (by kernel_rfl) (by simp) ?_
          refine (AllReadyH.cons rfl (fun K hK => ?_) AllReadyH.nil)
          go_simp
          (have hLL := two_lists (HP3.out _ hHeld) (HP2.out _ hHeld) E3.out E2.out)
          refine hK.out _ _ (hHeld.later ((Below.refl _ _).alloc (Nat.le_refl _) _)) (fun hHeld => ?_)
          clear hK K
          try simp only [Act.put, List.setIfInBounds_toArray, List.set_cons_zero, List.set_cons_succ]
          refine wpAnyH_ready (rs := [12]) (by kernel_rfl) (by simp) ?_
          refine (AllReadyH.cons rfl (fun K hK => ?_) AllReadyH.nil)
          go_simp
          ((refine (km32 _ _ _ hLL).mono ?_); rintro e w16 ⟨v, rfl, hR, hb16⟩; (have hsl := hR.slice); (obtain ⟨a16, c16, rfl⟩ := hsl); have HX16 := Lib.hid hR.lst)
          refine hK.out _ _ (hHeld.later hb16) (fun hHeld => ?_)
          clear hK K
          try simp only [Act.put, List.setIfInBounds_toArray, List.set_cons_zero, List.set_cons_succ]
          refine wpAnyH_ready (rs := [13]) (by kernel_rfl) (by simp) ?_
          refine (AllReadyH.cons rfl (fun K hK => ?_) AllReadyH.nil)
          go_simp
          (have hLL2 := two_lists (HP1.out _ hHeld) HX16.out E1.out rfl)
          refine hK.out _ _ (hHeld.later ((Below.refl _ _).alloc (Nat.le_refl _) _)) (fun hHeld => ?_)
          clear hK K
          try simp only [Act.put, List.setIfInBounds_toArray, List.set_cons_zero, List.set_cons_succ]
          refine wpAnyH_ready (rs := [14]) (by kernel_rfl) (by simp) ?_
          refine (AllReadyH.cons rfl (fun K hK => ?_) AllReadyH.nil)
          go_simp
          ((refine (km132 _ _ _ hLL2).mono ?_); rintro e w17 ⟨v, rfl, hR2, hb17⟩; (have hsl := hR2.slice); (obtain ⟨a17, c17, rfl⟩ := hsl); (rw [EX.out] at hR2 ⊢); have HX17 := Lib.hid hR2.lst)
          refine hK.out _ _ (hHeld.later hb17) (fun hHeld => ?_)
          clear hK K
          try simp only [Act.put, List.setIfInBounds_toArray, List.set_cons_zero, List.set_cons_succ]
          refine wpAnyH_ready (rs := [15]) (by kernel_rfl) (by simp) ?_
          refine (AllReadyH.cons rfl (fun K hK => ?_) AllReadyH.nil)
          go_simp
          ((with_reducible refine (kqX _ _ _ _ _ hHeld.b.pts HX17.out.pts (by omega)).mono ?_); rintro e w18 ⟨rfl, hb18⟩)
          refine hK.out _ _ (hHeld.later hb18) (fun hHeld => ?_)
          clear hK K
          try simp only [Act.put, List.setIfInBounds_toArray, List.set_cons_zero, List.set_cons_succ]
          refine wpAnyH_take (i := 16) (oi := ?lz12o) (v := ?lz12v) ?lz12h (by kernel_rfl) (by kernel_rfl) (by kernel_rfl) ?lz12q ?lz12y hHeld ?lz12r
          case lz12h => (simp only [List.getElem?_toArray, List.getElem?_cons_succ, List.getElem?_cons_zero]; rfl)
          case lz12q => exact fun _ _ _ h => h
          case lz12y => (refine Or.inl ⟨by first | kernel_rfl | rfl, ?_⟩; intro w hSw; (try dsimp only at hSw); go_simp <;> (try with_reducible rfl))
          try simp only [Act.put, List.setIfInBounds_toArray, List.set_cons_zero, List.set_cons_succ]
          refine wpAnyH_done (by kernel_rfl) ?_ _
          have V18 := Lib.hid hHeld
          clear hHeld
          go_wp2_with (first
            | (go_at_call 13; (with_reducible refine (ksx _ _ _ V18.out.b).mono ?_); rintro e w19 ⟨v, rfl, hR, hb19⟩; (have hsl := hR.slice); (obtain ⟨a19, c19, rfl⟩ := hsl); (rw [EX.out] at hR ⊢); (have V19 := Lib.hid ((V18.out.later hb19).setd hR.lst)); clear hR hb19 ksx)
            | (go_at_call 12; (with_reducible refine (kqX _ _ _ _ _ V19.out.b.pts V19.out.d.pts (by omega)).mono ?_); rintro e w20 ⟨rfl, hb20⟩; (have V20 := Lib.hid ((V19.out.later hb20).setd (Lst.nil _ _))); clear hb20)
            | (go_at_call 16; (with_reducible refine (kso _ _ _ V20.out.b).mono ?_); rintro e w21 ⟨rfl, hb21⟩; (have V21 := Lib.hid (V20.out.later hb21)); clear hb21))
          try clear V20
          try clear V19
          try clear V18
          try clear V15
          try clear V12
          try clear V11
          try clear V10
          try clear V9
          try clear V8
          try clear kt1
          try clear kt1'
          try clear kt2
          try clear kt2'
          try clear kt3
          try clear kt3'
          try clear HP1
          try clear HP2
          try clear HP3
          try clear hc7
          try clear hkm1
          try clear HU
          try clear D7
          try clear D6
          try clear D5
          try clear D4
          try clear D3
          try clear D2
          try clear HR7
          try clear HR6
          try clear HR5
          try clear HR4
          try clear HR3
          try clear HR2
          try clear HS6
          try clear HS4
          try clear Pc5
          try clear Pc2
          try clear Pb3
          try clear Pb2
          try clear Pc1
          try clear Pb1
          try clear Pa1
          try clear B2
          try clear B1
          try clear T1
          try clear HT
          try clear HPa
          try clear HPb
          try clear HPc
          try clear HX13
          try clear HX14
          try clear HX16
          try clear HX17
          try clear hLL
          try clear hLL2
          try clear hb13
          try clear hb14
          try clear hb15
          try clear hb16
          try clear hb17
          try clear hb18
          try clear hR
          try clear hR2
          try clear kqX
          try clear kso
          try clear kst
          try clear ks
          try clear ksx
          try clear km12
          try clear km32
          try clear km123
          try clear km132
          try clear kfa
          try clear kfb
          try clear kfc
          try clear E1
          try clear E2
          try clear E3
          try clear H1
          try clear H2
          try clear H3
          try clear ER
          try clear EA
          try clear EB
          try clear EC
          try clear HL
          try clear EL
          try clear HS
          try clear HY
          try clear HN
          try clear HN2
          try clear HN3
          go_loopw [19] (fun i wr => ∃ (k : Nat), k ≤ r ∧ i = .int .i64 (k : Int) ∧ Hid (Live w wr a7 c7 S q9 c9 X none 0 [] none 0 [])) (fun i _ => r - (intOf i).toNat)
          case atStart => exact ⟨0, by omega, rfl, V21⟩
          case round =>
            obtain ⟨k, hk, rfl, V⟩ := hrel
            clear V21
            obtain ⟨w22, hw22⟩ : ∃ x, x = wr := ⟨_, rfl⟩
            subst hw22
            by_cases hlt : k < r
            · have hlti : (k : Int) < (r : Int) := by omega
              have hkS : k < S.length := by rw [ES.out]; exact hlt
              obtain ⟨z, hz1, hz2⟩ := HTOP.out _ (List.getElem_mem hkS)
              rcases V.out.a.pts.at_ with h0 | ⟨g, off, hae, hg, hx⟩
              · rw [h0] at hkS; simp at hkS
              · have hxk := hx k hkS
                obtain ⟨y0, hy0⟩ : ∃ y, S[k] = y := ⟨_, rfl⟩
                obtain ⟨io, hio⟩ : ∃ io, off + k * 6 = io := ⟨_, rfl⟩
                rw [hy0] at hz1 hz2
                rw [hy0, hio] at hxk
                have HPO := Lib.hid hxk
                have HG := Lib.hid hg
                have kf := fun a c w h => kfi a c y0.s y0.t w h
                rw [hz1] at kf
                dsimp only at kf
                have kn := fun w => rnewer_is y0 z false w (Lib.hid hz2)
                unfold ptV at kf kn
                have HB22 := Lib.hid (Below.refl w22.heap.size w22)
                clear hx hxk hy0 hz1 hz2
                subst hae
                go_wp2_with fail
                refine wp_region_held_drew (S := (Below w22.heap.size w22)) (by kernel_rfl) HB22.out.drew (fun hHeld => ?_)
                refine wpAnyH_take (i := 0) (oi := ?lu1o) (v := ?lu1v) ?lu1h (by kernel_rfl) (by kernel_rfl) (by kernel_rfl) ?lu1q ?lu1y hHeld ?lu1r
                case lu1h => (simp only [List.getElem?_toArray, List.getElem?_cons_zero]; rfl)
                case lu1q => exact fun _ _ _ h => h
                case lu1y => (refine Or.inl ⟨by first | kernel_rfl | rfl, ?_⟩; intro w hSw; (try dsimp only at hSw); have hPO := HPO.out.below hSw HG.out; obtain ⟨c0', c1', c2', c3', c4', c5'⟩ := hPO; go_simp <;> (try with_reducible rfl))
                try simp only [Act.put, List.setIfInBounds_toArray, List.set_cons_zero, List.set_cons_succ]
                refine wpAnyH_take (i := 1) (oi := ?lu2o) (v := ?lu2v) ?lu2h (by kernel_rfl) (by kernel_rfl) (by kernel_rfl) ?lu2q ?lu2y hHeld ?lu2r
                case lu2h => (simp only [List.getElem?_toArray, List.getElem?_cons_succ, List.getElem?_cons_zero]; rfl)
                case lu2q => exact fun _ _ _ h => h
                case lu2y => (refine Or.inl ⟨by first | kernel_rfl | rfl, ?_⟩; intro w hSw; (try dsimp only at hSw); have hPO := HPO.out.below hSw HG.out; obtain ⟨c0', c1', c2', c3', c4', c5'⟩ := hPO; go_simp <;> (try with_reducible rfl))
                try simp only [Act.put, List.setIfInBounds_toArray, List.set_cons_zero, List.set_cons_succ]
                refine wpAnyH_take (i := 2) (oi := ?lu3o) (v := ?lu3v) ?lu3h (by kernel_rfl) (by kernel_rfl) (by kernel_rfl) ?lu3q ?lu3y hHeld ?lu3r
                case lu3h => (simp only [List.getElem?_toArray, List.getElem?_cons_succ, List.getElem?_cons_zero]; rfl)
                case lu3q => exact fun _ _ _ h => h
                case lu3y => (refine Or.inl ⟨by first | kernel_rfl | rfl, ?_⟩; intro w hSw; (try dsimp only at hSw); have hPO := HPO.out.below hSw HG.out; obtain ⟨c0', c1', c2', c3', c4', c5'⟩ := hPO; go_simp <;> (try with_reducible rfl))
                try simp only [Act.put, List.setIfInBounds_toArray, List.set_cons_zero, List.set_cons_succ]
                refine wpAnyH_take (i := 3) (oi := ?lu4o) (v := ?lu4v) ?lu4h (by kernel_rfl) (by kernel_rfl) (by kernel_rfl) ?lu4q ?lu4y hHeld ?lu4r
                case lu4h => (simp only [List.getElem?_toArray, List.getElem?_cons_succ, List.getElem?_cons_zero]; rfl)
                case lu4q => exact fun _ _ _ h => h
                case lu4y => (refine Or.inl ⟨by first | kernel_rfl | rfl, ?_⟩; intro w hSw; (try dsimp only at hSw); have hPO := HPO.out.below hSw HG.out; obtain ⟨c0', c1', c2', c3', c4', c5'⟩ := hPO; go_simp <;> (try with_reducible rfl))
                try simp only [Act.put, List.setIfInBounds_toArray, List.set_cons_zero, List.set_cons_succ]
                refine wpAnyH_take (i := 4) (oi := ?lu5o) (v := ?lu5v) ?lu5h (by kernel_rfl) (by kernel_rfl) (by kernel_rfl) ?lu5q ?lu5y hHeld ?lu5r
                case lu5h => (simp only [List.getElem?_toArray, List.getElem?_cons_succ, List.getElem?_cons_zero]; rfl)
                case lu5q => exact fun _ _ _ h => h
                case lu5y => (refine Or.inl ⟨by first | kernel_rfl | rfl, ?_⟩; intro w hSw; (try dsimp only at hSw); have hPO := HPO.out.below hSw HG.out; obtain ⟨c0', c1', c2', c3', c4', c5'⟩ := hPO; go_simp <;> (try with_reducible rfl))
                try simp only [Act.put, List.setIfInBounds_toArray, List.set_cons_zero, List.set_cons_succ]
                refine wpAnyH_take (i := 5) (oi := ?lu6o) (v := ?lu6v) ?lu6h (by kernel_rfl) (by kernel_rfl) (by kernel_rfl) ?lu6q ?lu6y hHeld ?lu6r
                case lu6h => (simp only [List.getElem?_toArray, List.getElem?_cons_succ, List.getElem?_cons_zero]; rfl)
                case lu6q => exact fun _ _ _ h => h
                case lu6y => (refine Or.inl ⟨by first | kernel_rfl | rfl, ?_⟩; intro w hSw; (try dsimp only at hSw); have hPO := HPO.out.below hSw HG.out; obtain ⟨c0', c1', c2', c3', c4', c5'⟩ := hPO; go_simp <;> (try with_reducible rfl))
                try simp only [Act.put, List.setIfInBounds_toArray, List.set_cons_zero, List.set_cons_succ]
                refine wpAnyH_take (i := 6) (oi := ?lu7o) (v := ?lu7v) ?lu7h (by kernel_rfl) (by kernel_rfl) (by kernel_rfl) ?lu7q ?lu7y hHeld ?lu7r
                case lu7h => (simp only [List.getElem?_toArray, List.getElem?_cons_succ, List.getElem?_cons_zero]; rfl)
                case lu7q => exact fun _ _ _ h => h
                case lu7y => (refine Or.inl ⟨by first | kernel_rfl | rfl, ?_⟩; intro w hSw; (try dsimp only at hSw); have hPO := HPO.out.below hSw HG.out; obtain ⟨c0', c1', c2', c3', c4', c5'⟩ := hPO; go_simp <;> (try with_reducible rfl))
                try simp only [Act.put, List.setIfInBounds_toArray, List.set_cons_zero, List.set_cons_succ]
                refine wpAnyH_take (i := 7) (oi := ?lu8o) (v := ?lu8v) ?lu8h (by kernel_rfl) (by kernel_rfl) (by kernel_rfl) ?lu8q ?lu8y hHeld ?lu8r
                case lu8h => (simp only [List.getElem?_toArray, List.getElem?_cons_succ, List.getElem?_cons_zero]; rfl)
                case lu8q => exact fun _ _ _ h => h
                case lu8y => (refine Or.inl ⟨by first | kernel_rfl | rfl, ?_⟩; intro w hSw; (try dsimp only at hSw); have hPO := HPO.out.below hSw HG.out; obtain ⟨c0', c1', c2', c3', c4', c5'⟩ := hPO; go_simp <;> (try with_reducible rfl))
                try simp only [Act.put, List.setIfInBounds_toArray, List.set_cons_zero, List.set_cons_succ]
                refine wpAnyH_take (i := 8) (oi := ?lu9o) (v := ?lu9v) ?lu9h (by kernel_rfl) (by kernel_rfl) (by kernel_rfl) ?lu9q ?lu9y hHeld ?lu9r
                case lu9h => (simp only [List.getElem?_toArray, List.getElem?_cons_succ, List.getElem?_cons_zero]; rfl)
                case lu9q => exact fun _ _ _ h => h
                case lu9y => (refine Or.inl ⟨by first | kernel_rfl | rfl, ?_⟩; intro w hSw; (try dsimp only at hSw); have hPO := HPO.out.below hSw HG.out; obtain ⟨c0', c1', c2', c3', c4', c5'⟩ := hPO; go_simp <;> (try with_reducible rfl))
                try simp only [Act.put, List.setIfInBounds_toArray, List.set_cons_zero, List.set_cons_succ]
                refine wpAnyH_take (i := 9) (oi := ?lu10o) (v := ?lu10v) ?lu10h (by kernel_rfl) (by kernel_rfl) (by kernel_rfl) ?lu10q ?lu10y hHeld ?lu10r
                case lu10h => (simp only [List.getElem?_toArray, List.getElem?_cons_succ, List.getElem?_cons_zero]; rfl)
                case lu10q => exact fun _ _ _ h => h
                case lu10y => (refine Or.inl ⟨by first | kernel_rfl | rfl, ?_⟩; intro w hSw; (try dsimp only at hSw); have hPO := HPO.out.below hSw HG.out; obtain ⟨c0', c1', c2', c3', c4', c5'⟩ := hPO; go_simp <;> (try with_reducible rfl))
                try simp only [Act.put, List.setIfInBounds_toArray, List.set_cons_zero, List.set_cons_succ]
                refine wpAnyH_take (i := 10) (oi := ?lu11o) (v := ?lu11v) ?lu11h (by kernel_rfl) (by kernel_rfl) (by kernel_rfl) ?lu11q ?lu11y hHeld ?lu11r
                case lu11h => (simp only [List.getElem?_toArray, List.getElem?_cons_succ, List.getElem?_cons_zero]; rfl)
                case lu11q => exact fun _ _ _ h => h
                case lu11y => (refine Or.inl ⟨by first | kernel_rfl | rfl, ?_⟩; intro w hSw; (try dsimp only at hSw); have hPO := HPO.out.below hSw HG.out; obtain ⟨c0', c1', c2', c3', c4', c5'⟩ := hPO; go_simp <;> (try with_reducible rfl))
                try simp only [Act.put, List.setIfInBounds_toArray, List.set_cons_zero, List.set_cons_succ]
                refine wpAnyH_ready (rs := [11, 15]) (by kernel_rfl) (by simp) ?_
                refine (AllReadyH.cons rfl (fun K hK => ?_) (AllReadyH.cons rfl (fun K hK => ?_) AllReadyH.nil))
                ·
                  go_simp
                  ((with_reducible refine (kf _ _ _ (V.out.later hHeld).b).mono ?_); rintro e w23 ⟨rfl, hb23⟩)
                  refine hK.out _ _ (bel_next hHeld hb23) (fun hHeld => ?_)
                  clear hK K
                  try simp only [Act.put, List.setIfInBounds_toArray, List.set_cons_zero, List.set_cons_succ]
                  refine wpAnyH_take (i := 12) (oi := ?lu12o) (v := ?lu12v) ?lu12h (by kernel_rfl) (by kernel_rfl) (by kernel_rfl) ?lu12q ?lu12y hHeld ?lu12r
                  case lu12h => (simp only [List.getElem?_toArray, List.getElem?_cons_succ, List.getElem?_cons_zero]; rfl)
                  case lu12q => exact fun _ _ _ h => h
                  case lu12y => (refine Or.inl ⟨by first | kernel_rfl | rfl, ?_⟩; intro w hSw; (try dsimp only at hSw); have hPO := HPO.out.below hSw HG.out; obtain ⟨c0', c1', c2', c3', c4', c5'⟩ := hPO; go_simp <;> (try with_reducible rfl))
                  try simp only [Act.put, List.setIfInBounds_toArray, List.set_cons_zero, List.set_cons_succ]
                  refine wpAnyH_take (i := 13) (oi := ?lu13o) (v := ?lu13v) ?lu13h (by kernel_rfl) (by kernel_rfl) (by kernel_rfl) ?lu13q ?lu13y hHeld ?lu13r
                  case lu13h => (simp only [List.getElem?_toArray, List.getElem?_cons_succ, List.getElem?_cons_zero]; rfl)
                  case lu13q => exact fun _ _ _ h => h
                  case lu13y => (refine Or.inl ⟨by first | kernel_rfl | rfl, ?_⟩; intro w hSw; (try dsimp only at hSw); have hPO := HPO.out.below hSw HG.out; obtain ⟨c0', c1', c2', c3', c4', c5'⟩ := hPO; go_simp <;> (try with_reducible rfl))
                  try simp only [Act.put, List.setIfInBounds_toArray, List.set_cons_zero, List.set_cons_succ]
                  refine wpAnyH_take (i := 14) (oi := ?lu14o) (v := ?lu14v) ?lu14h (by kernel_rfl) (by kernel_rfl) (by kernel_rfl) ?lu14q ?lu14y hHeld ?lu14r
                  case lu14h => (simp only [List.getElem?_toArray, List.getElem?_cons_succ, List.getElem?_cons_zero]; rfl)
                  case lu14q => exact fun _ _ _ h => h
                  case lu14y => (refine Or.inl ⟨by first | kernel_rfl | rfl, ?_⟩; intro w hSw; (try dsimp only at hSw); have hPO := HPO.out.below hSw HG.out; obtain ⟨c0', c1', c2', c3', c4', c5'⟩ := hPO; go_simp <;> (try with_reducible rfl))
                  try simp only [Act.put, List.setIfInBounds_toArray, List.set_cons_zero, List.set_cons_succ]
                  refine wpAnyH_ready (rs := [15]) (by kernel_rfl) (by simp) ?_
                  refine (AllReadyH.cons rfl (fun K hK => ?_) AllReadyH.nil)
                  go_simp
                  (have hpre := hHeld; (first | (obtain ⟨T, hTe⟩ : ∃ T, w23.heap.size = T := ⟨_, rfl⟩; have hzp : ZP (w23.alloc (.cells #[.string ⟨#[]⟩, .int .i64 0, .int .i64 0, .int .i64 0, .int .i64 0, .int .i64 0] 32)) T := (by subst hTe; exact ZP.new w23); have hTg : w22.heap.size ≤ T := (by subst hTe; exact hHeld.size); have hOrdA : True := trivial) | (obtain ⟨T, hTe⟩ : ∃ T, w22.heap.size = T := ⟨_, rfl⟩; have hzp : ZP (w22.drew.alloc (.cells #[.string ⟨#[]⟩, .int .i64 0, .int .i64 0, .int .i64 0, .int .i64 0, .int .i64 0] 32)) T := (by subst hTe; exact ZP.new w22.drew); have hTg : w22.heap.size ≤ T := Nat.le_of_eq hTe; have hOrdB : True := trivial)); simp only [hTe])
                  refine hK.out _ _ (bel_new hHeld _) (fun hHeld => ?_)
                  clear hK K
                  try simp only [Act.put, List.setIfInBounds_toArray, List.set_cons_zero, List.set_cons_succ]
                  refine wpAnyH_ready (rs := [16]) (by kernel_rfl) (by simp) ?_
                  refine (AllReadyH.cons rfl (fun K hK => ?_) AllReadyH.nil)
                  (first | (clear hOrdB; have hz8 := hzp.later hb23; have hz9 := hz8; clear hTe hzp hpre; obtain ⟨⟨z0, u0⟩, ⟨z1, u1⟩, ⟨z2, u2⟩, ⟨z3, u3⟩, ⟨z4, u4⟩, ⟨z5, u5⟩⟩ := hz9) | (clear hOrdA; have hz8 := hzp; clear hTe hzp hpre; generalize w23.alloc (.cells #[.string ⟨#[]⟩, .int .i64 0, .int .i64 0, .int .i64 0, .int .i64 0, .int .i64 0] 32) = WW at hz8 hHeld ⊢; have hz9 := hz8; obtain ⟨⟨z0, u0⟩, ⟨z1, u1⟩, ⟨z2, u2⟩, ⟨z3, u3⟩, ⟨z4, u4⟩, ⟨z5, u5⟩⟩ := hz9))
                  go_simp
                  refine hK.out _ _ (six_set hHeld _ hTg _ _ _ _ _ _) (fun hHeld => ?_)
                  clear hK K
                  try simp only [Act.put]
                  refine wpAnyH_take (i := 17) (oi := ?lu15o) (v := ?lu15v) ?lu15h (by kernel_rfl) (by kernel_rfl) (by kernel_rfl) ?lu15q ?lu15y hHeld ?lu15r
                  case lu15h => (simp only [List.getElem?_toArray, List.getElem?_cons_succ, List.getElem?_cons_zero]; rfl)
                  case lu15q => exact fun _ _ _ h => h
                  case lu15y => (refine Or.inl ⟨by first | kernel_rfl | rfl, ?_⟩; intro w hSw; (try dsimp only at hSw); have hPO := HPO.out.below hSw HG.out; obtain ⟨c0', c1', c2', c3', c4', c5'⟩ := hPO; go_simp <;> (try with_reducible rfl))
                  try simp only [Act.put, List.setIfInBounds_toArray, List.set_cons_zero, List.set_cons_succ]
                  refine wpAnyH_done (by kernel_rfl) ?_ _
                  have hyz := six_pt (z := z) hz8
                  have H28 : PZ w22 g io y0 T z _ := ⟨HPO.out.below hHeld HG.out, hyz, hHeld⟩
                  clear z0 z1 z2 z3 z4 z5 u0 u1 u2 u3 u4 u5
                  go_wp2_with fail
                  refine wp_region_held_drew (S := (PZ w22 g io y0 T z)) (by kernel_rfl) H28.drew (fun hHeld => ?_)
                  refine wpAnyH_take (i := 0) (oi := ?lv1o) (v := ?lv1v) ?lv1h (by kernel_rfl) (by kernel_rfl) (by kernel_rfl) ?lv1q ?lv1y hHeld ?lv1r
                  case lv1h => (simp only [List.getElem?_toArray, List.getElem?_cons_zero]; rfl)
                  case lv1q => exact fun _ _ _ h => h
                  case lv1y => (refine Or.inl ⟨by first | kernel_rfl | rfl, ?_⟩; intro w hSw; (try dsimp only at hSw); obtain ⟨⟨c0', c1', c2', c3', c4', c5'⟩, ⟨d0, d1, d2, d3, d4, d5⟩, -⟩ := hSw; go_simp <;> (try with_reducible rfl))
                  try simp only [Act.put, List.setIfInBounds_toArray, List.set_cons_zero, List.set_cons_succ]
                  refine wpAnyH_take (i := 1) (oi := ?lv2o) (v := ?lv2v) ?lv2h (by kernel_rfl) (by kernel_rfl) (by kernel_rfl) ?lv2q ?lv2y hHeld ?lv2r
                  case lv2h => (simp only [List.getElem?_toArray, List.getElem?_cons_succ, List.getElem?_cons_zero]; rfl)
                  case lv2q => exact fun _ _ _ h => h
                  case lv2y => (refine Or.inl ⟨by first | kernel_rfl | rfl, ?_⟩; intro w hSw; (try dsimp only at hSw); obtain ⟨⟨c0', c1', c2', c3', c4', c5'⟩, ⟨d0, d1, d2, d3, d4, d5⟩, -⟩ := hSw; go_simp <;> (try with_reducible rfl))
                  try simp only [Act.put, List.setIfInBounds_toArray, List.set_cons_zero, List.set_cons_succ]
                  refine wpAnyH_take (i := 2) (oi := ?lv3o) (v := ?lv3v) ?lv3h (by kernel_rfl) (by kernel_rfl) (by kernel_rfl) ?lv3q ?lv3y hHeld ?lv3r
                  case lv3h => (simp only [List.getElem?_toArray, List.getElem?_cons_succ, List.getElem?_cons_zero]; rfl)
                  case lv3q => exact fun _ _ _ h => h
                  case lv3y => (refine Or.inl ⟨by first | kernel_rfl | rfl, ?_⟩; intro w hSw; (try dsimp only at hSw); obtain ⟨⟨c0', c1', c2', c3', c4', c5'⟩, ⟨d0, d1, d2, d3, d4, d5⟩, -⟩ := hSw; go_simp <;> (try with_reducible rfl))
                  try simp only [Act.put, List.setIfInBounds_toArray, List.set_cons_zero, List.set_cons_succ]
                  refine wpAnyH_take (i := 3) (oi := ?lv4o) (v := ?lv4v) ?lv4h (by kernel_rfl) (by kernel_rfl) (by kernel_rfl) ?lv4q ?lv4y hHeld ?lv4r
                  case lv4h => (simp only [List.getElem?_toArray, List.getElem?_cons_succ, List.getElem?_cons_zero]; rfl)
                  case lv4q => exact fun _ _ _ h => h
                  case lv4y => (refine Or.inl ⟨by first | kernel_rfl | rfl, ?_⟩; intro w hSw; (try dsimp only at hSw); obtain ⟨⟨c0', c1', c2', c3', c4', c5'⟩, ⟨d0, d1, d2, d3, d4, d5⟩, -⟩ := hSw; go_simp <;> (try with_reducible rfl))
                  try simp only [Act.put, List.setIfInBounds_toArray, List.set_cons_zero, List.set_cons_succ]
                  refine wpAnyH_take (i := 4) (oi := ?lv5o) (v := ?lv5v) ?lv5h (by kernel_rfl) (by kernel_rfl) (by kernel_rfl) ?lv5q ?lv5y hHeld ?lv5r
                  case lv5h => (simp only [List.getElem?_toArray, List.getElem?_cons_succ, List.getElem?_cons_zero]; rfl)
                  case lv5q => exact fun _ _ _ h => h
                  case lv5y => (refine Or.inl ⟨by first | kernel_rfl | rfl, ?_⟩; intro w hSw; (try dsimp only at hSw); obtain ⟨⟨c0', c1', c2', c3', c4', c5'⟩, ⟨d0, d1, d2, d3, d4, d5⟩, -⟩ := hSw; go_simp <;> (try with_reducible rfl))
                  try simp only [Act.put, List.setIfInBounds_toArray, List.set_cons_zero, List.set_cons_succ]
                  refine wpAnyH_ready (rs := [5]) (by kernel_rfl) (by simp) ?_
                  refine (AllReadyH.cons rfl (fun K hK => ?_) AllReadyH.nil)
                  go_simp
                  ((with_reducible refine (kn _).mono ?_); rintro e w25 ⟨rfl, hb25⟩)
                  refine hK.out _ _ (hHeld.keep hb25) (fun hHeld => ?_)
                  clear hK K
                  try simp only [Act.put, List.setIfInBounds_toArray, List.set_cons_zero, List.set_cons_succ]
                  refine wpAnyH_take (i := 6) (oi := ?lv6o) (v := ?lv6v) ?lv6h (by kernel_rfl) (by kernel_rfl) (by kernel_rfl) ?lv6q ?lv6y hHeld ?lv6r
                  case lv6h => (simp only [List.getElem?_toArray, List.getElem?_cons_succ, List.getElem?_cons_zero]; rfl)
                  case lv6q => exact fun _ _ _ h => h
                  case lv6y => (refine Or.inl ⟨by first | kernel_rfl | rfl, ?_⟩; intro w hSw; (try dsimp only at hSw); obtain ⟨⟨c0', c1', c2', c3', c4', c5'⟩, ⟨d0, d1, d2, d3, d4, d5⟩, -⟩ := hSw; go_simp <;> (try with_reducible rfl))
                  try simp only [Act.put, List.setIfInBounds_toArray, List.set_cons_zero, List.set_cons_succ]
                  refine wpAnyH_done (by kernel_rfl) ?_ _
                  have VN := Lib.hid (V.out.later hHeld.bel)
                  clear hHeld
                  go_wp2
                  go_roundw
                  case rel => exact ⟨k + 1, by omega, by go_num, VN⟩
                  case measure => simp [intOf]; omega
                ·
                  go_simp
                  (have hpre := hHeld; (first | (obtain ⟨T, hTe⟩ : ∃ T, w23.heap.size = T := ⟨_, rfl⟩; have hzp : ZP (w23.alloc (.cells #[.string ⟨#[]⟩, .int .i64 0, .int .i64 0, .int .i64 0, .int .i64 0, .int .i64 0] 32)) T := (by subst hTe; exact ZP.new w23); have hTg : w22.heap.size ≤ T := (by subst hTe; exact hHeld.size); have hOrdA : True := trivial) | (obtain ⟨T, hTe⟩ : ∃ T, w22.heap.size = T := ⟨_, rfl⟩; have hzp : ZP (w22.drew.alloc (.cells #[.string ⟨#[]⟩, .int .i64 0, .int .i64 0, .int .i64 0, .int .i64 0, .int .i64 0] 32)) T := (by subst hTe; exact ZP.new w22.drew); have hTg : w22.heap.size ≤ T := Nat.le_of_eq hTe; have hOrdB : True := trivial)); simp only [hTe])
                  refine hK.out _ _ (bel_new hHeld _) (fun hHeld => ?_)
                  clear hK K
                  try simp only [Act.put, List.setIfInBounds_toArray, List.set_cons_zero, List.set_cons_succ]
                  refine wpAnyH_ready (rs := [11]) (by kernel_rfl) (by simp) ?_
                  refine (AllReadyH.cons rfl (fun K hK => ?_) AllReadyH.nil)
                  go_simp
                  ((with_reducible refine (kf _ _ _ (V.out.later hHeld).b).mono ?_); rintro e w23 ⟨rfl, hb23⟩)
                  refine hK.out _ _ (bel_next hHeld hb23) (fun hHeld => ?_)
                  clear hK K
                  try simp only [Act.put, List.setIfInBounds_toArray, List.set_cons_zero, List.set_cons_succ]
                  refine wpAnyH_take (i := 12) (oi := ?lu16o) (v := ?lu16v) ?lu16h (by kernel_rfl) (by kernel_rfl) (by kernel_rfl) ?lu16q ?lu16y hHeld ?lu16r
                  case lu16h => (simp only [List.getElem?_toArray, List.getElem?_cons_succ, List.getElem?_cons_zero]; rfl)
                  case lu16q => exact fun _ _ _ h => h
                  case lu16y => (refine Or.inl ⟨by first | kernel_rfl | rfl, ?_⟩; intro w hSw; (try dsimp only at hSw); have hPO := HPO.out.below hSw HG.out; obtain ⟨c0', c1', c2', c3', c4', c5'⟩ := hPO; go_simp <;> (try with_reducible rfl))
                  try simp only [Act.put, List.setIfInBounds_toArray, List.set_cons_zero, List.set_cons_succ]
                  refine wpAnyH_take (i := 13) (oi := ?lu17o) (v := ?lu17v) ?lu17h (by kernel_rfl) (by kernel_rfl) (by kernel_rfl) ?lu17q ?lu17y hHeld ?lu17r
                  case lu17h => (simp only [List.getElem?_toArray, List.getElem?_cons_succ, List.getElem?_cons_zero]; rfl)
                  case lu17q => exact fun _ _ _ h => h
                  case lu17y => (refine Or.inl ⟨by first | kernel_rfl | rfl, ?_⟩; intro w hSw; (try dsimp only at hSw); have hPO := HPO.out.below hSw HG.out; obtain ⟨c0', c1', c2', c3', c4', c5'⟩ := hPO; go_simp <;> (try with_reducible rfl))
                  try simp only [Act.put, List.setIfInBounds_toArray, List.set_cons_zero, List.set_cons_succ]
                  refine wpAnyH_take (i := 14) (oi := ?lu18o) (v := ?lu18v) ?lu18h (by kernel_rfl) (by kernel_rfl) (by kernel_rfl) ?lu18q ?lu18y hHeld ?lu18r
                  case lu18h => (simp only [List.getElem?_toArray, List.getElem?_cons_succ, List.getElem?_cons_zero]; rfl)
                  case lu18q => exact fun _ _ _ h => h
                  case lu18y => (refine Or.inl ⟨by first | kernel_rfl | rfl, ?_⟩; intro w hSw; (try dsimp only at hSw); have hPO := HPO.out.below hSw HG.out; obtain ⟨c0', c1', c2', c3', c4', c5'⟩ := hPO; go_simp <;> (try with_reducible rfl))
                  try simp only [Act.put, List.setIfInBounds_toArray, List.set_cons_zero, List.set_cons_succ]
                  refine wpAnyH_ready (rs := [16]) (by kernel_rfl) (by simp) ?_
                  refine (AllReadyH.cons rfl (fun K hK => ?_) AllReadyH.nil)
                  (first | (clear hOrdB; have hz8 := hzp.later hb23; have hz9 := hz8; clear hTe hzp hpre; obtain ⟨⟨z0, u0⟩, ⟨z1, u1⟩, ⟨z2, u2⟩, ⟨z3, u3⟩, ⟨z4, u4⟩, ⟨z5, u5⟩⟩ := hz9) | (clear hOrdA; have hz8 := hzp; clear hTe hzp hpre; generalize w23.alloc (.cells #[.string ⟨#[]⟩, .int .i64 0, .int .i64 0, .int .i64 0, .int .i64 0, .int .i64 0] 32) = WW at hz8 hHeld ⊢; have hz9 := hz8; obtain ⟨⟨z0, u0⟩, ⟨z1, u1⟩, ⟨z2, u2⟩, ⟨z3, u3⟩, ⟨z4, u4⟩, ⟨z5, u5⟩⟩ := hz9))
                  go_simp
                  refine hK.out _ _ (six_set hHeld _ hTg _ _ _ _ _ _) (fun hHeld => ?_)
                  clear hK K
                  try simp only [Act.put]
                  refine wpAnyH_take (i := 17) (oi := ?lu19o) (v := ?lu19v) ?lu19h (by kernel_rfl) (by kernel_rfl) (by kernel_rfl) ?lu19q ?lu19y hHeld ?lu19r
                  case lu19h => (simp only [List.getElem?_toArray, List.getElem?_cons_succ, List.getElem?_cons_zero]; rfl)
                  case lu19q => exact fun _ _ _ h => h
                  case lu19y => (refine Or.inl ⟨by first | kernel_rfl | rfl, ?_⟩; intro w hSw; (try dsimp only at hSw); have hPO := HPO.out.below hSw HG.out; obtain ⟨c0', c1', c2', c3', c4', c5'⟩ := hPO; go_simp <;> (try with_reducible rfl))
                  try simp only [Act.put, List.setIfInBounds_toArray, List.set_cons_zero, List.set_cons_succ]
                  refine wpAnyH_done (by kernel_rfl) ?_ _
                  have hyz := six_pt (z := z) hz8
                  have H28 : PZ w22 g io y0 T z _ := ⟨HPO.out.below hHeld HG.out, hyz, hHeld⟩
                  clear z0 z1 z2 z3 z4 z5 u0 u1 u2 u3 u4 u5
                  go_wp2_with fail
                  refine wp_region_held_drew (S := (PZ w22 g io y0 T z)) (by kernel_rfl) H28.drew (fun hHeld => ?_)
                  refine wpAnyH_take (i := 0) (oi := ?lx1o) (v := ?lx1v) ?lx1h (by kernel_rfl) (by kernel_rfl) (by kernel_rfl) ?lx1q ?lx1y hHeld ?lx1r
                  case lx1h => (simp only [List.getElem?_toArray, List.getElem?_cons_zero]; rfl)
                  case lx1q => exact fun _ _ _ h => h
                  case lx1y => (refine Or.inl ⟨by first | kernel_rfl | rfl, ?_⟩; intro w hSw; (try dsimp only at hSw); obtain ⟨⟨c0', c1', c2', c3', c4', c5'⟩, ⟨d0, d1, d2, d3, d4, d5⟩, -⟩ := hSw; go_simp <;> (try with_reducible rfl))
                  try simp only [Act.put, List.setIfInBounds_toArray, List.set_cons_zero, List.set_cons_succ]
                  refine wpAnyH_take (i := 1) (oi := ?lx2o) (v := ?lx2v) ?lx2h (by kernel_rfl) (by kernel_rfl) (by kernel_rfl) ?lx2q ?lx2y hHeld ?lx2r
                  case lx2h => (simp only [List.getElem?_toArray, List.getElem?_cons_succ, List.getElem?_cons_zero]; rfl)
                  case lx2q => exact fun _ _ _ h => h
                  case lx2y => (refine Or.inl ⟨by first | kernel_rfl | rfl, ?_⟩; intro w hSw; (try dsimp only at hSw); obtain ⟨⟨c0', c1', c2', c3', c4', c5'⟩, ⟨d0, d1, d2, d3, d4, d5⟩, -⟩ := hSw; go_simp <;> (try with_reducible rfl))
                  try simp only [Act.put, List.setIfInBounds_toArray, List.set_cons_zero, List.set_cons_succ]
                  refine wpAnyH_take (i := 2) (oi := ?lx3o) (v := ?lx3v) ?lx3h (by kernel_rfl) (by kernel_rfl) (by kernel_rfl) ?lx3q ?lx3y hHeld ?lx3r
                  case lx3h => (simp only [List.getElem?_toArray, List.getElem?_cons_succ, List.getElem?_cons_zero]; rfl)
                  case lx3q => exact fun _ _ _ h => h
                  case lx3y => (refine Or.inl ⟨by first | kernel_rfl | rfl, ?_⟩; intro w hSw; (try dsimp only at hSw); obtain ⟨⟨c0', c1', c2', c3', c4', c5'⟩, ⟨d0, d1, d2, d3, d4, d5⟩, -⟩ := hSw; go_simp <;> (try with_reducible rfl))
                  try simp only [Act.put, List.setIfInBounds_toArray, List.set_cons_zero, List.set_cons_succ]
                  refine wpAnyH_take (i := 3) (oi := ?lx4o) (v := ?lx4v) ?lx4h (by kernel_rfl) (by kernel_rfl) (by kernel_rfl) ?lx4q ?lx4y hHeld ?lx4r
                  case lx4h => (simp only [List.getElem?_toArray, List.getElem?_cons_succ, List.getElem?_cons_zero]; rfl)
                  case lx4q => exact fun _ _ _ h => h
                  case lx4y => (refine Or.inl ⟨by first | kernel_rfl | rfl, ?_⟩; intro w hSw; (try dsimp only at hSw); obtain ⟨⟨c0', c1', c2', c3', c4', c5'⟩, ⟨d0, d1, d2, d3, d4, d5⟩, -⟩ := hSw; go_simp <;> (try with_reducible rfl))
                  try simp only [Act.put, List.setIfInBounds_toArray, List.set_cons_zero, List.set_cons_succ]
                  refine wpAnyH_take (i := 4) (oi := ?lx5o) (v := ?lx5v) ?lx5h (by kernel_rfl) (by kernel_rfl) (by kernel_rfl) ?lx5q ?lx5y hHeld ?lx5r
                  case lx5h => (simp only [List.getElem?_toArray, List.getElem?_cons_succ, List.getElem?_cons_zero]; rfl)
                  case lx5q => exact fun _ _ _ h => h
                  case lx5y => (refine Or.inl ⟨by first | kernel_rfl | rfl, ?_⟩; intro w hSw; (try dsimp only at hSw); obtain ⟨⟨c0', c1', c2', c3', c4', c5'⟩, ⟨d0, d1, d2, d3, d4, d5⟩, -⟩ := hSw; go_simp <;> (try with_reducible rfl))
                  try simp only [Act.put, List.setIfInBounds_toArray, List.set_cons_zero, List.set_cons_succ]
                  refine wpAnyH_ready (rs := [5]) (by kernel_rfl) (by simp) ?_
                  refine (AllReadyH.cons rfl (fun K hK => ?_) AllReadyH.nil)
                  go_simp
                  ((with_reducible refine (kn _).mono ?_); rintro e w25 ⟨rfl, hb25⟩)
                  refine hK.out _ _ (hHeld.keep hb25) (fun hHeld => ?_)
                  clear hK K
                  try simp only [Act.put, List.setIfInBounds_toArray, List.set_cons_zero, List.set_cons_succ]
                  refine wpAnyH_take (i := 6) (oi := ?lx6o) (v := ?lx6v) ?lx6h (by kernel_rfl) (by kernel_rfl) (by kernel_rfl) ?lx6q ?lx6y hHeld ?lx6r
                  case lx6h => (simp only [List.getElem?_toArray, List.getElem?_cons_succ, List.getElem?_cons_zero]; rfl)
                  case lx6q => exact fun _ _ _ h => h
                  case lx6y => (refine Or.inl ⟨by first | kernel_rfl | rfl, ?_⟩; intro w hSw; (try dsimp only at hSw); obtain ⟨⟨c0', c1', c2', c3', c4', c5'⟩, ⟨d0, d1, d2, d3, d4, d5⟩, -⟩ := hSw; go_simp <;> (try with_reducible rfl))
                  try simp only [Act.put, List.setIfInBounds_toArray, List.set_cons_zero, List.set_cons_succ]
                  refine wpAnyH_done (by kernel_rfl) ?_ _
                  have VN := Lib.hid (V.out.later hHeld.bel)
                  clear hHeld
                  go_wp2
                  go_roundw
                  case rel => exact ⟨k + 1, by omega, by go_num, VN⟩
                  case measure => simp [intOf]; omega
            · obtain rfl : k = r := by omega
              have hlti : ¬ (k : Int) < (k : Int) := by omega
              go_wp2
              go_loopw [23] (fun i wr => ∃ (j : Nat), j ≤ nx ∧ i = .int .i64 (j : Int) ∧ Hid (Live w wr a7 c7 S q9 c9 X none 0 [] none 0 [])) (fun i _ => nx - (intOf i).toNat)
              case atStart => exact ⟨0, by omega, rfl, V⟩
              case round =>
                obtain ⟨j, hj, rfl, V4⟩ := hrel
                clear V
                obtain ⟨w26, hw26⟩ : ∃ x, x = wr := ⟨_, rfl⟩
                subst hw26
                by_cases hjx : j < nx
                · have hjxi : (j : Int) < (nx : Int) := by omega
                  have hjX : j < X.length := by rw [EX.out]; exact hjx
                  have hmem := HXS.out _ (List.getElem_mem hjX)
                  rcases V4.out.b.pts.at_ with h0 | ⟨g2, off2, hbe, hg2, hx2⟩
                  · rw [h0] at hjX; simp at hjX
                  · have hx2j := hx2 j hjX
                    obtain ⟨y2, hy2⟩ : ∃ y, X[j] = y := ⟨_, rfl⟩
                    obtain ⟨i2, hi2⟩ : ∃ i2, off2 + j * 6 = i2 := ⟨_, rfl⟩
                    rw [hy2] at hmem
                    rw [hy2, hi2] at hx2j
                    have HX2 := Lib.hid hx2j
                    have HG2 := Lib.hid hg2
                    have HM2 := Lib.hid hmem
                    clear hx2 hx2j hy2 hmem
                    subst hbe
                    go_wp2
                    go_loopw [24, 25] (fun f i wr => ∃ (q : Nat) (fd : Bool), q ≤ k ∧ i = .int .i64 (q : Int) ∧ f = .bool fd ∧ Hid (fd = true ↔ ∃ (e : Nat) (h : e < S.length), e < q ∧ S[e] = y2) ∧ Hid (Below w26.heap.size w26 wr)) (fun _ i _ => k - (intOf i).toNat)
                    case atStart => exact ⟨0, false, by omega, rfl, rfl, Lib.hid ⟨fun h => (by cases h), fun ⟨e, _, h, _⟩ => (by omega)⟩, Lib.hid (Below.refl _ _)⟩
                    case round =>
                      obtain ⟨q, fd, hq, rfl, rfl, HF, HBQ⟩ := hrel
                      obtain ⟨w27, hw27⟩ : ∃ x, x = wr := ⟨_, rfl⟩
                      subst hw27
                      by_cases hqk : q < k
                      · have hqki : (q : Int) < (k : Int) := by omega
                        have hqS : q < S.length := by rw [ES.out]; exact hqk
                        rcases V4.out.a.pts.at_ with h0 | ⟨g, off, hae, hg, hx⟩
                        · rw [h0] at hqS; simp at hqS
                        · have hxq := (hx q hqS).below HBQ.out hg
                          have HSTEP := Lib.hid (fun (bb : Bool) (hbb : bb = true ↔ (fd = true ∨ S[q] = y2)) => show bb = true ↔ ∃ (e : Nat) (h : e < S.length), e < q + 1 ∧ S[e] = y2 by
                            rw [hbb, HF.out]
                            constructor
                            · rintro (⟨e, h1, h2, h3⟩ | h)
                              · exact ⟨e, h1, by omega, h3⟩
                              · exact ⟨q, hqS, by omega, h⟩
                            · rintro ⟨e, h1, h2, h3⟩
                              by_cases he : e = q
                              · subst he; exact Or.inr h3
                              · exact Or.inl ⟨e, h1, by omega, h3⟩)
                          obtain ⟨y1, hy1⟩ : ∃ y, S[q] = y := ⟨_, rfl⟩
                          obtain ⟨i1, hi1⟩ : ∃ i1, off + q * 6 = i1 := ⟨_, rfl⟩
                          rw [hy1] at HSTEP
                          rw [hy1, hi1] at hxq
                          have H0 : P22 w26 g i1 y1 g2 i2 y2 w27 := ⟨hxq, HX2.out.below HBQ.out HG2.out, HBQ.out⟩
                          clear hx hxq hy1
                          subst hae
                          cases fd with
                          | true =>
                            have HN := Lib.hid (HSTEP.out true (by simp))
                            clear HSTEP
                            go_wp2_with fail
                            refine wp_region_held_drew (S := (P22 w26 g i1 y1 g2 i2 y2)) (by kernel_rfl) H0.drew (fun hHeld => ?_)
                            refine wpAnyH_take (i := 0) (oi := ?ls1o) (v := ?ls1v) ?ls1h (by kernel_rfl) (by kernel_rfl) (by kernel_rfl) ?ls1q ?ls1y hHeld ?ls1r
                            case ls1h => (simp only [List.getElem?_toArray, List.getElem?_cons_zero]; rfl)
                            case ls1q => exact fun _ _ _ h => h
                            case ls1y => (refine Or.inl ⟨by first | kernel_rfl | rfl, ?_⟩; intro w hSw; (try dsimp only at hSw); obtain ⟨⟨c0', c1', c2', c3', c4', c5'⟩, ⟨d0, d1, d2, d3, d4, d5⟩, -⟩ := hSw; go_simp <;> (try with_reducible rfl))
                            try simp only [Act.put, List.setIfInBounds_toArray, List.set_cons_zero, List.set_cons_succ]
                            refine wpAnyH_take (i := 1) (oi := ?ls2o) (v := ?ls2v) ?ls2h (by kernel_rfl) (by kernel_rfl) (by kernel_rfl) ?ls2q ?ls2y hHeld ?ls2r
                            case ls2h => (simp only [List.getElem?_toArray, List.getElem?_cons_succ, List.getElem?_cons_zero]; rfl)
                            case ls2q => exact fun _ _ _ h => h
                            case ls2y => (refine Or.inl ⟨by first | kernel_rfl | rfl, ?_⟩; intro w hSw; (try dsimp only at hSw); obtain ⟨⟨c0', c1', c2', c3', c4', c5'⟩, ⟨d0, d1, d2, d3, d4, d5⟩, -⟩ := hSw; go_simp <;> (try with_reducible rfl))
                            try simp only [Act.put, List.setIfInBounds_toArray, List.set_cons_zero, List.set_cons_succ]
                            refine wpAnyH_take (i := 2) (oi := ?ls3o) (v := undef) ?ls3h (by kernel_rfl) (by kernel_rfl) (by kernel_rfl) ?ls3q ?ls3y hHeld ?ls3r
                            case ls3h => (simp only [List.getElem?_toArray, List.getElem?_cons_succ, List.getElem?_cons_zero]; rfl)
                            case ls3q => exact fun _ _ _ h => h
                            case ls3y => exact Or.inr ⟨by first | kernel_rfl | rfl, rfl⟩
                            try simp only [Act.put, List.setIfInBounds_toArray, List.set_cons_zero, List.set_cons_succ]
                            refine wpAnyH_take (i := 3) (oi := ?ls4o) (v := undef) ?ls4h (by kernel_rfl) (by kernel_rfl) (by kernel_rfl) ?ls4q ?ls4y hHeld ?ls4r
                            case ls4h => (simp only [List.getElem?_toArray, List.getElem?_cons_succ, List.getElem?_cons_zero]; rfl)
                            case ls4q => exact fun _ _ _ h => h
                            case ls4y => exact Or.inr ⟨by first | kernel_rfl | rfl, rfl⟩
                            try simp only [Act.put, List.setIfInBounds_toArray, List.set_cons_zero, List.set_cons_succ]
                            refine wpAnyH_take (i := 4) (oi := ?ls5o) (v := undef) ?ls5h (by kernel_rfl) (by kernel_rfl) (by kernel_rfl) ?ls5q ?ls5y hHeld ?ls5r
                            case ls5h => (simp only [List.getElem?_toArray, List.getElem?_cons_succ, List.getElem?_cons_zero]; rfl)
                            case ls5q => exact fun _ _ _ h => h
                            case ls5y => exact Or.inr ⟨by first | kernel_rfl | rfl, rfl⟩
                            try simp only [Act.put, List.setIfInBounds_toArray, List.set_cons_zero, List.set_cons_succ]
                            refine wpAnyH_take (i := 5) (oi := ?ls6o) (v := undef) ?ls6h (by kernel_rfl) (by kernel_rfl) (by kernel_rfl) ?ls6q ?ls6y hHeld ?ls6r
                            case ls6h => (simp only [List.getElem?_toArray, List.getElem?_cons_succ, List.getElem?_cons_zero]; rfl)
                            case ls6q => exact fun _ _ _ h => h
                            case ls6y => exact Or.inr ⟨by first | kernel_rfl | rfl, rfl⟩
                            try simp only [Act.put, List.setIfInBounds_toArray, List.set_cons_zero, List.set_cons_succ]
                            refine wpAnyH_take (i := 6) (oi := ?ls7o) (v := undef) ?ls7h (by kernel_rfl) (by kernel_rfl) (by kernel_rfl) ?ls7q ?ls7y hHeld ?ls7r
                            case ls7h => (simp only [List.getElem?_toArray, List.getElem?_cons_succ, List.getElem?_cons_zero]; rfl)
                            case ls7q => exact fun _ _ _ h => h
                            case ls7y => exact Or.inr ⟨by first | kernel_rfl | rfl, rfl⟩
                            try simp only [Act.put, List.setIfInBounds_toArray, List.set_cons_zero, List.set_cons_succ]
                            refine wpAnyH_take (i := 7) (oi := ?ls8o) (v := undef) ?ls8h (by kernel_rfl) (by kernel_rfl) (by kernel_rfl) ?ls8q ?ls8y hHeld ?ls8r
                            case ls8h => (simp only [List.getElem?_toArray, List.getElem?_cons_succ, List.getElem?_cons_zero]; rfl)
                            case ls8q => exact fun _ _ _ h => h
                            case ls8y => exact Or.inr ⟨by first | kernel_rfl | rfl, rfl⟩
                            try simp only [Act.put, List.setIfInBounds_toArray, List.set_cons_zero, List.set_cons_succ]
                            refine wpAnyH_take (i := 8) (oi := ?ls9o) (v := undef) ?ls9h (by kernel_rfl) (by kernel_rfl) (by kernel_rfl) ?ls9q ?ls9y hHeld ?ls9r
                            case ls9h => (simp only [List.getElem?_toArray, List.getElem?_cons_succ, List.getElem?_cons_zero]; rfl)
                            case ls9q => exact fun _ _ _ h => h
                            case ls9y => exact Or.inr ⟨by first | kernel_rfl | rfl, rfl⟩
                            try simp only [Act.put, List.setIfInBounds_toArray, List.set_cons_zero, List.set_cons_succ]
                            refine wpAnyH_take (i := 9) (oi := ?ls10o) (v := undef) ?ls10h (by kernel_rfl) (by kernel_rfl) (by kernel_rfl) ?ls10q ?ls10y hHeld ?ls10r
                            case ls10h => (simp only [List.getElem?_toArray, List.getElem?_cons_succ, List.getElem?_cons_zero]; rfl)
                            case ls10q => exact fun _ _ _ h => h
                            case ls10y => exact Or.inr ⟨by first | kernel_rfl | rfl, rfl⟩
                            try simp only [Act.put, List.setIfInBounds_toArray, List.set_cons_zero, List.set_cons_succ]
                            refine wpAnyH_take (i := 10) (oi := ?ls11o) (v := undef) ?ls11h (by kernel_rfl) (by kernel_rfl) (by kernel_rfl) ?ls11q ?ls11y hHeld ?ls11r
                            case ls11h => (simp only [List.getElem?_toArray, List.getElem?_cons_succ, List.getElem?_cons_zero]; rfl)
                            case ls11q => exact fun _ _ _ h => h
                            case ls11y => exact Or.inr ⟨by first | kernel_rfl | rfl, rfl⟩
                            try simp only [Act.put, List.setIfInBounds_toArray, List.set_cons_zero, List.set_cons_succ]
                            refine wpAnyH_take (i := 11) (oi := ?ls12o) (v := ?ls12v) ?ls12h (by kernel_rfl) (by kernel_rfl) (by kernel_rfl) ?ls12q ?ls12y hHeld ?ls12r
                            case ls12h => (simp only [List.getElem?_toArray, List.getElem?_cons_succ, List.getElem?_cons_zero]; rfl)
                            case ls12q => exact fun _ _ _ h => h
                            case ls12y => (refine Or.inl ⟨by first | kernel_rfl | rfl, ?_⟩; intro w hSw; (try dsimp only at hSw); obtain ⟨⟨c0', c1', c2', c3', c4', c5'⟩, ⟨d0, d1, d2, d3, d4, d5⟩, -⟩ := hSw; go_simp <;> (try with_reducible rfl))
                            try simp only [Act.put, List.setIfInBounds_toArray, List.set_cons_zero, List.set_cons_succ]
                            refine wpAnyH_take (i := 12) (oi := ?ls13o) (v := ?ls13v) ?ls13h (by kernel_rfl) (by kernel_rfl) (by kernel_rfl) ?ls13q ?ls13y hHeld ?ls13r
                            case ls13h => (simp only [List.getElem?_toArray, List.getElem?_cons_succ, List.getElem?_cons_zero]; rfl)
                            case ls13q => exact fun _ _ _ h => h
                            case ls13y => (refine Or.inl ⟨by first | kernel_rfl | rfl, ?_⟩; intro w hSw; (try dsimp only at hSw); obtain ⟨⟨c0', c1', c2', c3', c4', c5'⟩, ⟨d0, d1, d2, d3, d4, d5⟩, -⟩ := hSw; go_simp <;> (try with_reducible rfl))
                            try simp only [Act.put, List.setIfInBounds_toArray, List.set_cons_zero, List.set_cons_succ]
                            refine wpAnyH_done (by kernel_rfl) ?_ _
                            have HH := Lib.hid hHeld
                            clear hHeld
                            go_wp2
                            go_roundw
                            case rel => exact ⟨q + 1, true, by omega, by go_num, rfl, Lib.hid (by first | exact HN.out | (have := HN.out; simpa using this)), Lib.hid HH.out.bel⟩
                            case measure => simp [intOf]; omega
                          | false =>
                            have HN := Lib.hid (HSTEP.out (y1.same y2) (by rw [Pt.same_iff]; simp))
                            have qe := fun w => eql_run6 y1 y2 w
                            obtain ⟨bb, hbb⟩ : ∃ b, y1.same y2 = b := ⟨_, rfl⟩
                            rw [hbb] at HN qe
                            unfold ptV at qe
                            clear HSTEP hbb
                            go_wp2_with fail
                            refine wp_region_held_drew (S := (P22 w26 g i1 y1 g2 i2 y2)) (by kernel_rfl) H0.drew (fun hHeld => ?_)
                            refine wpAnyH_take (i := 0) (oi := ?lt1o) (v := ?lt1v) ?lt1h (by kernel_rfl) (by kernel_rfl) (by kernel_rfl) ?lt1q ?lt1y hHeld ?lt1r
                            case lt1h => (simp only [List.getElem?_toArray, List.getElem?_cons_zero]; rfl)
                            case lt1q => exact fun _ _ _ h => h
                            case lt1y => (refine Or.inl ⟨by first | kernel_rfl | rfl, ?_⟩; intro w hSw; (try dsimp only at hSw); obtain ⟨⟨c0', c1', c2', c3', c4', c5'⟩, ⟨d0, d1, d2, d3, d4, d5⟩, -⟩ := hSw; go_simp <;> (try with_reducible rfl))
                            try simp only [Act.put, List.setIfInBounds_toArray, List.set_cons_zero, List.set_cons_succ]
                            refine wpAnyH_take (i := 1) (oi := ?lt2o) (v := ?lt2v) ?lt2h (by kernel_rfl) (by kernel_rfl) (by kernel_rfl) ?lt2q ?lt2y hHeld ?lt2r
                            case lt2h => (simp only [List.getElem?_toArray, List.getElem?_cons_succ, List.getElem?_cons_zero]; rfl)
                            case lt2q => exact fun _ _ _ h => h
                            case lt2y => (refine Or.inl ⟨by first | kernel_rfl | rfl, ?_⟩; intro w hSw; (try dsimp only at hSw); obtain ⟨⟨c0', c1', c2', c3', c4', c5'⟩, ⟨d0, d1, d2, d3, d4, d5⟩, -⟩ := hSw; go_simp <;> (try with_reducible rfl))
                            try simp only [Act.put, List.setIfInBounds_toArray, List.set_cons_zero, List.set_cons_succ]
                            refine wpAnyH_take (i := 2) (oi := ?lt3o) (v := ?lt3v) ?lt3h (by kernel_rfl) (by kernel_rfl) (by kernel_rfl) ?lt3q ?lt3y hHeld ?lt3r
                            case lt3h => (simp only [List.getElem?_toArray, List.getElem?_cons_succ, List.getElem?_cons_zero]; rfl)
                            case lt3q => exact fun _ _ _ h => h
                            case lt3y => (refine Or.inl ⟨by first | kernel_rfl | rfl, ?_⟩; intro w hSw; (try dsimp only at hSw); obtain ⟨⟨c0', c1', c2', c3', c4', c5'⟩, ⟨d0, d1, d2, d3, d4, d5⟩, -⟩ := hSw; go_simp <;> (try with_reducible rfl))
                            try simp only [Act.put, List.setIfInBounds_toArray, List.set_cons_zero, List.set_cons_succ]
                            refine wpAnyH_take (i := 3) (oi := ?lt4o) (v := ?lt4v) ?lt4h (by kernel_rfl) (by kernel_rfl) (by kernel_rfl) ?lt4q ?lt4y hHeld ?lt4r
                            case lt4h => (simp only [List.getElem?_toArray, List.getElem?_cons_succ, List.getElem?_cons_zero]; rfl)
                            case lt4q => exact fun _ _ _ h => h
                            case lt4y => (refine Or.inl ⟨by first | kernel_rfl | rfl, ?_⟩; intro w hSw; (try dsimp only at hSw); obtain ⟨⟨c0', c1', c2', c3', c4', c5'⟩, ⟨d0, d1, d2, d3, d4, d5⟩, -⟩ := hSw; go_simp <;> (try with_reducible rfl))
                            try simp only [Act.put, List.setIfInBounds_toArray, List.set_cons_zero, List.set_cons_succ]
                            refine wpAnyH_take (i := 4) (oi := ?lt5o) (v := ?lt5v) ?lt5h (by kernel_rfl) (by kernel_rfl) (by kernel_rfl) ?lt5q ?lt5y hHeld ?lt5r
                            case lt5h => (simp only [List.getElem?_toArray, List.getElem?_cons_succ, List.getElem?_cons_zero]; rfl)
                            case lt5q => exact fun _ _ _ h => h
                            case lt5y => (refine Or.inl ⟨by first | kernel_rfl | rfl, ?_⟩; intro w hSw; (try dsimp only at hSw); obtain ⟨⟨c0', c1', c2', c3', c4', c5'⟩, ⟨d0, d1, d2, d3, d4, d5⟩, -⟩ := hSw; go_simp <;> (try with_reducible rfl))
                            try simp only [Act.put, List.setIfInBounds_toArray, List.set_cons_zero, List.set_cons_succ]
                            refine wpAnyH_take (i := 5) (oi := ?lt6o) (v := ?lt6v) ?lt6h (by kernel_rfl) (by kernel_rfl) (by kernel_rfl) ?lt6q ?lt6y hHeld ?lt6r
                            case lt6h => (simp only [List.getElem?_toArray, List.getElem?_cons_succ, List.getElem?_cons_zero]; rfl)
                            case lt6q => exact fun _ _ _ h => h
                            case lt6y => (refine Or.inl ⟨by first | kernel_rfl | rfl, ?_⟩; intro w hSw; (try dsimp only at hSw); obtain ⟨⟨c0', c1', c2', c3', c4', c5'⟩, ⟨d0, d1, d2, d3, d4, d5⟩, -⟩ := hSw; go_simp <;> (try with_reducible rfl))
                            try simp only [Act.put, List.setIfInBounds_toArray, List.set_cons_zero, List.set_cons_succ]
                            refine wpAnyH_take (i := 6) (oi := ?lt7o) (v := ?lt7v) ?lt7h (by kernel_rfl) (by kernel_rfl) (by kernel_rfl) ?lt7q ?lt7y hHeld ?lt7r
                            case lt7h => (simp only [List.getElem?_toArray, List.getElem?_cons_succ, List.getElem?_cons_zero]; rfl)
                            case lt7q => exact fun _ _ _ h => h
                            case lt7y => (refine Or.inl ⟨by first | kernel_rfl | rfl, ?_⟩; intro w hSw; (try dsimp only at hSw); obtain ⟨⟨c0', c1', c2', c3', c4', c5'⟩, ⟨d0, d1, d2, d3, d4, d5⟩, -⟩ := hSw; go_simp <;> (try with_reducible rfl))
                            try simp only [Act.put, List.setIfInBounds_toArray, List.set_cons_zero, List.set_cons_succ]
                            refine wpAnyH_take (i := 7) (oi := ?lt8o) (v := ?lt8v) ?lt8h (by kernel_rfl) (by kernel_rfl) (by kernel_rfl) ?lt8q ?lt8y hHeld ?lt8r
                            case lt8h => (simp only [List.getElem?_toArray, List.getElem?_cons_succ, List.getElem?_cons_zero]; rfl)
                            case lt8q => exact fun _ _ _ h => h
                            case lt8y => (refine Or.inl ⟨by first | kernel_rfl | rfl, ?_⟩; intro w hSw; (try dsimp only at hSw); obtain ⟨⟨c0', c1', c2', c3', c4', c5'⟩, ⟨d0, d1, d2, d3, d4, d5⟩, -⟩ := hSw; go_simp <;> (try with_reducible rfl))
                            try simp only [Act.put, List.setIfInBounds_toArray, List.set_cons_zero, List.set_cons_succ]
                            refine wpAnyH_take (i := 8) (oi := ?lt9o) (v := ?lt9v) ?lt9h (by kernel_rfl) (by kernel_rfl) (by kernel_rfl) ?lt9q ?lt9y hHeld ?lt9r
                            case lt9h => (simp only [List.getElem?_toArray, List.getElem?_cons_succ, List.getElem?_cons_zero]; rfl)
                            case lt9q => exact fun _ _ _ h => h
                            case lt9y => (refine Or.inl ⟨by first | kernel_rfl | rfl, ?_⟩; intro w hSw; (try dsimp only at hSw); obtain ⟨⟨c0', c1', c2', c3', c4', c5'⟩, ⟨d0, d1, d2, d3, d4, d5⟩, -⟩ := hSw; go_simp <;> (try with_reducible rfl))
                            try simp only [Act.put, List.setIfInBounds_toArray, List.set_cons_zero, List.set_cons_succ]
                            refine wpAnyH_take (i := 9) (oi := ?lt10o) (v := ?lt10v) ?lt10h (by kernel_rfl) (by kernel_rfl) (by kernel_rfl) ?lt10q ?lt10y hHeld ?lt10r
                            case lt10h => (simp only [List.getElem?_toArray, List.getElem?_cons_succ, List.getElem?_cons_zero]; rfl)
                            case lt10q => exact fun _ _ _ h => h
                            case lt10y => (refine Or.inl ⟨by first | kernel_rfl | rfl, ?_⟩; intro w hSw; (try dsimp only at hSw); obtain ⟨⟨c0', c1', c2', c3', c4', c5'⟩, ⟨d0, d1, d2, d3, d4, d5⟩, -⟩ := hSw; go_simp <;> (try with_reducible rfl))
                            try simp only [Act.put, List.setIfInBounds_toArray, List.set_cons_zero, List.set_cons_succ]
                            refine wpAnyH_take (i := 10) (oi := ?lt11o) (v := ?lt11v) ?lt11h (by kernel_rfl) (by kernel_rfl) (by kernel_rfl) ?lt11q ?lt11y hHeld ?lt11r
                            case lt11h => (simp only [List.getElem?_toArray, List.getElem?_cons_succ, List.getElem?_cons_zero]; rfl)
                            case lt11q => exact fun _ _ _ h => h
                            case lt11y => (refine Or.inl ⟨by first | kernel_rfl | rfl, ?_⟩; intro w hSw; (try dsimp only at hSw); obtain ⟨⟨c0', c1', c2', c3', c4', c5'⟩, ⟨d0, d1, d2, d3, d4, d5⟩, -⟩ := hSw; go_simp <;> (try with_reducible rfl))
                            try simp only [Act.put, List.setIfInBounds_toArray, List.set_cons_zero, List.set_cons_succ]
                            refine wpAnyH_take (i := 11) (oi := ?lt12o) (v := ?lt12v) ?lt12h (by kernel_rfl) (by kernel_rfl) (by kernel_rfl) ?lt12q ?lt12y hHeld ?lt12r
                            case lt12h => (simp only [List.getElem?_toArray, List.getElem?_cons_succ, List.getElem?_cons_zero]; rfl)
                            case lt12q => exact fun _ _ _ h => h
                            case lt12y => (refine Or.inl ⟨by first | kernel_rfl | rfl, ?_⟩; intro w hSw; (try dsimp only at hSw); obtain ⟨⟨c0', c1', c2', c3', c4', c5'⟩, ⟨d0, d1, d2, d3, d4, d5⟩, -⟩ := hSw; go_simp <;> (try with_reducible rfl))
                            try simp only [Act.put, List.setIfInBounds_toArray, List.set_cons_zero, List.set_cons_succ]
                            refine wpAnyH_take (i := 12) (oi := ?lt13o) (v := ?lt13v) ?lt13h (by kernel_rfl) (by kernel_rfl) (by kernel_rfl) ?lt13q ?lt13y hHeld ?lt13r
                            case lt13h => (simp only [List.getElem?_toArray, List.getElem?_cons_succ, List.getElem?_cons_zero]; rfl)
                            case lt13q => exact fun _ _ _ h => h
                            case lt13y => (refine Or.inl ⟨by first | kernel_rfl | rfl, ?_⟩; intro w hSw; (try dsimp only at hSw); obtain ⟨⟨c0', c1', c2', c3', c4', c5'⟩, ⟨d0, d1, d2, d3, d4, d5⟩, -⟩ := hSw; go_simp <;> (try with_reducible rfl))
                            try simp only [Act.put, List.setIfInBounds_toArray, List.set_cons_zero, List.set_cons_succ]
                            refine wpAnyH_done (by kernel_rfl) ?_ _
                            have HH := Lib.hid hHeld
                            clear hHeld
                            go_wp2
                            go_roundw
                            case rel => exact ⟨q + 1, bb, by omega, by go_num, rfl, Lib.hid (by first | exact HN.out | (have := HN.out; simpa using this)), Lib.hid HH.out.bel⟩
                            case measure => simp [intOf]; omega
                      · have hqki : ¬ (q : Int) < (k : Int) := by omega
                        have hyes : fd = true := HF.out.2 (by
                          obtain ⟨e, he, hey⟩ := List.getElem_of_mem HM2.out
                          exact ⟨e, he, by rw [ES.out] at he; omega, hey⟩)
                        subst hyes
                        have V5 := Lib.hid (V4.out.later HBQ.out)
                        go_wp2
                        go_roundw
                        case rel => exact ⟨j + 1, by omega, by go_num, V5⟩
                        case measure => simp [intOf]; omega
                · have hjxi : ¬ (j : Int) < (nx : Int) := by omega
                  go_wp2
                  go_ret
                  exact ⟨rfl, V4.out.bel⟩
end Go.Proofs.YtkomfenjeoaelaaDoor.blockLater
