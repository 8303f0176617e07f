/- The walk of AggValues. -/
import Derived.Test.YtipjhlabcbkgjaaAggAwake
import Derived.Test.YtipjhlabcbkgjaaAggLaws
import Derived.Test.YtipjhlabcbkgjaaAggRight
import Derived.Test.YtipjhlabcbkgjaaAggArgs
import Derived.Test.YtipjhlabcbkgjaaAggYields
set_option maxRecDepth 20000
namespace Go.Proofs.Ytipjhlabcbkgjaa.aggValues
open Go.RowKit Go.Proofs.Ytipjhlabcbkgjaa Go.Proofs.Ytipjhlabcbkgjaa.Wd Go.Proofs.Ytipjhlabcbkgjaa.Vi Go.Proofs.Ytipjhlabcbkgjaa.Mk Go.Proofs.Ytipjhlabcbkgjaa.Ag

def setB9 (f : Nat → Int) (k : Nat) (n : Int) : Nat → Int := fun i => if i = k then n else f i
/-- Nine numbers in a block, which may be written. -/
structure B9W (w : World) (b : Nat) (f : Nat → Int) : Prop where
  c : ∀ j, j < 9 → w.cell? ⟨b, j, none⟩ = some (.int .i64 (f j))
  f : ∀ j, j < 9 → w.frozen? ⟨b, j, none⟩ = false
theorem B9W.room {w : World} {b : Nat} {f : Nat → Int} (h : B9W w b f) : b < w.heap.size := World.block_lt_of_cell? w _ (h.c 0 (by decide))
theorem B9W.upto {w w' : World} {b B : Nat} {f : Nat → Int} (h : B9W w b f) (k : Below B w w') (hb : b < B) : B9W w' b f :=
  ⟨fun j hj => (k.cell (p := ⟨b, j, none⟩) hb).trans (h.c j hj), fun j hj => (k.frozen (p := ⟨b, j, none⟩) hb).trans (h.f j hj)⟩
theorem B9W.zero (w : World) (T : TypeId) : B9W (w.alloc (.cells #[.int .i64 0, .int .i64 0, .int .i64 0, .int .i64 0, .int .i64 0, .int .i64 0, .int .i64 0, .int .i64 0, .int .i64 0] T)) w.heap.size (fun _ => 0) := by
  constructor <;> intro j hj <;> (have hc : j = 0 ∨ j = 1 ∨ j = 2 ∨ j = 3 ∨ j = 4 ∨ j = 5 ∨ j = 6 ∨ j = 7 ∨ j = 8 := by omega) <;> rcases hc with rfl | rfl | rfl | rfl | rfl | rfl | rfl | rfl | rfl <;> simp [go_sem]
theorem B9W.put {w : World} {b : Nat} {f : Nat → Int} (h : B9W w b f) (k : Nat) (hk : k < 9) (n : Int) : B9W (w.setCell ⟨b, k, none⟩ (.int .i64 n)) b (setB9 f k n) := by
  refine ⟨fun j hj => ?_, fun j hj => ?_⟩
  · unfold setB9
    by_cases e : j = k
    · subst e; rw [if_pos rfl]; exact World.cell?_setCell_same _ _ _ (h.c j hj)
    · rw [if_neg e, World.cell?_setCell_other _ _ _ _ (fun e2 => e (by injection e2 with _ e3; exact e3.symm))]; exact h.c j hj
  · have := h.f j hj; simp [go_sem, this]
theorem load_a9 {op : Oper} {a : Act} {w : World} {K : Act → World → Prop} {Q : Exit → Act → World → Prop} (x : Operand) (ho : op.op = .load 27 x) (b o : Nat) (f : Nat → Int) (hx : a.eval x = .pointer (some ⟨b, o, none⟩))
    (hA : w.rangeAt b o (cells9 f)) (h : K (a.put op.dst (b9V f)) w) : op.wp Try.prog a w K Q :=
  wp_load_mid 27 x ho b o hx (cells9 f) _ hA Try.underlying27 rfl infoA9 h
/-- What stands in the loop. -/
structure VR (w : World) (b5 b6 : Nat) (g : Ag) (f : Nat → Int) (aM : Option Addr) (m : List Pt) (W : World) : Prop where
  g : AgAt W b5 g
  b : B9W W b6 f
  p : Pts W b5 aM m
  lt : b5 < b6
  bel : Below w.heap.size w W
  hw : w.heap.size ≤ b5
theorem VR.keep {w : World} {b5 b6 : Nat} {g : Ag} {f : Nat → Int} {aM : Option Addr} {m : List Pt} {W W' : World} (h : VR w b5 b6 g f aM m W) (k : Below W.heap.size W W') : VR w b5 b6 g f aM m W' :=
  ⟨h.g.below k, h.b.upto k h.b.room, h.p.below (k.mono (by have := h.g.room; omega)), h.lt, bel_next h.bel k, h.hw⟩
theorem VR.put {w : World} {b5 b6 : Nat} {g : Ag} {f : Nat → Int} {aM : Option Addr} {m : List Pt} {W : World} (h : VR w b5 b6 g f aM m W) (k : Nat) (hk : k < 9) (n : Int) : VR w b5 b6 g (setB9 f k n) aM m (W.setCell ⟨b6, k, none⟩ (.int .i64 n)) :=
  have kb : Below b6 W (W.setCell ⟨b6, k, none⟩ (.int .i64 n)) := (Below.refl _ _).setCell (p := ⟨b6, k, none⟩) (Nat.le_refl _) _
  ⟨h.g.upto kb h.lt, h.b.put k hk n, h.p.below (kb.mono (by have := h.lt; omega)), h.lt, h.bel.trans (kb.mono (by have := h.lt; have := h.hw; omega)), h.hw⟩
theorem VR.name {w : World} {b5 b6 : Nat} {g : Ag} {f : Nat → Int} {aM : Option Addr} {m : List Pt} {W : World} {q o : Nat} {p : Pt} (h : VR w b5 b6 g f aM m W) (hp : PtO W q o p) : ∃ x, x = W ∧ VR w b5 b6 g f aM m x ∧ PtO x q o p := ⟨W, rfl, h, hp⟩
theorem rt_unlike {l : List Pt} {k : Nat} {p q : Pt} (hp : p ∈ rtN l k) (hq : q ∈ rtN l k) (h : p.st = q.st) : p = q := by
  unfold rtN at hp hq
  obtain ⟨i, hi, rfl⟩ := List.mem_mapIdx.1 hp
  obtain ⟨j, hj, rfl⟩ := List.mem_mapIdx.1 hq
  have e : ((i : Int) + 1) = (j : Int) + 1 := congrArg St.q h
  obtain rfl : i = j := by omega
  rfl
def anyV (l : List Pt) (x : Int) : Bool := l.any fun p => p.v == x
theorem anyV_snoc (l : List Pt) (p : Pt) (x : Int) : anyV (l ++ [p]) x = (anyV l x || p.v == x) := by unfold anyV; rw [List.any_append]; simp
theorem anyV_mem {l : List Pt} {x : Int} (h : ∃ p ∈ l, p.v = x) : anyV l x = true := by
  obtain ⟨p, hp, e⟩ := h
  unfold anyV
  exact List.any_eq_true.2 ⟨p, hp, by simpa using e⟩
theorem cnt_all (l : List Pt) : cntB l 0 + cntB l 1 + cntB l 2 + cntB l 3 + cntB l 4 + cntB l 5 + cntB l 6 + cntB l 7 + cntB l 8 = l.length := by
  refine snoc_ind (P := fun l => cntB l 0 + cntB l 1 + cntB l 2 + cntB l 3 + cntB l 4 + cntB l 5 + cntB l 6 + cntB l 7 + cntB l 8 = l.length) rfl (fun l p ih => ?_) l
  rw [List.length_append]
  simp only [cntB_snoc, List.length_singleton]
  have hb := bk_le p.v
  generalize bk p.v = k at *
  have hc : k = 0 ∨ k = 1 ∨ k = 2 ∨ k = 3 ∨ k = 4 ∨ k = 5 ∨ k = 6 ∨ k = 7 ∨ k = 8 := by omega
  rcases hc with rfl | rfl | rfl | rfl | rfl | rfl | rfl | rfl | rfl <;> simp <;> omega
theorem under_all {l : List Pt} {g : Ag} (K : Known l g) (hl : l.length ≤ 1000000) : unS g.b (upK 9) = (l.length : Int) := by
  have h := cnt_all l
  have hk : upK 9 = 9 := by decide
  have hb : ∀ i, cntB l i ≤ 1000000 := fun i => Nat.le_trans (cntB_le l i) hl
  have w : ∀ x : Nat, x ≤ 9000000 → w64 (x : Int) = (x : Int) := fun x hx => w64_self (by omega)
  have add : ∀ x y : Nat, x + y ≤ 9000000 → w64 ((x : Int) + (y : Int)) = ((x + y : Nat) : Int) := fun x y h => by rw [w64_self (by omega)]; push_cast; rfl
  rw [hk]
  simp only [unS, K.b]
  have h0 := hb 0; have h1 := hb 1; have h2 := hb 2; have h3 := hb 3; have h4 := hb 4; have h5 := hb 5; have h6 := hb 6; have h7 := hb 7; have h8 := hb 8
  rw [← h]
  rw [show (0 : Int) = ((0 : Nat) : Int) from rfl]
  rw [add _ _ (by omega), add _ _ (by omega), add _ _ (by omega), add _ _ (by omega), add _ _ (by omega), add _ _ (by omega), add _ _ (by omega), add _ _ (by omega), add _ _ (by omega), Nat.zero_add]
set_option maxHeartbeats 4000000 in
theorem walk (a0 : Option Addr) (len cap : Nat) (w : World) (h : ArgPts w a0 len cap) : Calls Try.prog 9 #[.slice a0 len cap] w fun e w' => e = .returned (.bool true) ∧ Below w.heap.size w w' := by
  obtain ⟨⟨l, hl, hP, hlen, hf⟩, hc⟩ := h
  have HP := Lib.hid hP
  have krt := fun W (hp : Pts W W.heap.size a0 l) => right_is a0 len cap W l (Lib.hid hl) hp hc hlen
  obtain ⟨m, hm⟩ : ∃ m, rtL l = m := ⟨_, rfl⟩
  unfold RightDone at krt
  rw [hm] at krt
  have hml : m.length ≤ 40 := by rw [← hm]; unfold rtL; rw [rtN_len]; omega
  have hfm : ∀ p ∈ m, p.fits := fun p hp => by
    rw [← hm] at hp
    unfold rtL rtN at hp
    obtain ⟨i, hi, rfl⟩ := List.mem_mapIdx.1 hp
    have hq := hf _ (List.mem_of_mem_take (List.getElem_mem hi))
    exact ⟨hq.s, hq.t, hq.v⟩
  have hun : ∀ p ∈ m, ∀ q ∈ m, p.st = q.st → p = q := fun p hp q hq h => by rw [← hm] at hp hq; exact rt_unlike hp hq h
  have K0 := fold_known m hfm (by omega)
  have hgf := foldA_fits hfm
  obtain ⟨g, hg⟩ : ∃ g, foldA m = g := ⟨_, rfl⟩
  have kf := fun a c W (hp : Pts W W.heap.size a m) => fold_is a c m.length m W (Lib.hid rfl) hp hfm (by omega)
  rw [hg] at K0 hgf kf
  have hu := under_all K0 (by omega)
  obtain ⟨n, hn⟩ : ∃ n, m.length = n := ⟨_, rfl⟩
  have HK := Lib.hid K0
  have HFM := Lib.hid hfm
  have HUN := Lib.hid hun
  rw [hn] at hu kf
  have HN := Lib.hid hn
  have hn40 : n ≤ 40 := by omega
  have ku := fun W => under_is g 9 W
  rw [hu] at ku
  clear hP hl hf hlen hc hm hg hfm hun K0 hu hml hn
  go_enter Try.func9, Try.ntmps9
  go_upto_region 3 with (first
    | (go_at_call 11; (with_reducible refine (awake_is _).mono ?_); rintro e w1 ⟨rfl, hb1⟩; (have H1 := Lib.hid hb1); clear hb1)
    | (go_at_call 31; (with_reducible refine (krt _ ((HP.out.below H1.out).mono H1.out.size)).mono ?_); rintro e w2 ⟨v, rfl, hrow, hb2⟩; obtain ⟨aM, cM, hv⟩ := hrow.slice; subst hv; (have HROW := Lib.hid hrow); (have HB2 := Lib.hid (bel_next H1.out hb2)); clear hrow hb2))
  have hpts := HROW.out.pts
  have HPT := Lib.hid hpts
  clear hpts HROW krt
  rw [HN.out]
  refine wp_region_lit ?_
  refine wpList_plain rfl fun K hK => ?_
  go_simp
  refine hK _ _ ?_
  clear hK K
  (try simp only [Act.put, List.setIfInBounds_toArray, List.set_cons_zero, List.set_cons_succ])
  refine wpList_plain rfl fun K hK => ?_
  go_simp
  ((with_reducible refine (kf _ _ _ HPT.out).mono ?_); rintro e w3 ⟨rfl, hb3⟩)
  refine hK _ _ ?_
  clear hK K
  (try simp only [Act.put, List.setIfInBounds_toArray, List.set_cons_zero, List.set_cons_succ])
  refine wpList_plain rfl fun K hK => ?_
  go_simp
  refine hK _ _ ?_
  clear hK K
  (try simp only [Act.put, List.setIfInBounds_toArray, List.set_cons_zero, List.set_cons_succ])
  refine list_store_ag rfl _ _ rfl w3.heap.size Ag.zero g rfl rfl (AgW.zero w3 _) ?_
  refine wpList_nil ?_
  obtain ⟨w4, hw4, h4, h4p, h4b, hs5⟩ : ∃ x, x = stA (w3.alloc (.cells #[.int .i64 0, .int .i64 0, .int .u64 0, .int .i64 0, .int .i64 0, .int .i64 0, .int .i64 0, .int .i64 0, .int .i64 0, .int .i64 0, .int .i64 0, .int .i64 0, .int .i64 0, .int .i64 0, .int .i64 0, .int .i64 0, .int .i64 0, .int .i64 0] 29)) w3.heap.size g ∧ AgAt x w3.heap.size g ∧ Pts x w3.heap.size aM m ∧ Below w.heap.size w x ∧ w.heap.size ≤ w3.heap.size :=
    ⟨_, rfl, ((AgW.zero w3 29).st g).at_, ((HPT.out.below hb3).mono hb3.size).below (stA_below _ ((Below.refl _ _).alloc (Nat.le_refl _) _) (Nat.le_refl _)), stA_below _ (bel_new (bel_next HB2.out hb3) _) (bel_next HB2.out hb3).size, (bel_next HB2.out hb3).size⟩
  rw [← hw4]
  obtain ⟨b5, hb5⟩ : ∃ b, w3.heap.size = b := ⟨_, rfl⟩
  rw [hb5] at h4 h4p hs5 ⊢
  have H4 := Lib.hid (And.intro h4 (And.intro h4p (And.intro h4b hs5)))
  clear hw4 h4 h4p h4b hs5 hb5 hb3 kf HPT HB2
  go_upto_region 5 with fail
  obtain ⟨w5, hw5, h5⟩ : ∃ x, x = w4.alloc (.cells #[.int .i64 0, .int .i64 0, .int .i64 0, .int .i64 0, .int .i64 0, .int .i64 0, .int .i64 0, .int .i64 0, .int .i64 0] 27) ∧ VR w b5 w4.heap.size g (fun i => (cntB (m.take 0) i : Int)) aM m x :=
    ⟨_, rfl, H4.out.1.below ((Below.refl _ _).alloc (Nat.le_refl _) _), B9W.zero _ _, H4.out.2.1.below ((Below.refl _ _).alloc (by have := H4.out.1.room; omega) _), H4.out.1.room, bel_new H4.out.2.2.1 _, H4.out.2.2.2⟩
  rw [← hw5]
  obtain ⟨b6, hb6⟩ : ∃ b, w4.heap.size = b := ⟨_, rfl⟩
  rw [hb6] at h5 ⊢
  have H5 := Lib.hid h5
  clear hw5 h5 hb6 H4
  go_wp2_with fail
  go_loopw [7, 8, 9, 10, 11, 12] (fun lo hi i _ _ _ wr => ∃ k : Nat, i = .int .i64 (k : Int) ∧ k ≤ n ∧ lo = .bool (anyV (m.take k) g.mn) ∧ hi = .bool (anyV (m.take k) g.mx) ∧ VR w b5 b6 g (fun i => (cntB (m.take k) i : Int)) aM m wr) (fun _ _ i _ _ _ _ => n - (intOf i).toNat)
  case atStart => exact ⟨0, rfl, Nat.zero_le _, rfl, rfl, H5.out⟩
  case round =>
    obtain ⟨k, rfl, hkn, rfl, rfl, hR⟩ := hrel
    obtain ⟨w6, hw6⟩ : ∃ x, x = wr := ⟨_, rfl⟩
    subst hw6
    have HR := Lib.hid hR
    clear hR H5
    by_cases hk : k < n
    · have hki : (k : Int) < (n : Int) := by omega
      have hwk : IntKind.i64.wrap ((k : Int) + 1) = (k : Int) + 1 := by rw [IntKind.wrap_i64]; omega
      have hkm : k < m.length := by rw [HN.out]; exact hk
      rcases HR.out.p.at_ with h0 | ⟨b, off, rfl, hb, hcc⟩
      · rw [h0] at hkm; simp at hkm
      · obtain ⟨p, hp⟩ : ∃ p, m[k] = p := ⟨_, rfl⟩
        have cp := hcc k hkm
        rw [hp] at cp
        obtain ⟨c0, c1, c2, c3, c4, c5⟩ := cp
        have hpm : p ∈ m := by rw [← hp]; exact List.getElem_mem hkm
        have hpv := (HFM.out p hpm).v
        have hlo := HK.out.lo p hpm
        have hhi := HK.out.hi p hpm
        have hlate := HK.out.late p hpm
        have hla : p.st = g.st → p.v = g.la := fun e => by
          obtain ⟨-, -, q, hq, e1, e2⟩ := HK.out.mem (List.ne_nil_of_mem hpm)
          rw [HUN.out p hpm q hq (by rw [e, e1]), e2]
        have htk : m.take (k + 1) = m.take k ++ [p] := by rw [List.take_succ_eq_append_getElem hkm, hp]
        obtain ⟨y, hy⟩ : ∃ y, bk p.v = y := ⟨_, rfl⟩
        have hy8 : y ≤ 8 := by rw [← hy]; exact bk_le _
        have hy9 : y < 9 := by omega
        have kb := fun W => bucket_is p.v W hpv y (Lib.hid hy)
        obtain ⟨lo, hlo'⟩ : ∃ x, anyV (m.take k) g.mn = x := ⟨_, rfl⟩
        obtain ⟨hi, hhi'⟩ : ∃ x, anyV (m.take k) g.mx = x := ⟨_, rfl⟩
        have HLO := Lib.hid (show anyV (m.take (k + 1)) g.mn = (lo || p.v == g.mn) by rw [htk, anyV_snoc, hlo'])
        have HHI := Lib.hid (show anyV (m.take (k + 1)) g.mx = (hi || p.v == g.mx) by rw [htk, anyV_snoc, hhi'])
        have HC := Lib.hid (show setB9 (fun i => (cntB (m.take k) i : Int)) y ((cntB (m.take k) y : Int) + 1) = fun i => (cntB (m.take (k + 1)) i : Int) by
          funext i
          unfold setB9
          rw [htk, cntB_snoc, hy]
          by_cases e : i = y
          · rw [if_pos e, if_pos e.symm, e]; push_cast; rfl
          · rw [if_neg e, if_neg (fun h => e h.symm)]; rfl)
        have hcb : cntB (m.take k) y ≤ 40 := Nat.le_trans (cntB_le _ _) (by rw [List.length_take]; omega)
        obtain ⟨x, hx⟩ : ∃ x, cntB (m.take k) y = x := ⟨_, rfl⟩
        have hwx : IntKind.i64.wrap ((x : Int) + 1) = (x : Int) + 1 := by rw [IntKind.wrap_i64]; omega
        have HX := Lib.hid hx
        rw [hlo', hhi']
        clear hcc hp hy hlo' hhi' htk hx hpm hcb
        have HPV := Lib.hid hpv
        have HLT := Lib.hid hlate
        have HLA := Lib.hid hla
        clear hpv hlate hla
        go_upto_region 11 with fail
        obtain ⟨w7, hw7, h7, hp7⟩ := (HR.out.keep ((Below.refl _ _).alloc (Nat.le_refl _) (.cells #[.string p.s, .int .i64 p.t, .int .i64 p.v, .int .i64 p.st.c, .int .i64 p.st.s, .int .i64 p.st.q] 31))).name (PtO.new w6 p 31)
        rw [← hw7]
        have hfar : b6 < w6.heap.size := HR.out.b.room
        obtain ⟨q, hq⟩ : ∃ q, w6.heap.size = q := ⟨_, rfl⟩
        rw [hq] at hp7 hfar ⊢
        have H7 := Lib.hid (And.intro h7 hp7)
        clear hw7 h7 hp7 hq c0 c1 c2 c3 c4 c5
        obtain ⟨y0, y1, y2, y3, y4, y5⟩ := H7.out.2
        have g3 := H7.out.1.g.cell 3 rfl
        have g4 := H7.out.1.g.cell 4 rfl
        have d1 : decide (p.v < g.mn) = false := decide_eq_false (by omega)
        have d2 : decide (g.mx < p.v) = false := decide_eq_false (by omega)
        go_upto_region 13 with fail
        go_cut [7] from 18 to 127 (fun v wx => v = .bool (lo || p.v == g.mn) ∧ wx = w7)
        case first =>
          cases lo with
          | true => go_wp2_with fail; go_meet; case rel => exact ⟨rfl, rfl⟩
          | false => go_wp2_with fail; go_meet; case rel => exact ⟨by simp, rfl⟩
        case rest =>
        obtain ⟨rfl, hwc⟩ := hcut
        rw [hwc]
        clear hwc wc
        go_upto_region 14 with fail
        go_cut [8] from 18 to 127 (fun v wx => v = .bool (hi || p.v == g.mx) ∧ wx = w7)
        case first =>
          cases hi with
          | true => go_wp2_with fail; go_meet; case rel => exact ⟨rfl, rfl⟩
          | false => go_wp2_with fail; go_meet; case rel => exact ⟨by simp, rfl⟩
        case rest =>
        obtain ⟨rfl, hwc⟩ := hcut
        rw [hwc]
        clear hwc wc
        have bx := H7.out.1.b.c y hy9
        have bf := H7.out.1.b.f y hy9
        rw [HX.out] at bx
        have hyi : (y : Int) < 9 := by omega
        have hyi0 : 0 ≤ (y : Int) := by omega
        have hyi8 : ¬ 8 < (y : Int) := by omega
        go_upto_region 19 with (go_at_call 12; (with_reducible refine (kb _).mono ?_); rintro e w8 ⟨rfl, rfl⟩)
        obtain ⟨w9, hw9, h9, hp9⟩ := (show VR w b5 b6 g (fun i => (cntB (m.take (k + 1)) i : Int)) _ m (w7.setCell ⟨b6, y, none⟩ (.int .i64 ((x : Int) + 1))) from by
          have h := H7.out.1.put y hy9 ((x : Int) + 1)
          rw [← HX.out] at h
          rw [HC.out, HX.out] at h
          exact h).name (show PtO (w7.setCell ⟨b6, y, none⟩ (.int .i64 ((x : Int) + 1))) q 0 p from by
            obtain ⟨z0, z1, z2, z3, z4, z5⟩ := H7.out.2
            have ne : ∀ j, (⟨b6, y, none⟩ : Addr) ≠ ⟨q, j, none⟩ := fun j e => by injection e with e; omega
            exact ⟨(World.cell?_setCell_other _ _ _ _ (ne _)).trans z0, (World.cell?_setCell_other _ _ _ _ (ne _)).trans z1, (World.cell?_setCell_other _ _ _ _ (ne _)).trans z2, (World.cell?_setCell_other _ _ _ _ (ne _)).trans z3, (World.cell?_setCell_other _ _ _ _ (ne _)).trans z4, (World.cell?_setCell_other _ _ _ _ (ne _)).trans z5⟩)
        rw [← hw9]
        have H9 := Lib.hid (And.intro h9 hp9)
        clear hw9 h9 hp9 y0 y1 y2 y3 y4 y5 g3 g4 bx bf HC HX H7
        obtain ⟨y0, y1, y2, y3, y4, y5⟩ := H9.out.2
        obtain ⟨x0, x1, x2, x3, x4, x5, x6, x7, x8, x9, x10, x11, x12, x13, x14, x15, x16, x17⟩ := H9.out.1.g.all
        have qs := fun w => eql_run p.st g.st w
        have hL := HLT.out
        rw [Bool.eq_false_iff, Ne, lt_iff] at hL
        have HL3 := Lib.hid (show (p.st.c < g.st.c) ∨ (p.st.c = g.st.c ∧ p.st.s < g.st.s) ∨ (p.st.c = g.st.c ∧ p.st.s = g.st.s ∧ p.st.q < g.st.q) ∨ (p.st.c = g.st.c ∧ p.st.s = g.st.s ∧ p.st.q = g.st.q) by omega)
        clear hL
        rcases HL3.out with e | ⟨e1, e⟩ | ⟨e1, e2, e⟩ | ⟨e1, e2, e3⟩
        · have f1 : decide (g.st.c < p.st.c) = false := decide_eq_false (by omega)
          have f2 : (p.st.c == g.st.c) = false := by simp; omega
          have hne : decide (p.st = g.st) = false := decide_eq_false (fun h => by rw [h] at e; omega)
          rw [hne] at qs
          clear hne e HL3
          go_wp2_with fail
          go_roundw
          case rel => exact ⟨k + 1, by go_num, by omega, by rw [HLO.out], by rw [HHI.out], H9.out.1⟩
          case measure => simp [intOf]; omega
        · have f1 : decide (g.st.c < p.st.c) = false := decide_eq_false (by omega)
          have f2 : (p.st.c == g.st.c) = true := by simp; omega
          have f3 : decide (g.st.s < p.st.s) = false := decide_eq_false (by omega)
          have f4 : (p.st.s == g.st.s) = false := by simp; omega
          have hne : decide (p.st = g.st) = false := decide_eq_false (fun h => by rw [h] at e; omega)
          rw [hne] at qs
          clear hne e e1 HL3
          go_wp2_with fail
          go_roundw
          case rel => exact ⟨k + 1, by go_num, by omega, by rw [HLO.out], by rw [HHI.out], H9.out.1⟩
          case measure => simp [intOf]; omega
        · have f1 : decide (g.st.c < p.st.c) = false := decide_eq_false (by omega)
          have f2 : (p.st.c == g.st.c) = true := by simp; omega
          have f3 : decide (g.st.s < p.st.s) = false := decide_eq_false (by omega)
          have f4 : (p.st.s == g.st.s) = true := by simp; omega
          have f5 : decide (g.st.q < p.st.q) = false := decide_eq_false (by omega)
          have hne : decide (p.st = g.st) = false := decide_eq_false (fun h => by rw [h] at e; omega)
          rw [hne] at qs
          clear hne e e1 e2 HL3
          go_wp2_with fail
          go_roundw
          case rel => exact ⟨k + 1, by go_num, by omega, by rw [HLO.out], by rw [HHI.out], H9.out.1⟩
          case measure => simp [intOf]; omega
        · have f1 : decide (g.st.c < p.st.c) = false := decide_eq_false (by omega)
          have f2 : (p.st.c == g.st.c) = true := by simp; omega
          have f3 : decide (g.st.s < p.st.s) = false := decide_eq_false (by omega)
          have f4 : (p.st.s == g.st.s) = true := by simp; omega
          have f5 : decide (g.st.q < p.st.q) = false := decide_eq_false (by omega)
          have hst : p.st = g.st := St.ext' e1 e2 e3
          have hne : decide (p.st = g.st) = true := decide_eq_true hst
          have f6 : (p.v != g.la) = false := by simp; exact HLA.out hst
          rw [hne] at qs
          clear hne hst e1 e2 e3 HL3
          go_wp2_with fail
          go_roundw
          case rel => exact ⟨k + 1, by go_num, by omega, by rw [HLO.out], by rw [HHI.out], H9.out.1⟩
          case measure => simp [intOf]; omega
    · have hki : ¬ (k : Int) < (n : Int) := by omega
      obtain rfl : k = n := by omega
      have hmt : m.take k = m := List.take_of_length_le (by rw [HN.out]; omega)
      have hbq : B9 g.b (fun i => (cntB m i : Int)) := by
        have := HK.out.b
        exact ⟨this 0, this 1, this 2, this 3, this 4, this 5, this 6, this 7, this 8⟩
      have qb := fun w => eqB9V_run g.b (fun i => (cntB m i : Int)) w
      rw [decide_eq_true hbq] at qb
      have gb := fun x y w => guardB9 x y g.b (fun i => (cntB m i : Int)) w
      rw [hmt] at HR ⊢
      have hLast : k ≠ 0 → anyV m g.mn = true ∧ anyV m g.mx = true := fun h0 => by
        obtain ⟨q1, q2, -⟩ := HK.out.mem (fun e => h0 (by have := HN.out; rw [e] at this; exact this.symm))
        exact ⟨anyV_mem q1, anyV_mem q2⟩
      have HLAST := Lib.hid hLast
      have hr1 : w6.rangeAt b5 9 (cells9 g.b) := fun j v hv => by
        have hj : j < 9 := (List.getElem?_eq_some_iff.1 hv).1
        rw [cells9_at _ j hj] at hv
        cases hv
        exact HR.out.g.bucket j hj
      have hr2 : w6.rangeAt b6 0 (cells9 (fun i => (cntB m i : Int))) := fun j v hv => by
        have hj : j < 9 := (List.getElem?_eq_some_iff.1 hv).1
        rw [cells9_at _ j hj] at hv
        cases hv
        rw [Nat.zero_add]
        exact HR.out.b.c j hj
      have HR1 := Lib.hid hr1
      have HR2 := Lib.hid hr2
      clear hr1 hr2 hmt hbq hLast hki hkn hk
      obtain ⟨lo, hlo⟩ : ∃ x, anyV m g.mn = x := ⟨_, rfl⟩
      obtain ⟨hi, hhi⟩ : ∃ x, anyV m g.mx = x := ⟨_, rfl⟩
      have HLH := Lib.hid (And.intro hlo hhi)
      rw [hlo, hhi]
      clear hlo hhi
      go_upto_region 22 with fail
      refine wp_region_lit ?_
      by_cases h0 : k = 0
      · subst h0
        refine wpList_plain rfl fun K hK => ?_
        go_simp
        refine hK _ _ ?_
        clear hK K
        (try simp only [Act.put, List.setIfInBounds_toArray, List.set_cons_zero, List.set_cons_succ])
        refine wpList_plain rfl fun K hK => ?_
        go_simp
        refine hK _ _ ?_
        clear hK K
        (try simp only [Act.put, List.setIfInBounds_toArray, List.set_cons_zero, List.set_cons_succ])
        refine wpList_step fun K hK => ?_
        refine (if_pos (by kernel_rfl)).mpr ?_
        go_simp
        refine hK _ _ ?_
        clear hK K
        (try simp only [Act.put, List.setIfInBounds_toArray, List.set_cons_zero, List.set_cons_succ])
        refine wpList_step fun K hK => ?_
        refine (if_pos (by kernel_rfl)).mpr ?_
        refine load_a9 _ rfl b5 9 g.b rfl HR1.out ?_
        refine hK _ _ ?_
        clear hK K
        (try simp only [Act.put, List.setIfInBounds_toArray, List.set_cons_zero, List.set_cons_succ])
        refine wpList_step fun K hK => ?_
        refine (if_pos (by kernel_rfl)).mpr ?_
        refine load_a9 _ rfl b6 0 (fun i => (cntB m i : Int)) rfl HR2.out ?_
        refine hK _ _ ?_
        clear hK K
        (try simp only [Act.put, List.setIfInBounds_toArray, List.set_cons_zero, List.set_cons_succ])
        refine wpList_step fun K hK => ?_
        refine (if_pos (by kernel_rfl)).mpr ?_
        go_simp
        refine hK _ _ ?_
        clear hK K
        (try simp only [Act.put, List.setIfInBounds_toArray, List.set_cons_zero, List.set_cons_succ])
        refine wpList_plain rfl fun K hK => ?_
        go_simp
        refine hK _ _ ?_
        clear hK K
        (try simp only [Act.put, List.setIfInBounds_toArray, List.set_cons_zero, List.set_cons_succ])
        refine wpList_plain rfl fun K hK => ?_
        go_simp
        refine hK _ _ ?_
        clear hK K
        (try simp only [Act.put, List.setIfInBounds_toArray, List.set_cons_zero, List.set_cons_succ])
        refine wpList_step fun K hK => ?_
        refine (if_pos (by kernel_rfl)).mpr ?_
        go_simp
        refine hK _ _ ?_
        clear hK K
        (try simp only [Act.put, List.setIfInBounds_toArray, List.set_cons_zero, List.set_cons_succ])
        refine wpList_step fun K hK => ?_
        refine (if_pos (by kernel_rfl)).mpr ?_
        go_simp
        refine hK _ _ ?_
        clear hK K
        (try simp only [Act.put, List.setIfInBounds_toArray, List.set_cons_zero, List.set_cons_succ])
        refine wpList_step fun K hK => ?_
        refine (if_pos (by kernel_rfl)).mpr ?_
        go_simp
        refine hK _ _ ?_
        clear hK K
        (try simp only [Act.put, List.setIfInBounds_toArray, List.set_cons_zero, List.set_cons_succ])
        refine wpList_step fun K hK => ?_
        refine (if_pos (by kernel_rfl)).mpr ?_
        go_simp
        refine hK _ _ ?_
        clear hK K
        (try simp only [Act.put, List.setIfInBounds_toArray, List.set_cons_zero, List.set_cons_succ])
        refine wpList_skip (by kernel_rfl) ?_
        refine wpList_skip (by kernel_rfl) ?_
        refine wpList_skip (by kernel_rfl) ?_
        refine wpList_skip (by kernel_rfl) ?_
        refine wpList_step fun K hK => ?_
        refine (if_pos (by kernel_rfl)).mpr ?_
        go_simp
        refine hK _ _ ?_
        clear hK K
        (try simp only [Act.put, List.setIfInBounds_toArray, List.set_cons_zero, List.set_cons_succ])
        refine wpList_plain rfl fun K hK => ?_
        go_simp
        refine hK _ _ ?_
        clear hK K
        (try simp only [Act.put, List.setIfInBounds_toArray, List.set_cons_zero, List.set_cons_succ])
        refine wpList_plain rfl fun K hK => ?_
        go_simp
        refine hK _ _ ?_
        clear hK K
        (try simp only [Act.put, List.setIfInBounds_toArray, List.set_cons_zero, List.set_cons_succ])
        refine wpList_step fun K hK => ?_
        refine (if_pos (by kernel_rfl)).mpr ?_
        refine load_ag _ rfl b5 g rfl HR.out.g ?_
        refine hK _ _ ?_
        clear hK K
        (try simp only [Act.put, List.setIfInBounds_toArray, List.set_cons_zero, List.set_cons_succ])
        refine wpList_step fun K hK => ?_
        refine (if_pos (by kernel_rfl)).mpr ?_
        go_simp
        ((with_reducible refine (ku _).mono ?_); rintro e w9 ⟨rfl, hb9⟩)
        refine hK _ _ ?_
        clear hK K
        (try simp only [Act.put, List.setIfInBounds_toArray, List.set_cons_zero, List.set_cons_succ])
        refine wpList_step fun K hK => ?_
        refine (if_pos (by kernel_rfl)).mpr ?_
        go_simp
        refine hK _ _ ?_
        clear hK K
        (try simp only [Act.put, List.setIfInBounds_toArray, List.set_cons_zero, List.set_cons_succ])
        refine wpList_step fun K hK => ?_
        refine (if_pos (by kernel_rfl)).mpr ?_
        go_simp
        refine hK _ _ ?_
        clear hK K
        (try simp only [Act.put, List.setIfInBounds_toArray, List.set_cons_zero, List.set_cons_succ])
        refine wpList_step fun K hK => ?_
        refine (if_pos (by kernel_rfl)).mpr ?_
        go_simp
        refine hK _ _ ?_
        clear hK K
        (try simp only [Act.put, List.setIfInBounds_toArray, List.set_cons_zero, List.set_cons_succ])
        refine wpList_plain rfl fun K hK => ?_
        go_simp
        refine hK _ _ ?_
        clear hK K
        (try simp only [Act.put, List.setIfInBounds_toArray, List.set_cons_zero, List.set_cons_succ])
        refine wpList_plain rfl fun K hK => ?_
        go_simp
        refine hK _ _ ?_
        clear hK K
        (try simp only [Act.put, List.setIfInBounds_toArray, List.set_cons_zero, List.set_cons_succ])
        refine wpList_nil ?_
        go_wp2
        go_ret
        exact ⟨rfl, bel_next HR.out.bel hb9⟩
      · obtain ⟨e1, e2⟩ := HLAST.out h0
        have hk0 : ((k : Int) == 0) = false := by simp; omega
        have e3 := HLH.out
        rw [e1, e2] at e3
        obtain ⟨rfl, rfl⟩ := e3
        clear e1 e2
        refine wpList_plain rfl fun K hK => ?_
        go_simp
        refine hK _ _ ?_
        clear hK K
        (try simp only [Act.put, List.setIfInBounds_toArray, List.set_cons_zero, List.set_cons_succ])
        refine wpList_plain rfl fun K hK => ?_
        go_simp
        refine hK _ _ ?_
        clear hK K
        (try simp only [Act.put, List.setIfInBounds_toArray, List.set_cons_zero, List.set_cons_succ])
        refine wpList_step fun K hK => ?_
        refine (if_pos (by kernel_rfl)).mpr ?_
        go_simp
        refine hK _ _ ?_
        clear hK K
        (try simp only [Act.put, List.setIfInBounds_toArray, List.set_cons_zero, List.set_cons_succ])
        refine wpList_step fun K hK => ?_
        refine (if_pos (by kernel_rfl)).mpr ?_
        refine load_a9 _ rfl b5 9 g.b rfl HR1.out ?_
        refine hK _ _ ?_
        clear hK K
        (try simp only [Act.put, List.setIfInBounds_toArray, List.set_cons_zero, List.set_cons_succ])
        refine wpList_step fun K hK => ?_
        refine (if_pos (by kernel_rfl)).mpr ?_
        refine load_a9 _ rfl b6 0 (fun i => (cntB m i : Int)) rfl HR2.out ?_
        refine hK _ _ ?_
        clear hK K
        (try simp only [Act.put, List.setIfInBounds_toArray, List.set_cons_zero, List.set_cons_succ])
        refine wpList_step fun K hK => ?_
        refine (if_pos (by kernel_rfl)).mpr ?_
        go_simp
        refine hK _ _ ?_
        clear hK K
        (try simp only [Act.put, List.setIfInBounds_toArray, List.set_cons_zero, List.set_cons_succ])
        refine wpList_plain rfl fun K hK => ?_
        go_simp
        refine hK _ _ ?_
        clear hK K
        (try simp only [Act.put, List.setIfInBounds_toArray, List.set_cons_zero, List.set_cons_succ])
        refine wpList_plain rfl fun K hK => ?_
        go_simp
        refine hK _ _ ?_
        clear hK K
        (try simp only [Act.put, List.setIfInBounds_toArray, List.set_cons_zero, List.set_cons_succ])
        refine wpList_step fun K hK => ?_
        refine (if_pos (by kernel_rfl)).mpr ?_
        go_simp
        refine hK _ _ ?_
        clear hK K
        (try simp only [Act.put, List.setIfInBounds_toArray, List.set_cons_zero, List.set_cons_succ])
        refine wpList_step fun K hK => ?_
        refine (if_pos (by kernel_rfl)).mpr ?_
        go_simp
        refine hK _ _ ?_
        clear hK K
        (try simp only [Act.put, List.setIfInBounds_toArray, List.set_cons_zero, List.set_cons_succ])
        refine wpList_step fun K hK => ?_
        refine (if_pos (by kernel_rfl)).mpr ?_
        go_simp
        refine hK _ _ ?_
        clear hK K
        (try simp only [Act.put, List.setIfInBounds_toArray, List.set_cons_zero, List.set_cons_succ])
        refine wpList_step fun K hK => ?_
        refine (if_pos (by kernel_rfl)).mpr ?_
        go_simp
        refine hK _ _ ?_
        clear hK K
        (try simp only [Act.put, List.setIfInBounds_toArray, List.set_cons_zero, List.set_cons_succ])
        refine wpList_step fun K hK => ?_
        refine (if_pos (by kernel_rfl)).mpr ?_
        go_simp
        refine hK _ _ ?_
        clear hK K
        (try simp only [Act.put, List.setIfInBounds_toArray, List.set_cons_zero, List.set_cons_succ])
        refine wpList_step fun K hK => ?_
        refine (if_pos (by kernel_rfl)).mpr ?_
        go_simp
        refine hK _ _ ?_
        clear hK K
        (try simp only [Act.put, List.setIfInBounds_toArray, List.set_cons_zero, List.set_cons_succ])
        refine wpList_step fun K hK => ?_
        refine (if_pos (by kernel_rfl)).mpr ?_
        go_simp
        refine hK _ _ ?_
        clear hK K
        (try simp only [Act.put, List.setIfInBounds_toArray, List.set_cons_zero, List.set_cons_succ])
        refine wpList_step fun K hK => ?_
        refine (if_pos (by kernel_rfl)).mpr ?_
        go_simp
        refine hK _ _ ?_
        clear hK K
        (try simp only [Act.put, List.setIfInBounds_toArray, List.set_cons_zero, List.set_cons_succ])
        refine wpList_step fun K hK => ?_
        refine (if_pos (by kernel_rfl)).mpr ?_
        go_simp
        refine hK _ _ ?_
        clear hK K
        (try simp only [Act.put, List.setIfInBounds_toArray, List.set_cons_zero, List.set_cons_succ])
        refine wpList_plain rfl fun K hK => ?_
        go_simp
        refine hK _ _ ?_
        clear hK K
        (try simp only [Act.put, List.setIfInBounds_toArray, List.set_cons_zero, List.set_cons_succ])
        refine wpList_plain rfl fun K hK => ?_
        go_simp
        refine hK _ _ ?_
        clear hK K
        (try simp only [Act.put, List.setIfInBounds_toArray, List.set_cons_zero, List.set_cons_succ])
        refine wpList_step fun K hK => ?_
        refine (if_pos (by kernel_rfl)).mpr ?_
        refine load_ag _ rfl b5 g rfl HR.out.g ?_
        refine hK _ _ ?_
        clear hK K
        (try simp only [Act.put, List.setIfInBounds_toArray, List.set_cons_zero, List.set_cons_succ])
        refine wpList_step fun K hK => ?_
        refine (if_pos (by kernel_rfl)).mpr ?_
        go_simp
        ((with_reducible refine (ku _).mono ?_); rintro e w9 ⟨rfl, hb9⟩)
        refine hK _ _ ?_
        clear hK K
        (try simp only [Act.put, List.setIfInBounds_toArray, List.set_cons_zero, List.set_cons_succ])
        refine wpList_step fun K hK => ?_
        refine (if_pos (by kernel_rfl)).mpr ?_
        go_simp
        refine hK _ _ ?_
        clear hK K
        (try simp only [Act.put, List.setIfInBounds_toArray, List.set_cons_zero, List.set_cons_succ])
        refine wpList_step fun K hK => ?_
        refine (if_pos (by kernel_rfl)).mpr ?_
        go_simp
        refine hK _ _ ?_
        clear hK K
        (try simp only [Act.put, List.setIfInBounds_toArray, List.set_cons_zero, List.set_cons_succ])
        refine wpList_step fun K hK => ?_
        refine (if_pos (by kernel_rfl)).mpr ?_
        go_simp
        refine hK _ _ ?_
        clear hK K
        (try simp only [Act.put, List.setIfInBounds_toArray, List.set_cons_zero, List.set_cons_succ])
        refine wpList_plain rfl fun K hK => ?_
        go_simp
        refine hK _ _ ?_
        clear hK K
        (try simp only [Act.put, List.setIfInBounds_toArray, List.set_cons_zero, List.set_cons_succ])
        refine wpList_plain rfl fun K hK => ?_
        go_simp
        refine hK _ _ ?_
        clear hK K
        (try simp only [Act.put, List.setIfInBounds_toArray, List.set_cons_zero, List.set_cons_succ])
        refine wpList_nil ?_
        go_wp2
        go_ret
        exact ⟨rfl, bel_next HR.out.bel hb9⟩
end Go.Proofs.Ytipjhlabcbkgjaa.aggValues
