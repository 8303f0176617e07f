/- slices.IndexFunc and DeleteFunc at points, over any predicate. -/
import Derived.Test.YtcjcbbpolhpphaaQuRead
import Derived.Test.YtcjcbbpolhpphaaBlockFrom
set_option maxRecDepth 20000
set_option linter.unusedSimpArgs false
set_option linter.unusedVariables false
namespace Go.Proofs.Ytcjcbbpolhpphaa.Qu
open Go.RowKit Go.Proofs.Ytcjcbbpolhpphaa.Vi

def lateD (l : List Pt) (D : Pt → Bool) : Nat := (l.takeWhile fun x => !D x).length
def idxD (l : List Pt) (D : Pt → Bool) : Int := if lateD l D < l.length then (lateD l D : Int) else -1
def keepL (l : List Pt) (D : Pt → Bool) : List Pt := l.filter fun x => !D x
theorem lateD_le (l : List Pt) (D : Pt → Bool) : lateD l D ≤ l.length := List.IsPrefix.length_le (List.takeWhile_prefix _)
theorem lateD_ge {l : List Pt} {D : Pt → Bool} {k : Nat} (hk : k ≤ l.length) (h : ∀ q (hq : q < l.length), q < k → D (l[q]) = false) : k ≤ lateD l D := by
  unfold lateD
  induction l generalizing k with
  | nil => simpa using hk
  | cons a t ih =>
    cases k with
    | zero => omega
    | succ k =>
      have h0 := h 0 (by simp) (by omega)
      simp only [List.getElem_cons_zero] at h0
      rw [List.takeWhile_cons, if_pos (by rw [h0]; rfl), List.length_cons]
      have := ih (k := k) (by simpa using hk) fun q hq hqk => by have := h (q + 1) (by simpa using hq) (by omega); simpa using this
      omega
theorem lateD_lt {l : List Pt} {D : Pt → Bool} : ∀ q (hq : q < l.length), q < lateD l D → D (l[q]) = false := by
  intro q hq hlt
  have hm : l[q] ∈ l.takeWhile fun x => !D x := by
    have hp := List.takeWhile_prefix (fun x : Pt => !D x) (l := l)
    have := hp.getElem hlt
    rw [← this]; exact List.getElem_mem hlt
  have := List.all_takeWhile (l := l) (p := fun x : Pt => !D x)
  rw [List.all_eq_true] at this
  have := this _ hm
  simpa using this
theorem lateD_at {l : List Pt} {D : Pt → Bool} {k : Nat} (hk : k < l.length) (h : ∀ q (hq : q < l.length), q < k → D (l[q]) = false) (h2 : D (l[k]) = true) : lateD l D = k := by
  have h1 := lateD_ge (by omega) h
  by_cases e : lateD l D = k
  · exact e
  · exfalso
    have := lateD_lt (l := l) (D := D) k hk (by omega)
    rw [h2] at this; cases this
theorem keepL_snoc (l : List Pt) (D : Pt → Bool) (j : Nat) (hj : j < l.length) : keepL (l.take (j + 1)) D = keepL (l.take j) D ++ if D l[j] = false then [l[j]] else [] := by
  unfold keepL
  rw [List.take_succ_eq_append_getElem hj, List.filter_append]
  congr 1
  cases h : D l[j] <;> simp [h]
theorem keepL_all {l : List Pt} {D : Pt → Bool} (h : ∀ q (hq : q < l.length), D (l[q]) = false) : keepL l D = l := by
  unfold keepL
  refine List.filter_eq_self.2 fun x hx => ?_
  obtain ⟨i, hi, rfl⟩ := List.getElem_of_mem hx
  rw [h i hi]; rfl
abbrev CLO : Nat := 46
/-- The closure answers the predicate, whatever has been made or written at and above B. -/
def Ans (B : Nat) (w : World) (cv : Value) (l : List Pt) (D : Pt → Bool) : Prop := ∀ W, Below B w W → ∀ x ∈ l, Calls Try.prog 46 #[ptV x, cv] W fun e w' => e = .returned (.bool (D x)) ∧ Below W.heap.size W w'
theorem indexD_is (a0 : Option Addr) (c0 : Nat) (l : List Pt) (cv : Value) (D : Pt → Bool) (w : World) (hS : Lst w w.heap.size a0 c0 l) (hl : l.length ≤ 900000) (hA : Ans w.heap.size w cv l D) :
    Calls Try.prog 59 #[.slice a0 l.length c0, .func (.func 46) #[] #[cv]] w fun e w' => e = .returned (.int .i64 (idxD l D)) ∧ Below w.heap.size w w' := by
  have HS := Lib.hid hS
  have HA := Lib.hid hA
  clear hS hA
  go_enter Try.func59, Try.ntmps59
  go_wp2
  go_loopw [8] (fun i wr => ∃ (k : Nat), k ≤ l.length ∧ i = .int .i64 (k : Int) ∧ Below w.heap.size w wr ∧ Hid (∀ q (hq : q < l.length), q < k → D (l[q]) = false)) (fun i _ => l.length - (intOf i).toNat)
  case atStart => exact ⟨0, by omega, rfl, Below.refl _ _, Lib.hid fun q _ h => by omega⟩
  case round =>
    obtain ⟨k, hk, rfl, hB, hall⟩ := hrel
    obtain ⟨w3, hw3⟩ : ∃ x, x = wr := ⟨_, rfl⟩
    subst hw3
    by_cases hlt : k < l.length
    · have hlti : (k : Int) < (l.length : Int) := by omega
      rcases HS.out.pts.at_ with rfl | ⟨b, off, rfl, hbw, hc⟩
      · simp at hlt
      · have hA := (hc k hlt).below hB hbw
        have kd := HA.out w3 hB (l[k]) (List.getElem_mem hlt)
        have HNO := Lib.hid (fun (h : D (l[k]) = true) => show idxD l D = (k : Int) by
          have e := lateD_at hlt hall.out h
          unfold idxD; rw [e, if_pos hlt])
        have HGO := Lib.hid (fun (h : ¬ D (l[k]) = true) => show ∀ q (hq : q < l.length), q < k + 1 → D (l[q]) = false from fun q hq hqk => by
          by_cases e : q = k
          · subst e; simpa using h
          · exact hall.out q hq (by omega))
        obtain ⟨x, hx⟩ : ∃ x, l[k] = x := ⟨_, rfl⟩
        rw [hx] at hA HNO HGO kd
        obtain ⟨c0', c1, c2, c3, c4, c5⟩ := hA
        obtain ⟨z, hz⟩ : ∃ z, D x = z := ⟨_, rfl⟩
        rw [hz] at kd
        have HB := Lib.hid hB
        unfold ptV at kd
        clear hc hx hall hB
        cases z with
        | true =>
          have HH := Lib.hid (HNO.out hz)
          clear HGO HNO hz
          go_wp2_with (go_at_call 46; (with_reducible refine kd.mono ?_); rintro e w4 ⟨rfl, hb4⟩)
          go_ret
          exact ⟨by rw [HH.out]; rfl, bel_next HB.out hb4⟩
        | false =>
          have HH := Lib.hid (HGO.out (by rw [hz]; decide))
          clear HGO HNO hz
          go_wp2_with (go_at_call 46; (with_reducible refine kd.mono ?_); rintro e w4 ⟨rfl, hb4⟩)
          go_roundw
          case rel => exact ⟨k + 1, by omega, by go_num, bel_next HB.out hb4, HH⟩
          case measure => simp [intOf]; omega
    · have hlti : ¬ (k : Int) < (l.length : Int) := by omega
      have HH := Lib.hid (show idxD l D = -1 by
        have := lateD_ge hk hall.out
        unfold idxD; exact if_neg (by omega))
      have HB := Lib.hid hB
      clear hall hB
      go_wp2
      go_ret
      exact ⟨by rw [HH.out]; rfl, HB.out⟩

/-- How far DeleteFunc is: the row's head is what is kept of the first j, its tail stands. -/
structure DJ (B : Nat) (w wr : World) (g n : Nat) (l : List Pt) (D : Pt → Bool) (i j : Nat) : Prop where
  blk : ∃ cur : Array Value, wr.heap[g]? = some (.cells cur 55 (0, 0)) ∧ n * 6 ≤ cur.size
  len : (keepL (l.take j) D).length = i
  some_ : ∀ q, q < n → ∃ x, PtO wr g (q * 6) x
  kept : ∀ q (h : q < (keepL (l.take j) D).length), PtO wr g (q * 6) (keepL (l.take j) D)[q]
  rest : ∀ q (h : q < l.length), j ≤ q → PtO wr g (q * 6) l[q]
  bel : Below B w wr
theorem keepL_take_le (l : List Pt) (D : Pt → Bool) (j : Nat) : (keepL (l.take j) D).length ≤ j := by
  unfold keepL
  have h1 := List.length_filter_le (fun x : Pt => !D x) (l.take j)
  rw [List.length_take] at h1
  omega
theorem DJ.later {B : Nat} {w wr w2 : World} {g n : Nat} {l : List Pt} {D : Pt → Bool} {i j : Nat} (h : DJ B w wr g n l D i j) (hg : g < wr.heap.size) (hB : B ≤ wr.heap.size) (k : Below wr.heap.size wr w2) : DJ B w w2 g n l D i j := by
  obtain ⟨cur, h1, h2⟩ := h.blk
  exact ⟨⟨cur, (k.block g hg).trans h1, h2⟩, h.len, fun q hq => (h.some_ q hq).imp fun x hx => hx.below k hg, fun q hq => (h.kept q hq).below k hg, fun q hq hj => (h.rest q hq hj).below k hg, h.bel.trans (k.mono hB)⟩
theorem DJ.skip {B : Nat} {w wr : World} {g n : Nat} {l : List Pt} {D : Pt → Bool} {i j : Nat} (h : DJ B w wr g n l D i j) (hj : j < l.length) (hd : D (l[j]) = true) : DJ B w wr g n l D i (j + 1) := by
  have e : keepL (l.take (j + 1)) D = keepL (l.take j) D := by rw [keepL_snoc l D j hj, if_neg (by rw [hd]; decide), List.append_nil]
  exact ⟨h.blk, by rw [e]; exact h.len, h.some_, fun q hq => by simp only [e] at hq ⊢; exact h.kept q hq, fun q hq hjq => h.rest q hq (by omega), h.bel⟩
theorem DJ.keep_ {B : Nat} {w wr : World} {g n : Nat} {l : List Pt} {D : Pt → Bool} {i j : Nat} (h : DJ B w wr g n l D i j) (hg : B ≤ g) (hij : i < j) (hj : j < l.length) (hd : ¬ D (l[j]) = true) (hn : l.length = n) : DJ B w (setP wr g (i * 6) l[j]) g n l D (i + 1) (j + 1) := by
  have e : keepL (l.take (j + 1)) D = keepL (l.take j) D ++ [l[j]] := by rw [keepL_snoc l D j hj, if_pos (by simpa using hd)]
  have hle := keepL_take_le l D j
  have hlen := h.len
  refine ⟨?_, by rw [e, List.length_append, h.len]; rfl, fun q hq => ?_, fun q hq => ?_, fun q hq hjq => setP_far (h.rest q hq (by omega)) (Or.inr (by omega)), h.bel.trans (setP_below hg)⟩
  · obtain ⟨cur, h1, h2⟩ := h.blk
    obtain ⟨cur', h3, h4⟩ := setP_heap (o := i * 6) (p := l[j]) h1
    exact ⟨cur', h3, by omega⟩
  · obtain ⟨x, hx⟩ := h.some_ q hq
    by_cases hqi : q = i
    · subst hqi; exact ⟨_, setP_pt hx⟩
    · exact ⟨x, setP_far hx (by omega)⟩
  · simp only [e] at hq ⊢
    rw [List.length_append, List.length_singleton] at hq
    by_cases hqi : q < i
    · rw [List.getElem_append_left (by omega)]
      exact setP_far (h.kept q (by omega)) (Or.inl (by omega))
    · obtain rfl : q = i := by omega
      rw [List.getElem_append_right (by omega)]
      simp only [hlen, Nat.sub_self, List.getElem_cons_zero]
      -- what stands there is a point: of the head, or of the tail
      have hcell := h.some_ q (by omega)
      obtain ⟨x, hx⟩ := hcell
      exact setP_pt hx
set_option maxHeartbeats 16000000 in
theorem deleteD_is (B : Nat) (a0 : Option Addr) (c0 n : Nat) (l : List Pt) (cv : Value) (D : Pt → Bool) (w : World) (hn : l.length = n) (hR : PRow w B (.slice a0 n c0) l) (hl : n ≤ 900000) (hA : Ans B w cv l D) (hBw : B ≤ w.heap.size) :
    Calls Try.prog 45 #[.slice a0 n c0, .func (.func 46) #[] #[cv]] w (DelDone B (keepL l D) w) := by
  have ki := fun h ha => indexD_is a0 c0 l cv D w h (by omega) ha
  rw [hn] at ki
  have HS0 := hR.lst
  have HS := Lib.hid HS0
  have HA := Lib.hid hA
  have HAI := Lib.hid (show Ans w.heap.size w cv l D from fun W hW x hx => hA W (hW.mono hBw) x hx)
  by_cases hlate : lateD l D < l.length
  · have hI : idxD l D = (lateD l D : Int) := if_pos hlate
    obtain ⟨i0, hi0⟩ : ∃ i0, lateD l D = i0 := ⟨_, rfl⟩
    have hlo := lateD_lt (l := l) (D := D)
    have hat : D (l[i0]'(by omega)) = true := by
      have h1 := lateD_le l D
      by_cases h : D (l[i0]'(by omega)) = true
      · exact h
      · exfalso
        have := lateD_ge (l := l) (D := D) (k := i0 + 1) (by omega) fun q hq hqk => by
          by_cases e : q = i0
          · subst e; simpa using h
          · exact hlo q hq (by omega)
        omega
    rw [hi0] at hI hlate
    rw [hI] at ki
    rcases hR.2 with ⟨e0, hz⟩ | ⟨g, cap, cur, e0, hBg, hblk, hcap, hmax, hsz, htk⟩
    · omega
    · injection e0 with e1 e2 e3
      subst e1 e3
      clear e2
      have hcells : ∀ q (h : q < l.length), PtO w g (q * 6) l[q] := fun q hq => by
        rcases HS0.pts.at_ with e | ⟨b, o, e, _, hc⟩
        · rw [e] at hq; simp at hq
        · injection e with e
          injection e with e1 e2
          subst e1 e2
          have := hc q hq
          rwa [Nat.zero_add] at this
      have hgw : g < w.heap.size := (Array.getElem?_eq_some_iff.1 hblk).1
      have hfrz : ∀ W : World, (∃ cur : Array Value, W.heap[g]? = some (.cells cur 55 (0, 0)) ∧ n * 6 ≤ cur.size) → ∀ k, W.frozen? ⟨g, k, none⟩ = false := fun W ⟨cur, h1, _⟩ k => by
        unfold World.frozen?; dsimp only; rw [h1]; simp
      have e0 : keepL (l.take i0) D = l.take i0 := keepL_all fun q hq => by
        rw [List.getElem_take]
        rw [List.length_take] at hq
        exact hlo q (by omega) (by omega)
      have D0 : DJ B w w g n l D i0 i0 := by
        refine ⟨⟨cur, hblk, by rw [hsz]; omega⟩, by rw [e0, List.length_take]; omega, fun q hq => ⟨_, hcells q (by omega)⟩, fun q hq => ?_, fun q hq _ => hcells q hq, Below.refl _ _⟩
        simp only [e0] at hq ⊢
        rw [List.getElem_take]
        exact hcells q (by rw [List.length_take] at hq; omega)
      have D1 := Lib.hid (D0.skip (by omega) hat)
      have HN := Lib.hid hn
      have hneg : ¬ ((i0 : Int) = -1) := by omega
      have hneg2 : ((i0 : Int) == -1) = false := by rw [beq_eq_false_iff_ne]; omega
      have hw1 : IntKind.i64.wrap ((i0 : Int) + 1) = (i0 : Int) + 1 := by rw [IntKind.wrap_i64]; omega
      rw [hn] at hlate
      clear HS0 hA hR D0 hcells e0 hblk hsz htk hI hi0 hlo hat hn
      go_enter Try.func45, Try.ntmps45
      go_wp2_with (go_at_call 59; (with_reducible refine (ki HS.out HAI.out).mono ?_); rintro e w1 ⟨rfl, hb1⟩; (have D2 := Lib.hid (D1.out.later hgw hBw hb1)); (have HB1 := Lib.hid hb1); clear hb1)
      go_loopw [5, 6] (fun si sj wr => ∃ i j : Nat, i < j ∧ j ≤ n ∧ si = .int .i64 (i : Int) ∧ sj = .int .i64 (j : Int) ∧ Hid (DJ B w wr g n l D i j) ∧ w.heap.size ≤ wr.heap.size) (fun _ sj _ => n - (intOf sj).toNat)
      case atStart => exact ⟨i0, i0 + 1, by omega, by omega, rfl, by go_num, D2, HB1.out.size⟩
      case round =>
        obtain ⟨i, j, hij, hjn, rfl, rfl, DJx, hsz3⟩ := hrel
        clear D1 D2 HB1
        obtain ⟨w3, hw3⟩ : ∃ x, x = wr := ⟨_, rfl⟩
        subst hw3
        have hw2 : IntKind.i64.wrap ((j : Int) + 1) = (j : Int) + 1 := by rw [IntKind.wrap_i64]; omega
        have hw4 : IntKind.i64.wrap ((i : Int) + 1) = (i : Int) + 1 := by rw [IntKind.wrap_i64]; omega
        have hin : i < n := by omega
        have hini : (i : Int) < (n : Int) := by omega
        by_cases hlt : j < n
        · have hlti : (j : Int) < (n : Int) := by omega
          have hjl : j < l.length := by rw [HN.out]; exact hlt
          have hA := DJx.out.rest j hjl (Nat.le_refl _)
          have HSK := Lib.hid (fun (h : D (l[j]) = true) => DJx.out.skip hjl h)
          obtain ⟨x, hx⟩ : ∃ x, l[j] = x := ⟨_, rfl⟩
          have HX := Lib.hid hx
          rw [hx] at hA HSK
          have hA4 := PtAt.new w3 x
          have hal := (Below.refl w3.heap.size w3).alloc (Nat.le_refl _) (.cells #[.string x.s, .int .i64 x.t, .int .i64 x.v, .int .i64 x.st.c, .int .i64 x.st.s, .int .i64 x.st.q] 55)
          have kd := HA.out _ (DJx.out.bel.trans (hal.mono (show B ≤ w3.heap.size by omega))) x (by rw [← HX.out]; exact List.getElem_mem hjl)
          have HP4 := Lib.hid hA4
          have HAL := Lib.hid hal
          obtain ⟨z, hz⟩ : ∃ z, D x = z := ⟨_, rfl⟩
          rw [hz] at kd
          obtain ⟨c0', c1, c2, c3, c4, c5⟩ := hA
          obtain ⟨jo, hjo⟩ : ∃ jo, j * 6 = jo := ⟨_, rfl⟩
          rw [hjo] at c0' c1 c2 c3 c4 c5
          unfold ptV at kd
          clear hx hA4 hal
          cases z with
          | true =>
            have HH := Lib.hid (HSK.out hz)
            clear HSK hz
            go_wp2_with (go_at_call 46; (with_reducible refine kd.mono ?_); rintro e w4 ⟨rfl, hb4⟩)
            have hb5 := Below.trans HAL.out (hb4.mono (by simp))
            clear c0' c1 c2 c3 c4 c5 hb4
            go_roundw
            case rel => exact ⟨i, j + 1, by omega, by omega, rfl, by go_num, Lib.hid (HH.out.later (by omega) (by omega) hb5), Nat.le_trans hsz3 hb5.size⟩
            case measure => simp [intOf]; omega
          | false =>
            have hnd : ¬ D x = true := by rw [hz]; decide
            clear HSK hz
            obtain ⟨io, hio⟩ : ∃ io, i * 6 = io := ⟨_, rfl⟩
            go_wp2_with (go_at_call 46; (with_reducible refine kd.mono ?_); rintro e w4 ⟨rfl, hb4⟩; (have hb5 := Below.trans HAL.out (hb4.mono (by simp))); (have DD := Lib.hid (DJx.out.later (by omega) (by omega) hb5)); (have hs := hb5.size); (have HP5 := HP4.out.later hb4); (obtain ⟨y0, y1, y2, y3, y4, y5⟩ := HP5); (have hs5 := hb4.size); (obtain ⟨u, hu⟩ := DD.out.some_ i hin); (rw [hio] at hu); (obtain ⟨v0, v1, v2, v3, v4, v5⟩ := hu); (have f0 := hfrz w4 DD.out.blk io); (have f1 := hfrz w4 DD.out.blk (io + 1)); (have f2 := hfrz w4 DD.out.blk (io + 2)); (have f3 := hfrz w4 DD.out.blk (io + 3)); (have f4 := hfrz w4 DD.out.blk (io + 4)); (have f5 := hfrz w4 DD.out.blk (io + 5)); (have hne : ¬ g = w3.heap.size := by omega); (have hne2 : ¬ w3.heap.size = g := by omega); clear c0' c1 c2 c3 c4 c5 hb4)
            go_roundw
            case rel =>
              refine ⟨i + 1, j + 1, by omega, by omega, by go_num, by go_num, Lib.hid ?_, ?_⟩
              · have := DD.out.keep_ hBg hij hjl (by rw [HX.out]; omega) HN.out
                rw [HX.out, hio] at this
                exact this
              · exact Nat.le_trans hsz3 (Nat.le_trans hs (setP_below (p := x) (o := io) (Nat.zero_le g)).size)
            case measure => simp [intOf]; omega
        · have hlti : ¬ (j : Int) < (n : Int) := by omega
          obtain rfl : j = n := by omega
          have hcap2 : j ≤ c0 := by have := HN.out; omega
          have hfl := DJx.out.len
          have hft : l.take j = l := List.take_of_length_le (by rw [HN.out]; exact Nat.le_refl _)
          rw [hft] at hfl
          have kf := fun w => at_from (some ⟨g, 0, none⟩) j c0 i (i : Int) rfl (by omega) w
          have kf2 := fun w => cut_from (some ⟨g, 0, none⟩) j c0 i (i : Int) rfl (by omega) w
          have kt := fun w => at_to0 (some ⟨g, 0, none⟩) j c0 i (i : Int) rfl (by omega) w
          have kt2 := fun w => cut_to0 (some ⟨g, 0, none⟩) j c0 i (i : Int) rfl (by omega) w
          have hpx : cutP (some ⟨g, 0, none⟩) i c0 = some ⟨g, i * 6, none⟩ := by
            unfold cutP; rw [if_neg (by omega)]; simp [pt_add]
          rw [hpx] at kf kf2
          obtain ⟨m, hm⟩ : ∃ m, j - i = m := ⟨_, rfl⟩
          obtain ⟨c2, hc2⟩ : ∃ c2, c0 - i = c2 := ⟨_, rfl⟩
          obtain ⟨io, hio⟩ : ∃ io, i * 6 = io := ⟨_, rfl⟩
          rw [hm, hc2, hio] at kf kf2
          obtain ⟨cur3, hc3, hc4⟩ := DJx.out.blk
          have HFT := Lib.hid hft
          have HFL := Lib.hid hfl
          have HC3 := Lib.hid hc3
          clear hft hfl hpx hc2 hc3
          obtain ⟨w5, hclr, hcl5, hb5⟩ := clear6 w3 (some ⟨g, io, none⟩) m c2 g io cur3 _ HC3.out (fun _ => rfl) (by omega)
          have HCL := Lib.hid hcl5
          have HB5 := Lib.hid hb5
          clear hcl5 hb5
          go_wp2
          go_ret
          refine ⟨some ⟨g, 0, none⟩, c0, by rw [HFL.out]; rfl, ⟨⟨Or.inr ⟨g, 0, rfl, ?_, fun q hq => ?_⟩⟩, by rw [HFL.out]; omega, fun k => by cases k⟩, DJx.out.bel.trans (HB5.out B hBg)⟩
          · have := (HB5.out B hBg).size; omega
          · have hk := DJx.out.kept q (by rw [HFT.out]; exact hq)
            simp only [HFT.out] at hk
            have hq2 : q < i := by have := HFL.out; omega
            rw [Nat.zero_add]
            obtain ⟨k0, k1, k2, k3, k4, k5⟩ := hk
            exact ⟨(HCL.out _ (by omega)).trans k0, (HCL.out _ (by omega)).trans k1, (HCL.out _ (by omega)).trans k2, (HCL.out _ (by omega)).trans k3, (HCL.out _ (by omega)).trans k4, (HCL.out _ (by omega)).trans k5⟩
  · have hI : idxD l D = -1 := if_neg hlate
    rw [hI] at ki
    have HE := Lib.hid (show keepL l D = l from keepL_all fun q hq => lateD_lt q hq (by omega))
    have HN := Lib.hid hn
    clear HS0 hA hR hI hlate hn
    go_enter Try.func45, Try.ntmps45
    go_wp2_with (go_at_call 59; (with_reducible refine (ki HS.out HAI.out).mono ?_); rintro e w1 ⟨rfl, hb1⟩)
    go_ret
    exact ⟨a0, c0, by rw [HE.out, HN.out]; rfl, by rw [HE.out]; exact HS.out.later hb1, hb1.mono hBw⟩
end Go.Proofs.Ytcjcbbpolhpphaa.Qu
