/- QuorumMeets. -/
import Derived.Test.YtcjcbbpolhpphaaQuMtAt
import Derived.Test.YtcjcbbpolhpphaaQuMtArgs
set_option maxRecDepth 20000
set_option linter.unusedSimpArgs false
set_option linter.unusedVariables false
namespace Go.Proofs.Ytcjcbbpolhpphaa.Qu
open Go.RowKit Go.Proofs.Ytcjcbbpolhpphaa.Vi

/-- The boxes of what came in. -/
structure MB (w0 W : World) (qb pb ob : Nat) (q0 q1 q2 : Int) (p : Pt) (v0 v1 : Value) : Prop where
  q0 : W.cell? ⟨qb, 0, none⟩ = some (.int .i64 q0)
  q1 : W.cell? ⟨qb, 1, none⟩ = some (.int .i64 q1)
  q2 : W.cell? ⟨qb, 2, none⟩ = some (.int .i64 q2)
  pbig : ∃ cur : Array Value, W.heap[pb]? = some (.cells cur TPT (0, 0))
  pat : PtAt W pb p
  obig : ∃ cur : Array Value, W.heap[ob]? = some (.cells cur TORD (0, 0))
  o0 : W.cell? ⟨ob, 0, none⟩ = some v0
  o1 : W.cell? ⟨ob, 1, none⟩ = some v1
  bel : Below w0.heap.size w0 W
  lo : w0.heap.size ≤ pb
theorem MB.later {w0 W W' : World} {qb pb ob : Nat} {q0 q1 q2 : Int} {p : Pt} {v0 v1 : Value} (h : MB w0 W qb pb ob q0 q1 q2 p v0 v1) (k : Below W.heap.size W W') : MB w0 W' qb pb ob q0 q1 q2 p v0 v1 := by
  obtain ⟨c1, hp⟩ := h.pbig
  obtain ⟨c2, ho⟩ := h.obig
  have hq := World.block_lt_of_cell? W _ h.q0
  have hpl := (Array.getElem?_eq_some_iff.1 hp).1
  have hol := (Array.getElem?_eq_some_iff.1 ho).1
  exact ⟨(k.cell (p := ⟨qb, 0, none⟩) hq).trans h.q0, (k.cell (p := ⟨qb, 1, none⟩) hq).trans h.q1, (k.cell (p := ⟨qb, 2, none⟩) hq).trans h.q2, ⟨c1, (k.block pb hpl).trans hp⟩, h.pat.later k, ⟨c2, (k.block ob hol).trans ho⟩, (k.cell (p := ⟨ob, 0, none⟩) hol).trans h.o0, (k.cell (p := ⟨ob, 1, none⟩) hol).trans h.o1, bel_next h.bel k, h.lo⟩
theorem MB.cut {w0 W : World} {qb pb ob : Nat} {q0 q1 q2 : Int} {p : Pt} {v0 v1 : Value} (h : MB w0 W qb pb ob q0 q1 q2 p v0 v1) (hqp : qb ≠ pb) (y : ByteArray) : MB w0 (W.setCell ⟨pb, 0, none⟩ (.string y)) qb pb ob q0 q1 q2 ⟨y, p.t, p.v, p.st⟩ v0 v1 := by
  obtain ⟨c1, hp⟩ := h.pbig
  obtain ⟨c2, ho⟩ := h.obig
  have hol := (Array.getElem?_eq_some_iff.1 ho).1
  have ko : (W.setCell ⟨pb, 0, none⟩ (.string y)).heap[ob]? = W.heap[ob]? := set_blk W pb _ ob _ hol fun e => type_ne hp ho (by decide) e
  have hc : ∀ o, (W.setCell ⟨pb, 0, none⟩ (.string y)).cell? ⟨ob, o, none⟩ = W.cell? ⟨ob, o, none⟩ := fun o => World.cell?_of_block (w := W) ko
  have hcq : ∀ o, (W.setCell ⟨pb, 0, none⟩ (.string y)).cell? ⟨qb, o, none⟩ = W.cell? ⟨qb, o, none⟩ := fun o => World.cell?_setCell_other _ _ _ _ fun e => hqp (by injection e with e; exact e.symm)
  obtain ⟨p0, p1, p2, p3, p4, p5⟩ := h.pat
  exact ⟨(hcq _).trans h.q0, (hcq _).trans h.q1, (hcq _).trans h.q2, ⟨_, set_heap hp _⟩, ⟨World.cell?_setCell_same _ _ _ p0, (cell_off (by omega)).trans p1, (cell_off (by omega)).trans p2, (cell_off (by omega)).trans p3, (cell_off (by omega)).trans p4, (cell_off (by omega)).trans p5⟩, ⟨c2, ko.trans ho⟩, (hc _).trans h.o0, (hc _).trans h.o1, h.bel.setCell (p := ⟨pb, 0, none⟩) h.lo _, h.lo⟩
theorem one_to_eight (q : Int) : ∃ a : Nat, a < 8 ∧ bits .and .i64 q 7 = (a : Int) ∧ IntKind.i64.wrap (1 + (a : Int)) = ((a + 1 : Nat) : Int) := by
  refine ⟨(q % 8).toNat, by omega, by rw [and7]; omega, by rw [IntKind.wrap_i64]; omega⟩
theorem meets_upd {p : Pt} {S : QS} {n k : Nat} (hk : k < n) (hy : hearB S (k : Int) = true) (x : Nat) : (if x = k then ins p (stL p S.hd n k) else stL p S.hd n x) = stL p (hearS S (k : Int)).hd n x := by
  rw [stL_upd hk hy]
  by_cases e : x = k
  · subst e; rw [if_pos rfl]
  · rw [if_neg e, if_neg e]
theorem upto_p (y x : Nat) (p : Pt) (f : Nat → List Pt) : (if y = x then [p] else (if y < x then [p] else f y)) = if y < x + 1 then [p] else f y := by
  by_cases e : y = x
  · subst e; rw [if_pos rfl, if_pos (Nat.lt_succ_self _)]
  · rw [if_neg e]
    by_cases h : y < x
    · rw [if_pos h, if_pos (by omega)]
    · rw [if_neg h, if_neg (by omega)]
namespace quorumMeets
set_option maxHeartbeats 64000000 in
theorem walk (q0 q1 q2 : Int) (p0 : Pt) (oa : Option Addr) (ol oc : Nat) (ra : Option Addr) (rl rc : Nat) (w : World) (_h0 : -9223372036854775808 ≤ q0 ∧ q0 ≤ 9223372036854775807) (_h1 : -9223372036854775808 ≤ q1 ∧ q1 ≤ 9223372036854775807) (_h2 : -9223372036854775808 ≤ q2 ∧ q2 ≤ 9223372036854775807) (hfit : p0.fits) (ho : ArgInts w oa ol oc) (hr : ArgInts w ra rl rc) : Calls Try.prog 5 #[.agg #[.int .i64 q0, .int .i64 q1, .int .i64 q2], ptV p0, .agg #[.slice oa ol oc, .slice ra rl rc]] w fun e w' => e = .returned (.bool true) ∧ Below w.heap.size w w' := by
  obtain ⟨O, hO, -⟩ := ns_of_args ho
  obtain ⟨Q, hQ, -⟩ := ns_of_args hr
  have hol : O.length = ol := by
    obtain ⟨a, c, e⟩ := hO.slice
    injection e with _ e _; exact e.symm
  have hrl : Q.length = rl := by
    obtain ⟨a, c, e⟩ := hQ.slice
    injection e with _ e _; exact e.symm
  have HO := Lib.hid hO
  have HQ := Lib.hid hQ
  have HOL := Lib.hid hol
  have HRL := Lib.hid hrl
  have hob := hO.size
  have hrb := hQ.size
  rw [hol] at hob
  rw [hrl] at hrb
  obtain ⟨na, hna, hqn, hwn⟩ := one_to_eight q0
  obtain ⟨wa, hwa, hqw, hww⟩ := one_to_eight q1
  obtain ⟨rra, hra, hqr, hwr⟩ := one_to_eight q2
  have HFIT := Lib.hid hfit.s
  obtain ⟨w2, hw2⟩ : ∃ w2, ((w.alloc (.cells #[.int .i64 q0, .int .i64 q1, .int .i64 q2] 51)).alloc (.cells #[.string p0.s, .int .i64 p0.t, .int .i64 p0.v, .int .i64 p0.st.c, .int .i64 p0.st.s, .int .i64 p0.st.q] TPT)).alloc (.cells #[.slice oa ol oc, .slice ra rl rc] TORD) = w2 := ⟨_, rfl⟩
  have hmb : MB w w2 w.heap.size (w.heap.size + 1) (w.heap.size + 1 + 1) q0 q1 q2 p0 (.slice oa ol oc) (.slice ra rl rc) := by
    subst hw2
    have b1 := (Below.refl w.heap.size w).alloc (Nat.le_refl _) (.cells #[.int .i64 q0, .int .i64 q1, .int .i64 q2] 51)
    have s1 : (w.alloc (.cells #[.int .i64 q0, .int .i64 q1, .int .i64 q2] 51)).heap.size = w.heap.size + 1 := by simp
    have g0 : (w.alloc (.cells #[.int .i64 q0, .int .i64 q1, .int .i64 q2] 51)).cell? ⟨w.heap.size, 0, none⟩ = some (.int .i64 q0) := by simp [go_sem]
    have g1 : (w.alloc (.cells #[.int .i64 q0, .int .i64 q1, .int .i64 q2] 51)).cell? ⟨w.heap.size, 1, none⟩ = some (.int .i64 q1) := by simp [go_sem]
    have g2 : (w.alloc (.cells #[.int .i64 q0, .int .i64 q1, .int .i64 q2] 51)).cell? ⟨w.heap.size, 2, none⟩ = some (.int .i64 q2) := by simp [go_sem]
    generalize w.alloc _ = wa at b1 s1 g0 g1 g2 ⊢
    have b2 := (Below.refl wa.heap.size wa).alloc (Nat.le_refl _) (.cells #[.string p0.s, .int .i64 p0.t, .int .i64 p0.v, .int .i64 p0.st.c, .int .i64 p0.st.s, .int .i64 p0.st.q] TPT)
    have h2 := heap_alloc_new wa (.cells #[.string p0.s, .int .i64 p0.t, .int .i64 p0.v, .int .i64 p0.st.c, .int .i64 p0.st.s, .int .i64 p0.st.q] TPT)
    have t2 := PtAt.new wa p0
    have s2 : (wa.alloc (.cells #[.string p0.s, .int .i64 p0.t, .int .i64 p0.v, .int .i64 p0.st.c, .int .i64 p0.st.s, .int .i64 p0.st.q] TPT)).heap.size = wa.heap.size + 1 := by simp
    generalize hwb : wa.alloc _ = wb at b2 h2 s2 ⊢
    have t2 : PtAt wb wa.heap.size p0 := by rw [← hwb]; exact t2
    have b3 := (Below.refl wb.heap.size wb).alloc (Nat.le_refl _) (.cells #[.slice oa ol oc, .slice ra rl rc] TORD)
    have h3 := heap_alloc_new wb (.cells #[.slice oa ol oc, .slice ra rl rc] TORD)
    have c0 : (wb.alloc (.cells #[.slice oa ol oc, .slice ra rl rc] TORD)).cell? ⟨wb.heap.size, 0, none⟩ = some (.slice oa ol oc) := by simp [go_sem]
    have c1 : (wb.alloc (.cells #[.slice oa ol oc, .slice ra rl rc] TORD)).cell? ⟨wb.heap.size, 1, none⟩ = some (.slice ra rl rc) := by simp [go_sem]
    rw [← s1, ← s2]
    have hqa : w.heap.size < wa.heap.size := by omega
    have k12 := b2.trans (b3.mono b2.size)
    exact ⟨(k12.cell (p := ⟨w.heap.size, 0, none⟩) hqa).trans g0, (k12.cell (p := ⟨w.heap.size, 1, none⟩) hqa).trans g1, (k12.cell (p := ⟨w.heap.size, 2, none⟩) hqa).trans g2, ⟨_, (b3.block wa.heap.size (by omega)).trans h2⟩, t2.later b3, ⟨_, h3⟩, c0, c1, b1.trans (k12.mono b1.size), by omega⟩
  have HMB := Lib.hid hmb
  have HW2 := Lib.hid hw2
  have ka := awake_is w2
  clear hmb hw2 hO hQ hol hrl ho hr hfit
  unfold ptV
  go_enter Try.func5, Try.ntmps5
  go_upto_region 1 with fail
  rw [HW2.out]
  generalize hob2 : w.heap.size + 1 + 1 = ob at HMB ⊢
  generalize hpb : w.heap.size + 1 = pb at HMB ⊢
  have hqp : w.heap.size ≠ pb := by omega
  obtain ⟨qb, hqb⟩ : ∃ qb, w.heap.size = qb := ⟨_, rfl⟩
  have HQB := Lib.hid hqb
  rw [hqb] at hqp
  have HMB : Hid (MB w w2 qb pb ob q0 q1 q2 p0 (.slice oa ol oc) (.slice ra rl rc)) := Lib.hid (by rw [← hqb]; exact HMB.out)
  clear hpb hob2 HW2 hqb
  go_upto_region 2 with (go_at_call 8; (with_reducible refine ka.mono ?_); rintro e w3 ⟨rfl, hb3⟩; (have HM3 := Lib.hid (HMB.out.later hb3)); clear hb3 ka)
  rw [HQB.out]
  clear HMB
  have x0 := HM3.out.q0
  have x1 := HM3.out.q1
  have x2 := HM3.out.q2
  obtain ⟨n, hn⟩ : ∃ n, na + 1 = n := ⟨_, rfl⟩
  obtain ⟨wn, hwn2⟩ : ∃ n, wa + 1 = n := ⟨_, rfl⟩
  obtain ⟨rn, hrn⟩ : ∃ n, rra + 1 = n := ⟨_, rfl⟩
  rw [hn] at hwn
  rw [hwn2] at hww
  rw [hrn] at hwr
  have hn8 : n ≤ 8 := by omega
  have hn1 : 1 ≤ n := by omega
  have hw8 : wn ≤ 8 := by omega
  have hw1 : 1 ≤ wn := by omega
  have hr8 : rn ≤ 8 := by omega
  have hr1 : 1 ≤ rn := by omega
  have km := meet_is (n : Int) (wn : Int) (rn : Int) w3 (by omega)
  obtain ⟨z, hz⟩ : ∃ z, meetB (n : Int) (wn : Int) (rn : Int) = z := ⟨_, rfl⟩
  rw [hz] at km
  go_upto_region 6 with (go_at_call 30; (with_reducible refine km.mono ?_); rintro e w4 ⟨rfl, rfl⟩)
  have o0 := HM3.out.o0
  have o1 := HM3.out.o1
  obtain ⟨y1, y2, y3, y4, y5, y6⟩ := HM3.out.pat
  obtain ⟨cp, hcp⟩ := HM3.out.pbig
  have fp : w3.frozen? ⟨pb, 0, none⟩ = false := by
    unfold World.frozen?
    simp [hcp]
  have hsz0 := HFIT.out
  clear hcp hn hwn2 hrn hqn hqw hqr hwn hww hwr x0 x1 x2 hna hwa hra
  obtain ⟨sm, hsm⟩ : ∃ sm, IntKind.i64.wrap ((wn : Int) + (rn : Int)) = sm := ⟨_, rfl⟩
  have HSM := Lib.hid (show sm = (wn : Int) + (rn : Int) by rw [← hsm, IntKind.wrap_i64]; omega)
  by_cases hl0 : 30 < ol
  · have hl0i : (30 : Int) < (ol : Int) := by omega
    clear hl0
    go_wp2
    go_ret
    exact ⟨rfl, HM3.out.bel⟩
  have hl0i : ¬ (30 : Int) < (ol : Int) := by omega
  by_cases hl1 : 30 < rl
  · have hl1i : (30 : Int) < (rl : Int) := by omega
    clear hl0 hl1
    go_wp2
    go_ret
    exact ⟨rfl, HM3.out.bel⟩
  have hl1i : ¬ (30 : Int) < (rl : Int) := by omega
  cases z with
  | false =>
    have hwhy : ¬ wn ≤ n ∨ (wn ≤ n ∧ ¬ rn ≤ n) ∨ (wn ≤ n ∧ rn ≤ n ∧ ¬ n < wn + rn) := by
      by_cases a : wn ≤ n
      · by_cases b : rn ≤ n
        · refine Or.inr (Or.inr ⟨a, b, fun c => ?_⟩)
          unfold meetB at hz
          rw [decide_eq_true (show (1 : Int) ≤ (wn : Int) by omega), decide_eq_true (show (wn : Int) ≤ (n : Int) by omega), decide_eq_true (show (1 : Int) ≤ (rn : Int) by omega), decide_eq_true (show (rn : Int) ≤ (n : Int) by omega), decide_eq_true (show (n : Int) < (wn : Int) + (rn : Int) by omega)] at hz
          cases hz
        · exact Or.inr (Or.inl ⟨a, b⟩)
      · exact Or.inl a
    clear hz
    rcases hwhy with a | ⟨a, b⟩ | ⟨a, b, c⟩
    · have ai : ¬ (wn : Int) ≤ (n : Int) := by omega
      clear a
      by_cases h60 : 60 < p0.s.size
      · have h60i : (60 : Int) < (p0.s.size : Int) := by omega
        obtain ⟨y, hy⟩ : ∃ y, p0.s.extract 0 60 = y := ⟨_, rfl⟩
        have HM4 := Lib.hid (HM3.out.cut hqp y)
        clear h60
        go_wp2
        go_ret
        exact ⟨rfl, HM4.out.bel⟩
      · have h60i : ¬ (60 : Int) < (p0.s.size : Int) := by omega
        clear h60
        go_wp2
        go_ret
        exact ⟨rfl, HM3.out.bel⟩
    · have ai : (wn : Int) ≤ (n : Int) := by omega
      have bi : ¬ (rn : Int) ≤ (n : Int) := by omega
      clear a b
      by_cases h60 : 60 < p0.s.size
      · have h60i : (60 : Int) < (p0.s.size : Int) := by omega
        obtain ⟨y, hy⟩ : ∃ y, p0.s.extract 0 60 = y := ⟨_, rfl⟩
        have HM4 := Lib.hid (HM3.out.cut hqp y)
        clear h60
        go_wp2
        go_ret
        exact ⟨rfl, HM4.out.bel⟩
      · have h60i : ¬ (60 : Int) < (p0.s.size : Int) := by omega
        clear h60
        go_wp2
        go_ret
        exact ⟨rfl, HM3.out.bel⟩
    · have ai : (wn : Int) ≤ (n : Int) := by omega
      have bi : (rn : Int) ≤ (n : Int) := by omega
      have ci : ¬ (n : Int) < sm := by have := HSM.out; omega
      clear a b c
      by_cases h60 : 60 < p0.s.size
      · have h60i : (60 : Int) < (p0.s.size : Int) := by omega
        obtain ⟨y, hy⟩ : ∃ y, p0.s.extract 0 60 = y := ⟨_, rfl⟩
        have HM4 := Lib.hid (HM3.out.cut hqp y)
        clear h60
        go_wp2
        go_ret
        exact ⟨rfl, HM4.out.bel⟩
      · have h60i : ¬ (60 : Int) < (p0.s.size : Int) := by omega
        clear h60
        go_wp2
        go_ret
        exact ⟨rfl, HM3.out.bel⟩
  | true =>
    have hwhy : wn ≤ n ∧ rn ≤ n ∧ n < wn + rn := by
      unfold meetB at hz
      simp only [Bool.and_eq_true, decide_eq_true_eq] at hz
      omega
    obtain ⟨a, b, c⟩ := hwhy
    have ai : (wn : Int) ≤ (n : Int) := by omega
    have bi : (rn : Int) ≤ (n : Int) := by omega
    have ci : (n : Int) < sm := by have := HSM.out; omega
    have HMEET := Lib.hid (show wn ≤ n ∧ rn ≤ n ∧ n < wn + rn from ⟨a, b, c⟩)
    clear hz a b c hl0 hl1
    by_cases h60 : 60 < p0.s.size
    · have h60i : (60 : Int) < (p0.s.size : Int) := by omega
      obtain ⟨y, hy⟩ : ∃ y, p0.s.extract 0 60 = y := ⟨_, rfl⟩
      have HM4 := Lib.hid (HM3.out.cut hqp y)
      have HYS := Lib.hid (show y.size ≤ 60 by rw [← hy, ByteArray.size_extract]; omega)
      obtain ⟨p, hp⟩ : ∃ p : Pt, (⟨y, p0.t, p0.v, p0.st⟩ : Pt) = p := ⟨_, rfl⟩
      rw [hp] at HM4
      have HPS := Lib.hid (show p.s.size ≤ 60 by rw [← hp]; exact HYS.out)
      clear h60 hp
      go_upto_region 12 with fail
      generalize w3.setCell _ _ = w5 at HM4 ⊢
      clear y1 y2 y3 y4 y5 y6 fp o0 o1 HM3 hy h60i hsz0 HFIT HYS
      obtain ⟨y1, y2, y3, y4, y5, y6⟩ := HM4.out.pat
      have kc := rcheckp_is p w5 (by have := HPS.out; omega)
      unfold ptV at kc
      cases hok : p.ok with
      | false =>
        have he : p.err = 1 := by unfold Pt.err; rw [hok]; rfl
        rw [he] at kc
        clear he hok
        go_wp2_with (go_at_call 31; (with_reducible refine kc.mono ?_); rintro e w6 ⟨rfl, hb6⟩)
        go_ret
        exact ⟨rfl, bel_next HM4.out.bel hb6⟩
      | true =>
        have he : p.err = 0 := by unfold Pt.err; rw [hok]; rfl
        rw [he] at kc
        have HCK := Lib.hid (show 1 ≤ p.st.c ∧ p.st.c ≤ 1099511627776 by
          unfold Pt.ok St.ok at hok
          simp only [Bool.and_eq_true, decide_eq_true_eq] at hok
          omega)
        clear he hok
        go_upto_region 14 with (go_at_call 31; (with_reducible refine kc.mono ?_); rintro e w6 ⟨rfl, hb6⟩; (have HM6 := Lib.hid (HM4.out.later hb6)); clear hb6 kc)
        clear HM4 y1 y2 y3 y4 y5 y6
        go_wp2
        go_loopw [12, 13] (fun o i wr => ∃ k : Nat, k ≤ n ∧ i = .int .i64 (k : Int) ∧ IRow wr w6.heap.size o (ndN k) ∧ Below w6.heap.size w6 wr) (fun _ i _ => n - (intOf i).toNat)
        case atStart => exact ⟨0, Nat.zero_le _, rfl, IRow.nil _ _, Below.refl _ _⟩
        case round =>
          obtain ⟨k, hk, rfl, hR, hB⟩ := hrel
          obtain ⟨w7, hw7⟩ : ∃ w7, w7 = wr := ⟨_, rfl⟩
          subst hw7
          obtain ⟨a7, c7, rfl⟩ := hR.slice
          have hlen := ndN_len k
          rw [hlen]
          have HL := Lib.hid hlen
          have HSN := Lib.hid (ndN_snoc k)
          have HR := Lib.hid hR
          rw [hlen] at HR
          have HB := Lib.hid hB
          have hB1 := hB.size
          clear hlen hR hB
          by_cases hlt : k < n
          · have hlti : (k : Int) < (n : Int) := by omega
            obtain ⟨L, hL⟩ : ∃ L, ndN k = L := ⟨_, rfl⟩
            rw [hL] at HR HSN HL
            have hr := HR.out
            clear hL
            go_wp2_with (at_builtin; refine wpList_irow (w := w7) rfl _ _ rfl w6.heap.size (.slice a7 k c7) L rfl (k : Int) rfl hr hB1 (by rw [HL.out]; omega) ?_; intro v8 w8 hr8 hb8 G8; (have HR8 := Lib.hid hr8); (have HB8 := Lib.hid (HB.out.trans hb8)); clear hr8 hb8 G8 hr hB1)
            go_roundw
            case rel => exact ⟨k + 1, by omega, by go_num, by rw [HSN.out]; exact HR8.out, HB8.out⟩
            case measure => simp [intOf]; omega
          · obtain rfl : k = n := by omega
            have HNS := Lib.hid (show Ns w7 (.slice a7 k c7) (ndN k) from IRow.ns HR.out (fun x hx => by
              unfold ndN at hx
              obtain ⟨j, hj, rfl⟩ := List.mem_map.1 hx
              have := List.mem_range.1 hj
              omega) (by rw [ndN_len]; omega))
            have HM7 := Lib.hid (HM6.out.later HB.out)
            clear HM6 HR HB hB1 hlt HSN HL
            go_upto_region 20 with (go_at_call 10; (have kk := newW_at (wn : Int) _ _ _ HNS.out (by omega)); (with_reducible refine kk.mono ?_); rintro e w9 ⟨bw, rfl, hW, hlo, hb9⟩; (have HW := Lib.hid hW); (have HM9 := Lib.hid (HM7.out.later hb9)); (have HNS9 := Lib.hid (Ns.later HNS.out hb9)); (have HLO := Lib.hid (Nat.le_trans HM7.out.bel.size hlo)); clear kk hW hlo hb9)
            go_upto_region 23 with (go_at_call 19; (have kk := newR_is (rn : Int) _ _ _ HNS9.out); (with_reducible refine kk.mono ?_); rintro e w10 ⟨br, rfl, hN⟩; (have HN := Lib.hid hN); (have HM10 := Lib.hid (HM9.out.later hN.bel)); (have HW10 := Lib.hid (HW.out.later hN.bel)); clear kk hN)
            clear HW HM7 HNS HNS9
            have HRD := Lib.hid (show RdG w10 w.heap.size w.heap.size br (newR (rn : Int) (ndN k)) from HN.out.rd (by omega) (HM9.out.bel.size))
            have HMAP := Lib.hid HN.out.map
            clear HN HM9
            obtain ⟨y1, y2, y3, y4, y5, y6⟩ := HM10.out.pat
            obtain ⟨ec, hec⟩ : ∃ ec, IntKind.i64.wrap (p.st.c - 1) = ec := ⟨_, rfl⟩
            have HEC := Lib.hid (show ec = p.st.c - 1 by rw [← hec, IntKind.wrap_i64]; have := HCK.out; omega)
            have hpbl := World.block_lt_of_cell? w10 _ y1
            have hpb1 : ¬ pb = w10.heap.size := by simp at hpbl; omega
            have hpb2 : ¬ w10.heap.size = pb := by omega
            obtain ⟨w11, hw11⟩ : ∃ w11, w10.alloc (.cells #[.string p.s, .int .i64 p.t, .int .i64 0, .int .i64 ec, .int .i64 p.st.s, .int .i64 p.st.q] TPT) = w11 := ⟨_, rfl⟩
            have hal1 : Below w10.heap.size w10 w11 := by rw [← hw11]; exact (Below.refl _ _).alloc (Nat.le_refl _) _
            have hsz11 : w11.heap.size = w10.heap.size + 1 := by rw [← hw11]; simp
            have HEL := Lib.hid (show PtAt w11 w10.heap.size (eld p) by
              rw [← hw11]
              unfold eld
              constructor <;> simp [go_sem, HEC.out])
            obtain ⟨w12, hw12⟩ : ∃ w12, w11.alloc (.cells #[.slice none 0 0, .slice none 0 0, .slice none 0 0, .slice none 0 0, .slice none 0 0, .slice none 0 0, .slice none 0 0, .slice none 0 0] TGOT) = w12 := ⟨_, rfl⟩
            have hal2 : Below w11.heap.size w11 w12 := by rw [← hw12]; exact (Below.refl _ _).alloc (Nat.le_refl _) _
            have hga : GA w12 w11.heap.size w11.heap.size (fun _ => []) := by rw [← hw12]; exact ga_new w11 w11.heap.size (Nat.le_refl _)
            have hg8 : w12.heap[w11.heap.size]? = some (.cells #[.slice none 0 0, .slice none 0 0, .slice none 0 0, .slice none 0 0, .slice none 0 0, .slice none 0 0, .slice none 0 0, .slice none 0 0] TGOT (0, 0)) := by rw [← hw12]; exact heap_alloc_new _ _
            have hbb := hal1.trans (hal2.mono hal1.size)
            have HM12 := Lib.hid (HM10.out.later hbb)
            have HMS := Lib.hid (show MS w w12 pb ob w11.heap.size bw br w11.heap.size w.heap.size 8 p (.slice oa ol oc) (.slice ra rl rc) (newS (wn : Int) (ndN k)) (newR (rn : Int) (ndN k)) (fun _ => .slice none 0 0) (fun _ => []) from
              ⟨HM12.out.pbig, HM12.out.pat, HM12.out.obig, HM12.out.o0, HM12.out.o1, hga.big, fun i hi => ⟨by
                unfold World.cell?
                try dsimp only
                rw [hg8]
                match i, hi with
                | 0, _ | 1, _ | 2, _ | 3, _ | 4, _ | 5, _ | 6, _ | 7, _ => rfl
                | n + 8, h => exact absurd h (by omega), Or.inr (PRow.nil _ _)⟩, fun i j _ _ _ => Or.inl rfl, HW10.out.later hbb, HRD.out.later hbb, HM12.out.bel, Nat.le_trans HM10.out.bel.size hal1.size, hal2.size, by simp at hpbl; omega, Nat.le_refl _, HLO.out, Nat.le_refl _, HM12.out.bel.size⟩)
            have HE12 := Lib.hid (HEL.out.later hal2)
            have HMP := Lib.hid ((hbb.cell (p := ⟨br, 33, none⟩) HRD.out.at_.lt).trans HMAP.out)
            have HEB := Lib.hid (show w10.heap.size + 1 ≠ w10.heap.size by omega)
            have HWW := Lib.hid (show (w10.alloc (.cells #[.string p.s, .int .i64 p.t, .int .i64 0, .int .i64 ec, .int .i64 p.st.s, .int .i64 p.st.q] TPT)).alloc (.cells #[.slice none 0 0, .slice none 0 0, .slice none 0 0, .slice none 0 0, .slice none 0 0, .slice none 0 0, .slice none 0 0, .slice none 0 0] TGOT) = w12 by rw [hw11, hw12])
            have HS11 := Lib.hid hsz11
            clear hga hg8 hbb hal1 hal2 hw12 hw11 hsz11 HEL HM10 HM12 HW10 HRD HMAP HLO
            go_upto_region 27 with fail
            rw [HWW.out]
            rw [HS11.out] at HMS
            generalize w10.heap.size + 1 = g at HMS HEB ⊢
            generalize w10.heap.size = eb at HE12 HEB ⊢
            clear HWW HS11 y1 y2 y3 y4 y5 y6 hpbl hpb1 hpb2 hec
            go_wp2
            go_loopw [18] (fun i wr => ∃ (j : Nat) (sv : Nat → Value), j ≤ k ∧ i = .int .i64 (j : Int) ∧ Hid (MS w wr pb ob g bw br g w.heap.size 8 p (.slice oa ol oc) (.slice ra rl rc) (newS (wn : Int) (ndN k)) (newR (rn : Int) (ndN k)) sv (fun x => if x < j then eldL p else [])) ∧ Hid (PtAt wr eb (eld p)) ∧ Hid (wr.cell? ⟨br, 33, none⟩ = some (.map none))) (fun i _ => k - (intOf i).toNat)
            case atStart => exact ⟨0, fun _ => .slice none 0 0, Nat.zero_le _, rfl, Lib.hid (HMS.out.st fun x hx => by rw [if_neg (Nat.not_lt_zero _)]), HE12, HMP⟩
            case round =>
              obtain ⟨j, sv, hj, rfl, HL, HE, HMA⟩ := hrel
              clear HMS HE12 HMP
              obtain ⟨w13, hw13⟩ : ∃ w13, w13 = wr := ⟨_, rfl⟩
              subst hw13
              by_cases hlt : j < k
              · have hlti : (j : Int) < (k : Int) := by omega
                have hj8 : (j : Int) < 8 := by omega
                obtain ⟨y1, y2, y3, y4, y5, y6⟩ := HE.out
                obtain ⟨e, he⟩ : ∃ e, eld p = e := ⟨_, rfl⟩
                rw [he] at y1 y2 y3 y4 y5 y6
                have HEE := Lib.hid he
                have HEQ := Lib.hid (show e.st.c = p.st.c - 1 by rw [← he]; rfl)
                obtain ⟨a1, c1, e1, x1, -⟩ := HL.out.at_ (i := j) (by omega)
                have f1 := HL.out.gfrozen j
                have hgl := HL.out.glt
                clear he e1
                by_cases h1 : 1 ≤ e.st.c
                · have HY := Lib.hid (show eldL p = [e] by unfold eldL; rw [if_pos (by have := HEQ.out; omega), HEE.out])
                  have hal := (Below.refl w13.heap.size w13).alloc (Nat.le_refl _) (.cells #[.string e.s, .int .i64 e.t, .int .i64 e.v, .int .i64 e.st.c, .int .i64 e.st.s, .int .i64 e.st.q] TPT)
                  have hrow := prow_lit w13 g e HL.out.hB
                  have hrow2 := prow_lit w13 w13.heap.size e (Nat.le_refl _)
                  have HL2 := Lib.hid (HL.out.later hal)
                  have hput := HL2.out.put (i := j) (by omega) hrow (fun y hy hyj => ⟨Or.inr ?_, ?_⟩) (Or.inr (Nat.le_refl _))
                  rotate_left
                  · have := (HL.out.fresh hrow2 (Nat.le_refl _) y hy (by omega)).1
                    rcases this with h | h
                    · simp [Value.ownBlock] at h
                    · exact h
                  · exact (HL.out.fresh hrow2 (Nat.le_refl _) y hy (by omega)).2
                  have HN := Lib.hid (hput.st (ST' := fun x => if x < j + 1 then eldL p else []) fun x hx => by
                    try dsimp only
                    by_cases e2 : x = j
                    · subst e2; rw [if_pos rfl, if_pos (Nat.lt_succ_self _), HY.out]
                    · rw [if_neg e2]
                      by_cases h : x < j
                      · rw [if_pos h, if_pos (by omega)]
                      · rw [if_neg h, if_neg (by omega)])
                  have hmm := (hal.cell (p := ⟨br, 33, none⟩) HL.out.rd.at_.lt).trans HMA.out
                  have HMN := Lib.hid (HL2.out.map_put hmm j (.slice (some ⟨w13.heap.size, 0, none⟩) 1 1))
                  have hebl := World.block_lt_of_cell? w13 _ y1
                  have HEN := Lib.hid (show PtAt ((w13.alloc (.cells #[.string e.s, .int .i64 e.t, .int .i64 e.v, .int .i64 e.st.c, .int .i64 e.st.s, .int .i64 e.st.q] TPT)).setCell ⟨g, j, none⟩ (.slice (some ⟨w13.heap.size, 0, none⟩) 1 1)) eb (eld p) by
                    have hpt := HE.out.later hal
                    have hne : g ≠ eb := HEB.out
                    obtain ⟨z1, z2, z3, z4, z5, z6⟩ := hpt
                    exact ⟨(World.cell?_setCell_other _ _ _ _ fun e => hne (by injection e)).trans z1, (World.cell?_setCell_other _ _ _ _ fun e => hne (by injection e)).trans z2, (World.cell?_setCell_other _ _ _ _ fun e => hne (by injection e)).trans z3, (World.cell?_setCell_other _ _ _ _ fun e => hne (by injection e)).trans z4, (World.cell?_setCell_other _ _ _ _ fun e => hne (by injection e)).trans z5, (World.cell?_setCell_other _ _ _ _ fun e => hne (by injection e)).trans z6⟩)
                  have hg1 : ¬ g = w13.heap.size := by omega
                  have hg2 : ¬ w13.heap.size = g := by omega
                  have hcm := World.setCell_alloc_past (w := w13) (.cells #[.string e.s, .int .i64 e.t, .int .i64 e.v, .int .i64 e.st.c, .int .i64 e.st.s, .int .i64 e.st.q] TPT) g j (.slice (some ⟨w13.heap.size, 0, none⟩) 1 1) hgl
                  rw [hcm] at HN HEN HMN
                  clear hal hrow hrow2 hput hmm hebl hcm
                  go_wp2
                  go_roundw
                  case rel => exact ⟨j + 1, _, by omega, by go_num, HN, HEN, HMN⟩
                  case measure => simp [intOf]; omega
                · have HN := Lib.hid (HL.out.st (ST' := fun x => if x < j + 1 then eldL p else []) fun x hx => by
                    try dsimp only
                    by_cases e2 : x = j
                    · subst e2; rw [if_neg (Nat.lt_irrefl _), if_pos (Nat.lt_succ_self _)]; unfold eldL; rw [if_neg (by have := HEQ.out; omega)]
                    · by_cases h : x < j
                      · rw [if_pos h, if_pos (by omega)]
                      · rw [if_neg h, if_neg (by omega)])
                  go_wp2
                  go_roundw
                  case rel => exact ⟨j + 1, sv, by omega, by go_num, HN, HE, HMA⟩
                  case measure => simp [intOf]; omega
              · obtain rfl : j = k := by omega
                have HLL := Lib.hid (HL.out.st (ST' := fun x => stL p (newS (wn : Int) (ndN j)).hd j x) fun x hx => by
                  try dsimp only
                  unfold stL newS
                  try dsimp only
                  by_cases h : x < j
                  · rw [if_pos h, if_pos h, if_neg (by decide)]
                  · rw [if_neg h, if_neg h])
                have HWI := Lib.hid (WI.new (wn : Int) j)
                clear HL HE
                go_wp2
                go_loopw [19] (fun i wr => ∃ (t : Nat) (S : QS) (sv : Nat → Value), t ≤ ol + 8 ∧ i = .int .i64 (t : Int) ∧ Hid (MS w wr pb ob g bw br g w.heap.size 8 p (.slice oa ol oc) (.slice ra rl rc) S (newR (rn : Int) (ndN j)) sv (fun x => stL p S.hd j x)) ∧ Hid (WI (wn : Int) j S (t - ol)) ∧ Hid (wr.cell? ⟨br, 33, none⟩ = some (.map none))) (fun i _ => ol + 9 - (intOf i).toNat)
                case atStart => exact ⟨0, _, sv, by omega, rfl, HLL, by rw [Nat.zero_sub]; exact HWI, HMA⟩
                case round =>
                  obtain ⟨t, S, sv2, ht, rfl, HS, HW, HM2⟩ := hrel
                  clear HLL HWI HMA
                  obtain ⟨w14, hw14⟩ : ∃ w14, w14 = wr := ⟨_, rfl⟩
                  subst hw14
                  have kd := wdone_is HS.out.wat
                  obtain ⟨dz, hdz⟩ : ∃ dz, doneB S = dz := ⟨_, rfl⟩
                  rw [hdz] at kd
                  cases dz with
                  | false =>
                    have HDZ := Lib.hid hdz
                    clear hdz
                    go_upto_region 35 with (go_at_call 18; (with_reducible refine kd.mono ?_); rintro e w15 ⟨rfl, hb15⟩; (have HS5 := Lib.hid (HS.out.later hb15)); (have HM5 := Lib.hid ((hb15.cell (p := ⟨br, 33, none⟩) HS.out.rd.at_.lt).trans HM2.out)); clear hb15 kd)
                    clear HS HM2
                    have o0 := HS5.out.o0
                    obtain ⟨kz, hkz⟩ : ∃ kz, IntKind.i64.wrap ((t : Int) - (ol : Int)) = kz := ⟨_, rfl⟩
                    have HKZ := Lib.hid (show kz = (t : Int) - (ol : Int) by rw [← hkz, IntKind.wrap_i64]; omega)
                    by_cases hto : t < ol
                    · have htoi : (t : Int) < (ol : Int) := by omega
                      have hkl : t < O.length := by rw [HOL.out]; exact hto
                      obtain ⟨-, ab, off, rfl, hc⟩ := HO.out.cell (by omega)
                      have hc0 := hc t hkl
                      have hab := World.block_lt_of_cell? w _ hc0
                      obtain ⟨x, hx⟩ : ∃ x, O[t] = x := ⟨_, rfl⟩
                      rw [hx] at hc0
                      have hc1 := (HS5.out.bel.cell (p := ⟨ab, off + t, none⟩) hab).trans hc0
                      obtain ⟨kk, hk8, hkb, -⟩ := one_to_eight x
                      have hk8i : ¬ (7 : Int) < (kk : Int) := by omega
                      have HWN := Lib.hid (show ∀ S2, S2 = hearS S (kk : Int) → WI (wn : Int) j S2 (t + 1 - ol) from fun S2 e => by
                        subst e
                        have := HW.out.hear (kk : Int)
                        rwa [show t + 1 - ol = t - ol by omega])
                      clear hc hx hc0 hkl hto
                      go_upto_region 40 with fail
                      have kack := ack_is (kk : Int) HS5.out.wat
                      obtain ⟨y, hy⟩ : ∃ y, hearB S (kk : Int) = y := ⟨_, rfl⟩
                      rw [hy] at kack
                      cases y with
                      | false =>
                        have HNO := Lib.hid (hear_no hy)
                        clear hy
                        go_wp2_with (go_at_call 12; (with_reducible refine kack.mono ?_); rintro e w16 ⟨rfl, hw16⟩; (have HS6 := Lib.hid (show MS w w16 pb ob g bw br g w.heap.size 8 p (.slice (some ⟨ab, off, none⟩) ol oc) (.slice ra rl rc) S (newR (rn : Int) (ndN j)) sv2 (fun x => stL p S.hd j x) by have := HS5.out.ack (kk : Int); rw [HNO.out] at this; rw [hw16]; exact this)); (have HM6 := Lib.hid (show w16.cell? ⟨br, 33, none⟩ = some (.map none) by rw [hw16]; exact HS5.out.map_ack HM5.out (kk : Int))); clear hw16)
                        go_roundw
                        case rel => exact ⟨t + 1, S, sv2, by omega, by go_num, HS6, Lib.hid (HWN.out S HNO.out.symm), HM6⟩
                        case measure => simp [intOf]; omega
                      | true =>
                        have HY := Lib.hid hy
                        have hkj := hear_lt HW.out.nd hy
                        clear hy
                        go_upto_region 42 with (go_at_call 12; (with_reducible refine kack.mono ?_); rintro e w16 ⟨rfl, hw16⟩; (have HS6 := Lib.hid (show MS w w16 pb ob g bw br g w.heap.size 8 p (.slice (some ⟨ab, off, none⟩) ol oc) (.slice ra rl rc) (hearS S (kk : Int)) (newR (rn : Int) (ndN j)) sv2 (fun x => stL p S.hd j x) by rw [hw16]; exact HS5.out.ack (kk : Int))); (have HM6 := Lib.hid (show w16.cell? ⟨br, 33, none⟩ = some (.map none) by rw [hw16]; exact HS5.out.map_ack HM5.out (kk : Int))); clear hw16)
                        have HS17 := Lib.hid (HS6.out.later (Below.refl _ _).drew)
                        have HM17 := Lib.hid (show w16.drew.cell? ⟨br, 33, none⟩ = some (.map none) from HM6.out)
                        obtain ⟨a1, c1, e1, x1, hp1⟩ := HS17.out.at_ (i := kk) hk8
                        have hl17 := hp1.lst
                        obtain ⟨sl, hsl⟩ : ∃ sl, (stL p S.hd j kk).length = sl := ⟨_, rfl⟩
                        rw [hsl] at x1
                        have HSL := Lib.hid hsl
                        have hk8i2 : (kk : Int) < 8 := by omega
                        have hst := HS17.out.pat
                        clear hp1 hsl e1
                        refine wp_region_held_drew (S := (fun X => PtAt X pb p)) (by kernel_rfl) hst (fun hHeld => ?_)
                        refine wpAnyH_take (i := 0) (oi := ?k01o) (v := ?k01v) ?k01h (by kernel_rfl) (by kernel_rfl) (by kernel_rfl) ?k01q ?k01y hHeld ?k01r
                        case k01h => (simp only [List.getElem?_toArray, List.getElem?_cons_zero]; rfl)
                        case k01q => exact fun _ _ _ h => h
                        case k01y => (refine Or.inl ⟨by first | kernel_rfl | rfl, ?_⟩; intro w hSw; (try dsimp only at hSw); obtain ⟨t1, t2, t3, t4, t5, t6⟩ := hSw; go_simp <;> (try with_reducible rfl))
                        try simp only [Act.put, List.setIfInBounds_toArray, List.set_cons_zero, List.set_cons_succ]
                        refine wpAnyH_take (i := 1) (oi := ?k02o) (v := ?k02v) ?k02h (by kernel_rfl) (by kernel_rfl) (by kernel_rfl) ?k02q ?k02y hHeld ?k02r
                        case k02h => (simp only [List.getElem?_toArray, List.getElem?_cons_succ, List.getElem?_cons_zero]; rfl)
                        case k02q => exact fun _ _ _ h => h
                        case k02y => (refine Or.inl ⟨by first | kernel_rfl | rfl, ?_⟩; intro w hSw; (try dsimp only at hSw); obtain ⟨t1, t2, t3, t4, t5, t6⟩ := hSw; go_simp <;> (try with_reducible rfl))
                        try simp only [Act.put, List.setIfInBounds_toArray, List.set_cons_zero, List.set_cons_succ]
                        refine wpAnyH_take (i := 2) (oi := ?k03o) (v := ?k03v) ?k03h (by kernel_rfl) (by kernel_rfl) (by kernel_rfl) ?k03q ?k03y hHeld ?k03r
                        case k03h => (simp only [List.getElem?_toArray, List.getElem?_cons_succ, List.getElem?_cons_zero]; rfl)
                        case k03q => exact fun _ _ _ h => h
                        case k03y => (refine Or.inl ⟨by first | kernel_rfl | rfl, ?_⟩; intro w hSw; (try dsimp only at hSw); obtain ⟨t1, t2, t3, t4, t5, t6⟩ := hSw; go_simp <;> (try with_reducible rfl))
                        try simp only [Act.put, List.setIfInBounds_toArray, List.set_cons_zero, List.set_cons_succ]
                        refine wpAnyH_take (i := 4) (oi := ?k04o) (v := ?k04v) ?k04h (by kernel_rfl) (by kernel_rfl) (by kernel_rfl) ?k04q ?k04y hHeld ?k04r
                        case k04h => (simp only [List.getElem?_toArray, List.getElem?_cons_succ, List.getElem?_cons_zero]; rfl)
                        case k04q => exact fun _ _ _ h => h
                        case k04y => (refine Or.inl ⟨by first | kernel_rfl | rfl, ?_⟩; intro w hSw; (try dsimp only at hSw); obtain ⟨t1, t2, t3, t4, t5, t6⟩ := hSw; go_simp <;> (try with_reducible rfl))
                        try simp only [Act.put, List.setIfInBounds_toArray, List.set_cons_zero, List.set_cons_succ]
                        refine wpAnyH_ready (rs := [3]) (by kernel_rfl) (by simp) ?_
                        refine (AllReadyH.cons rfl (fun K hK => ?_) AllReadyH.nil)
                        go_simp
                        skip
                        refine hK.out _ _ (hst) (fun hHeld => ?_)
                        clear hK K
                        try simp only [Act.put, List.setIfInBounds_toArray, List.set_cons_zero, List.set_cons_succ]
                        refine wpAnyH_ready (rs := [5]) (by kernel_rfl) (by simp) ?_
                        refine (AllReadyH.cons rfl (fun K hK => ?_) AllReadyH.nil)
                        go_simp
                        (go_at_call 32; (have kk2 := rput_is a1 c1 (stL p S.hd j kk) p w16.drew hl17 (by have := stL_len p S.hd j kk; omega)); (rw [HSL.out] at kk2); unfold ptV at kk2; (with_reducible refine kk2.mono ?_); rintro e w18 ⟨v18, rfl, hR18, hb18⟩; (obtain ⟨a18, c18, rfl⟩ := hR18.slice); (have HR18 := Lib.hid hR18); (have HS18 := Lib.hid (HS17.out.later hb18)); (have HM18 := Lib.hid ((hb18.cell (p := ⟨br, 33, none⟩) HS17.out.rd.at_.lt).trans HM17.out)); (obtain ⟨a19, c19, -, x19, -⟩ := HS18.out.at_ (i := kk) hk8); (have f19 := HS18.out.gfrozen kk); (have HN := Lib.hid ((HS18.out.put (i := kk) hk8 (HR18.out.base HS17.out.hB) (fun y hy hyk => HS17.out.fresh HR18.out (Nat.le_refl _) y hy (by omega)) (Or.inr (Nat.le_refl _))).st (ST' := fun x => stL p (hearS S (kk : Int)).hd j x) (fun x hx => meets_upd hkj HY.out x))); (have HMN := Lib.hid (HS18.out.map_put HM18.out kk (.slice a18 (ins p (stL p S.hd j kk)).length c18))); clear kk2 hb18 hR18)
                        refine hK.out _ _ (HS18.out.pat) (fun hHeld => ?_)
                        clear hK K
                        try simp only [Act.put, List.setIfInBounds_toArray, List.set_cons_zero, List.set_cons_succ]
                        refine wpAnyH_take (i := 6) (oi := ?k05o) (v := ?k05v) ?k05h (by kernel_rfl) (by kernel_rfl) (by kernel_rfl) ?k05q ?k05y hHeld ?k05r
                        case k05h => (simp only [List.getElem?_toArray, List.getElem?_cons_succ, List.getElem?_cons_zero]; rfl)
                        case k05q => exact fun _ _ _ h => h
                        case k05y => (refine Or.inl ⟨by first | kernel_rfl | rfl, ?_⟩; intro w hSw; (try dsimp only at hSw); obtain ⟨t1, t2, t3, t4, t5, t6⟩ := hSw; go_simp <;> (try with_reducible rfl))
                        try simp only [Act.put, List.setIfInBounds_toArray, List.set_cons_zero, List.set_cons_succ]
                        refine wpAnyH_ready (rs := [7]) (by kernel_rfl) (by simp) ?_
                        refine (AllReadyH.cons rfl (fun K hK => ?_) AllReadyH.nil)
                        go_simp
                        skip
                        refine hK.out _ _ (HN.out.pat) (fun hHeld => ?_)
                        clear hK K
                        try simp only [Act.put]
                        refine wpAnyH_done (by kernel_rfl) ?_ _
                        go_wp2
                        go_roundw
                        case rel => exact ⟨t + 1, hearS S (kk : Int), _, by omega, by go_num, HN, Lib.hid (HWN.out _ rfl), HMN⟩
                        case measure => simp [intOf]; omega
                    · have htoi : ¬ (t : Int) < (ol : Int) := by omega
                      obtain ⟨kk, hkk⟩ : ∃ kk, t - ol = kk := ⟨_, rfl⟩
                      have hk8 : kk < 8 := by
                        by_cases h : kk < 8
                        · exact h
                        · exfalso
                          have h1 := HW.out.done (by omega) hn8 (by have := HMEET.out; omega) hn1
                          rw [HDZ.out] at h1; cases h1
                      have hkzk : kz = (kk : Int) := by have := HKZ.out; omega
                      have hk8i : ¬ (7 : Int) < (kk : Int) := by omega
                      have HWN := Lib.hid (show ∀ S2, S2 = hearS S (kk : Int) → WI (wn : Int) j S2 (t + 1 - ol) from fun S2 e => by
                        subst e
                        have := HW.out.step hn8
                        rw [hkk] at this
                        rwa [show t + 1 - ol = kk + 1 by omega])
                      subst hkzk
                      clear hto
                      go_upto_region 40 with fail
                      have kack := ack_is (kk : Int) HS5.out.wat
                      obtain ⟨y, hy⟩ : ∃ y, hearB S (kk : Int) = y := ⟨_, rfl⟩
                      rw [hy] at kack
                      cases y with
                      | false =>
                        have HNO := Lib.hid (hear_no hy)
                        clear hy
                        go_wp2_with (go_at_call 12; (with_reducible refine kack.mono ?_); rintro e w16 ⟨rfl, hw16⟩; (have HS6 := Lib.hid (show MS w w16 pb ob g bw br g w.heap.size 8 p (.slice oa ol oc) (.slice ra rl rc) S (newR (rn : Int) (ndN j)) sv2 (fun x => stL p S.hd j x) by have := HS5.out.ack (kk : Int); rw [HNO.out] at this; rw [hw16]; exact this)); (have HM6 := Lib.hid (show w16.cell? ⟨br, 33, none⟩ = some (.map none) by rw [hw16]; exact HS5.out.map_ack HM5.out (kk : Int))); clear hw16)
                        go_roundw
                        case rel => exact ⟨t + 1, S, sv2, by omega, by go_num, HS6, Lib.hid (HWN.out S HNO.out.symm), HM6⟩
                        case measure => simp [intOf]; omega
                      | true =>
                        have HY := Lib.hid hy
                        have hkj := hear_lt HW.out.nd hy
                        clear hy
                        go_upto_region 42 with (go_at_call 12; (with_reducible refine kack.mono ?_); rintro e w16 ⟨rfl, hw16⟩; (have HS6 := Lib.hid (show MS w w16 pb ob g bw br g w.heap.size 8 p (.slice oa ol oc) (.slice ra rl rc) (hearS S (kk : Int)) (newR (rn : Int) (ndN j)) sv2 (fun x => stL p S.hd j x) by rw [hw16]; exact HS5.out.ack (kk : Int))); (have HM6 := Lib.hid (show w16.cell? ⟨br, 33, none⟩ = some (.map none) by rw [hw16]; exact HS5.out.map_ack HM5.out (kk : Int))); clear hw16)
                        have HS17 := Lib.hid (HS6.out.later (Below.refl _ _).drew)
                        have HM17 := Lib.hid (show w16.drew.cell? ⟨br, 33, none⟩ = some (.map none) from HM6.out)
                        obtain ⟨a1, c1, e1, x1, hp1⟩ := HS17.out.at_ (i := kk) hk8
                        have hl17 := hp1.lst
                        obtain ⟨sl, hsl⟩ : ∃ sl, (stL p S.hd j kk).length = sl := ⟨_, rfl⟩
                        rw [hsl] at x1
                        have HSL := Lib.hid hsl
                        have hk8i2 : (kk : Int) < 8 := by omega
                        have hst := HS17.out.pat
                        clear hp1 hsl e1
                        refine wp_region_held_drew (S := (fun X => PtAt X pb p)) (by kernel_rfl) hst (fun hHeld => ?_)
                        refine wpAnyH_take (i := 0) (oi := ?k11o) (v := ?k11v) ?k11h (by kernel_rfl) (by kernel_rfl) (by kernel_rfl) ?k11q ?k11y hHeld ?k11r
                        case k11h => (simp only [List.getElem?_toArray, List.getElem?_cons_zero]; rfl)
                        case k11q => exact fun _ _ _ h => h
                        case k11y => (refine Or.inl ⟨by first | kernel_rfl | rfl, ?_⟩; intro w hSw; (try dsimp only at hSw); obtain ⟨t1, t2, t3, t4, t5, t6⟩ := hSw; go_simp <;> (try with_reducible rfl))
                        try simp only [Act.put, List.setIfInBounds_toArray, List.set_cons_zero, List.set_cons_succ]
                        refine wpAnyH_take (i := 1) (oi := ?k12o) (v := ?k12v) ?k12h (by kernel_rfl) (by kernel_rfl) (by kernel_rfl) ?k12q ?k12y hHeld ?k12r
                        case k12h => (simp only [List.getElem?_toArray, List.getElem?_cons_succ, List.getElem?_cons_zero]; rfl)
                        case k12q => exact fun _ _ _ h => h
                        case k12y => (refine Or.inl ⟨by first | kernel_rfl | rfl, ?_⟩; intro w hSw; (try dsimp only at hSw); obtain ⟨t1, t2, t3, t4, t5, t6⟩ := hSw; go_simp <;> (try with_reducible rfl))
                        try simp only [Act.put, List.setIfInBounds_toArray, List.set_cons_zero, List.set_cons_succ]
                        refine wpAnyH_take (i := 2) (oi := ?k13o) (v := ?k13v) ?k13h (by kernel_rfl) (by kernel_rfl) (by kernel_rfl) ?k13q ?k13y hHeld ?k13r
                        case k13h => (simp only [List.getElem?_toArray, List.getElem?_cons_succ, List.getElem?_cons_zero]; rfl)
                        case k13q => exact fun _ _ _ h => h
                        case k13y => (refine Or.inl ⟨by first | kernel_rfl | rfl, ?_⟩; intro w hSw; (try dsimp only at hSw); obtain ⟨t1, t2, t3, t4, t5, t6⟩ := hSw; go_simp <;> (try with_reducible rfl))
                        try simp only [Act.put, List.setIfInBounds_toArray, List.set_cons_zero, List.set_cons_succ]
                        refine wpAnyH_take (i := 4) (oi := ?k14o) (v := ?k14v) ?k14h (by kernel_rfl) (by kernel_rfl) (by kernel_rfl) ?k14q ?k14y hHeld ?k14r
                        case k14h => (simp only [List.getElem?_toArray, List.getElem?_cons_succ, List.getElem?_cons_zero]; rfl)
                        case k14q => exact fun _ _ _ h => h
                        case k14y => (refine Or.inl ⟨by first | kernel_rfl | rfl, ?_⟩; intro w hSw; (try dsimp only at hSw); obtain ⟨t1, t2, t3, t4, t5, t6⟩ := hSw; go_simp <;> (try with_reducible rfl))
                        try simp only [Act.put, List.setIfInBounds_toArray, List.set_cons_zero, List.set_cons_succ]
                        refine wpAnyH_ready (rs := [3]) (by kernel_rfl) (by simp) ?_
                        refine (AllReadyH.cons rfl (fun K hK => ?_) AllReadyH.nil)
                        go_simp
                        skip
                        refine hK.out _ _ (hst) (fun hHeld => ?_)
                        clear hK K
                        try simp only [Act.put, List.setIfInBounds_toArray, List.set_cons_zero, List.set_cons_succ]
                        refine wpAnyH_ready (rs := [5]) (by kernel_rfl) (by simp) ?_
                        refine (AllReadyH.cons rfl (fun K hK => ?_) AllReadyH.nil)
                        go_simp
                        (go_at_call 32; (have kk2 := rput_is a1 c1 (stL p S.hd j kk) p w16.drew hl17 (by have := stL_len p S.hd j kk; omega)); (rw [HSL.out] at kk2); unfold ptV at kk2; (with_reducible refine kk2.mono ?_); rintro e w18 ⟨v18, rfl, hR18, hb18⟩; (obtain ⟨a18, c18, rfl⟩ := hR18.slice); (have HR18 := Lib.hid hR18); (have HS18 := Lib.hid (HS17.out.later hb18)); (have HM18 := Lib.hid ((hb18.cell (p := ⟨br, 33, none⟩) HS17.out.rd.at_.lt).trans HM17.out)); (obtain ⟨a19, c19, -, x19, -⟩ := HS18.out.at_ (i := kk) hk8); (have f19 := HS18.out.gfrozen kk); (have HN := Lib.hid ((HS18.out.put (i := kk) hk8 (HR18.out.base HS17.out.hB) (fun y hy hyk => HS17.out.fresh HR18.out (Nat.le_refl _) y hy (by omega)) (Or.inr (Nat.le_refl _))).st (ST' := fun x => stL p (hearS S (kk : Int)).hd j x) (fun x hx => meets_upd hkj HY.out x))); (have HMN := Lib.hid (HS18.out.map_put HM18.out kk (.slice a18 (ins p (stL p S.hd j kk)).length c18))); clear kk2 hb18 hR18)
                        refine hK.out _ _ (HS18.out.pat) (fun hHeld => ?_)
                        clear hK K
                        try simp only [Act.put, List.setIfInBounds_toArray, List.set_cons_zero, List.set_cons_succ]
                        refine wpAnyH_take (i := 6) (oi := ?k15o) (v := ?k15v) ?k15h (by kernel_rfl) (by kernel_rfl) (by kernel_rfl) ?k15q ?k15y hHeld ?k15r
                        case k15h => (simp only [List.getElem?_toArray, List.getElem?_cons_succ, List.getElem?_cons_zero]; rfl)
                        case k15q => exact fun _ _ _ h => h
                        case k15y => (refine Or.inl ⟨by first | kernel_rfl | rfl, ?_⟩; intro w hSw; (try dsimp only at hSw); obtain ⟨t1, t2, t3, t4, t5, t6⟩ := hSw; go_simp <;> (try with_reducible rfl))
                        try simp only [Act.put, List.setIfInBounds_toArray, List.set_cons_zero, List.set_cons_succ]
                        refine wpAnyH_ready (rs := [7]) (by kernel_rfl) (by simp) ?_
                        refine (AllReadyH.cons rfl (fun K hK => ?_) AllReadyH.nil)
                        go_simp
                        skip
                        refine hK.out _ _ (HN.out.pat) (fun hHeld => ?_)
                        clear hK K
                        try simp only [Act.put]
                        refine wpAnyH_done (by kernel_rfl) ?_ _
                        go_wp2
                        go_roundw
                        case rel => exact ⟨t + 1, hearS S (kk : Int), _, by omega, by go_num, HN, Lib.hid (HWN.out _ rfl), HMN⟩
                        case measure => simp [intOf]; omega
                  | true =>
                    have HDW := Lib.hid hdz
                    clear hdz
                    go_upto_region 43 with (go_at_call 18; (with_reducible refine kd.mono ?_); rintro e w15 ⟨rfl, hb15⟩; (have HS5 := Lib.hid ((HS.out.later hb15).rebase ((hb15.cell (p := ⟨br, 33, none⟩) HS.out.rd.at_.lt).trans HM2.out))); clear hb15 kd)
                    clear HS HM2
                    have HT0 := Lib.hid (show ∀ y, y < 8 → ∀ b, (sv2 y).ownBlock = some b → b < w15.heap.size from fun y hy b hb => by
                      rcases (HS5.out.gcel y hy).2 with e | hq
                      · omega
                      · exact (World.ownsRow.lt hq b hb).2)
                    have HRI := Lib.hid (RI.new p S.hd j (rn : Int))
                    have HWR := Lib.hid (WI.new (rn : Int) j)
                    obtain ⟨T, hT⟩ : ∃ T, w15.heap.size = T := ⟨_, rfl⟩
                    rw [hT] at HS5 HT0
                    clear hT
                    go_wp2
                    go_loopw [22] (fun i wr => ∃ (t : Nat) (R : RS), t ≤ rl + 8 ∧ i = .int .i64 (t : Int) ∧ Hid (MS w wr pb ob g bw br g T 8 p (.slice oa ol oc) (.slice ra rl rc) S R sv2 (fun x => stL p S.hd j x)) ∧ Hid (WI (rn : Int) j R.S (t - rl)) ∧ Hid (RI p S.hd j R) ∧ R.cnt ≤ t) (fun i _ => rl + 9 - (intOf i).toNat)
                    case atStart => exact ⟨0, _, by omega, rfl, HS5, by rw [Nat.zero_sub]; exact HWR, HRI, Nat.zero_le _⟩
                    case round =>
                      obtain ⟨t1, R, ht1, rfl, HS, HWX, HRX, hcnt⟩ := hrel
                      clear HS5 HRI HWR
                      obtain ⟨w16, hw16⟩ : ∃ w16, w16 = wr := ⟨_, rfl⟩
                      subst hw16
                      have kd := rdone_is HS.out.rd.at_
                      obtain ⟨dz, hdz⟩ : ∃ dz, doneB R.S = dz := ⟨_, rfl⟩
                      rw [hdz] at kd
                      cases dz with
                      | false =>
                        have HDZ := Lib.hid hdz
                        clear hdz
                        go_upto_region 46 with (go_at_call 29; (with_reducible refine kd.mono ?_); rintro e w17 ⟨rfl, hb17⟩; (have HS7 := Lib.hid (HS.out.later hb17)); clear hb17 kd)
                        clear HS
                        have o1 := HS7.out.o1
                        obtain ⟨kz, hkz⟩ : ∃ kz, IntKind.i64.wrap ((t1 : Int) - (rl : Int)) = kz := ⟨_, rfl⟩
                        have HKZ := Lib.hid (show kz = (t1 : Int) - (rl : Int) by rw [← hkz, IntKind.wrap_i64]; omega)
                        by_cases hto : t1 < rl
                        · have htoi : (t1 : Int) < (rl : Int) := by omega
                          have hkl : t1 < Q.length := by rw [HRL.out]; exact hto
                          obtain ⟨-, ab, off, rfl, hc⟩ := HQ.out.cell (by omega)
                          have hc0 := hc t1 hkl
                          have hab := World.block_lt_of_cell? w _ hc0
                          obtain ⟨x, hx⟩ : ∃ x, Q[t1] = x := ⟨_, rfl⟩
                          rw [hx] at hc0
                          have hc1 := (HS7.out.bel.cell (p := ⟨ab, off + t1, none⟩) hab).trans hc0
                          obtain ⟨kk, hk8, hkb, -⟩ := one_to_eight x
                          have hk8i : ¬ (7 : Int) < (kk : Int) := by omega
                          have HWY := Lib.hid (show WI (rn : Int) j (hearS R.S (kk : Int)) (t1 + 1 - rl) by
                            have := HWX.out.hear (kk : Int)
                            rwa [show t1 + 1 - rl = t1 - rl by omega])
                          have HWN := Lib.hid (show j ≤ kk → WI (rn : Int) j R.S (t1 + 1 - rl) from fun _ => by
                            have := HWX.out
                            rwa [show t1 + 1 - rl = t1 - rl by omega])
                          clear hc hx hc0 hkl hto
                          go_upto_region 51 with fail
                          by_cases hkj : kk < j
                          · have hkji : (kk : Int) < (j : Int) := by omega
                            have hk8i2 : (kk : Int) < 8 := by omega
                            obtain ⟨a1, c1, e1, x1, hp1⟩ := HS7.out.at_ (i := kk) hk8
                            have ka := answer_is (kk : Int) a1 c1 (stL p S.hd j kk) HS7.out.rd HS7.out.hT.2 hp1.lst (by have := stL_len p S.hd j kk; omega) (fun q hq => Nat.le_trans (stL_short HPS.out hq) (by decide)) (by omega)
                            obtain ⟨sl, hsl⟩ : ∃ sl, (stL p S.hd j kk).length = sl := ⟨_, rfl⟩
                            rw [hsl] at x1 ka
                            have hgl := HS7.out.glt
                            clear hp1 e1 hsl
                            go_wp2_with (go_at_call 21; (with_reducible refine ka.mono ?_); rintro e w18 ⟨he, hr18, hf18, -⟩; subst he; (have HS8 := Lib.hid (HS7.out.ans hr18 hf18)); clear hr18 hf18)
                            go_roundw
                            case rel => exact ⟨t1 + 1, _, by omega, by go_num, HS8, Lib.hid (by rw [ans_S]; exact HWY.out), Lib.hid (HRX.out.step (by omega)), by have := ans_cnt R (kk : Int) (stL p S.hd j kk); omega⟩
                            case measure => simp [intOf]; omega
                          · have hkji : ¬ (kk : Int) < (j : Int) := by omega
                            have HW9 := Lib.hid (HWN.out (by omega))
                            clear hkj
                            go_wp2
                            go_roundw
                            case rel => exact ⟨t1 + 1, R, by omega, by go_num, HS7, HW9, HRX, by omega⟩
                            case measure => simp [intOf]; omega
                        · have htoi : ¬ (t1 : Int) < (rl : Int) := by omega
                          obtain ⟨kk, hkk⟩ : ∃ kk, t1 - rl = kk := ⟨_, rfl⟩
                          have hk8 : kk < 8 := by
                            by_cases h : kk < 8
                            · exact h
                            · exfalso
                              have h1 := HWX.out.done (by omega) hn8 (by have := HMEET.out; omega) hn1
                              rw [HDZ.out] at h1; cases h1
                          have hkzk : kz = (kk : Int) := by have := HKZ.out; omega
                          have hk8i : ¬ (7 : Int) < (kk : Int) := by omega
                          have HWY := Lib.hid (show WI (rn : Int) j (hearS R.S (kk : Int)) (t1 + 1 - rl) by
                            have := HWX.out.step hn8
                            rw [hkk] at this
                            rwa [show t1 + 1 - rl = kk + 1 by omega])
                          have HWN := Lib.hid (show j ≤ kk → WI (rn : Int) j R.S (t1 + 1 - rl) from fun h => by
                            have := HWX.out
                            rw [hkk] at this
                            rw [show t1 + 1 - rl = kk + 1 by omega]
                            exact this.skip h)
                          subst hkzk
                          clear hto
                          go_upto_region 51 with fail
                          by_cases hkj : kk < j
                          · have hkji : (kk : Int) < (j : Int) := by omega
                            have hk8i2 : (kk : Int) < 8 := by omega
                            obtain ⟨a1, c1, e1, x1, hp1⟩ := HS7.out.at_ (i := kk) hk8
                            have ka := answer_is (kk : Int) a1 c1 (stL p S.hd j kk) HS7.out.rd HS7.out.hT.2 hp1.lst (by have := stL_len p S.hd j kk; omega) (fun q hq => Nat.le_trans (stL_short HPS.out hq) (by decide)) (by omega)
                            obtain ⟨sl, hsl⟩ : ∃ sl, (stL p S.hd j kk).length = sl := ⟨_, rfl⟩
                            rw [hsl] at x1 ka
                            have hgl := HS7.out.glt
                            clear hp1 e1 hsl
                            go_wp2_with (go_at_call 21; (with_reducible refine ka.mono ?_); rintro e w18 ⟨he, hr18, hf18, -⟩; subst he; (have HS8 := Lib.hid (HS7.out.ans hr18 hf18)); clear hr18 hf18)
                            go_roundw
                            case rel => exact ⟨t1 + 1, _, by omega, by go_num, HS8, Lib.hid (by rw [ans_S]; exact HWY.out), Lib.hid (HRX.out.step (by omega)), by have := ans_cnt R (kk : Int) (stL p S.hd j kk); omega⟩
                            case measure => simp [intOf]; omega
                          · have hkji : ¬ (kk : Int) < (j : Int) := by omega
                            have HW9 := Lib.hid (HWN.out (by omega))
                            clear hkj
                            go_wp2
                            go_roundw
                            case rel => exact ⟨t1 + 1, R, by omega, by go_num, HS7, HW9, HRX, by omega⟩
                            case measure => simp [intOf]; omega
                      | true =>
                        have HMG := Lib.hid (meets hn8 HW.out HWX.out HRX.out HDW.out hdz (by have := HMEET.out; omega))
                        clear hdz
                        go_upto_region 53 with (go_at_call 29; (with_reducible refine kd.mono ?_); rintro e w17 ⟨rfl, hb17⟩; (have HS7 := Lib.hid (HS.out.later hb17)); clear hb17 kd)
                        clear HS
                        go_upto_region 54 with (go_at_call 23; (have kk := merged_is HS7.out.rd HS7.out.hT.2); (rw [HMG.out] at kk); (with_reducible refine kk.mono ?_); rintro e w18 ⟨v18, rfl, hR18, hb18⟩; (obtain ⟨a18, c18, rfl⟩ := hR18.slice); (have hl18 := hR18.lst); (obtain ⟨g7, o7, rfl, -, hp7⟩ := lst_pt hl18); (have HP7 := Lib.hid hp7); (have HS8 := Lib.hid (HS7.out.later hb18)); clear kk hR18 hb18 hl18 hp7)
                        obtain ⟨t1', t2, t3, t4, t5, t6⟩ := HP7.out
                        obtain ⟨u1, u2, u3, u4, u5, u6⟩ := HS8.out.pat
                        have hneq := fun W => neq_run6 p p W
                        rw [show p.same p = true from Pt.same_iff.2 rfl] at hneq
                        unfold ptV at hneq
                        go_wp2_with fail
                        go_quiet (fail)
                        have HS9 := Lib.hid (HS8.out.later (below_drewN (Below.refl _ _) nq))
                        clear t1' t2 t3 t4 t5 t6 u1 u2 u3 u4 u5 u6 HP7 HS8 HS7
                        go_wp2
                        go_loopw [25] (fun i wr => ∃ (x : Nat) (sv3 : Nat → Value), x ≤ j ∧ i = .int .i64 (x : Int) ∧ Hid (MS w wr pb ob g bw br g T 8 p (.slice oa ol oc) (.slice ra rl rc) S R sv3 (fun y => if y < x then [p] else stL p S.hd j y)) ∧ Hid (∀ y, x ≤ y → y < 8 → ∀ b, (sv3 y).ownBlock = some b → b < T)) (fun i _ => j - (intOf i).toNat)
                        case atStart => exact ⟨0, sv2, Nat.zero_le _, rfl, Lib.hid (HS9.out.st fun y hy => by rw [if_neg (Nat.not_lt_zero _)]), Lib.hid fun y _ hy b hb => HT0.out y hy b hb⟩
                        case round =>
                          obtain ⟨x, sv3, hx, rfl, HSL5, HT5⟩ := hrel
                          clear HS9 HT0
                          obtain ⟨w19, hw19⟩ : ∃ w19, w19 = wr := ⟨_, rfl⟩
                          subst hw19
                          by_cases hlt : x < j
                          · have hlti : (x : Int) < (j : Int) := by omega
                            have hx8 : x < 8 := by omega
                            have hx8i : (x : Int) < 8 := by omega
                            go_upto_region 59 with fail
                            have HS17 := Lib.hid (HSL5.out.later (Below.refl _ _).drew)
                            obtain ⟨a1, c1, e1, x1, hp1⟩ := HS17.out.at_ (i := x) hx8
                            rw [if_neg (Nat.lt_irrefl _)] at e1 x1 hp1
                            have HMD := Lib.hid (mended hn8 HWX.out HRX.out HMG.out hlt)
                            have hsl1 := stL_len p S.hd j x
                            obtain ⟨X, hX⟩ : ∃ X, stL p S.hd j x = X := ⟨_, rfl⟩
                            rw [hX] at e1 x1 hp1 HMD hsl1
                            obtain ⟨sl, hsl⟩ : ∃ sl, X.length = sl := ⟨_, rfl⟩
                            rw [hsl] at x1 e1 hp1 hsl1
                            have HSLL := Lib.hid hsl
                            have HP1 := Lib.hid hp1
                            have HE1 := Lib.hid e1
                            have kr := repair_is (x : Int) HS17.out.rd HS17.out.hT.2
                            obtain ⟨D, hD⟩ : ∃ D, rprL R (x : Int) = D := ⟨_, rfl⟩
                            rw [hD] at kr HMD
                            obtain ⟨dl, hdl⟩ : ∃ dl, D.length = dl := ⟨_, rfl⟩
                            have HDL := Lib.hid hdl
                            have hdl1 : dl ≤ 1 := by rw [← hdl]; exact HMD.out.2
                            have hgl := HS17.out.glt
                            clear hX hsl hp1 e1 hD hdl
                            refine wp_region_held_drew (S := (fun _ => True)) (by kernel_rfl) trivial (fun hHeld => ?_)
                            refine wpAnyH_take (i := 0) (oi := ?r1o) (v := ?r1v) ?r1h (by kernel_rfl) (by kernel_rfl) (by kernel_rfl) ?r1q ?r1y hHeld ?r1r
                            case r1h => (simp only [List.getElem?_toArray, List.getElem?_cons_zero]; rfl)
                            case r1q => exact fun _ _ _ h => h
                            case r1y => (refine Or.inl ⟨by first | kernel_rfl | rfl, ?_⟩; intro w hSw; (try dsimp only at hSw); go_simp <;> (try with_reducible rfl))
                            try simp only [Act.put, List.setIfInBounds_toArray, List.set_cons_zero, List.set_cons_succ]
                            refine wpAnyH_take (i := 1) (oi := ?r2o) (v := ?r2v) ?r2h (by kernel_rfl) (by kernel_rfl) (by kernel_rfl) ?r2q ?r2y hHeld ?r2r
                            case r2h => (simp only [List.getElem?_toArray, List.getElem?_cons_succ, List.getElem?_cons_zero]; rfl)
                            case r2q => exact fun _ _ _ h => h
                            case r2y => (refine Or.inl ⟨by first | kernel_rfl | rfl, ?_⟩; intro w hSw; (try dsimp only at hSw); go_simp <;> (try with_reducible rfl))
                            try simp only [Act.put, List.setIfInBounds_toArray, List.set_cons_zero, List.set_cons_succ]
                            refine wpAnyH_take (i := 2) (oi := ?r3o) (v := ?r3v) ?r3h (by kernel_rfl) (by kernel_rfl) (by kernel_rfl) ?r3q ?r3y hHeld ?r3r
                            case r3h => (simp only [List.getElem?_toArray, List.getElem?_cons_succ, List.getElem?_cons_zero]; rfl)
                            case r3q => exact fun _ _ _ h => h
                            case r3y => (refine Or.inl ⟨by first | kernel_rfl | rfl, ?_⟩; intro w hSw; (try dsimp only at hSw); go_simp <;> (try with_reducible rfl))
                            try simp only [Act.put, List.setIfInBounds_toArray, List.set_cons_zero, List.set_cons_succ]
                            refine wpAnyH_take (i := 4) (oi := ?r4o) (v := ?r4v) ?r4h (by kernel_rfl) (by kernel_rfl) (by kernel_rfl) ?r4q ?r4y hHeld ?r4r
                            case r4h => (simp only [List.getElem?_toArray, List.getElem?_cons_succ, List.getElem?_cons_zero]; rfl)
                            case r4q => exact fun _ _ _ h => h
                            case r4y => (refine Or.inl ⟨by first | kernel_rfl | rfl, ?_⟩; intro w hSw; (try dsimp only at hSw); go_simp <;> (try with_reducible rfl))
                            try simp only [Act.put, List.setIfInBounds_toArray, List.set_cons_zero, List.set_cons_succ]
                            refine wpAnyH_take (i := 5) (oi := ?r5o) (v := ?r5v) ?r5h (by kernel_rfl) (by kernel_rfl) (by kernel_rfl) ?r5q ?r5y hHeld ?r5r
                            case r5h => (simp only [List.getElem?_toArray, List.getElem?_cons_succ, List.getElem?_cons_zero]; rfl)
                            case r5q => exact fun _ _ _ h => h
                            case r5y => (refine Or.inl ⟨by first | kernel_rfl | rfl, ?_⟩; intro w hSw; (try dsimp only at hSw); go_simp <;> (try with_reducible rfl))
                            try simp only [Act.put, List.setIfInBounds_toArray, List.set_cons_zero, List.set_cons_succ]
                            refine wpAnyH_ready (rs := [3, 6]) (by kernel_rfl) (by simp) ?_
                            refine (AllReadyH.cons rfl (fun K hK => ?_) (AllReadyH.cons rfl (fun K hK => ?_) AllReadyH.nil))
                            ·
                              go_simp
                              skip
                              refine hK.out _ _ (trivial) (fun hHeld => ?_)
                              clear hK K
                              try simp only [Act.put, List.setIfInBounds_toArray, List.set_cons_zero, List.set_cons_succ]
                              refine wpAnyH_ready (rs := [6]) (by kernel_rfl) (by simp) ?_
                              refine (AllReadyH.cons rfl (fun K hK => ?_) AllReadyH.nil)
                              go_simp
                              (go_at_call 25; (with_reducible refine kr.mono ?_); rintro e w20 ⟨a20, c20, rfl, hl20, hb20⟩; (rw [HDL.out]); (have HS20 := Lib.hid (HS17.out.later hb20)); (have x20 := (HS20.out.gcel x hx8).1); (rw [HE1.out] at x20); (obtain ⟨a21, c21, w21, hap, hR21, hg21, hb21⟩ := run_appN PTT HSLL.out HDL.out (HP1.out.later hb20) hl20 (by omega) HS20.out.hB); (have HS21 := Lib.hid (HS20.out.grow hx8 (by rw [HE1.out]; exact hg21) hb21 (HT5.out x (Nat.le_refl _) hx8))); (have HR21 := Lib.hid hR21); clear hl20 hb20 hR21 hg21 hb21 kr)
                              refine hK.out _ _ (trivial) (fun hHeld => ?_)
                              clear hK K
                              try simp only [Act.put, List.setIfInBounds_toArray, List.set_cons_zero, List.set_cons_succ]
                              refine wpAnyH_ready (rs := [7]) (by kernel_rfl) (by simp) ?_
                              refine (AllReadyH.cons rfl (fun K hK => ?_) AllReadyH.nil)
                              refine (if_pos (by kernel_rfl)).mpr ?_
                              refine Lib.wp_append_run _ _ _ _ _ rfl _ _ rfl rfl _ _ hap ?_
                              refine hK.out _ _ (trivial) (fun hHeld => ?_)
                              clear hK K
                              try simp only [Act.put, List.setIfInBounds_toArray, List.set_cons_zero, List.set_cons_succ]
                              refine wpAnyH_ready (rs := [8]) (by kernel_rfl) (by simp) ?_
                              refine (AllReadyH.cons rfl (fun K hK => ?_) AllReadyH.nil)
                              go_simp
                              (go_at_call 33; (have kk := rsort_is a21 c21 (X ++ D) w21 HR21.out.lst (by rw [List.length_append, HSLL.out, HDL.out]; omega)); (rw [List.length_append, HSLL.out, HDL.out, HMD.out.1] at kk); (with_reducible refine kk.mono ?_); rintro e w22 ⟨v22, rfl, hR22, hb22⟩; (obtain ⟨a22, c22, rfl⟩ := hR22.slice); (have HR22 := Lib.hid hR22); (have HS22 := Lib.hid (HS21.out.later hb22)); (have x22 := (HS22.out.gcel x hx8).1); (have f22 := HS22.out.gfrozen x); (have HN := Lib.hid ((HS22.out.put (i := x) hx8 (HR22.out.base HS21.out.hB) (fun y hy hyx => HS21.out.fresh HR22.out (Nat.le_refl _) y hy hyx) (Or.inl rfl)).st (ST' := fun y => if y < x + 1 then [p] else stL p S.hd j y) (fun y hy => upto_p y x p _))); clear kk hR22 hb22 hap)
                              refine hK.out _ _ (trivial) (fun hHeld => ?_)
                              clear hK K
                              try simp only [Act.put, List.setIfInBounds_toArray, List.set_cons_zero, List.set_cons_succ]
                              refine wpAnyH_take (i := 9) (oi := ?r6o) (v := ?r6v) ?r6h (by kernel_rfl) (by kernel_rfl) (by kernel_rfl) ?r6q ?r6y hHeld ?r6r
                              case r6h => (simp only [List.getElem?_toArray, List.getElem?_cons_succ, List.getElem?_cons_zero]; rfl)
                              case r6q => exact fun _ _ _ h => h
                              case r6y => (refine Or.inl ⟨by first | kernel_rfl | rfl, ?_⟩; intro w hSw; (try dsimp only at hSw); go_simp <;> (try with_reducible rfl))
                              try simp only [Act.put, List.setIfInBounds_toArray, List.set_cons_zero, List.set_cons_succ]
                              refine wpAnyH_ready (rs := [10]) (by kernel_rfl) (by simp) ?_
                              refine (AllReadyH.cons rfl (fun K hK => ?_) AllReadyH.nil)
                              go_simp
                              skip
                              refine hK.out _ _ (trivial) (fun hHeld => ?_)
                              clear hK K
                              try simp only [Act.put]
                              refine wpAnyH_done (by kernel_rfl) ?_ _
                              simp only [List.length_singleton] at HN ⊢
                              go_upto_region 60 with fail
                              generalize w22.setCell _ _ = w23 at HN ⊢
                              obtain ⟨a24, c24, e24, x24, hp24⟩ := HN.out.at_ (i := x) hx8
                              rw [if_pos (Nat.lt_succ_self _)] at e24 x24 hp24
                              obtain ⟨g8, o8, rfl, -, hp8⟩ := lst_pt hp24.lst
                              obtain ⟨t1', t2, t3, t4, t5, t6⟩ := hp8
                              obtain ⟨u1, u2, u3, u4, u5, u6⟩ := HN.out.pat
                              have hgl3 := HN.out.glt
                              simp only [List.length_singleton] at x24
                              clear hp24 e24 x22 f22
                              go_wp2_with fail
                              go_quiet (fail)
                              have HN2 := Lib.hid (HN.out.later (below_drewN (Below.refl _ _) nq))
                              have HTN := Lib.hid (show ∀ y, x + 1 ≤ y → y < 8 → ∀ b, ((fun q => if q = x then (Value.slice a22 1 c22) else sv3 q) y).ownBlock = some b → b < T from fun y h1 h2 b hb => by
                                dsimp only at hb
                                rw [if_neg (by omega)] at hb
                                exact HT5.out y (by omega) h2 b hb)
                              go_wp2
                              go_roundw
                              case rel => exact ⟨x + 1, _, by omega, by go_num, HN2, HTN⟩
                              case measure => simp [intOf]; omega
                            ·
                              go_simp
                              (go_at_call 25; (with_reducible refine kr.mono ?_); rintro e w20 ⟨a20, c20, rfl, hl20, hb20⟩; (rw [HDL.out]); (have HS20 := Lib.hid (HS17.out.later hb20)); (have x20 := (HS20.out.gcel x hx8).1); (rw [HE1.out] at x20); (obtain ⟨a21, c21, w21, hap, hR21, hg21, hb21⟩ := run_appN PTT HSLL.out HDL.out (HP1.out.later hb20) hl20 (by omega) HS20.out.hB); (have HS21 := Lib.hid (HS20.out.grow hx8 (by rw [HE1.out]; exact hg21) hb21 (HT5.out x (Nat.le_refl _) hx8))); (have HR21 := Lib.hid hR21); clear hl20 hb20 hR21 hg21 hb21 kr)
                              refine hK.out _ _ (trivial) (fun hHeld => ?_)
                              clear hK K
                              try simp only [Act.put, List.setIfInBounds_toArray, List.set_cons_zero, List.set_cons_succ]
                              refine wpAnyH_ready (rs := [3]) (by kernel_rfl) (by simp) ?_
                              refine (AllReadyH.cons rfl (fun K hK => ?_) AllReadyH.nil)
                              go_simp
                              skip
                              refine hK.out _ _ (trivial) (fun hHeld => ?_)
                              clear hK K
                              try simp only [Act.put, List.setIfInBounds_toArray, List.set_cons_zero, List.set_cons_succ]
                              refine wpAnyH_ready (rs := [7]) (by kernel_rfl) (by simp) ?_
                              refine (AllReadyH.cons rfl (fun K hK => ?_) AllReadyH.nil)
                              refine (if_pos (by kernel_rfl)).mpr ?_
                              refine Lib.wp_append_run _ _ _ _ _ rfl _ _ rfl rfl _ _ hap ?_
                              refine hK.out _ _ (trivial) (fun hHeld => ?_)
                              clear hK K
                              try simp only [Act.put, List.setIfInBounds_toArray, List.set_cons_zero, List.set_cons_succ]
                              refine wpAnyH_ready (rs := [8]) (by kernel_rfl) (by simp) ?_
                              refine (AllReadyH.cons rfl (fun K hK => ?_) AllReadyH.nil)
                              go_simp
                              (go_at_call 33; (have kk := rsort_is a21 c21 (X ++ D) w21 HR21.out.lst (by rw [List.length_append, HSLL.out, HDL.out]; omega)); (rw [List.length_append, HSLL.out, HDL.out, HMD.out.1] at kk); (with_reducible refine kk.mono ?_); rintro e w22 ⟨v22, rfl, hR22, hb22⟩; (obtain ⟨a22, c22, rfl⟩ := hR22.slice); (have HR22 := Lib.hid hR22); (have HS22 := Lib.hid (HS21.out.later hb22)); (have x22 := (HS22.out.gcel x hx8).1); (have f22 := HS22.out.gfrozen x); (have HN := Lib.hid ((HS22.out.put (i := x) hx8 (HR22.out.base HS21.out.hB) (fun y hy hyx => HS21.out.fresh HR22.out (Nat.le_refl _) y hy hyx) (Or.inl rfl)).st (ST' := fun y => if y < x + 1 then [p] else stL p S.hd j y) (fun y hy => upto_p y x p _))); clear kk hR22 hb22 hap)
                              refine hK.out _ _ (trivial) (fun hHeld => ?_)
                              clear hK K
                              try simp only [Act.put, List.setIfInBounds_toArray, List.set_cons_zero, List.set_cons_succ]
                              refine wpAnyH_take (i := 9) (oi := ?r7o) (v := ?r7v) ?r7h (by kernel_rfl) (by kernel_rfl) (by kernel_rfl) ?r7q ?r7y hHeld ?r7r
                              case r7h => (simp only [List.getElem?_toArray, List.getElem?_cons_succ, List.getElem?_cons_zero]; rfl)
                              case r7q => exact fun _ _ _ h => h
                              case r7y => (refine Or.inl ⟨by first | kernel_rfl | rfl, ?_⟩; intro w hSw; (try dsimp only at hSw); go_simp <;> (try with_reducible rfl))
                              try simp only [Act.put, List.setIfInBounds_toArray, List.set_cons_zero, List.set_cons_succ]
                              refine wpAnyH_ready (rs := [10]) (by kernel_rfl) (by simp) ?_
                              refine (AllReadyH.cons rfl (fun K hK => ?_) AllReadyH.nil)
                              go_simp
                              skip
                              refine hK.out _ _ (trivial) (fun hHeld => ?_)
                              clear hK K
                              try simp only [Act.put]
                              refine wpAnyH_done (by kernel_rfl) ?_ _
                              simp only [List.length_singleton] at HN ⊢
                              go_upto_region 60 with fail
                              generalize w22.setCell _ _ = w23 at HN ⊢
                              obtain ⟨a24, c24, e24, x24, hp24⟩ := HN.out.at_ (i := x) hx8
                              rw [if_pos (Nat.lt_succ_self _)] at e24 x24 hp24
                              obtain ⟨g8, o8, rfl, -, hp8⟩ := lst_pt hp24.lst
                              obtain ⟨t1', t2, t3, t4, t5, t6⟩ := hp8
                              obtain ⟨u1, u2, u3, u4, u5, u6⟩ := HN.out.pat
                              have hgl3 := HN.out.glt
                              simp only [List.length_singleton] at x24
                              clear hp24 e24 x22 f22
                              go_wp2_with fail
                              go_quiet (fail)
                              have HN2 := Lib.hid (HN.out.later (below_drewN (Below.refl _ _) nq))
                              have HTN := Lib.hid (show ∀ y, x + 1 ≤ y → y < 8 → ∀ b, ((fun q => if q = x then (Value.slice a22 1 c22) else sv3 q) y).ownBlock = some b → b < T from fun y h1 h2 b hb => by
                                dsimp only at hb
                                rw [if_neg (by omega)] at hb
                                exact HT5.out y (by omega) h2 b hb)
                              go_wp2
                              go_roundw
                              case rel => exact ⟨x + 1, _, by omega, by go_num, HN2, HTN⟩
                              case measure => simp [intOf]; omega
                          · obtain rfl : x = j := by omega
                            go_wp2
                            go_ret
                            exact ⟨rfl, HSL5.out.bel⟩
    · have h60i : ¬ (60 : Int) < (p0.s.size : Int) := by omega
      have HM4 := HM3
      have HPS := Lib.hid (show p0.s.size ≤ 60 by omega)
      obtain ⟨p, hp⟩ : ∃ p, p = p0 := ⟨_, rfl⟩
      subst hp
      go_upto_region 12 with fail
      obtain ⟨w5, hw5⟩ : ∃ x, x = w3 := ⟨_, rfl⟩
      subst hw5
      clear y1 y2 y3 y4 y5 y6 fp o0 o1 HM3 h60 h60i hsz0 HFIT
      obtain ⟨y1, y2, y3, y4, y5, y6⟩ := HM4.out.pat
      have kc := rcheckp_is p w5 (by have := HPS.out; omega)
      unfold ptV at kc
      cases hok : p.ok with
      | false =>
        have he : p.err = 1 := by unfold Pt.err; rw [hok]; rfl
        rw [he] at kc
        clear he hok
        go_wp2_with (go_at_call 31; (with_reducible refine kc.mono ?_); rintro e w6 ⟨rfl, hb6⟩)
        go_ret
        exact ⟨rfl, bel_next HM4.out.bel hb6⟩
      | true =>
        have he : p.err = 0 := by unfold Pt.err; rw [hok]; rfl
        rw [he] at kc
        have HCK := Lib.hid (show 1 ≤ p.st.c ∧ p.st.c ≤ 1099511627776 by
          unfold Pt.ok St.ok at hok
          simp only [Bool.and_eq_true, decide_eq_true_eq] at hok
          omega)
        clear he hok
        go_upto_region 14 with (go_at_call 31; (with_reducible refine kc.mono ?_); rintro e w6 ⟨rfl, hb6⟩; (have HM6 := Lib.hid (HM4.out.later hb6)); clear hb6 kc)
        clear HM4 y1 y2 y3 y4 y5 y6
        go_wp2
        go_loopw [12, 13] (fun o i wr => ∃ k : Nat, k ≤ n ∧ i = .int .i64 (k : Int) ∧ IRow wr w6.heap.size o (ndN k) ∧ Below w6.heap.size w6 wr) (fun _ i _ => n - (intOf i).toNat)
        case atStart => exact ⟨0, Nat.zero_le _, rfl, IRow.nil _ _, Below.refl _ _⟩
        case round =>
          obtain ⟨k, hk, rfl, hR, hB⟩ := hrel
          obtain ⟨w7, hw7⟩ : ∃ w7, w7 = wr := ⟨_, rfl⟩
          subst hw7
          obtain ⟨a7, c7, rfl⟩ := hR.slice
          have hlen := ndN_len k
          rw [hlen]
          have HL := Lib.hid hlen
          have HSN := Lib.hid (ndN_snoc k)
          have HR := Lib.hid hR
          rw [hlen] at HR
          have HB := Lib.hid hB
          have hB1 := hB.size
          clear hlen hR hB
          by_cases hlt : k < n
          · have hlti : (k : Int) < (n : Int) := by omega
            obtain ⟨L, hL⟩ : ∃ L, ndN k = L := ⟨_, rfl⟩
            rw [hL] at HR HSN HL
            have hr := HR.out
            clear hL
            go_wp2_with (at_builtin; refine wpList_irow (w := w7) rfl _ _ rfl w6.heap.size (.slice a7 k c7) L rfl (k : Int) rfl hr hB1 (by rw [HL.out]; omega) ?_; intro v8 w8 hr8 hb8 G8; (have HR8 := Lib.hid hr8); (have HB8 := Lib.hid (HB.out.trans hb8)); clear hr8 hb8 G8 hr hB1)
            go_roundw
            case rel => exact ⟨k + 1, by omega, by go_num, by rw [HSN.out]; exact HR8.out, HB8.out⟩
            case measure => simp [intOf]; omega
          · obtain rfl : k = n := by omega
            have HNS := Lib.hid (show Ns w7 (.slice a7 k c7) (ndN k) from IRow.ns HR.out (fun x hx => by
              unfold ndN at hx
              obtain ⟨j, hj, rfl⟩ := List.mem_map.1 hx
              have := List.mem_range.1 hj
              omega) (by rw [ndN_len]; omega))
            have HM7 := Lib.hid (HM6.out.later HB.out)
            clear HM6 HR HB hB1 hlt HSN HL
            go_upto_region 20 with (go_at_call 10; (have kk := newW_at (wn : Int) _ _ _ HNS.out (by omega)); (with_reducible refine kk.mono ?_); rintro e w9 ⟨bw, rfl, hW, hlo, hb9⟩; (have HW := Lib.hid hW); (have HM9 := Lib.hid (HM7.out.later hb9)); (have HNS9 := Lib.hid (Ns.later HNS.out hb9)); (have HLO := Lib.hid (Nat.le_trans HM7.out.bel.size hlo)); clear kk hW hlo hb9)
            go_upto_region 23 with (go_at_call 19; (have kk := newR_is (rn : Int) _ _ _ HNS9.out); (with_reducible refine kk.mono ?_); rintro e w10 ⟨br, rfl, hN⟩; (have HN := Lib.hid hN); (have HM10 := Lib.hid (HM9.out.later hN.bel)); (have HW10 := Lib.hid (HW.out.later hN.bel)); clear kk hN)
            clear HW HM7 HNS HNS9
            have HRD := Lib.hid (show RdG w10 w.heap.size w.heap.size br (newR (rn : Int) (ndN k)) from HN.out.rd (by omega) (HM9.out.bel.size))
            have HMAP := Lib.hid HN.out.map
            clear HN HM9
            obtain ⟨y1, y2, y3, y4, y5, y6⟩ := HM10.out.pat
            obtain ⟨ec, hec⟩ : ∃ ec, IntKind.i64.wrap (p.st.c - 1) = ec := ⟨_, rfl⟩
            have HEC := Lib.hid (show ec = p.st.c - 1 by rw [← hec, IntKind.wrap_i64]; have := HCK.out; omega)
            have hpbl := World.block_lt_of_cell? w10 _ y1
            have hpb1 : ¬ pb = w10.heap.size := by simp at hpbl; omega
            have hpb2 : ¬ w10.heap.size = pb := by omega
            obtain ⟨w11, hw11⟩ : ∃ w11, w10.alloc (.cells #[.string p.s, .int .i64 p.t, .int .i64 0, .int .i64 ec, .int .i64 p.st.s, .int .i64 p.st.q] TPT) = w11 := ⟨_, rfl⟩
            have hal1 : Below w10.heap.size w10 w11 := by rw [← hw11]; exact (Below.refl _ _).alloc (Nat.le_refl _) _
            have hsz11 : w11.heap.size = w10.heap.size + 1 := by rw [← hw11]; simp
            have HEL := Lib.hid (show PtAt w11 w10.heap.size (eld p) by
              rw [← hw11]
              unfold eld
              constructor <;> simp [go_sem, HEC.out])
            obtain ⟨w12, hw12⟩ : ∃ w12, w11.alloc (.cells #[.slice none 0 0, .slice none 0 0, .slice none 0 0, .slice none 0 0, .slice none 0 0, .slice none 0 0, .slice none 0 0, .slice none 0 0] TGOT) = w12 := ⟨_, rfl⟩
            have hal2 : Below w11.heap.size w11 w12 := by rw [← hw12]; exact (Below.refl _ _).alloc (Nat.le_refl _) _
            have hga : GA w12 w11.heap.size w11.heap.size (fun _ => []) := by rw [← hw12]; exact ga_new w11 w11.heap.size (Nat.le_refl _)
            have hg8 : w12.heap[w11.heap.size]? = some (.cells #[.slice none 0 0, .slice none 0 0, .slice none 0 0, .slice none 0 0, .slice none 0 0, .slice none 0 0, .slice none 0 0, .slice none 0 0] TGOT (0, 0)) := by rw [← hw12]; exact heap_alloc_new _ _
            have hbb := hal1.trans (hal2.mono hal1.size)
            have HM12 := Lib.hid (HM10.out.later hbb)
            have HMS := Lib.hid (show MS w w12 pb ob w11.heap.size bw br w11.heap.size w.heap.size 8 p (.slice oa ol oc) (.slice ra rl rc) (newS (wn : Int) (ndN k)) (newR (rn : Int) (ndN k)) (fun _ => .slice none 0 0) (fun _ => []) from
              ⟨HM12.out.pbig, HM12.out.pat, HM12.out.obig, HM12.out.o0, HM12.out.o1, hga.big, fun i hi => ⟨by
                unfold World.cell?
                try dsimp only
                rw [hg8]
                match i, hi with
                | 0, _ | 1, _ | 2, _ | 3, _ | 4, _ | 5, _ | 6, _ | 7, _ => rfl
                | n + 8, h => exact absurd h (by omega), Or.inr (PRow.nil _ _)⟩, fun i j _ _ _ => Or.inl rfl, HW10.out.later hbb, HRD.out.later hbb, HM12.out.bel, Nat.le_trans HM10.out.bel.size hal1.size, hal2.size, by simp at hpbl; omega, Nat.le_refl _, HLO.out, Nat.le_refl _, HM12.out.bel.size⟩)
            have HE12 := Lib.hid (HEL.out.later hal2)
            have HMP := Lib.hid ((hbb.cell (p := ⟨br, 33, none⟩) HRD.out.at_.lt).trans HMAP.out)
            have HEB := Lib.hid (show w10.heap.size + 1 ≠ w10.heap.size by omega)
            have HWW := Lib.hid (show (w10.alloc (.cells #[.string p.s, .int .i64 p.t, .int .i64 0, .int .i64 ec, .int .i64 p.st.s, .int .i64 p.st.q] TPT)).alloc (.cells #[.slice none 0 0, .slice none 0 0, .slice none 0 0, .slice none 0 0, .slice none 0 0, .slice none 0 0, .slice none 0 0, .slice none 0 0] TGOT) = w12 by rw [hw11, hw12])
            have HS11 := Lib.hid hsz11
            clear hga hg8 hbb hal1 hal2 hw12 hw11 hsz11 HEL HM10 HM12 HW10 HRD HMAP HLO
            go_upto_region 27 with fail
            rw [HWW.out]
            rw [HS11.out] at HMS
            generalize w10.heap.size + 1 = g at HMS HEB ⊢
            generalize w10.heap.size = eb at HE12 HEB ⊢
            clear HWW HS11 y1 y2 y3 y4 y5 y6 hpbl hpb1 hpb2 hec
            go_wp2
            go_loopw [18] (fun i wr => ∃ (j : Nat) (sv : Nat → Value), j ≤ k ∧ i = .int .i64 (j : Int) ∧ Hid (MS w wr pb ob g bw br g w.heap.size 8 p (.slice oa ol oc) (.slice ra rl rc) (newS (wn : Int) (ndN k)) (newR (rn : Int) (ndN k)) sv (fun x => if x < j then eldL p else [])) ∧ Hid (PtAt wr eb (eld p)) ∧ Hid (wr.cell? ⟨br, 33, none⟩ = some (.map none))) (fun i _ => k - (intOf i).toNat)
            case atStart => exact ⟨0, fun _ => .slice none 0 0, Nat.zero_le _, rfl, Lib.hid (HMS.out.st fun x hx => by rw [if_neg (Nat.not_lt_zero _)]), HE12, HMP⟩
            case round =>
              obtain ⟨j, sv, hj, rfl, HL, HE, HMA⟩ := hrel
              clear HMS HE12 HMP
              obtain ⟨w13, hw13⟩ : ∃ w13, w13 = wr := ⟨_, rfl⟩
              subst hw13
              by_cases hlt : j < k
              · have hlti : (j : Int) < (k : Int) := by omega
                have hj8 : (j : Int) < 8 := by omega
                obtain ⟨y1, y2, y3, y4, y5, y6⟩ := HE.out
                obtain ⟨e, he⟩ : ∃ e, eld p = e := ⟨_, rfl⟩
                rw [he] at y1 y2 y3 y4 y5 y6
                have HEE := Lib.hid he
                have HEQ := Lib.hid (show e.st.c = p.st.c - 1 by rw [← he]; rfl)
                obtain ⟨a1, c1, e1, x1, -⟩ := HL.out.at_ (i := j) (by omega)
                have f1 := HL.out.gfrozen j
                have hgl := HL.out.glt
                clear he e1
                by_cases h1 : 1 ≤ e.st.c
                · have HY := Lib.hid (show eldL p = [e] by unfold eldL; rw [if_pos (by have := HEQ.out; omega), HEE.out])
                  have hal := (Below.refl w13.heap.size w13).alloc (Nat.le_refl _) (.cells #[.string e.s, .int .i64 e.t, .int .i64 e.v, .int .i64 e.st.c, .int .i64 e.st.s, .int .i64 e.st.q] TPT)
                  have hrow := prow_lit w13 g e HL.out.hB
                  have hrow2 := prow_lit w13 w13.heap.size e (Nat.le_refl _)
                  have HL2 := Lib.hid (HL.out.later hal)
                  have hput := HL2.out.put (i := j) (by omega) hrow (fun y hy hyj => ⟨Or.inr ?_, ?_⟩) (Or.inr (Nat.le_refl _))
                  rotate_left
                  · have := (HL.out.fresh hrow2 (Nat.le_refl _) y hy (by omega)).1
                    rcases this with h | h
                    · simp [Value.ownBlock] at h
                    · exact h
                  · exact (HL.out.fresh hrow2 (Nat.le_refl _) y hy (by omega)).2
                  have HN := Lib.hid (hput.st (ST' := fun x => if x < j + 1 then eldL p else []) fun x hx => by
                    try dsimp only
                    by_cases e2 : x = j
                    · subst e2; rw [if_pos rfl, if_pos (Nat.lt_succ_self _), HY.out]
                    · rw [if_neg e2]
                      by_cases h : x < j
                      · rw [if_pos h, if_pos (by omega)]
                      · rw [if_neg h, if_neg (by omega)])
                  have hmm := (hal.cell (p := ⟨br, 33, none⟩) HL.out.rd.at_.lt).trans HMA.out
                  have HMN := Lib.hid (HL2.out.map_put hmm j (.slice (some ⟨w13.heap.size, 0, none⟩) 1 1))
                  have hebl := World.block_lt_of_cell? w13 _ y1
                  have HEN := Lib.hid (show PtAt ((w13.alloc (.cells #[.string e.s, .int .i64 e.t, .int .i64 e.v, .int .i64 e.st.c, .int .i64 e.st.s, .int .i64 e.st.q] TPT)).setCell ⟨g, j, none⟩ (.slice (some ⟨w13.heap.size, 0, none⟩) 1 1)) eb (eld p) by
                    have hpt := HE.out.later hal
                    have hne : g ≠ eb := HEB.out
                    obtain ⟨z1, z2, z3, z4, z5, z6⟩ := hpt
                    exact ⟨(World.cell?_setCell_other _ _ _ _ fun e => hne (by injection e)).trans z1, (World.cell?_setCell_other _ _ _ _ fun e => hne (by injection e)).trans z2, (World.cell?_setCell_other _ _ _ _ fun e => hne (by injection e)).trans z3, (World.cell?_setCell_other _ _ _ _ fun e => hne (by injection e)).trans z4, (World.cell?_setCell_other _ _ _ _ fun e => hne (by injection e)).trans z5, (World.cell?_setCell_other _ _ _ _ fun e => hne (by injection e)).trans z6⟩)
                  have hg1 : ¬ g = w13.heap.size := by omega
                  have hg2 : ¬ w13.heap.size = g := by omega
                  have hcm := World.setCell_alloc_past (w := w13) (.cells #[.string e.s, .int .i64 e.t, .int .i64 e.v, .int .i64 e.st.c, .int .i64 e.st.s, .int .i64 e.st.q] TPT) g j (.slice (some ⟨w13.heap.size, 0, none⟩) 1 1) hgl
                  rw [hcm] at HN HEN HMN
                  clear hal hrow hrow2 hput hmm hebl hcm
                  go_wp2
                  go_roundw
                  case rel => exact ⟨j + 1, _, by omega, by go_num, HN, HEN, HMN⟩
                  case measure => simp [intOf]; omega
                · have HN := Lib.hid (HL.out.st (ST' := fun x => if x < j + 1 then eldL p else []) fun x hx => by
                    try dsimp only
                    by_cases e2 : x = j
                    · subst e2; rw [if_neg (Nat.lt_irrefl _), if_pos (Nat.lt_succ_self _)]; unfold eldL; rw [if_neg (by have := HEQ.out; omega)]
                    · by_cases h : x < j
                      · rw [if_pos h, if_pos (by omega)]
                      · rw [if_neg h, if_neg (by omega)])
                  go_wp2
                  go_roundw
                  case rel => exact ⟨j + 1, sv, by omega, by go_num, HN, HE, HMA⟩
                  case measure => simp [intOf]; omega
              · obtain rfl : j = k := by omega
                have HLL := Lib.hid (HL.out.st (ST' := fun x => stL p (newS (wn : Int) (ndN j)).hd j x) fun x hx => by
                  try dsimp only
                  unfold stL newS
                  try dsimp only
                  by_cases h : x < j
                  · rw [if_pos h, if_pos h, if_neg (by decide)]
                  · rw [if_neg h, if_neg h])
                have HWI := Lib.hid (WI.new (wn : Int) j)
                clear HL HE
                go_wp2
                go_loopw [19] (fun i wr => ∃ (t : Nat) (S : QS) (sv : Nat → Value), t ≤ ol + 8 ∧ i = .int .i64 (t : Int) ∧ Hid (MS w wr pb ob g bw br g w.heap.size 8 p (.slice oa ol oc) (.slice ra rl rc) S (newR (rn : Int) (ndN j)) sv (fun x => stL p S.hd j x)) ∧ Hid (WI (wn : Int) j S (t - ol)) ∧ Hid (wr.cell? ⟨br, 33, none⟩ = some (.map none))) (fun i _ => ol + 9 - (intOf i).toNat)
                case atStart => exact ⟨0, _, sv, by omega, rfl, HLL, by rw [Nat.zero_sub]; exact HWI, HMA⟩
                case round =>
                  obtain ⟨t, S, sv2, ht, rfl, HS, HW, HM2⟩ := hrel
                  clear HLL HWI HMA
                  obtain ⟨w14, hw14⟩ : ∃ w14, w14 = wr := ⟨_, rfl⟩
                  subst hw14
                  have kd := wdone_is HS.out.wat
                  obtain ⟨dz, hdz⟩ : ∃ dz, doneB S = dz := ⟨_, rfl⟩
                  rw [hdz] at kd
                  cases dz with
                  | false =>
                    have HDZ := Lib.hid hdz
                    clear hdz
                    go_upto_region 35 with (go_at_call 18; (with_reducible refine kd.mono ?_); rintro e w15 ⟨rfl, hb15⟩; (have HS5 := Lib.hid (HS.out.later hb15)); (have HM5 := Lib.hid ((hb15.cell (p := ⟨br, 33, none⟩) HS.out.rd.at_.lt).trans HM2.out)); clear hb15 kd)
                    clear HS HM2
                    have o0 := HS5.out.o0
                    obtain ⟨kz, hkz⟩ : ∃ kz, IntKind.i64.wrap ((t : Int) - (ol : Int)) = kz := ⟨_, rfl⟩
                    have HKZ := Lib.hid (show kz = (t : Int) - (ol : Int) by rw [← hkz, IntKind.wrap_i64]; omega)
                    by_cases hto : t < ol
                    · have htoi : (t : Int) < (ol : Int) := by omega
                      have hkl : t < O.length := by rw [HOL.out]; exact hto
                      obtain ⟨-, ab, off, rfl, hc⟩ := HO.out.cell (by omega)
                      have hc0 := hc t hkl
                      have hab := World.block_lt_of_cell? w _ hc0
                      obtain ⟨x, hx⟩ : ∃ x, O[t] = x := ⟨_, rfl⟩
                      rw [hx] at hc0
                      have hc1 := (HS5.out.bel.cell (p := ⟨ab, off + t, none⟩) hab).trans hc0
                      obtain ⟨kk, hk8, hkb, -⟩ := one_to_eight x
                      have hk8i : ¬ (7 : Int) < (kk : Int) := by omega
                      have HWN := Lib.hid (show ∀ S2, S2 = hearS S (kk : Int) → WI (wn : Int) j S2 (t + 1 - ol) from fun S2 e => by
                        subst e
                        have := HW.out.hear (kk : Int)
                        rwa [show t + 1 - ol = t - ol by omega])
                      clear hc hx hc0 hkl hto
                      go_upto_region 40 with fail
                      have kack := ack_is (kk : Int) HS5.out.wat
                      obtain ⟨y, hy⟩ : ∃ y, hearB S (kk : Int) = y := ⟨_, rfl⟩
                      rw [hy] at kack
                      cases y with
                      | false =>
                        have HNO := Lib.hid (hear_no hy)
                        clear hy
                        go_wp2_with (go_at_call 12; (with_reducible refine kack.mono ?_); rintro e w16 ⟨rfl, hw16⟩; (have HS6 := Lib.hid (show MS w w16 pb ob g bw br g w.heap.size 8 p (.slice (some ⟨ab, off, none⟩) ol oc) (.slice ra rl rc) S (newR (rn : Int) (ndN j)) sv2 (fun x => stL p S.hd j x) by have := HS5.out.ack (kk : Int); rw [HNO.out] at this; rw [hw16]; exact this)); (have HM6 := Lib.hid (show w16.cell? ⟨br, 33, none⟩ = some (.map none) by rw [hw16]; exact HS5.out.map_ack HM5.out (kk : Int))); clear hw16)
                        go_roundw
                        case rel => exact ⟨t + 1, S, sv2, by omega, by go_num, HS6, Lib.hid (HWN.out S HNO.out.symm), HM6⟩
                        case measure => simp [intOf]; omega
                      | true =>
                        have HY := Lib.hid hy
                        have hkj := hear_lt HW.out.nd hy
                        clear hy
                        go_upto_region 42 with (go_at_call 12; (with_reducible refine kack.mono ?_); rintro e w16 ⟨rfl, hw16⟩; (have HS6 := Lib.hid (show MS w w16 pb ob g bw br g w.heap.size 8 p (.slice (some ⟨ab, off, none⟩) ol oc) (.slice ra rl rc) (hearS S (kk : Int)) (newR (rn : Int) (ndN j)) sv2 (fun x => stL p S.hd j x) by rw [hw16]; exact HS5.out.ack (kk : Int))); (have HM6 := Lib.hid (show w16.cell? ⟨br, 33, none⟩ = some (.map none) by rw [hw16]; exact HS5.out.map_ack HM5.out (kk : Int))); clear hw16)
                        have HS17 := Lib.hid (HS6.out.later (Below.refl _ _).drew)
                        have HM17 := Lib.hid (show w16.drew.cell? ⟨br, 33, none⟩ = some (.map none) from HM6.out)
                        obtain ⟨a1, c1, e1, x1, hp1⟩ := HS17.out.at_ (i := kk) hk8
                        have hl17 := hp1.lst
                        obtain ⟨sl, hsl⟩ : ∃ sl, (stL p S.hd j kk).length = sl := ⟨_, rfl⟩
                        rw [hsl] at x1
                        have HSL := Lib.hid hsl
                        have hk8i2 : (kk : Int) < 8 := by omega
                        have hst := HS17.out.pat
                        clear hp1 hsl e1
                        refine wp_region_held_drew (S := (fun X => PtAt X pb p)) (by kernel_rfl) hst (fun hHeld => ?_)
                        refine wpAnyH_take (i := 0) (oi := ?k0z1o) (v := ?k0z1v) ?k0z1h (by kernel_rfl) (by kernel_rfl) (by kernel_rfl) ?k0z1q ?k0z1y hHeld ?k0z1r
                        case k0z1h => (simp only [List.getElem?_toArray, List.getElem?_cons_zero]; rfl)
                        case k0z1q => exact fun _ _ _ h => h
                        case k0z1y => (refine Or.inl ⟨by first | kernel_rfl | rfl, ?_⟩; intro w hSw; (try dsimp only at hSw); obtain ⟨t1, t2, t3, t4, t5, t6⟩ := hSw; go_simp <;> (try with_reducible rfl))
                        try simp only [Act.put, List.setIfInBounds_toArray, List.set_cons_zero, List.set_cons_succ]
                        refine wpAnyH_take (i := 1) (oi := ?k0z2o) (v := ?k0z2v) ?k0z2h (by kernel_rfl) (by kernel_rfl) (by kernel_rfl) ?k0z2q ?k0z2y hHeld ?k0z2r
                        case k0z2h => (simp only [List.getElem?_toArray, List.getElem?_cons_succ, List.getElem?_cons_zero]; rfl)
                        case k0z2q => exact fun _ _ _ h => h
                        case k0z2y => (refine Or.inl ⟨by first | kernel_rfl | rfl, ?_⟩; intro w hSw; (try dsimp only at hSw); obtain ⟨t1, t2, t3, t4, t5, t6⟩ := hSw; go_simp <;> (try with_reducible rfl))
                        try simp only [Act.put, List.setIfInBounds_toArray, List.set_cons_zero, List.set_cons_succ]
                        refine wpAnyH_take (i := 2) (oi := ?k0z3o) (v := ?k0z3v) ?k0z3h (by kernel_rfl) (by kernel_rfl) (by kernel_rfl) ?k0z3q ?k0z3y hHeld ?k0z3r
                        case k0z3h => (simp only [List.getElem?_toArray, List.getElem?_cons_succ, List.getElem?_cons_zero]; rfl)
                        case k0z3q => exact fun _ _ _ h => h
                        case k0z3y => (refine Or.inl ⟨by first | kernel_rfl | rfl, ?_⟩; intro w hSw; (try dsimp only at hSw); obtain ⟨t1, t2, t3, t4, t5, t6⟩ := hSw; go_simp <;> (try with_reducible rfl))
                        try simp only [Act.put, List.setIfInBounds_toArray, List.set_cons_zero, List.set_cons_succ]
                        refine wpAnyH_take (i := 4) (oi := ?k0z4o) (v := ?k0z4v) ?k0z4h (by kernel_rfl) (by kernel_rfl) (by kernel_rfl) ?k0z4q ?k0z4y hHeld ?k0z4r
                        case k0z4h => (simp only [List.getElem?_toArray, List.getElem?_cons_succ, List.getElem?_cons_zero]; rfl)
                        case k0z4q => exact fun _ _ _ h => h
                        case k0z4y => (refine Or.inl ⟨by first | kernel_rfl | rfl, ?_⟩; intro w hSw; (try dsimp only at hSw); obtain ⟨t1, t2, t3, t4, t5, t6⟩ := hSw; go_simp <;> (try with_reducible rfl))
                        try simp only [Act.put, List.setIfInBounds_toArray, List.set_cons_zero, List.set_cons_succ]
                        refine wpAnyH_ready (rs := [3]) (by kernel_rfl) (by simp) ?_
                        refine (AllReadyH.cons rfl (fun K hK => ?_) AllReadyH.nil)
                        go_simp
                        skip
                        refine hK.out _ _ (hst) (fun hHeld => ?_)
                        clear hK K
                        try simp only [Act.put, List.setIfInBounds_toArray, List.set_cons_zero, List.set_cons_succ]
                        refine wpAnyH_ready (rs := [5]) (by kernel_rfl) (by simp) ?_
                        refine (AllReadyH.cons rfl (fun K hK => ?_) AllReadyH.nil)
                        go_simp
                        (go_at_call 32; (have kk2 := rput_is a1 c1 (stL p S.hd j kk) p w16.drew hl17 (by have := stL_len p S.hd j kk; omega)); (rw [HSL.out] at kk2); unfold ptV at kk2; (with_reducible refine kk2.mono ?_); rintro e w18 ⟨v18, rfl, hR18, hb18⟩; (obtain ⟨a18, c18, rfl⟩ := hR18.slice); (have HR18 := Lib.hid hR18); (have HS18 := Lib.hid (HS17.out.later hb18)); (have HM18 := Lib.hid ((hb18.cell (p := ⟨br, 33, none⟩) HS17.out.rd.at_.lt).trans HM17.out)); (obtain ⟨a19, c19, -, x19, -⟩ := HS18.out.at_ (i := kk) hk8); (have f19 := HS18.out.gfrozen kk); (have HN := Lib.hid ((HS18.out.put (i := kk) hk8 (HR18.out.base HS17.out.hB) (fun y hy hyk => HS17.out.fresh HR18.out (Nat.le_refl _) y hy (by omega)) (Or.inr (Nat.le_refl _))).st (ST' := fun x => stL p (hearS S (kk : Int)).hd j x) (fun x hx => meets_upd hkj HY.out x))); (have HMN := Lib.hid (HS18.out.map_put HM18.out kk (.slice a18 (ins p (stL p S.hd j kk)).length c18))); clear kk2 hb18 hR18)
                        refine hK.out _ _ (HS18.out.pat) (fun hHeld => ?_)
                        clear hK K
                        try simp only [Act.put, List.setIfInBounds_toArray, List.set_cons_zero, List.set_cons_succ]
                        refine wpAnyH_take (i := 6) (oi := ?k0z5o) (v := ?k0z5v) ?k0z5h (by kernel_rfl) (by kernel_rfl) (by kernel_rfl) ?k0z5q ?k0z5y hHeld ?k0z5r
                        case k0z5h => (simp only [List.getElem?_toArray, List.getElem?_cons_succ, List.getElem?_cons_zero]; rfl)
                        case k0z5q => exact fun _ _ _ h => h
                        case k0z5y => (refine Or.inl ⟨by first | kernel_rfl | rfl, ?_⟩; intro w hSw; (try dsimp only at hSw); obtain ⟨t1, t2, t3, t4, t5, t6⟩ := hSw; go_simp <;> (try with_reducible rfl))
                        try simp only [Act.put, List.setIfInBounds_toArray, List.set_cons_zero, List.set_cons_succ]
                        refine wpAnyH_ready (rs := [7]) (by kernel_rfl) (by simp) ?_
                        refine (AllReadyH.cons rfl (fun K hK => ?_) AllReadyH.nil)
                        go_simp
                        skip
                        refine hK.out _ _ (HN.out.pat) (fun hHeld => ?_)
                        clear hK K
                        try simp only [Act.put]
                        refine wpAnyH_done (by kernel_rfl) ?_ _
                        go_wp2
                        go_roundw
                        case rel => exact ⟨t + 1, hearS S (kk : Int), _, by omega, by go_num, HN, Lib.hid (HWN.out _ rfl), HMN⟩
                        case measure => simp [intOf]; omega
                    · have htoi : ¬ (t : Int) < (ol : Int) := by omega
                      obtain ⟨kk, hkk⟩ : ∃ kk, t - ol = kk := ⟨_, rfl⟩
                      have hk8 : kk < 8 := by
                        by_cases h : kk < 8
                        · exact h
                        · exfalso
                          have h1 := HW.out.done (by omega) hn8 (by have := HMEET.out; omega) hn1
                          rw [HDZ.out] at h1; cases h1
                      have hkzk : kz = (kk : Int) := by have := HKZ.out; omega
                      have hk8i : ¬ (7 : Int) < (kk : Int) := by omega
                      have HWN := Lib.hid (show ∀ S2, S2 = hearS S (kk : Int) → WI (wn : Int) j S2 (t + 1 - ol) from fun S2 e => by
                        subst e
                        have := HW.out.step hn8
                        rw [hkk] at this
                        rwa [show t + 1 - ol = kk + 1 by omega])
                      subst hkzk
                      clear hto
                      go_upto_region 40 with fail
                      have kack := ack_is (kk : Int) HS5.out.wat
                      obtain ⟨y, hy⟩ : ∃ y, hearB S (kk : Int) = y := ⟨_, rfl⟩
                      rw [hy] at kack
                      cases y with
                      | false =>
                        have HNO := Lib.hid (hear_no hy)
                        clear hy
                        go_wp2_with (go_at_call 12; (with_reducible refine kack.mono ?_); rintro e w16 ⟨rfl, hw16⟩; (have HS6 := Lib.hid (show MS w w16 pb ob g bw br g w.heap.size 8 p (.slice oa ol oc) (.slice ra rl rc) S (newR (rn : Int) (ndN j)) sv2 (fun x => stL p S.hd j x) by have := HS5.out.ack (kk : Int); rw [HNO.out] at this; rw [hw16]; exact this)); (have HM6 := Lib.hid (show w16.cell? ⟨br, 33, none⟩ = some (.map none) by rw [hw16]; exact HS5.out.map_ack HM5.out (kk : Int))); clear hw16)
                        go_roundw
                        case rel => exact ⟨t + 1, S, sv2, by omega, by go_num, HS6, Lib.hid (HWN.out S HNO.out.symm), HM6⟩
                        case measure => simp [intOf]; omega
                      | true =>
                        have HY := Lib.hid hy
                        have hkj := hear_lt HW.out.nd hy
                        clear hy
                        go_upto_region 42 with (go_at_call 12; (with_reducible refine kack.mono ?_); rintro e w16 ⟨rfl, hw16⟩; (have HS6 := Lib.hid (show MS w w16 pb ob g bw br g w.heap.size 8 p (.slice oa ol oc) (.slice ra rl rc) (hearS S (kk : Int)) (newR (rn : Int) (ndN j)) sv2 (fun x => stL p S.hd j x) by rw [hw16]; exact HS5.out.ack (kk : Int))); (have HM6 := Lib.hid (show w16.cell? ⟨br, 33, none⟩ = some (.map none) by rw [hw16]; exact HS5.out.map_ack HM5.out (kk : Int))); clear hw16)
                        have HS17 := Lib.hid (HS6.out.later (Below.refl _ _).drew)
                        have HM17 := Lib.hid (show w16.drew.cell? ⟨br, 33, none⟩ = some (.map none) from HM6.out)
                        obtain ⟨a1, c1, e1, x1, hp1⟩ := HS17.out.at_ (i := kk) hk8
                        have hl17 := hp1.lst
                        obtain ⟨sl, hsl⟩ : ∃ sl, (stL p S.hd j kk).length = sl := ⟨_, rfl⟩
                        rw [hsl] at x1
                        have HSL := Lib.hid hsl
                        have hk8i2 : (kk : Int) < 8 := by omega
                        have hst := HS17.out.pat
                        clear hp1 hsl e1
                        refine wp_region_held_drew (S := (fun X => PtAt X pb p)) (by kernel_rfl) hst (fun hHeld => ?_)
                        refine wpAnyH_take (i := 0) (oi := ?k1z1o) (v := ?k1z1v) ?k1z1h (by kernel_rfl) (by kernel_rfl) (by kernel_rfl) ?k1z1q ?k1z1y hHeld ?k1z1r
                        case k1z1h => (simp only [List.getElem?_toArray, List.getElem?_cons_zero]; rfl)
                        case k1z1q => exact fun _ _ _ h => h
                        case k1z1y => (refine Or.inl ⟨by first | kernel_rfl | rfl, ?_⟩; intro w hSw; (try dsimp only at hSw); obtain ⟨t1, t2, t3, t4, t5, t6⟩ := hSw; go_simp <;> (try with_reducible rfl))
                        try simp only [Act.put, List.setIfInBounds_toArray, List.set_cons_zero, List.set_cons_succ]
                        refine wpAnyH_take (i := 1) (oi := ?k1z2o) (v := ?k1z2v) ?k1z2h (by kernel_rfl) (by kernel_rfl) (by kernel_rfl) ?k1z2q ?k1z2y hHeld ?k1z2r
                        case k1z2h => (simp only [List.getElem?_toArray, List.getElem?_cons_succ, List.getElem?_cons_zero]; rfl)
                        case k1z2q => exact fun _ _ _ h => h
                        case k1z2y => (refine Or.inl ⟨by first | kernel_rfl | rfl, ?_⟩; intro w hSw; (try dsimp only at hSw); obtain ⟨t1, t2, t3, t4, t5, t6⟩ := hSw; go_simp <;> (try with_reducible rfl))
                        try simp only [Act.put, List.setIfInBounds_toArray, List.set_cons_zero, List.set_cons_succ]
                        refine wpAnyH_take (i := 2) (oi := ?k1z3o) (v := ?k1z3v) ?k1z3h (by kernel_rfl) (by kernel_rfl) (by kernel_rfl) ?k1z3q ?k1z3y hHeld ?k1z3r
                        case k1z3h => (simp only [List.getElem?_toArray, List.getElem?_cons_succ, List.getElem?_cons_zero]; rfl)
                        case k1z3q => exact fun _ _ _ h => h
                        case k1z3y => (refine Or.inl ⟨by first | kernel_rfl | rfl, ?_⟩; intro w hSw; (try dsimp only at hSw); obtain ⟨t1, t2, t3, t4, t5, t6⟩ := hSw; go_simp <;> (try with_reducible rfl))
                        try simp only [Act.put, List.setIfInBounds_toArray, List.set_cons_zero, List.set_cons_succ]
                        refine wpAnyH_take (i := 4) (oi := ?k1z4o) (v := ?k1z4v) ?k1z4h (by kernel_rfl) (by kernel_rfl) (by kernel_rfl) ?k1z4q ?k1z4y hHeld ?k1z4r
                        case k1z4h => (simp only [List.getElem?_toArray, List.getElem?_cons_succ, List.getElem?_cons_zero]; rfl)
                        case k1z4q => exact fun _ _ _ h => h
                        case k1z4y => (refine Or.inl ⟨by first | kernel_rfl | rfl, ?_⟩; intro w hSw; (try dsimp only at hSw); obtain ⟨t1, t2, t3, t4, t5, t6⟩ := hSw; go_simp <;> (try with_reducible rfl))
                        try simp only [Act.put, List.setIfInBounds_toArray, List.set_cons_zero, List.set_cons_succ]
                        refine wpAnyH_ready (rs := [3]) (by kernel_rfl) (by simp) ?_
                        refine (AllReadyH.cons rfl (fun K hK => ?_) AllReadyH.nil)
                        go_simp
                        skip
                        refine hK.out _ _ (hst) (fun hHeld => ?_)
                        clear hK K
                        try simp only [Act.put, List.setIfInBounds_toArray, List.set_cons_zero, List.set_cons_succ]
                        refine wpAnyH_ready (rs := [5]) (by kernel_rfl) (by simp) ?_
                        refine (AllReadyH.cons rfl (fun K hK => ?_) AllReadyH.nil)
                        go_simp
                        (go_at_call 32; (have kk2 := rput_is a1 c1 (stL p S.hd j kk) p w16.drew hl17 (by have := stL_len p S.hd j kk; omega)); (rw [HSL.out] at kk2); unfold ptV at kk2; (with_reducible refine kk2.mono ?_); rintro e w18 ⟨v18, rfl, hR18, hb18⟩; (obtain ⟨a18, c18, rfl⟩ := hR18.slice); (have HR18 := Lib.hid hR18); (have HS18 := Lib.hid (HS17.out.later hb18)); (have HM18 := Lib.hid ((hb18.cell (p := ⟨br, 33, none⟩) HS17.out.rd.at_.lt).trans HM17.out)); (obtain ⟨a19, c19, -, x19, -⟩ := HS18.out.at_ (i := kk) hk8); (have f19 := HS18.out.gfrozen kk); (have HN := Lib.hid ((HS18.out.put (i := kk) hk8 (HR18.out.base HS17.out.hB) (fun y hy hyk => HS17.out.fresh HR18.out (Nat.le_refl _) y hy (by omega)) (Or.inr (Nat.le_refl _))).st (ST' := fun x => stL p (hearS S (kk : Int)).hd j x) (fun x hx => meets_upd hkj HY.out x))); (have HMN := Lib.hid (HS18.out.map_put HM18.out kk (.slice a18 (ins p (stL p S.hd j kk)).length c18))); clear kk2 hb18 hR18)
                        refine hK.out _ _ (HS18.out.pat) (fun hHeld => ?_)
                        clear hK K
                        try simp only [Act.put, List.setIfInBounds_toArray, List.set_cons_zero, List.set_cons_succ]
                        refine wpAnyH_take (i := 6) (oi := ?k1z5o) (v := ?k1z5v) ?k1z5h (by kernel_rfl) (by kernel_rfl) (by kernel_rfl) ?k1z5q ?k1z5y hHeld ?k1z5r
                        case k1z5h => (simp only [List.getElem?_toArray, List.getElem?_cons_succ, List.getElem?_cons_zero]; rfl)
                        case k1z5q => exact fun _ _ _ h => h
                        case k1z5y => (refine Or.inl ⟨by first | kernel_rfl | rfl, ?_⟩; intro w hSw; (try dsimp only at hSw); obtain ⟨t1, t2, t3, t4, t5, t6⟩ := hSw; go_simp <;> (try with_reducible rfl))
                        try simp only [Act.put, List.setIfInBounds_toArray, List.set_cons_zero, List.set_cons_succ]
                        refine wpAnyH_ready (rs := [7]) (by kernel_rfl) (by simp) ?_
                        refine (AllReadyH.cons rfl (fun K hK => ?_) AllReadyH.nil)
                        go_simp
                        skip
                        refine hK.out _ _ (HN.out.pat) (fun hHeld => ?_)
                        clear hK K
                        try simp only [Act.put]
                        refine wpAnyH_done (by kernel_rfl) ?_ _
                        go_wp2
                        go_roundw
                        case rel => exact ⟨t + 1, hearS S (kk : Int), _, by omega, by go_num, HN, Lib.hid (HWN.out _ rfl), HMN⟩
                        case measure => simp [intOf]; omega
                  | true =>
                    have HDW := Lib.hid hdz
                    clear hdz
                    go_upto_region 43 with (go_at_call 18; (with_reducible refine kd.mono ?_); rintro e w15 ⟨rfl, hb15⟩; (have HS5 := Lib.hid ((HS.out.later hb15).rebase ((hb15.cell (p := ⟨br, 33, none⟩) HS.out.rd.at_.lt).trans HM2.out))); clear hb15 kd)
                    clear HS HM2
                    have HT0 := Lib.hid (show ∀ y, y < 8 → ∀ b, (sv2 y).ownBlock = some b → b < w15.heap.size from fun y hy b hb => by
                      rcases (HS5.out.gcel y hy).2 with e | hq
                      · omega
                      · exact (World.ownsRow.lt hq b hb).2)
                    have HRI := Lib.hid (RI.new p S.hd j (rn : Int))
                    have HWR := Lib.hid (WI.new (rn : Int) j)
                    obtain ⟨T, hT⟩ : ∃ T, w15.heap.size = T := ⟨_, rfl⟩
                    rw [hT] at HS5 HT0
                    clear hT
                    go_wp2
                    go_loopw [22] (fun i wr => ∃ (t : Nat) (R : RS), t ≤ rl + 8 ∧ i = .int .i64 (t : Int) ∧ Hid (MS w wr pb ob g bw br g T 8 p (.slice oa ol oc) (.slice ra rl rc) S R sv2 (fun x => stL p S.hd j x)) ∧ Hid (WI (rn : Int) j R.S (t - rl)) ∧ Hid (RI p S.hd j R) ∧ R.cnt ≤ t) (fun i _ => rl + 9 - (intOf i).toNat)
                    case atStart => exact ⟨0, _, by omega, rfl, HS5, by rw [Nat.zero_sub]; exact HWR, HRI, Nat.zero_le _⟩
                    case round =>
                      obtain ⟨t1, R, ht1, rfl, HS, HWX, HRX, hcnt⟩ := hrel
                      clear HS5 HRI HWR
                      obtain ⟨w16, hw16⟩ : ∃ w16, w16 = wr := ⟨_, rfl⟩
                      subst hw16
                      have kd := rdone_is HS.out.rd.at_
                      obtain ⟨dz, hdz⟩ : ∃ dz, doneB R.S = dz := ⟨_, rfl⟩
                      rw [hdz] at kd
                      cases dz with
                      | false =>
                        have HDZ := Lib.hid hdz
                        clear hdz
                        go_upto_region 46 with (go_at_call 29; (with_reducible refine kd.mono ?_); rintro e w17 ⟨rfl, hb17⟩; (have HS7 := Lib.hid (HS.out.later hb17)); clear hb17 kd)
                        clear HS
                        have o1 := HS7.out.o1
                        obtain ⟨kz, hkz⟩ : ∃ kz, IntKind.i64.wrap ((t1 : Int) - (rl : Int)) = kz := ⟨_, rfl⟩
                        have HKZ := Lib.hid (show kz = (t1 : Int) - (rl : Int) by rw [← hkz, IntKind.wrap_i64]; omega)
                        by_cases hto : t1 < rl
                        · have htoi : (t1 : Int) < (rl : Int) := by omega
                          have hkl : t1 < Q.length := by rw [HRL.out]; exact hto
                          obtain ⟨-, ab, off, rfl, hc⟩ := HQ.out.cell (by omega)
                          have hc0 := hc t1 hkl
                          have hab := World.block_lt_of_cell? w _ hc0
                          obtain ⟨x, hx⟩ : ∃ x, Q[t1] = x := ⟨_, rfl⟩
                          rw [hx] at hc0
                          have hc1 := (HS7.out.bel.cell (p := ⟨ab, off + t1, none⟩) hab).trans hc0
                          obtain ⟨kk, hk8, hkb, -⟩ := one_to_eight x
                          have hk8i : ¬ (7 : Int) < (kk : Int) := by omega
                          have HWY := Lib.hid (show WI (rn : Int) j (hearS R.S (kk : Int)) (t1 + 1 - rl) by
                            have := HWX.out.hear (kk : Int)
                            rwa [show t1 + 1 - rl = t1 - rl by omega])
                          have HWN := Lib.hid (show j ≤ kk → WI (rn : Int) j R.S (t1 + 1 - rl) from fun _ => by
                            have := HWX.out
                            rwa [show t1 + 1 - rl = t1 - rl by omega])
                          clear hc hx hc0 hkl hto
                          go_upto_region 51 with fail
                          by_cases hkj : kk < j
                          · have hkji : (kk : Int) < (j : Int) := by omega
                            have hk8i2 : (kk : Int) < 8 := by omega
                            obtain ⟨a1, c1, e1, x1, hp1⟩ := HS7.out.at_ (i := kk) hk8
                            have ka := answer_is (kk : Int) a1 c1 (stL p S.hd j kk) HS7.out.rd HS7.out.hT.2 hp1.lst (by have := stL_len p S.hd j kk; omega) (fun q hq => Nat.le_trans (stL_short HPS.out hq) (by decide)) (by omega)
                            obtain ⟨sl, hsl⟩ : ∃ sl, (stL p S.hd j kk).length = sl := ⟨_, rfl⟩
                            rw [hsl] at x1 ka
                            have hgl := HS7.out.glt
                            clear hp1 e1 hsl
                            go_wp2_with (go_at_call 21; (with_reducible refine ka.mono ?_); rintro e w18 ⟨he, hr18, hf18, -⟩; subst he; (have HS8 := Lib.hid (HS7.out.ans hr18 hf18)); clear hr18 hf18)
                            go_roundw
                            case rel => exact ⟨t1 + 1, _, by omega, by go_num, HS8, Lib.hid (by rw [ans_S]; exact HWY.out), Lib.hid (HRX.out.step (by omega)), by have := ans_cnt R (kk : Int) (stL p S.hd j kk); omega⟩
                            case measure => simp [intOf]; omega
                          · have hkji : ¬ (kk : Int) < (j : Int) := by omega
                            have HW9 := Lib.hid (HWN.out (by omega))
                            clear hkj
                            go_wp2
                            go_roundw
                            case rel => exact ⟨t1 + 1, R, by omega, by go_num, HS7, HW9, HRX, by omega⟩
                            case measure => simp [intOf]; omega
                        · have htoi : ¬ (t1 : Int) < (rl : Int) := by omega
                          obtain ⟨kk, hkk⟩ : ∃ kk, t1 - rl = kk := ⟨_, rfl⟩
                          have hk8 : kk < 8 := by
                            by_cases h : kk < 8
                            · exact h
                            · exfalso
                              have h1 := HWX.out.done (by omega) hn8 (by have := HMEET.out; omega) hn1
                              rw [HDZ.out] at h1; cases h1
                          have hkzk : kz = (kk : Int) := by have := HKZ.out; omega
                          have hk8i : ¬ (7 : Int) < (kk : Int) := by omega
                          have HWY := Lib.hid (show WI (rn : Int) j (hearS R.S (kk : Int)) (t1 + 1 - rl) by
                            have := HWX.out.step hn8
                            rw [hkk] at this
                            rwa [show t1 + 1 - rl = kk + 1 by omega])
                          have HWN := Lib.hid (show j ≤ kk → WI (rn : Int) j R.S (t1 + 1 - rl) from fun h => by
                            have := HWX.out
                            rw [hkk] at this
                            rw [show t1 + 1 - rl = kk + 1 by omega]
                            exact this.skip h)
                          subst hkzk
                          clear hto
                          go_upto_region 51 with fail
                          by_cases hkj : kk < j
                          · have hkji : (kk : Int) < (j : Int) := by omega
                            have hk8i2 : (kk : Int) < 8 := by omega
                            obtain ⟨a1, c1, e1, x1, hp1⟩ := HS7.out.at_ (i := kk) hk8
                            have ka := answer_is (kk : Int) a1 c1 (stL p S.hd j kk) HS7.out.rd HS7.out.hT.2 hp1.lst (by have := stL_len p S.hd j kk; omega) (fun q hq => Nat.le_trans (stL_short HPS.out hq) (by decide)) (by omega)
                            obtain ⟨sl, hsl⟩ : ∃ sl, (stL p S.hd j kk).length = sl := ⟨_, rfl⟩
                            rw [hsl] at x1 ka
                            have hgl := HS7.out.glt
                            clear hp1 e1 hsl
                            go_wp2_with (go_at_call 21; (with_reducible refine ka.mono ?_); rintro e w18 ⟨he, hr18, hf18, -⟩; subst he; (have HS8 := Lib.hid (HS7.out.ans hr18 hf18)); clear hr18 hf18)
                            go_roundw
                            case rel => exact ⟨t1 + 1, _, by omega, by go_num, HS8, Lib.hid (by rw [ans_S]; exact HWY.out), Lib.hid (HRX.out.step (by omega)), by have := ans_cnt R (kk : Int) (stL p S.hd j kk); omega⟩
                            case measure => simp [intOf]; omega
                          · have hkji : ¬ (kk : Int) < (j : Int) := by omega
                            have HW9 := Lib.hid (HWN.out (by omega))
                            clear hkj
                            go_wp2
                            go_roundw
                            case rel => exact ⟨t1 + 1, R, by omega, by go_num, HS7, HW9, HRX, by omega⟩
                            case measure => simp [intOf]; omega
                      | true =>
                        have HMG := Lib.hid (meets hn8 HW.out HWX.out HRX.out HDW.out hdz (by have := HMEET.out; omega))
                        clear hdz
                        go_upto_region 53 with (go_at_call 29; (with_reducible refine kd.mono ?_); rintro e w17 ⟨rfl, hb17⟩; (have HS7 := Lib.hid (HS.out.later hb17)); clear hb17 kd)
                        clear HS
                        go_upto_region 54 with (go_at_call 23; (have kk := merged_is HS7.out.rd HS7.out.hT.2); (rw [HMG.out] at kk); (with_reducible refine kk.mono ?_); rintro e w18 ⟨v18, rfl, hR18, hb18⟩; (obtain ⟨a18, c18, rfl⟩ := hR18.slice); (have hl18 := hR18.lst); (obtain ⟨g7, o7, rfl, -, hp7⟩ := lst_pt hl18); (have HP7 := Lib.hid hp7); (have HS8 := Lib.hid (HS7.out.later hb18)); clear kk hR18 hb18 hl18 hp7)
                        obtain ⟨t1', t2, t3, t4, t5, t6⟩ := HP7.out
                        obtain ⟨u1, u2, u3, u4, u5, u6⟩ := HS8.out.pat
                        have hneq := fun W => neq_run6 p p W
                        rw [show p.same p = true from Pt.same_iff.2 rfl] at hneq
                        unfold ptV at hneq
                        go_wp2_with fail
                        go_quiet (fail)
                        have HS9 := Lib.hid (HS8.out.later (below_drewN (Below.refl _ _) nq))
                        clear t1' t2 t3 t4 t5 t6 u1 u2 u3 u4 u5 u6 HP7 HS8 HS7
                        go_wp2
                        go_loopw [25] (fun i wr => ∃ (x : Nat) (sv3 : Nat → Value), x ≤ j ∧ i = .int .i64 (x : Int) ∧ Hid (MS w wr pb ob g bw br g T 8 p (.slice oa ol oc) (.slice ra rl rc) S R sv3 (fun y => if y < x then [p] else stL p S.hd j y)) ∧ Hid (∀ y, x ≤ y → y < 8 → ∀ b, (sv3 y).ownBlock = some b → b < T)) (fun i _ => j - (intOf i).toNat)
                        case atStart => exact ⟨0, sv2, Nat.zero_le _, rfl, Lib.hid (HS9.out.st fun y hy => by rw [if_neg (Nat.not_lt_zero _)]), Lib.hid fun y _ hy b hb => HT0.out y hy b hb⟩
                        case round =>
                          obtain ⟨x, sv3, hx, rfl, HSL5, HT5⟩ := hrel
                          clear HS9 HT0
                          obtain ⟨w19, hw19⟩ : ∃ w19, w19 = wr := ⟨_, rfl⟩
                          subst hw19
                          by_cases hlt : x < j
                          · have hlti : (x : Int) < (j : Int) := by omega
                            have hx8 : x < 8 := by omega
                            have hx8i : (x : Int) < 8 := by omega
                            go_upto_region 59 with fail
                            have HS17 := Lib.hid (HSL5.out.later (Below.refl _ _).drew)
                            obtain ⟨a1, c1, e1, x1, hp1⟩ := HS17.out.at_ (i := x) hx8
                            rw [if_neg (Nat.lt_irrefl _)] at e1 x1 hp1
                            have HMD := Lib.hid (mended hn8 HWX.out HRX.out HMG.out hlt)
                            have hsl1 := stL_len p S.hd j x
                            obtain ⟨X, hX⟩ : ∃ X, stL p S.hd j x = X := ⟨_, rfl⟩
                            rw [hX] at e1 x1 hp1 HMD hsl1
                            obtain ⟨sl, hsl⟩ : ∃ sl, X.length = sl := ⟨_, rfl⟩
                            rw [hsl] at x1 e1 hp1 hsl1
                            have HSLL := Lib.hid hsl
                            have HP1 := Lib.hid hp1
                            have HE1 := Lib.hid e1
                            have kr := repair_is (x : Int) HS17.out.rd HS17.out.hT.2
                            obtain ⟨D, hD⟩ : ∃ D, rprL R (x : Int) = D := ⟨_, rfl⟩
                            rw [hD] at kr HMD
                            obtain ⟨dl, hdl⟩ : ∃ dl, D.length = dl := ⟨_, rfl⟩
                            have HDL := Lib.hid hdl
                            have hdl1 : dl ≤ 1 := by rw [← hdl]; exact HMD.out.2
                            have hgl := HS17.out.glt
                            clear hX hsl hp1 e1 hD hdl
                            refine wp_region_held_drew (S := (fun _ => True)) (by kernel_rfl) trivial (fun hHeld => ?_)
                            refine wpAnyH_take (i := 0) (oi := ?rz1o) (v := ?rz1v) ?rz1h (by kernel_rfl) (by kernel_rfl) (by kernel_rfl) ?rz1q ?rz1y hHeld ?rz1r
                            case rz1h => (simp only [List.getElem?_toArray, List.getElem?_cons_zero]; rfl)
                            case rz1q => exact fun _ _ _ h => h
                            case rz1y => (refine Or.inl ⟨by first | kernel_rfl | rfl, ?_⟩; intro w hSw; (try dsimp only at hSw); go_simp <;> (try with_reducible rfl))
                            try simp only [Act.put, List.setIfInBounds_toArray, List.set_cons_zero, List.set_cons_succ]
                            refine wpAnyH_take (i := 1) (oi := ?rz2o) (v := ?rz2v) ?rz2h (by kernel_rfl) (by kernel_rfl) (by kernel_rfl) ?rz2q ?rz2y hHeld ?rz2r
                            case rz2h => (simp only [List.getElem?_toArray, List.getElem?_cons_succ, List.getElem?_cons_zero]; rfl)
                            case rz2q => exact fun _ _ _ h => h
                            case rz2y => (refine Or.inl ⟨by first | kernel_rfl | rfl, ?_⟩; intro w hSw; (try dsimp only at hSw); go_simp <;> (try with_reducible rfl))
                            try simp only [Act.put, List.setIfInBounds_toArray, List.set_cons_zero, List.set_cons_succ]
                            refine wpAnyH_take (i := 2) (oi := ?rz3o) (v := ?rz3v) ?rz3h (by kernel_rfl) (by kernel_rfl) (by kernel_rfl) ?rz3q ?rz3y hHeld ?rz3r
                            case rz3h => (simp only [List.getElem?_toArray, List.getElem?_cons_succ, List.getElem?_cons_zero]; rfl)
                            case rz3q => exact fun _ _ _ h => h
                            case rz3y => (refine Or.inl ⟨by first | kernel_rfl | rfl, ?_⟩; intro w hSw; (try dsimp only at hSw); go_simp <;> (try with_reducible rfl))
                            try simp only [Act.put, List.setIfInBounds_toArray, List.set_cons_zero, List.set_cons_succ]
                            refine wpAnyH_take (i := 4) (oi := ?rz4o) (v := ?rz4v) ?rz4h (by kernel_rfl) (by kernel_rfl) (by kernel_rfl) ?rz4q ?rz4y hHeld ?rz4r
                            case rz4h => (simp only [List.getElem?_toArray, List.getElem?_cons_succ, List.getElem?_cons_zero]; rfl)
                            case rz4q => exact fun _ _ _ h => h
                            case rz4y => (refine Or.inl ⟨by first | kernel_rfl | rfl, ?_⟩; intro w hSw; (try dsimp only at hSw); go_simp <;> (try with_reducible rfl))
                            try simp only [Act.put, List.setIfInBounds_toArray, List.set_cons_zero, List.set_cons_succ]
                            refine wpAnyH_take (i := 5) (oi := ?rz5o) (v := ?rz5v) ?rz5h (by kernel_rfl) (by kernel_rfl) (by kernel_rfl) ?rz5q ?rz5y hHeld ?rz5r
                            case rz5h => (simp only [List.getElem?_toArray, List.getElem?_cons_succ, List.getElem?_cons_zero]; rfl)
                            case rz5q => exact fun _ _ _ h => h
                            case rz5y => (refine Or.inl ⟨by first | kernel_rfl | rfl, ?_⟩; intro w hSw; (try dsimp only at hSw); go_simp <;> (try with_reducible rfl))
                            try simp only [Act.put, List.setIfInBounds_toArray, List.set_cons_zero, List.set_cons_succ]
                            refine wpAnyH_ready (rs := [3, 6]) (by kernel_rfl) (by simp) ?_
                            refine (AllReadyH.cons rfl (fun K hK => ?_) (AllReadyH.cons rfl (fun K hK => ?_) AllReadyH.nil))
                            ·
                              go_simp
                              skip
                              refine hK.out _ _ (trivial) (fun hHeld => ?_)
                              clear hK K
                              try simp only [Act.put, List.setIfInBounds_toArray, List.set_cons_zero, List.set_cons_succ]
                              refine wpAnyH_ready (rs := [6]) (by kernel_rfl) (by simp) ?_
                              refine (AllReadyH.cons rfl (fun K hK => ?_) AllReadyH.nil)
                              go_simp
                              (go_at_call 25; (with_reducible refine kr.mono ?_); rintro e w20 ⟨a20, c20, rfl, hl20, hb20⟩; (rw [HDL.out]); (have HS20 := Lib.hid (HS17.out.later hb20)); (have x20 := (HS20.out.gcel x hx8).1); (rw [HE1.out] at x20); (obtain ⟨a21, c21, w21, hap, hR21, hg21, hb21⟩ := run_appN PTT HSLL.out HDL.out (HP1.out.later hb20) hl20 (by omega) HS20.out.hB); (have HS21 := Lib.hid (HS20.out.grow hx8 (by rw [HE1.out]; exact hg21) hb21 (HT5.out x (Nat.le_refl _) hx8))); (have HR21 := Lib.hid hR21); clear hl20 hb20 hR21 hg21 hb21 kr)
                              refine hK.out _ _ (trivial) (fun hHeld => ?_)
                              clear hK K
                              try simp only [Act.put, List.setIfInBounds_toArray, List.set_cons_zero, List.set_cons_succ]
                              refine wpAnyH_ready (rs := [7]) (by kernel_rfl) (by simp) ?_
                              refine (AllReadyH.cons rfl (fun K hK => ?_) AllReadyH.nil)
                              refine (if_pos (by kernel_rfl)).mpr ?_
                              refine Lib.wp_append_run _ _ _ _ _ rfl _ _ rfl rfl _ _ hap ?_
                              refine hK.out _ _ (trivial) (fun hHeld => ?_)
                              clear hK K
                              try simp only [Act.put, List.setIfInBounds_toArray, List.set_cons_zero, List.set_cons_succ]
                              refine wpAnyH_ready (rs := [8]) (by kernel_rfl) (by simp) ?_
                              refine (AllReadyH.cons rfl (fun K hK => ?_) AllReadyH.nil)
                              go_simp
                              (go_at_call 33; (have kk := rsort_is a21 c21 (X ++ D) w21 HR21.out.lst (by rw [List.length_append, HSLL.out, HDL.out]; omega)); (rw [List.length_append, HSLL.out, HDL.out, HMD.out.1] at kk); (with_reducible refine kk.mono ?_); rintro e w22 ⟨v22, rfl, hR22, hb22⟩; (obtain ⟨a22, c22, rfl⟩ := hR22.slice); (have HR22 := Lib.hid hR22); (have HS22 := Lib.hid (HS21.out.later hb22)); (have x22 := (HS22.out.gcel x hx8).1); (have f22 := HS22.out.gfrozen x); (have HN := Lib.hid ((HS22.out.put (i := x) hx8 (HR22.out.base HS21.out.hB) (fun y hy hyx => HS21.out.fresh HR22.out (Nat.le_refl _) y hy hyx) (Or.inl rfl)).st (ST' := fun y => if y < x + 1 then [p] else stL p S.hd j y) (fun y hy => upto_p y x p _))); clear kk hR22 hb22 hap)
                              refine hK.out _ _ (trivial) (fun hHeld => ?_)
                              clear hK K
                              try simp only [Act.put, List.setIfInBounds_toArray, List.set_cons_zero, List.set_cons_succ]
                              refine wpAnyH_take (i := 9) (oi := ?rz6o) (v := ?rz6v) ?rz6h (by kernel_rfl) (by kernel_rfl) (by kernel_rfl) ?rz6q ?rz6y hHeld ?rz6r
                              case rz6h => (simp only [List.getElem?_toArray, List.getElem?_cons_succ, List.getElem?_cons_zero]; rfl)
                              case rz6q => exact fun _ _ _ h => h
                              case rz6y => (refine Or.inl ⟨by first | kernel_rfl | rfl, ?_⟩; intro w hSw; (try dsimp only at hSw); go_simp <;> (try with_reducible rfl))
                              try simp only [Act.put, List.setIfInBounds_toArray, List.set_cons_zero, List.set_cons_succ]
                              refine wpAnyH_ready (rs := [10]) (by kernel_rfl) (by simp) ?_
                              refine (AllReadyH.cons rfl (fun K hK => ?_) AllReadyH.nil)
                              go_simp
                              skip
                              refine hK.out _ _ (trivial) (fun hHeld => ?_)
                              clear hK K
                              try simp only [Act.put]
                              refine wpAnyH_done (by kernel_rfl) ?_ _
                              simp only [List.length_singleton] at HN ⊢
                              go_upto_region 60 with fail
                              generalize w22.setCell _ _ = w23 at HN ⊢
                              obtain ⟨a24, c24, e24, x24, hp24⟩ := HN.out.at_ (i := x) hx8
                              rw [if_pos (Nat.lt_succ_self _)] at e24 x24 hp24
                              obtain ⟨g8, o8, rfl, -, hp8⟩ := lst_pt hp24.lst
                              obtain ⟨t1', t2, t3, t4, t5, t6⟩ := hp8
                              obtain ⟨u1, u2, u3, u4, u5, u6⟩ := HN.out.pat
                              have hgl3 := HN.out.glt
                              simp only [List.length_singleton] at x24
                              clear hp24 e24 x22 f22
                              go_wp2_with fail
                              go_quiet (fail)
                              have HN2 := Lib.hid (HN.out.later (below_drewN (Below.refl _ _) nq))
                              have HTN := Lib.hid (show ∀ y, x + 1 ≤ y → y < 8 → ∀ b, ((fun q => if q = x then (Value.slice a22 1 c22) else sv3 q) y).ownBlock = some b → b < T from fun y h1 h2 b hb => by
                                dsimp only at hb
                                rw [if_neg (by omega)] at hb
                                exact HT5.out y (by omega) h2 b hb)
                              go_wp2
                              go_roundw
                              case rel => exact ⟨x + 1, _, by omega, by go_num, HN2, HTN⟩
                              case measure => simp [intOf]; omega
                            ·
                              go_simp
                              (go_at_call 25; (with_reducible refine kr.mono ?_); rintro e w20 ⟨a20, c20, rfl, hl20, hb20⟩; (rw [HDL.out]); (have HS20 := Lib.hid (HS17.out.later hb20)); (have x20 := (HS20.out.gcel x hx8).1); (rw [HE1.out] at x20); (obtain ⟨a21, c21, w21, hap, hR21, hg21, hb21⟩ := run_appN PTT HSLL.out HDL.out (HP1.out.later hb20) hl20 (by omega) HS20.out.hB); (have HS21 := Lib.hid (HS20.out.grow hx8 (by rw [HE1.out]; exact hg21) hb21 (HT5.out x (Nat.le_refl _) hx8))); (have HR21 := Lib.hid hR21); clear hl20 hb20 hR21 hg21 hb21 kr)
                              refine hK.out _ _ (trivial) (fun hHeld => ?_)
                              clear hK K
                              try simp only [Act.put, List.setIfInBounds_toArray, List.set_cons_zero, List.set_cons_succ]
                              refine wpAnyH_ready (rs := [3]) (by kernel_rfl) (by simp) ?_
                              refine (AllReadyH.cons rfl (fun K hK => ?_) AllReadyH.nil)
                              go_simp
                              skip
                              refine hK.out _ _ (trivial) (fun hHeld => ?_)
                              clear hK K
                              try simp only [Act.put, List.setIfInBounds_toArray, List.set_cons_zero, List.set_cons_succ]
                              refine wpAnyH_ready (rs := [7]) (by kernel_rfl) (by simp) ?_
                              refine (AllReadyH.cons rfl (fun K hK => ?_) AllReadyH.nil)
                              refine (if_pos (by kernel_rfl)).mpr ?_
                              refine Lib.wp_append_run _ _ _ _ _ rfl _ _ rfl rfl _ _ hap ?_
                              refine hK.out _ _ (trivial) (fun hHeld => ?_)
                              clear hK K
                              try simp only [Act.put, List.setIfInBounds_toArray, List.set_cons_zero, List.set_cons_succ]
                              refine wpAnyH_ready (rs := [8]) (by kernel_rfl) (by simp) ?_
                              refine (AllReadyH.cons rfl (fun K hK => ?_) AllReadyH.nil)
                              go_simp
                              (go_at_call 33; (have kk := rsort_is a21 c21 (X ++ D) w21 HR21.out.lst (by rw [List.length_append, HSLL.out, HDL.out]; omega)); (rw [List.length_append, HSLL.out, HDL.out, HMD.out.1] at kk); (with_reducible refine kk.mono ?_); rintro e w22 ⟨v22, rfl, hR22, hb22⟩; (obtain ⟨a22, c22, rfl⟩ := hR22.slice); (have HR22 := Lib.hid hR22); (have HS22 := Lib.hid (HS21.out.later hb22)); (have x22 := (HS22.out.gcel x hx8).1); (have f22 := HS22.out.gfrozen x); (have HN := Lib.hid ((HS22.out.put (i := x) hx8 (HR22.out.base HS21.out.hB) (fun y hy hyx => HS21.out.fresh HR22.out (Nat.le_refl _) y hy hyx) (Or.inl rfl)).st (ST' := fun y => if y < x + 1 then [p] else stL p S.hd j y) (fun y hy => upto_p y x p _))); clear kk hR22 hb22 hap)
                              refine hK.out _ _ (trivial) (fun hHeld => ?_)
                              clear hK K
                              try simp only [Act.put, List.setIfInBounds_toArray, List.set_cons_zero, List.set_cons_succ]
                              refine wpAnyH_take (i := 9) (oi := ?rz7o) (v := ?rz7v) ?rz7h (by kernel_rfl) (by kernel_rfl) (by kernel_rfl) ?rz7q ?rz7y hHeld ?rz7r
                              case rz7h => (simp only [List.getElem?_toArray, List.getElem?_cons_succ, List.getElem?_cons_zero]; rfl)
                              case rz7q => exact fun _ _ _ h => h
                              case rz7y => (refine Or.inl ⟨by first | kernel_rfl | rfl, ?_⟩; intro w hSw; (try dsimp only at hSw); go_simp <;> (try with_reducible rfl))
                              try simp only [Act.put, List.setIfInBounds_toArray, List.set_cons_zero, List.set_cons_succ]
                              refine wpAnyH_ready (rs := [10]) (by kernel_rfl) (by simp) ?_
                              refine (AllReadyH.cons rfl (fun K hK => ?_) AllReadyH.nil)
                              go_simp
                              skip
                              refine hK.out _ _ (trivial) (fun hHeld => ?_)
                              clear hK K
                              try simp only [Act.put]
                              refine wpAnyH_done (by kernel_rfl) ?_ _
                              simp only [List.length_singleton] at HN ⊢
                              go_upto_region 60 with fail
                              generalize w22.setCell _ _ = w23 at HN ⊢
                              obtain ⟨a24, c24, e24, x24, hp24⟩ := HN.out.at_ (i := x) hx8
                              rw [if_pos (Nat.lt_succ_self _)] at e24 x24 hp24
                              obtain ⟨g8, o8, rfl, -, hp8⟩ := lst_pt hp24.lst
                              obtain ⟨t1', t2, t3, t4, t5, t6⟩ := hp8
                              obtain ⟨u1, u2, u3, u4, u5, u6⟩ := HN.out.pat
                              have hgl3 := HN.out.glt
                              simp only [List.length_singleton] at x24
                              clear hp24 e24 x22 f22
                              go_wp2_with fail
                              go_quiet (fail)
                              have HN2 := Lib.hid (HN.out.later (below_drewN (Below.refl _ _) nq))
                              have HTN := Lib.hid (show ∀ y, x + 1 ≤ y → y < 8 → ∀ b, ((fun q => if q = x then (Value.slice a22 1 c22) else sv3 q) y).ownBlock = some b → b < T from fun y h1 h2 b hb => by
                                dsimp only at hb
                                rw [if_neg (by omega)] at hb
                                exact HT5.out y (by omega) h2 b hb)
                              go_wp2
                              go_roundw
                              case rel => exact ⟨x + 1, _, by omega, by go_num, HN2, HTN⟩
                              case measure => simp [intOf]; omega
                          · obtain rfl : x = j := by omega
                            go_wp2
                            go_ret
                            exact ⟨rfl, HSL5.out.bel⟩
end quorumMeets
end Go.Proofs.Ytcjcbbpolhpphaa.Qu
